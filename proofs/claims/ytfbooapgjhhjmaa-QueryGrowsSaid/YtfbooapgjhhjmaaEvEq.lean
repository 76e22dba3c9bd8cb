/-
  Contracts of the library's slices.Equal, over texts and over numbers with a name.
-/
import Derived.Test.YtfbooapgjhhjmaaEvRefE
namespace Go.Proofs.Ytfbooapgjhhjmaa.EvWalk
open Go.RowKit Go.Proofs.Ytfbooapgjhhjmaa.MemRow Go.Proofs.Ytfbooapgjhhjmaa.Ev Go.Proofs.Ytfbooapgjhhjmaa.NameMath Go.Proofs.Ytfbooapgjhhjmaa.NameWalk

set_option maxHeartbeats 4000000 in
set_option maxRecDepth 100000 in
theorem equalS_any (A B : Option Addr) (n m ca cb : Nat) (ss tt : List ByteArray) (w : World) (ha : RdS w A n ca ss) (hb : RdS w B m cb tt) :
    Calls Try.prog 36 #[.slice A n ca, .slice B m cb] w fun e w' => e = .returned (.bool (decide (ss = tt))) ∧ ∃ k, w' = w.drewN k := by
  have hn := RdC.le ha
  have hm := RdC.le hb
  unfold maxLen at hn hm
  have la := ha.len
  have lb := hb.len
  by_cases hnm : n = m
  · subst hnm
    generalize hR : decide (ss = tt) = R
    have HR := Go.Lib.hid hR
    have LA := Go.Lib.hid la
    have LB := Go.Lib.hid lb
    clear hR la lb
    go_enter Try.func36, Try.ntmps36
    go_wp2_with fail
    go_loopw [5, 13] (fun _ i wr => ∃ j : Nat, j ≤ n ∧ i = .int .i64 j ∧ ss.take j = tt.take j ∧ ∃ q, wr = w.drewN q) (fun _ i _ => n - (intOf i).toNat)
    case atStart => exact ⟨0, Nat.zero_le _, rfl, rfl, 0, rfl⟩
    case round =>
      obtain ⟨j, hj, rfl, hq, q, hw⟩ := hrel
      have HQ := Go.Lib.hid hq
      clear hq
      have ha' : RdS wr A n ca ss := by rw [hw]; exact ha
      have hb' : RdS wr B n cb tt := by rw [hw]; exact hb
      have HW := Go.Lib.hid hw
      clear hw
      by_cases hlt : j < n
      · obtain ⟨ba, oa, rfl, _, ka⟩ := ha'.at_ (by omega)
        obtain ⟨bb, ob, rfl, _, kb⟩ := hb'.at_ (by omega)
        have ka1 := ka j hlt
        have kb1 := kb j hlt
        have i1 : (j : Int) < n := by omega
        have ta := take_get ss j (by rw [LA.out]; exact hlt)
        have tb := take_get tt j (by rw [LB.out]; exact hlt)
        have TA := Go.Lib.hid ta
        have TB := Go.Lib.hid tb
        clear ka kb ta tb ha' hb'
        generalize hx : ss.getD j ByteArray.empty = x at *
        generalize hy : tt.getD j ByteArray.empty = y at *
        have HX := Go.Lib.hid hx
        have HY := Go.Lib.hid hy
        clear hx hy
        by_cases hxy : x = y
        · subst hxy
          go_wp2_with fail
          go_quiet (fail)
          go_wp2_with fail
          go_roundw
          case rel => exact ⟨j + 1, by omega, by go_num, by rw [TA.out, TB.out, HQ.out], q + nq, by rw [HW.out, World.drewN_drewN]⟩
          case measure => simp [intOf]; omega
        · have hne := str_ne hxy
          have hR : R = false := by
            rw [← HR.out]
            refine decide_eq_false fun h => hxy ?_
            rw [← HX.out, ← HY.out, h]
          subst hR
          go_wp2_with fail
          go_quiet (fail)
          go_wp2_with fail
          go_ret
          exact ⟨rfl, q + nq, by rw [HW.out, World.drewN_drewN]⟩
      · obtain rfl : n = j := by omega
        have hR : R = true := by
          rw [← HR.out]
          refine decide_eq_true ?_
          have h1 := HQ.out
          rwa [List.take_of_length_le (by rw [LA.out]; exact Nat.le_refl _), List.take_of_length_le (by rw [LB.out]; exact Nat.le_refl _)] at h1
        subst hR
        go_wp2_with fail
        go_ret
        exact ⟨rfl, q, HW.out⟩
  · have hR : decide (ss = tt) = false := decide_eq_false fun h => hnm (by rw [← la, ← lb, h])
    rw [hR]
    have i1 : ((n : Int) != (m : Int)) = true := by rw [bne_iff_ne]; omega
    clear la lb hR
    go_enter Try.func36, Try.ntmps36
    go_wp2_with fail
    go_ret
    exact ⟨rfl, 0, rfl⟩

end Go.Proofs.Ytfbooapgjhhjmaa.EvWalk
