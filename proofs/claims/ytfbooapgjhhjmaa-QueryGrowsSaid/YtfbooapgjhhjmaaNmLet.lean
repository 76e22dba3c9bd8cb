/-
  Contracts of layer 3's small functions: isDigit, isLetter, mayBegin.
-/
import Derived.Test.YtfbooapgjhhjmaaNameMath
import Derived.Test.YtfbooapgjhhjmaaProg
import Derived.WalkKit
import Derived.BigCall
import Derived.Lib.Hide
namespace Go.Proofs.Ytfbooapgjhhjmaa.NameWalk
open Go.RowKit Go.Proofs.Ytfbooapgjhhjmaa.NameMath

def digR (r : Nat) : Bool := decide (48 ≤ r ∧ r ≤ 57)

set_option maxRecDepth 100000 in
theorem digit_any (r : Nat) (w : World) :
    Calls Try.prog 59 #[.int .i32 (r : Int)] w fun e w' => e = .returned (.bool (digR r)) ∧ w = w' := by
  unfold digR
  by_cases h1 : 48 ≤ r
  · by_cases h2 : r ≤ 57
    · rw [decide_eq_true ⟨h1, h2⟩]
      have k1 : (48 : Int) ≤ r := by omega
      have k2 : (r : Int) ≤ 57 := by omega
      go_enter Try.func59, Try.ntmps59
      go_wp2
      go_ret
      exact ⟨rfl, rfl⟩
    · rw [decide_eq_false (by omega)]
      have k1 : (48 : Int) ≤ r := by omega
      have k2 : ¬ (r : Int) ≤ 57 := by omega
      go_enter Try.func59, Try.ntmps59
      go_wp2
      go_ret
      exact ⟨rfl, rfl⟩
  · rw [decide_eq_false (by omega)]
    have k1 : ¬ (48 : Int) ≤ r := by omega
    go_enter Try.func59, Try.ntmps59
    go_wp2
    go_ret
    exact ⟨rfl, rfl⟩

set_option maxHeartbeats 2000000 in
set_option maxRecDepth 100000 in
theorem letter_any (r : Nat) (w : World) :
    Calls Try.prog 48 #[.int .i32 (r : Int)] w fun e w' => e = .returned (.bool (isL r)) ∧ w = w' := by
  generalize hL : isL r = b
  have HL := Go.Lib.hid hL
  have c1 : (r = 45 ∨ r = 95 ∨ r = 233 ∨ r = 248 ∨ r = 223 ∨ r = 955) ∨ (r ≠ 45 ∧ r ≠ 95 ∧ r ≠ 233 ∧ r ≠ 248 ∧ r ≠ 223 ∧ r ≠ 955) := by omega
  clear hL
  rcases c1 with c1 | ⟨n1, n2, n3, n4, n5, n6⟩
  · have hb : b = true := by rw [← HL.out]; simp only [isL, decide_eq_true_eq]; omega
    subst hb
    clear HL
    rcases c1 with rfl | rfl | rfl | rfl | rfl | rfl
    all_goals
      go_enter Try.func48, Try.ntmps48
      go_wp2
      go_ret
      exact ⟨rfl, rfl⟩
  · have m1 : ¬ (r : Int) = 45 := by omega
    have m2 : ¬ (r : Int) = 95 := by omega
    have m3 : ¬ (r : Int) = 233 := by omega
    have m4 : ¬ (r : Int) = 248 := by omega
    have m5 : ¬ (r : Int) = 223 := by omega
    have m6 : ¬ (r : Int) = 955 := by omega
    by_cases c2 : 97 ≤ r
    · by_cases c3 : r ≤ 122
      · have hb : b = true := by rw [← HL.out]; simp only [isL, decide_eq_true_eq]; omega
        subst hb
        clear HL
        have k1 : (97 : Int) ≤ r := by omega
        have k2 : (r : Int) ≤ 122 := by omega
        go_enter Try.func48, Try.ntmps48
        go_wp2
        go_ret
        exact ⟨rfl, rfl⟩
      · have hb : b = false := by rw [← HL.out]; simp only [isL, decide_eq_false_iff_not]; omega
        subst hb
        clear HL
        have k1 : (97 : Int) ≤ r := by omega
        have k2 : ¬ (r : Int) ≤ 122 := by omega
        have hd : digR r = false := by simp only [digR, decide_eq_false_iff_not]; omega
        go_enter Try.func48, Try.ntmps48
        go_wp2_with (go_at_call 59; refine (digit_any r _).mono ?_; rw [hd]; rintro e w' ⟨rfl, rfl⟩)
        go_ret
        exact ⟨rfl, rfl⟩
    · have hd : b = digR r := by rw [← HL.out]; simp only [isL, digR]; exact decide_eq_decide.2 ⟨fun h => by omega, fun h => by omega⟩
      subst hd
      clear HL
      have k1 : ¬ (97 : Int) ≤ r := by omega
      go_enter Try.func48, Try.ntmps48
      go_wp2_with (go_at_call 59; refine (digit_any r _).mono ?_; rintro e w' ⟨rfl, rfl⟩)
      go_ret
      exact ⟨rfl, rfl⟩

set_option maxRecDepth 100000 in
theorem begin_any (r : Nat) (w : World) :
    Calls Try.prog 49 #[.int .i32 (r : Int)] w fun e w' => e = .returned (.bool (begR r)) ∧ w = w' := by
  by_cases c1 : r = 45
  · subst c1
    go_enter Try.func49, Try.ntmps49
    go_wp2
    go_ret
    exact ⟨rfl, rfl⟩
  · have m1 : ¬ (r : Int) = 45 := by omega
    have hb : begR r = !digR r := by
      simp only [begR, digR, ← decide_not]
      exact decide_eq_decide.2 ⟨fun h => h.2, fun h => ⟨c1, h⟩⟩
    rw [hb]
    go_enter Try.func49, Try.ntmps49
    go_wp2_with (go_at_call 59; refine (digit_any r _).mono ?_; rintro e w' ⟨rfl, rfl⟩)
    go_ret
    refine ⟨?_, rfl⟩
    simp [m1]

end Go.Proofs.Ytfbooapgjhhjmaa.NameWalk
