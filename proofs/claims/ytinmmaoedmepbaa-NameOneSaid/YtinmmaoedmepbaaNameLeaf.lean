/-
  Contracts of layer 3's small functions: isDigit, isLetter, mayBegin, foldRune.
-/
import Derived.Test.YtinmmaoedmepbaaNameBuild
import Derived.Lib.Hide
namespace Go.Proofs.Ytinmmaoedmepbaa.NameWalk
open Go.RowKit Go.Proofs.Ytinmmaoedmepbaa.NameMath

def digR (r : Nat) : Bool := decide (48 ≤ r ∧ r ≤ 57)

theorem digit_any (r : Nat) (w : World) :
    Calls Try.prog 30 #[.int .i32 (r : Int)] w fun e w' => e = .returned (.bool (digR r)) ∧ w = w' := by
  unfold digR
  by_cases h1 : 48 ≤ r
  · by_cases h2 : r ≤ 57
    · rw [decide_eq_true ⟨h1, h2⟩]
      have k1 : (48 : Int) ≤ r := by omega
      have k2 : (r : Int) ≤ 57 := by omega
      go_enter Try.func30, Try.ntmps30
      go_wp2
      go_ret
      exact ⟨rfl, rfl⟩
    · rw [decide_eq_false (by omega)]
      have k1 : (48 : Int) ≤ r := by omega
      have k2 : ¬ (r : Int) ≤ 57 := by omega
      go_enter Try.func30, Try.ntmps30
      go_wp2
      go_ret
      exact ⟨rfl, rfl⟩
  · rw [decide_eq_false (by omega)]
    have k1 : ¬ (48 : Int) ≤ r := by omega
    go_enter Try.func30, Try.ntmps30
    go_wp2
    go_ret
    exact ⟨rfl, rfl⟩

set_option maxHeartbeats 2000000 in
theorem letter_any (r : Nat) (w : World) :
    Calls Try.prog 22 #[.int .i32 (r : Int)] w fun e w' => e = .returned (.bool (isL r)) ∧ w = w' := by
  generalize hL : isL r = b
  have HL := Go.Lib.hid hL
  have c1 : (r = 45 ∨ r = 95 ∨ r = 233 ∨ r = 248 ∨ r = 223 ∨ r = 955) ∨ (r ≠ 45 ∧ r ≠ 95 ∧ r ≠ 233 ∧ r ≠ 248 ∧ r ≠ 223 ∧ r ≠ 955) := by omega
  clear hL
  rcases c1 with c1 | ⟨n1, n2, n3, n4, n5, n6⟩
  · have hb : b = true := by rw [← HL.out]; simp only [isL, decide_eq_true_eq]; omega
    subst hb
    clear HL
    rcases c1 with rfl | rfl | rfl | rfl | rfl | rfl
    all_goals
      go_enter Try.func22, Try.ntmps22
      go_wp2
      go_ret
      exact ⟨rfl, rfl⟩
  · have m1 : ¬ (r : Int) = 45 := by omega
    have m2 : ¬ (r : Int) = 95 := by omega
    have m3 : ¬ (r : Int) = 233 := by omega
    have m4 : ¬ (r : Int) = 248 := by omega
    have m5 : ¬ (r : Int) = 223 := by omega
    have m6 : ¬ (r : Int) = 955 := by omega
    by_cases c2 : 97 ≤ r
    · by_cases c3 : r ≤ 122
      · have hb : b = true := by rw [← HL.out]; simp only [isL, decide_eq_true_eq]; omega
        subst hb
        clear HL
        have k1 : (97 : Int) ≤ r := by omega
        have k2 : (r : Int) ≤ 122 := by omega
        go_enter Try.func22, Try.ntmps22
        go_wp2
        go_ret
        exact ⟨rfl, rfl⟩
      · have hb : b = false := by rw [← HL.out]; simp only [isL, decide_eq_false_iff_not]; omega
        subst hb
        clear HL
        have k1 : (97 : Int) ≤ r := by omega
        have k2 : ¬ (r : Int) ≤ 122 := by omega
        have hd : digR r = false := by simp only [digR, decide_eq_false_iff_not]; omega
        go_enter Try.func22, Try.ntmps22
        go_wp2_with (go_at_call 30; refine (digit_any r _).mono ?_; rw [hd]; rintro e w' ⟨rfl, rfl⟩)
        go_ret
        exact ⟨rfl, rfl⟩
    · have hd : b = digR r := by rw [← HL.out]; simp only [isL, digR]; exact decide_eq_decide.2 ⟨fun h => by omega, fun h => by omega⟩
      subst hd
      clear HL
      have k1 : ¬ (97 : Int) ≤ r := by omega
      go_enter Try.func22, Try.ntmps22
      go_wp2_with (go_at_call 30; refine (digit_any r _).mono ?_; rintro e w' ⟨rfl, rfl⟩)
      go_ret
      exact ⟨rfl, rfl⟩

theorem begin_any (r : Nat) (w : World) :
    Calls Try.prog 23 #[.int .i32 (r : Int)] w fun e w' => e = .returned (.bool (begR r)) ∧ w = w' := by
  by_cases c1 : r = 45
  · subst c1
    go_enter Try.func23, Try.ntmps23
    go_wp2
    go_ret
    exact ⟨rfl, rfl⟩
  · have m1 : ¬ (r : Int) = 45 := by omega
    have hb : begR r = !digR r := by
      simp only [begR, digR, ← decide_not]
      exact decide_eq_decide.2 ⟨fun h => h.2, fun h => ⟨c1, h⟩⟩
    rw [hb]
    go_enter Try.func23, Try.ntmps23
    go_wp2_with (go_at_call 30; refine (digit_any r _).mono ?_; rintro e w' ⟨rfl, rfl⟩)
    go_ret
    refine ⟨?_, rfl⟩
    simp [m1]

set_option maxHeartbeats 2000000 in
theorem foldRune_any (r : Nat) (w : World) (hr : r ≤ 2147483647) :
    Calls Try.prog 25 #[.int .i32 (r : Int)] w fun e w' => e = .returned (.tuple #[.int .i32 (foldR r : Nat), .bool (decide (foldR r ≠ 0))]) ∧ w = w' := by
  have c1 : (r = 201 ∨ r = 216 ∨ r = 923 ∨ r = 32 ∨ r = 46 ∨ r = 47) ∨ (r ≠ 201 ∧ r ≠ 216 ∧ r ≠ 923 ∧ r ≠ 32 ∧ r ≠ 46 ∧ r ≠ 47) := by omega
  rcases c1 with c1 | ⟨n1, n2, n3, n4, n5, n6⟩
  · rcases c1 with rfl | rfl | rfl | rfl | rfl | rfl
    all_goals
      go_enter Try.func25, Try.ntmps25
      go_wp2
      go_ret2
      exact ⟨rfl, rfl⟩
  · have m1 : ¬ (r : Int) = 201 := by omega
    have m2 : ¬ (r : Int) = 216 := by omega
    have m3 : ¬ (r : Int) = 923 := by omega
    have m4 : ¬ (r : Int) = 32 := by omega
    have m5 : ¬ (r : Int) = 46 := by omega
    have m6 : ¬ (r : Int) = 47 := by omega
    have hf : foldR r = if 65 ≤ r ∧ r ≤ 90 then r + 32 else if isL r = true then r else 0 := by
      unfold foldR
      rw [if_neg n1, if_neg n2, if_neg n3, if_neg (by omega)]
    by_cases c2 : 65 ≤ r ∧ r ≤ 90
    · rw [if_pos c2] at hf
      rw [hf, decide_eq_true (by omega)]
      clear hf
      obtain ⟨c2, c3⟩ := c2
      have k1 : (65 : Int) ≤ r := by omega
      have k2 : (r : Int) ≤ 90 := by omega
      go_enter Try.func25, Try.ntmps25
      go_wp2
      go_ret2
      refine ⟨?_, rfl⟩
      simp
      omega
    · rw [if_neg c2] at hf
      have hz : isL r = true → r ≠ 0 := by simp only [isL, decide_eq_true_eq]; omega
      generalize hL : isL r = b at hf hz
      have HL := Go.Lib.hid hL
      have HC := Go.Lib.hid c2
      clear hL c2
      by_cases c3 : 65 ≤ r
      · have k1 : (65 : Int) ≤ r := by omega
        have k2 : ¬ (r : Int) ≤ 90 := by have := HC.out; omega
        cases b
        · rw [if_neg (by decide)] at hf
          rw [hf]
          clear hf hz
          go_enter Try.func25, Try.ntmps25
          go_wp2_with (go_at_call 22; refine (letter_any r _).mono ?_; rw [HL.out]; rintro e w' ⟨rfl, rfl⟩)
          go_ret2
          exact ⟨rfl, rfl⟩
        · rw [if_pos rfl] at hf
          rw [hf, decide_eq_true (hz rfl)]
          clear hf hz
          go_enter Try.func25, Try.ntmps25
          go_wp2_with (go_at_call 22; refine (letter_any r _).mono ?_; rw [HL.out]; rintro e w' ⟨rfl, rfl⟩)
          go_ret2
          exact ⟨rfl, rfl⟩
      · have k1 : ¬ (65 : Int) ≤ r := by omega
        cases b
        · rw [if_neg (by decide)] at hf
          rw [hf]
          clear hf hz
          go_enter Try.func25, Try.ntmps25
          go_wp2_with (go_at_call 22; refine (letter_any r _).mono ?_; rw [HL.out]; rintro e w' ⟨rfl, rfl⟩)
          go_ret2
          exact ⟨rfl, rfl⟩
        · rw [if_pos rfl] at hf
          rw [hf, decide_eq_true (hz rfl)]
          clear hf hz
          go_enter Try.func25, Try.ntmps25
          go_wp2_with (go_at_call 22; refine (letter_any r _).mono ?_; rw [HL.out]; rintro e w' ⟨rfl, rfl⟩)
          go_ret2
          exact ⟨rfl, rfl⟩

end Go.Proofs.Ytinmmaoedmepbaa.NameWalk
