/-
  Walk of a statement of layer 3: NameOne.
-/
import Derived.Test.YtinmmaoedmepbaaNameShown
import Derived.Test.YtinmmaoedmepbaaOpen
namespace Go.Proofs.Ytinmmaoedmepbaa.NameLaw
open Go.RowKit Go.WideShapes Go.ChangeShapes Go.Proofs.Ytinmmaoedmepbaa.NameMath Go.Proofs.Ytinmmaoedmepbaa.NameWalk Go.Proofs.Ytinmmaoedmepbaa.Open Go.Proofs.Ytinmmaoedmepbaa.NumMem

theorem conv_new (w : World) (l : List UInt8) (hl : l.length ≤ maxLen) : (convert 31 9 (.slice (some ⟨w.heap.size, 0, none⟩) l.length l.length)).run Try.prog (w.alloc (.cells (cellsOf l).toArray 5)) = .ok (.string ⟨l.toArray⟩) (w.alloc (.cells (cellsOf l).toArray 5)) :=
  ((Row.new w 5 l).rd hl).string 31 9 5 Try.underlying31 Try.underlying5 Try.underlying9
theorem conv_one (w : World) (a : UInt8) : (convert 31 9 (.slice (some ⟨w.heap.size, 0, none⟩) 1 1)).run Try.prog (w.alloc (.cells #[.int .u8 (a.toNat : Int)] 5)) = .ok (.string ⟨#[a]⟩) (w.alloc (.cells #[.int .u8 (a.toNat : Int)] 5)) :=
  conv_new w [a] (by simp [maxLen])
theorem conv_two (w : World) (a b : UInt8) : (convert 31 9 (.slice (some ⟨w.heap.size, 0, none⟩) 2 2)).run Try.prog (w.alloc (.cells #[.int .u8 (a.toNat : Int), .int .u8 (b.toNat : Int)] 5)) = .ok (.string ⟨#[a, b]⟩) (w.alloc (.cells #[.int .u8 (a.toNat : Int), .int .u8 (b.toNat : Int)] 5)) :=
  conv_new w [a, b] (by simp [maxLen])
theorem conv_kept {w w' : World} {B : Nat} (a : UInt8) (hb : Below B (w.alloc (.cells #[.int .u8 (a.toNat : Int)] 5)) w') (h : w.heap.size < B) : (convert 31 9 (.slice (some ⟨w.heap.size, 0, none⟩) 1 1)).run Try.prog w' = .ok (.string ⟨#[a]⟩) w' :=
  (((Row.new w 5 [a]).below hb h).rd (by simp [maxLen])).string 31 9 5 Try.underlying31 Try.underlying5 Try.underlying9

theorem may1 (a : UInt8) : may [a] = decide ((97 ≤ a.toNat ∧ a.toNat ≤ 122) ∨ a.toNat = 95) := by
  rw [Bool.eq_iff_iff]
  simp [may, first, allL, low]
  omega
theorem may2 (a : UInt8) : may [97, a] = low a := by
  have h : low 97 = true := by decide
  simp [may, first, allL, h]
theorem mayHigh (a b : UInt8) (h : 128 ≤ a.toNat) : may [a, b] = two a b := by
  have h1 : first [a, b] = true := by simp [first]; omega
  unfold may
  rw [h1, allL, low_high h, if_neg (by decide)]
  cases two a b <;> simp [allL]

theorem ne_two {a b c d : UInt8} (h : a.toNat ≠ c.toNat) : ((⟨#[a, b]⟩ : ByteArray).toList == (⟨#[c, d]⟩ : ByteArray).toList) = false := by
  rw [beq_eq_false_iff_ne, ByteArray.toList_eq, ByteArray.toList_eq]
  intro e
  simp at e
  exact h (by rw [e.1])
theorem list2 (a b c d : UInt8) : ((⟨#[a, b]⟩ : ByteArray).toList == (⟨#[c, d]⟩ : ByteArray).toList) = (decide (a = c) && decide (b = d)) := by
  rw [ByteArray.toList_eq, ByteArray.toList_eq, Bool.eq_iff_iff]
  simp

set_option maxHeartbeats 8000000 in
set_option maxRecDepth 100000 in
theorem one_other (a b : UInt8) (w : World) (h : (0 ≤ a.toNat ∧ a.toNat ≤ 44) ∨ (46 ≤ a.toNat ∧ a.toNat ≤ 47) ∨ (58 ≤ a.toNat ∧ a.toNat ≤ 64) ∨ (91 ≤ a.toNat ∧ a.toNat ≤ 94) ∨ (96 ≤ a.toNat ∧ a.toNat ≤ 96) ∨ (123 ≤ a.toNat ∧ a.toNat ≤ 127)) :
    Calls Try.prog 9 #[.int .u8 (a.toNat : Int), .int .u8 (b.toNat : Int)] w fun e w' => e = .returned (.bool true) ∧ Below w.heap.size w w' := by
  have lt := UInt8.toNat_lt a
  have cA := Go.Lib.hid (fun w => may_told (s := ⟨#[a]⟩) (b := false) (by rw [size_list]; simp) (by rw [show (⟨#[a]⟩ : ByteArray).data.toList = [a] from rfl, may1, decide_eq_false]; omega) w)
  have cB := Go.Lib.hid (fun w => may_told (s := (⟨#[97]⟩ : ByteArray) ++ ⟨#[a]⟩) (b := false) (by rw [ba_size, size_list, size_list]; simp) (by rw [ba_append, show (⟨#[97]⟩ : ByteArray).data.toList ++ (⟨#[a]⟩ : ByteArray).data.toList = [97, a] from rfl, may2]; simp only [low, decide_eq_false_iff_not]; omega) w)
  rcases h with h | h | h | h | h | h
  · have u97 : ¬ (97 : Int) ≤ (a.toNat : Int) := by omega
    have uu97 : decide ((97 : Int) ≤ (a.toNat : Int)) = false := decide_eq_false u97
    have u48 : ¬ (48 : Int) ≤ (a.toNat : Int) := by omega
    have uu48 : decide ((48 : Int) ≤ (a.toNat : Int)) = false := decide_eq_false u48
    have u65 : ¬ (65 : Int) ≤ (a.toNat : Int) := by omega
    have uu65 : decide ((65 : Int) ≤ (a.toNat : Int)) = false := decide_eq_false u65
    have v122 : (a.toNat : Int) ≤ 122 := by omega
    have v57 : (a.toNat : Int) ≤ 57 := by omega
    have v90 : (a.toNat : Int) ≤ 90 := by omega
    have e95 : ((a.toNat : Int) == 95) = false := by rw [beq_eq_false_iff_ne]; omega
    have e45 : ((a.toNat : Int) == 45) = false := by rw [beq_eq_false_iff_ne]; omega
    have u128 : (a.toNat : Int) < 128 := by omega
    have n195 : ¬ a = 195 := by rintro rfl; exact absurd h (by decide)
    have n206 : ¬ a = 206 := by rintro rfl; exact absurd h (by decide)
    clear lt h
    go_enter Try.func9, Try.ntmps9
    go_wp2_with fail
    refine (shown_any _).mono ?_
    rintro e w1 ⟨rfl, B1⟩
    have k1 := conv_one w1 a
    go_wp2_with fail
    have B2 : Below w.heap.size w (w1.alloc (.cells #[.int .u8 (a.toNat : Int)] 5)) := B1.alloc B1.size _
    clear B1 k1
    generalize w1.alloc (.cells #[.int .u8 (a.toNat : Int)] 5) = w2 at *
    go_wp2_with fail
    refine (cA.out _).mono ?_
    rintro e w3 ⟨rfl, b3⟩
    have B3 := below_chain B2 b3
    clear B2 b3
    go_wp2_with fail
    refine (cB.out _).mono ?_
    rintro e w4 ⟨rfl, b4⟩
    have B4 := below_chain B3 b4
    clear B3 b4
    have Bz := B4
    go_wp2_with fail
    go_quiet (fail)
    have B5 := bel_drewN Bz nq
    clear Bz
    generalize w4.drewN nq = w5 at *
    have k2 := conv_two w5 a b
    go_wp2_with fail
    go_ret
    exact ⟨by simp, B5.alloc B5.size _⟩
  · have u97 : ¬ (97 : Int) ≤ (a.toNat : Int) := by omega
    have uu97 : decide ((97 : Int) ≤ (a.toNat : Int)) = false := decide_eq_false u97
    have u48 : ¬ (48 : Int) ≤ (a.toNat : Int) := by omega
    have uu48 : decide ((48 : Int) ≤ (a.toNat : Int)) = false := decide_eq_false u48
    have u65 : ¬ (65 : Int) ≤ (a.toNat : Int) := by omega
    have uu65 : decide ((65 : Int) ≤ (a.toNat : Int)) = false := decide_eq_false u65
    have v122 : (a.toNat : Int) ≤ 122 := by omega
    have v57 : (a.toNat : Int) ≤ 57 := by omega
    have v90 : (a.toNat : Int) ≤ 90 := by omega
    have e95 : ((a.toNat : Int) == 95) = false := by rw [beq_eq_false_iff_ne]; omega
    have e45 : ((a.toNat : Int) == 45) = false := by rw [beq_eq_false_iff_ne]; omega
    have u128 : (a.toNat : Int) < 128 := by omega
    have n195 : ¬ a = 195 := by rintro rfl; exact absurd h (by decide)
    have n206 : ¬ a = 206 := by rintro rfl; exact absurd h (by decide)
    clear lt h
    go_enter Try.func9, Try.ntmps9
    go_wp2_with fail
    refine (shown_any _).mono ?_
    rintro e w1 ⟨rfl, B1⟩
    have k1 := conv_one w1 a
    go_wp2_with fail
    have B2 : Below w.heap.size w (w1.alloc (.cells #[.int .u8 (a.toNat : Int)] 5)) := B1.alloc B1.size _
    clear B1 k1
    generalize w1.alloc (.cells #[.int .u8 (a.toNat : Int)] 5) = w2 at *
    go_wp2_with fail
    refine (cA.out _).mono ?_
    rintro e w3 ⟨rfl, b3⟩
    have B3 := below_chain B2 b3
    clear B2 b3
    go_wp2_with fail
    refine (cB.out _).mono ?_
    rintro e w4 ⟨rfl, b4⟩
    have B4 := below_chain B3 b4
    clear B3 b4
    have Bz := B4
    go_wp2_with fail
    go_quiet (fail)
    have B5 := bel_drewN Bz nq
    clear Bz
    generalize w4.drewN nq = w5 at *
    have k2 := conv_two w5 a b
    go_wp2_with fail
    go_ret
    exact ⟨by simp, B5.alloc B5.size _⟩
  · have u97 : ¬ (97 : Int) ≤ (a.toNat : Int) := by omega
    have uu97 : decide ((97 : Int) ≤ (a.toNat : Int)) = false := decide_eq_false u97
    have u48 : (48 : Int) ≤ (a.toNat : Int) := by omega
    have u65 : ¬ (65 : Int) ≤ (a.toNat : Int) := by omega
    have uu65 : decide ((65 : Int) ≤ (a.toNat : Int)) = false := decide_eq_false u65
    have v122 : (a.toNat : Int) ≤ 122 := by omega
    have v57 : ¬ (a.toNat : Int) ≤ 57 := by omega
    have vv57 : decide ((a.toNat : Int) ≤ 57) = false := decide_eq_false v57
    have v90 : (a.toNat : Int) ≤ 90 := by omega
    have e95 : ((a.toNat : Int) == 95) = false := by rw [beq_eq_false_iff_ne]; omega
    have e45 : ((a.toNat : Int) == 45) = false := by rw [beq_eq_false_iff_ne]; omega
    have u128 : (a.toNat : Int) < 128 := by omega
    have n195 : ¬ a = 195 := by rintro rfl; exact absurd h (by decide)
    have n206 : ¬ a = 206 := by rintro rfl; exact absurd h (by decide)
    clear lt h
    go_enter Try.func9, Try.ntmps9
    go_wp2_with fail
    refine (shown_any _).mono ?_
    rintro e w1 ⟨rfl, B1⟩
    have k1 := conv_one w1 a
    go_wp2_with fail
    have B2 : Below w.heap.size w (w1.alloc (.cells #[.int .u8 (a.toNat : Int)] 5)) := B1.alloc B1.size _
    clear B1 k1
    generalize w1.alloc (.cells #[.int .u8 (a.toNat : Int)] 5) = w2 at *
    go_wp2_with fail
    refine (cA.out _).mono ?_
    rintro e w3 ⟨rfl, b3⟩
    have B3 := below_chain B2 b3
    clear B2 b3
    go_wp2_with fail
    refine (cB.out _).mono ?_
    rintro e w4 ⟨rfl, b4⟩
    have B4 := below_chain B3 b4
    clear B3 b4
    have Bz := B4
    go_wp2_with fail
    go_quiet (fail)
    have B5 := bel_drewN Bz nq
    clear Bz
    generalize w4.drewN nq = w5 at *
    have k2 := conv_two w5 a b
    go_wp2_with fail
    go_ret
    exact ⟨by simp, B5.alloc B5.size _⟩
  · have u97 : ¬ (97 : Int) ≤ (a.toNat : Int) := by omega
    have uu97 : decide ((97 : Int) ≤ (a.toNat : Int)) = false := decide_eq_false u97
    have u48 : (48 : Int) ≤ (a.toNat : Int) := by omega
    have u65 : (65 : Int) ≤ (a.toNat : Int) := by omega
    have v122 : (a.toNat : Int) ≤ 122 := by omega
    have v57 : ¬ (a.toNat : Int) ≤ 57 := by omega
    have vv57 : decide ((a.toNat : Int) ≤ 57) = false := decide_eq_false v57
    have v90 : ¬ (a.toNat : Int) ≤ 90 := by omega
    have vv90 : decide ((a.toNat : Int) ≤ 90) = false := decide_eq_false v90
    have e95 : ((a.toNat : Int) == 95) = false := by rw [beq_eq_false_iff_ne]; omega
    have e45 : ((a.toNat : Int) == 45) = false := by rw [beq_eq_false_iff_ne]; omega
    have u128 : (a.toNat : Int) < 128 := by omega
    have n195 : ¬ a = 195 := by rintro rfl; exact absurd h (by decide)
    have n206 : ¬ a = 206 := by rintro rfl; exact absurd h (by decide)
    clear lt h
    go_enter Try.func9, Try.ntmps9
    go_wp2_with fail
    refine (shown_any _).mono ?_
    rintro e w1 ⟨rfl, B1⟩
    have k1 := conv_one w1 a
    go_wp2_with fail
    have B2 : Below w.heap.size w (w1.alloc (.cells #[.int .u8 (a.toNat : Int)] 5)) := B1.alloc B1.size _
    clear B1 k1
    generalize w1.alloc (.cells #[.int .u8 (a.toNat : Int)] 5) = w2 at *
    go_wp2_with fail
    refine (cA.out _).mono ?_
    rintro e w3 ⟨rfl, b3⟩
    have B3 := below_chain B2 b3
    clear B2 b3
    go_wp2_with fail
    refine (cB.out _).mono ?_
    rintro e w4 ⟨rfl, b4⟩
    have B4 := below_chain B3 b4
    clear B3 b4
    have Bz := B4
    go_wp2_with fail
    go_quiet (fail)
    have B5 := bel_drewN Bz nq
    clear Bz
    generalize w4.drewN nq = w5 at *
    have k2 := conv_two w5 a b
    go_wp2_with fail
    go_ret
    exact ⟨by simp, B5.alloc B5.size _⟩
  · have u97 : ¬ (97 : Int) ≤ (a.toNat : Int) := by omega
    have uu97 : decide ((97 : Int) ≤ (a.toNat : Int)) = false := decide_eq_false u97
    have u48 : (48 : Int) ≤ (a.toNat : Int) := by omega
    have u65 : (65 : Int) ≤ (a.toNat : Int) := by omega
    have v122 : (a.toNat : Int) ≤ 122 := by omega
    have v57 : ¬ (a.toNat : Int) ≤ 57 := by omega
    have vv57 : decide ((a.toNat : Int) ≤ 57) = false := decide_eq_false v57
    have v90 : ¬ (a.toNat : Int) ≤ 90 := by omega
    have vv90 : decide ((a.toNat : Int) ≤ 90) = false := decide_eq_false v90
    have e95 : ((a.toNat : Int) == 95) = false := by rw [beq_eq_false_iff_ne]; omega
    have e45 : ((a.toNat : Int) == 45) = false := by rw [beq_eq_false_iff_ne]; omega
    have u128 : (a.toNat : Int) < 128 := by omega
    have n195 : ¬ a = 195 := by rintro rfl; exact absurd h (by decide)
    have n206 : ¬ a = 206 := by rintro rfl; exact absurd h (by decide)
    clear lt h
    go_enter Try.func9, Try.ntmps9
    go_wp2_with fail
    refine (shown_any _).mono ?_
    rintro e w1 ⟨rfl, B1⟩
    have k1 := conv_one w1 a
    go_wp2_with fail
    have B2 : Below w.heap.size w (w1.alloc (.cells #[.int .u8 (a.toNat : Int)] 5)) := B1.alloc B1.size _
    clear B1 k1
    generalize w1.alloc (.cells #[.int .u8 (a.toNat : Int)] 5) = w2 at *
    go_wp2_with fail
    refine (cA.out _).mono ?_
    rintro e w3 ⟨rfl, b3⟩
    have B3 := below_chain B2 b3
    clear B2 b3
    go_wp2_with fail
    refine (cB.out _).mono ?_
    rintro e w4 ⟨rfl, b4⟩
    have B4 := below_chain B3 b4
    clear B3 b4
    have Bz := B4
    go_wp2_with fail
    go_quiet (fail)
    have B5 := bel_drewN Bz nq
    clear Bz
    generalize w4.drewN nq = w5 at *
    have k2 := conv_two w5 a b
    go_wp2_with fail
    go_ret
    exact ⟨by simp, B5.alloc B5.size _⟩
  · have u97 : (97 : Int) ≤ (a.toNat : Int) := by omega
    have u48 : (48 : Int) ≤ (a.toNat : Int) := by omega
    have u65 : (65 : Int) ≤ (a.toNat : Int) := by omega
    have v122 : ¬ (a.toNat : Int) ≤ 122 := by omega
    have vv122 : decide ((a.toNat : Int) ≤ 122) = false := decide_eq_false v122
    have v57 : ¬ (a.toNat : Int) ≤ 57 := by omega
    have vv57 : decide ((a.toNat : Int) ≤ 57) = false := decide_eq_false v57
    have v90 : ¬ (a.toNat : Int) ≤ 90 := by omega
    have vv90 : decide ((a.toNat : Int) ≤ 90) = false := decide_eq_false v90
    have e95 : ((a.toNat : Int) == 95) = false := by rw [beq_eq_false_iff_ne]; omega
    have e45 : ((a.toNat : Int) == 45) = false := by rw [beq_eq_false_iff_ne]; omega
    have u128 : (a.toNat : Int) < 128 := by omega
    have n195 : ¬ a = 195 := by rintro rfl; exact absurd h (by decide)
    have n206 : ¬ a = 206 := by rintro rfl; exact absurd h (by decide)
    clear lt h
    go_enter Try.func9, Try.ntmps9
    go_wp2_with fail
    refine (shown_any _).mono ?_
    rintro e w1 ⟨rfl, B1⟩
    have k1 := conv_one w1 a
    go_wp2_with fail
    have B2 : Below w.heap.size w (w1.alloc (.cells #[.int .u8 (a.toNat : Int)] 5)) := B1.alloc B1.size _
    clear B1 k1
    generalize w1.alloc (.cells #[.int .u8 (a.toNat : Int)] 5) = w2 at *
    go_wp2_with fail
    refine (cA.out _).mono ?_
    rintro e w3 ⟨rfl, b3⟩
    have B3 := below_chain B2 b3
    clear B2 b3
    go_wp2_with fail
    refine (cB.out _).mono ?_
    rintro e w4 ⟨rfl, b4⟩
    have B4 := below_chain B3 b4
    clear B3 b4
    have Bz := B4
    go_wp2_with fail
    go_quiet (fail)
    have B5 := bel_drewN Bz nq
    clear Bz
    generalize w4.drewN nq = w5 at *
    have k2 := conv_two w5 a b
    go_wp2_with fail
    go_ret
    exact ⟨by simp, B5.alloc B5.size _⟩

set_option maxHeartbeats 8000000 in
set_option maxRecDepth 100000 in
theorem one_dig (a b : UInt8) (w : World) (h : (45 ≤ a.toNat ∧ a.toNat ≤ 45) ∨ (48 ≤ a.toNat ∧ a.toNat ≤ 57)) :
    Calls Try.prog 9 #[.int .u8 (a.toNat : Int), .int .u8 (b.toNat : Int)] w fun e w' => e = .returned (.bool true) ∧ Below w.heap.size w w' := by
  have lt := UInt8.toNat_lt a
  have cA := Go.Lib.hid (fun w => may_told (s := ⟨#[a]⟩) (b := false) (by rw [size_list]; simp) (by rw [show (⟨#[a]⟩ : ByteArray).data.toList = [a] from rfl, may1, decide_eq_false]; omega) w)
  have cB := Go.Lib.hid (fun w => may_told (s := (⟨#[97]⟩ : ByteArray) ++ ⟨#[a]⟩) (b := true) (by rw [ba_size, size_list, size_list]; simp) (by rw [ba_append, show (⟨#[97]⟩ : ByteArray).data.toList ++ (⟨#[a]⟩ : ByteArray).data.toList = [97, a] from rfl, may2]; simp only [low, decide_eq_true_iff]; omega) w)
  have cF := Go.Lib.hid (fun w => fold_told (s := ⟨#[a]⟩) (t := ⟨#[a]⟩) (by rw [size_list]; simp) (by show fold [a] = [a]; rw [fold, one_low]; simp only [low, decide_eq_true_iff]; omega) w)
  rcases h with h | h
  · have u97 : ¬ (97 : Int) ≤ (a.toNat : Int) := by omega
    have uu97 : decide ((97 : Int) ≤ (a.toNat : Int)) = false := decide_eq_false u97
    have u48 : ¬ (48 : Int) ≤ (a.toNat : Int) := by omega
    have uu48 : decide ((48 : Int) ≤ (a.toNat : Int)) = false := decide_eq_false u48
    have u65 : ¬ (65 : Int) ≤ (a.toNat : Int) := by omega
    have uu65 : decide ((65 : Int) ≤ (a.toNat : Int)) = false := decide_eq_false u65
    have v122 : (a.toNat : Int) ≤ 122 := by omega
    have v57 : (a.toNat : Int) ≤ 57 := by omega
    have v90 : (a.toNat : Int) ≤ 90 := by omega
    have e95 : ((a.toNat : Int) == 95) = false := by rw [beq_eq_false_iff_ne]; omega
    have e45 : ((a.toNat : Int) == 45) = true := by rw [beq_iff_eq]; omega
    have u128 : (a.toNat : Int) < 128 := by omega
    have n195 : ¬ a = 195 := by rintro rfl; exact absurd h (by decide)
    have n206 : ¬ a = 206 := by rintro rfl; exact absurd h (by decide)
    clear lt h
    go_enter Try.func9, Try.ntmps9
    go_wp2_with fail
    refine (shown_any _).mono ?_
    rintro e w1 ⟨rfl, B1⟩
    have k1 := conv_one w1 a
    go_wp2_with fail
    have B2 : Below w.heap.size w (w1.alloc (.cells #[.int .u8 (a.toNat : Int)] 5)) := B1.alloc B1.size _
    clear B1 k1
    generalize w1.alloc (.cells #[.int .u8 (a.toNat : Int)] 5) = w2 at *
    go_wp2_with fail
    refine (cA.out _).mono ?_
    rintro e w3 ⟨rfl, b3⟩
    have B3 := below_chain B2 b3
    clear B2 b3
    go_wp2_with fail
    refine (cB.out _).mono ?_
    rintro e w4 ⟨rfl, b4⟩
    have B4 := below_chain B3 b4
    clear B3 b4
    go_wp2_with fail
    refine (cF.out _).mono ?_
    rintro e w5 ⟨rfl, b5⟩
    have B5 := below_chain B4 b5
    clear B4 b5
    have Bz := B5
    go_wp2_with fail
    go_quiet (fail)
    have B6 := bel_drewN Bz nq
    clear Bz
    generalize w5.drewN nq = w6 at *
    have k2 := conv_two w6 a b
    go_wp2_with fail
    go_ret
    exact ⟨by simp, B6.alloc B6.size _⟩
  · have u97 : ¬ (97 : Int) ≤ (a.toNat : Int) := by omega
    have uu97 : decide ((97 : Int) ≤ (a.toNat : Int)) = false := decide_eq_false u97
    have u48 : (48 : Int) ≤ (a.toNat : Int) := by omega
    have u65 : ¬ (65 : Int) ≤ (a.toNat : Int) := by omega
    have uu65 : decide ((65 : Int) ≤ (a.toNat : Int)) = false := decide_eq_false u65
    have v122 : (a.toNat : Int) ≤ 122 := by omega
    have v57 : (a.toNat : Int) ≤ 57 := by omega
    have v90 : (a.toNat : Int) ≤ 90 := by omega
    have e95 : ((a.toNat : Int) == 95) = false := by rw [beq_eq_false_iff_ne]; omega
    have e45 : ((a.toNat : Int) == 45) = false := by rw [beq_eq_false_iff_ne]; omega
    have u128 : (a.toNat : Int) < 128 := by omega
    have n195 : ¬ a = 195 := by rintro rfl; exact absurd h (by decide)
    have n206 : ¬ a = 206 := by rintro rfl; exact absurd h (by decide)
    clear lt h
    go_enter Try.func9, Try.ntmps9
    go_wp2_with fail
    refine (shown_any _).mono ?_
    rintro e w1 ⟨rfl, B1⟩
    have k1 := conv_one w1 a
    go_wp2_with fail
    have B2 : Below w.heap.size w (w1.alloc (.cells #[.int .u8 (a.toNat : Int)] 5)) := B1.alloc B1.size _
    clear B1 k1
    generalize w1.alloc (.cells #[.int .u8 (a.toNat : Int)] 5) = w2 at *
    go_wp2_with fail
    refine (cA.out _).mono ?_
    rintro e w3 ⟨rfl, b3⟩
    have B3 := below_chain B2 b3
    clear B2 b3
    go_wp2_with fail
    refine (cB.out _).mono ?_
    rintro e w4 ⟨rfl, b4⟩
    have B4 := below_chain B3 b4
    clear B3 b4
    go_wp2_with fail
    refine (cF.out _).mono ?_
    rintro e w5 ⟨rfl, b5⟩
    have B5 := below_chain B4 b5
    clear B4 b5
    have Bz := B5
    go_wp2_with fail
    go_quiet (fail)
    have B6 := bel_drewN Bz nq
    clear Bz
    generalize w5.drewN nq = w6 at *
    have k2 := conv_two w6 a b
    go_wp2_with fail
    go_ret
    exact ⟨by simp, B6.alloc B6.size _⟩

set_option maxHeartbeats 8000000 in
set_option maxRecDepth 100000 in
theorem one_let (a b : UInt8) (w : World) (h : (95 ≤ a.toNat ∧ a.toNat ≤ 95) ∨ (97 ≤ a.toNat ∧ a.toNat ≤ 122)) :
    Calls Try.prog 9 #[.int .u8 (a.toNat : Int), .int .u8 (b.toNat : Int)] w fun e w' => e = .returned (.bool true) ∧ Below w.heap.size w w' := by
  have lt := UInt8.toNat_lt a
  have cA := Go.Lib.hid (fun w => may_told (s := ⟨#[a]⟩) (b := true) (by rw [size_list]; simp) (by rw [show (⟨#[a]⟩ : ByteArray).data.toList = [a] from rfl, may1, decide_eq_true]; omega) w)
  have cB := Go.Lib.hid (fun w => may_told (s := (⟨#[97]⟩ : ByteArray) ++ ⟨#[a]⟩) (b := true) (by rw [ba_size, size_list, size_list]; simp) (by rw [ba_append, show (⟨#[97]⟩ : ByteArray).data.toList ++ (⟨#[a]⟩ : ByteArray).data.toList = [97, a] from rfl, may2]; simp only [low, decide_eq_true_iff]; omega) w)
  have cF := Go.Lib.hid (fun w => fold_told (s := ⟨#[a]⟩) (t := ⟨#[a]⟩) (by rw [size_list]; simp) (by show fold [a] = [a]; rw [fold, one_low]; simp only [low, decide_eq_true_iff]; omega) w)
  rcases h with h | h
  · have u97 : ¬ (97 : Int) ≤ (a.toNat : Int) := by omega
    have uu97 : decide ((97 : Int) ≤ (a.toNat : Int)) = false := decide_eq_false u97
    have u48 : (48 : Int) ≤ (a.toNat : Int) := by omega
    have u65 : (65 : Int) ≤ (a.toNat : Int) := by omega
    have v122 : (a.toNat : Int) ≤ 122 := by omega
    have v57 : ¬ (a.toNat : Int) ≤ 57 := by omega
    have vv57 : decide ((a.toNat : Int) ≤ 57) = false := decide_eq_false v57
    have v90 : ¬ (a.toNat : Int) ≤ 90 := by omega
    have vv90 : decide ((a.toNat : Int) ≤ 90) = false := decide_eq_false v90
    have e95 : ((a.toNat : Int) == 95) = true := by rw [beq_iff_eq]; omega
    have e45 : ((a.toNat : Int) == 45) = false := by rw [beq_eq_false_iff_ne]; omega
    have u128 : (a.toNat : Int) < 128 := by omega
    have n195 : ¬ a = 195 := by rintro rfl; exact absurd h (by decide)
    have n206 : ¬ a = 206 := by rintro rfl; exact absurd h (by decide)
    clear lt h
    go_enter Try.func9, Try.ntmps9
    go_wp2_with fail
    refine (shown_any _).mono ?_
    rintro e w1 ⟨rfl, B1⟩
    have k1 := conv_one w1 a
    go_wp2_with fail
    have B2 : Below w.heap.size w (w1.alloc (.cells #[.int .u8 (a.toNat : Int)] 5)) := B1.alloc B1.size _
    clear B1 k1
    generalize w1.alloc (.cells #[.int .u8 (a.toNat : Int)] 5) = w2 at *
    go_wp2_with fail
    refine (cA.out _).mono ?_
    rintro e w3 ⟨rfl, b3⟩
    have B3 := below_chain B2 b3
    clear B2 b3
    go_wp2_with fail
    refine (cB.out _).mono ?_
    rintro e w4 ⟨rfl, b4⟩
    have B4 := below_chain B3 b4
    clear B3 b4
    go_wp2_with fail
    refine (cF.out _).mono ?_
    rintro e w5 ⟨rfl, b5⟩
    have B5 := below_chain B4 b5
    clear B4 b5
    have Bz := B5
    go_wp2_with fail
    go_quiet (fail)
    have B6 := bel_drewN Bz nq
    clear Bz
    generalize w5.drewN nq = w6 at *
    have k2 := conv_two w6 a b
    go_wp2_with fail
    go_ret
    exact ⟨by simp, B6.alloc B6.size _⟩
  · have u97 : (97 : Int) ≤ (a.toNat : Int) := by omega
    have u48 : (48 : Int) ≤ (a.toNat : Int) := by omega
    have u65 : (65 : Int) ≤ (a.toNat : Int) := by omega
    have v122 : (a.toNat : Int) ≤ 122 := by omega
    have v57 : ¬ (a.toNat : Int) ≤ 57 := by omega
    have vv57 : decide ((a.toNat : Int) ≤ 57) = false := decide_eq_false v57
    have v90 : ¬ (a.toNat : Int) ≤ 90 := by omega
    have vv90 : decide ((a.toNat : Int) ≤ 90) = false := decide_eq_false v90
    have e95 : ((a.toNat : Int) == 95) = false := by rw [beq_eq_false_iff_ne]; omega
    have e45 : ((a.toNat : Int) == 45) = false := by rw [beq_eq_false_iff_ne]; omega
    have u128 : (a.toNat : Int) < 128 := by omega
    have n195 : ¬ a = 195 := by rintro rfl; exact absurd h (by decide)
    have n206 : ¬ a = 206 := by rintro rfl; exact absurd h (by decide)
    clear lt h
    go_enter Try.func9, Try.ntmps9
    go_wp2_with fail
    refine (shown_any _).mono ?_
    rintro e w1 ⟨rfl, B1⟩
    have k1 := conv_one w1 a
    go_wp2_with fail
    have B2 : Below w.heap.size w (w1.alloc (.cells #[.int .u8 (a.toNat : Int)] 5)) := B1.alloc B1.size _
    clear B1 k1
    generalize w1.alloc (.cells #[.int .u8 (a.toNat : Int)] 5) = w2 at *
    go_wp2_with fail
    refine (cA.out _).mono ?_
    rintro e w3 ⟨rfl, b3⟩
    have B3 := below_chain B2 b3
    clear B2 b3
    go_wp2_with fail
    refine (cB.out _).mono ?_
    rintro e w4 ⟨rfl, b4⟩
    have B4 := below_chain B3 b4
    clear B3 b4
    go_wp2_with fail
    refine (cF.out _).mono ?_
    rintro e w5 ⟨rfl, b5⟩
    have B5 := below_chain B4 b5
    clear B4 b5
    have Bz := B5
    go_wp2_with fail
    go_quiet (fail)
    have B6 := bel_drewN Bz nq
    clear Bz
    generalize w5.drewN nq = w6 at *
    have k2 := conv_two w6 a b
    go_wp2_with fail
    go_ret
    exact ⟨by simp, B6.alloc B6.size _⟩

end Go.Proofs.Ytinmmaoedmepbaa.NameLaw
