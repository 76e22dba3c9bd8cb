/-
  Walk of a statement of layer 3: NameOne, the rest.
-/
import Derived.Test.YtinmmaoedmepbaaNameLawH
import Derived.Deep.RegionWith
namespace Go.Proofs.Ytinmmaoedmepbaa.NameLaw
open Go.RowKit Go.WideShapes Go.ChangeShapes Go.Proofs.Ytinmmaoedmepbaa.NameMath Go.Proofs.Ytinmmaoedmepbaa.NameWalk Go.Proofs.Ytinmmaoedmepbaa.Open Go.Proofs.Ytinmmaoedmepbaa.NumMem

theorem two_str (a b : UInt8) : two a b = (decide ((⟨#[a, b]⟩ : ByteArray).toList = [195, 169]) || decide ((⟨#[a, b]⟩ : ByteArray).toList = [195, 184]) || decide ((⟨#[a, b]⟩ : ByteArray).toList = [195, 159]) || decide ((⟨#[a, b]⟩ : ByteArray).toList = [206, 187])) := by
  have e : ∀ c d : UInt8, ((⟨#[a, b]⟩ : ByteArray).toList = [c, d]) ↔ (a.toNat = c.toNat ∧ b.toNat = d.toNat) := fun c d => by
    rw [ByteArray.toList_eq, UInt8.toNat_inj, UInt8.toNat_inj]
    simp
  rw [Bool.eq_iff_iff]
  simp only [two, Bool.or_eq_true, decide_eq_true_eq, e]
  have h1 : (195 : UInt8).toNat = 195 := rfl
  have h2 : (169 : UInt8).toNat = 169 := rfl
  have h3 : (184 : UInt8).toNat = 184 := rfl
  have h4 : (159 : UInt8).toNat = 159 := rfl
  have h5 : (206 : UInt8).toNat = 206 := rfl
  have h6 : (187 : UInt8).toNat = 187 := rfl
  rw [h1, h2, h3, h4, h5, h6]
  omega

set_option maxHeartbeats 8000000 in
set_option maxRecDepth 100000 in
theorem one_high (a b : UInt8) (w : World) (h : (128 ≤ a.toNat ∧ a.toNat ≤ 255)) :
    Calls Try.prog 9 #[.int .u8 (a.toNat : Int), .int .u8 (b.toNat : Int)] w fun e w' => e = .returned (.bool true) ∧ Below w.heap.size w w' := by
  have lt := UInt8.toNat_lt a
  have cA := Go.Lib.hid (fun w => may_told (s := ⟨#[a]⟩) (b := false) (by rw [size_list]; simp) (by rw [show (⟨#[a]⟩ : ByteArray).data.toList = [a] from rfl, may1, decide_eq_false]; omega) w)
  have cB := Go.Lib.hid (fun w => may_told (s := (⟨#[97]⟩ : ByteArray) ++ ⟨#[a]⟩) (b := false) (by rw [ba_size, size_list, size_list]; simp) (by rw [ba_append, show (⟨#[97]⟩ : ByteArray).data.toList ++ (⟨#[a]⟩ : ByteArray).data.toList = [97, a] from rfl, may2]; simp only [low, decide_eq_false_iff_not]; omega) w)
  have cT := Go.Lib.hid (fun w => may_told (s := ⟨#[a, b]⟩) (b := two a b) (by rw [size_list]; simp) (by show may [a, b] = two a b; exact mayHigh a b (by omega)) w)
  rcases h with h
  · have u97 : (97 : Int) ≤ (a.toNat : Int) := by omega
    have u48 : (48 : Int) ≤ (a.toNat : Int) := by omega
    have u65 : (65 : Int) ≤ (a.toNat : Int) := by omega
    have v122 : ¬ (a.toNat : Int) ≤ 122 := by omega
    have vv122 : decide ((a.toNat : Int) ≤ 122) = false := decide_eq_false v122
    have v57 : ¬ (a.toNat : Int) ≤ 57 := by omega
    have vv57 : decide ((a.toNat : Int) ≤ 57) = false := decide_eq_false v57
    have v90 : ¬ (a.toNat : Int) ≤ 90 := by omega
    have vv90 : decide ((a.toNat : Int) ≤ 90) = false := decide_eq_false v90
    have e95 : ((a.toNat : Int) == 95) = false := by rw [beq_eq_false_iff_ne]; omega
    have e45 : ((a.toNat : Int) == 45) = false := by rw [beq_eq_false_iff_ne]; omega
    have u128 : ¬ (a.toNat : Int) < 128 := by omega
    clear lt h
    go_enter Try.func9, Try.ntmps9
    go_wp2_with fail
    refine (shown_any _).mono ?_
    rintro e w1 ⟨rfl, B1⟩
    have k1 := conv_one w1 a
    go_wp2_with fail
    have B2 : Below w.heap.size w (w1.alloc (.cells #[.int .u8 (a.toNat : Int)] 5)) := B1.alloc B1.size _
    clear B1 k1
    generalize w1.alloc (.cells #[.int .u8 (a.toNat : Int)] 5) = w2 at *
    have h2 := two_str a b
    go_wp2_with fail
    refine (cA.out _).mono ?_
    rintro e w3 ⟨rfl, b3⟩
    have B3 := below_chain B2 b3
    clear B2 b3
    go_wp2_with fail
    refine (cB.out _).mono ?_
    rintro e w4 ⟨rfl, b4⟩
    have B4 := below_chain B3 b4
    clear B3 b4
    have Bz := B4
    go_wp2_with fail
    go_quiet (fail)
    have B5 := bel_drewN Bz nq
    clear Bz
    generalize w4.drewN nq = w5 at *
    have k2 := conv_two w5 a b
    generalize (⟨#[a, b]⟩ : ByteArray) = S at *
    generalize two a b = T at *
    by_cases s0 : S.toList = [195, 169]
    · obtain rfl : T = true := by rw [h2]; simp [s0]
      clear h2
      go_wp2_with fail
      refine (cT.out _).mono ?_
      rintro e w7 ⟨rfl, b7⟩
      go_wp2_with fail
      go_ret
      exact ⟨by simp, below_chain (B5.alloc B5.size _) b7⟩
    by_cases s1 : S.toList = [195, 184]
    · obtain rfl : T = true := by rw [h2]; simp [s1]
      clear h2
      go_wp2_with fail
      refine (cT.out _).mono ?_
      rintro e w7 ⟨rfl, b7⟩
      go_wp2_with fail
      go_ret
      exact ⟨by simp, below_chain (B5.alloc B5.size _) b7⟩
    by_cases s2 : S.toList = [195, 159]
    · obtain rfl : T = true := by rw [h2]; simp [s2]
      clear h2
      go_wp2_with fail
      refine (cT.out _).mono ?_
      rintro e w7 ⟨rfl, b7⟩
      go_wp2_with fail
      go_ret
      exact ⟨by simp, below_chain (B5.alloc B5.size _) b7⟩
    by_cases s3 : S.toList = [206, 187]
    · obtain rfl : T = true := by rw [h2]; simp [s3]
      clear h2
      go_wp2_with fail
      refine (cT.out _).mono ?_
      rintro e w7 ⟨rfl, b7⟩
      go_wp2_with fail
      go_ret
      exact ⟨by simp, below_chain (B5.alloc B5.size _) b7⟩
    obtain rfl : T = false := by rw [h2]; simp [s0, s1, s2, s3]
    clear h2
    go_wp2_with fail
    refine (cT.out _).mono ?_
    rintro e w7 ⟨rfl, b7⟩
    go_wp2_with fail
    go_ret
    exact ⟨by simp [s0, s1, s2, s3], below_chain (B5.alloc B5.size _) b7⟩

end Go.Proofs.Ytinmmaoedmepbaa.NameLaw
