/-
  Walk of a statement of layer 3: NameOne, the rest.
-/
import Derived.Test.YtinmmaoedmepbaaNameLawI
import Derived.Deep.RegionHeld
import Derived.IntWalk
namespace Go.Proofs.Ytinmmaoedmepbaa.NameLaw
open Go.RowKit Go.WideShapes Go.ChangeShapes Go.Proofs.Ytinmmaoedmepbaa.NameMath Go.Proofs.Ytinmmaoedmepbaa.NameWalk Go.Proofs.Ytinmmaoedmepbaa.Open Go.Proofs.Ytinmmaoedmepbaa.NumMem


theorem conv_at {w : World} {C : UInt8} {x : Int} (hx : (C.toNat : Int) = x) : (convert 31 9 (.slice (some ⟨w.heap.size, 0, none⟩) 1 1)).run Try.prog (w.alloc (.cells #[.int .u8 x] 5)) = .ok (.string ⟨#[C]⟩) (w.alloc (.cells #[.int .u8 x] 5)) := by
  subst hx
  exact conv_one w C
theorem conv_two_at {w : World} {n : Nat} (hn : n = w.heap.size) (a b : UInt8) : (convert 31 9 (.slice (some ⟨n, 0, none⟩) 2 2)).run Try.prog (w.alloc (.cells #[.int .u8 (a.toNat : Int), .int .u8 (b.toNat : Int)] 5)) = .ok (.string ⟨#[a, b]⟩) (w.alloc (.cells #[.int .u8 (a.toNat : Int), .int .u8 (b.toNat : Int)] 5)) := by
  subst hn
  exact conv_two w a b
theorem conv_drew {w : World} {C : UInt8} {x : Int} (hx : (C.toNat : Int) = x) : (convert 31 9 (.slice (some ⟨w.heap.size, 0, none⟩) 1 1)).run Try.prog (w.alloc (.cells #[.int .u8 x] 5)).drew = .ok (.string ⟨#[C]⟩) (w.alloc (.cells #[.int .u8 x] 5)).drew := by
  subst hx
  exact conv_kept (B := (w.alloc (.cells #[.int .u8 (C.toNat : Int)] 5)).heap.size) C (bel_drew (Below.refl _ _)) (by simp)
theorem conv_behind {w w' : World} {C : UInt8} {x : Int} (hx : (C.toNat : Int) = x) (hb : Below (w.alloc (.cells #[.int .u8 x] 5)).drew.heap.size (w.alloc (.cells #[.int .u8 x] 5)).drew w') : (convert 31 9 (.slice (some ⟨w.heap.size, 0, none⟩) 1 1)).run Try.prog w' = .ok (.string ⟨#[C]⟩) w' := by
  subst hx
  have h2 : Below (w.alloc (.cells #[.int .u8 (C.toNat : Int)] 5)).heap.size (w.alloc (.cells #[.int .u8 (C.toNat : Int)] 5)) w' := (bel_drew (Below.refl _ _)).trans hb
  exact conv_kept C h2 (by simp)

set_option maxHeartbeats 8000000 in
set_option maxRecDepth 100000 in
theorem one_up (a b : UInt8) (w : World) (h : (65 ≤ a.toNat ∧ a.toNat ≤ 90)) :
    Calls Try.prog 9 #[.int .u8 (a.toNat : Int), .int .u8 (b.toNat : Int)] w fun e w' => e = .returned (.bool true) ∧ Below w.heap.size w w' := by
  have lt := UInt8.toNat_lt a
  have cA := Go.Lib.hid (fun w => may_told (s := ⟨#[a]⟩) (b := false) (by rw [size_list]; simp) (by rw [show (⟨#[a]⟩ : ByteArray).data.toList = [a] from rfl, may1, decide_eq_false]; omega) w)
  have cB := Go.Lib.hid (fun w => may_told (s := (⟨#[97]⟩ : ByteArray) ++ ⟨#[a]⟩) (b := false) (by rw [ba_size, size_list, size_list]; simp) (by rw [ba_append, show (⟨#[97]⟩ : ByteArray).data.toList ++ (⟨#[a]⟩ : ByteArray).data.toList = [97, a] from rfl, may2]; simp only [low, decide_eq_false_iff_not]; omega) w)
  obtain ⟨C, hC⟩ : ∃ C : UInt8, (C.toNat : Int) = (a.toNat : Int) + 32 := ⟨UInt8.ofNat (a.toNat + 32), by rw [UInt8.toNat_ofNat_of_lt' (by show a.toNat + 32 < 256; omega)]; omega⟩
  have cF := Go.Lib.hid (fun w => fold_told (s := ⟨#[a]⟩) (t := ⟨#[C]⟩) (by rw [size_list]; simp) (by
    show fold [a] = [C]
    have hl : low a = false := by simp only [low, decide_eq_false_iff_not]; omega
    rw [fold, one, hl, if_neg (by decide), if_pos (by omega)]
    congr 1
    apply UInt8.toNat_inj.1
    rw [UInt8.toNat_ofNat_of_lt' (by show a.toNat + 32 < 256; omega)]
    omega) w)
  have hC' := Go.Lib.hid hC
  clear hC
  rcases h with h
  · have u97 : ¬ (97 : Int) ≤ (a.toNat : Int) := by omega
    have uu97 : decide ((97 : Int) ≤ (a.toNat : Int)) = false := decide_eq_false u97
    have u48 : (48 : Int) ≤ (a.toNat : Int) := by omega
    have u65 : (65 : Int) ≤ (a.toNat : Int) := by omega
    have v122 : (a.toNat : Int) ≤ 122 := by omega
    have v57 : ¬ (a.toNat : Int) ≤ 57 := by omega
    have vv57 : decide ((a.toNat : Int) ≤ 57) = false := decide_eq_false v57
    have v90 : (a.toNat : Int) ≤ 90 := by omega
    have e95 : ((a.toNat : Int) == 95) = false := by rw [beq_eq_false_iff_ne]; omega
    have e45 : ((a.toNat : Int) == 45) = false := by rw [beq_eq_false_iff_ne]; omega
    have u128 : (a.toNat : Int) < 128 := by omega
    have n195 : ¬ a = 195 := by rintro rfl; exact absurd h (by decide)
    have n206 : ¬ a = 206 := by rintro rfl; exact absurd h (by decide)
    clear lt h
    go_enter Try.func9, Try.ntmps9
    go_wp2_with fail
    refine (shown_any _).mono ?_
    rintro e w1 ⟨rfl, B1⟩
    have k1 := conv_one w1 a
    go_wp2_with fail
    have B2 : Below w.heap.size w (w1.alloc (.cells #[.int .u8 (a.toNat : Int)] 5)) := B1.alloc B1.size _
    clear B1 k1
    generalize w1.alloc (.cells #[.int .u8 (a.toNat : Int)] 5) = w2 at *
    go_wp2_with fail
    refine (cA.out _).mono ?_
    rintro e w3 ⟨rfl, b3⟩
    have B3 := below_chain B2 b3
    clear B2 b3
    go_wp2_with fail
    refine (cB.out _).mono ?_
    rintro e w4 ⟨rfl, b4⟩
    have B4 := below_chain B3 b4
    clear B3 b4
    have Bz := B4
    go_wp2_with fail
    have hw8 : IntKind.u8.wrap ((a.toNat : Int) + 32) = (a.toNat : Int) + 32 := IntWalk.u8_in _ (by omega)
    have k4 := conv_drew (w := w4) hC'.out
    clear uu97 vv57 v122 v57 u97 u48 e95 e45 cA cB
    go_region_held (fun _ => True) (trivial) (first | (go_at_call 15; refine (cF.out _).mono ?_; rintro e w6 ⟨rfl, b6⟩; have k6 := conv_at (w := w6) hC'.out; (try have k7 := conv_behind hC'.out b6)))
    all_goals have k8 := conv_two w6 a b
    all_goals have k9 := conv_two_at (w := w6.alloc (.cells #[.int .u8 ((a.toNat : Int) + 32)] 5)) (n := w6.heap.size + 1) (by simp) a b
    all_goals go_wp2_with fail
    all_goals go_ret
    all_goals refine ⟨by simp, ?_⟩
    all_goals first | exact (below_chain (bel_drew Bz) b6).alloc (below_chain (bel_drew Bz) b6).size _ | exact ((below_chain (bel_drew Bz) b6).alloc (below_chain (bel_drew Bz) b6).size _).alloc ((below_chain (bel_drew Bz) b6).alloc (below_chain (bel_drew Bz) b6).size _).size _ | exact (below_chain (bel_drew (Bz.alloc Bz.size _)) b6).alloc (below_chain (bel_drew (Bz.alloc Bz.size _)) b6).size _

end Go.Proofs.Ytinmmaoedmepbaa.NameLaw
