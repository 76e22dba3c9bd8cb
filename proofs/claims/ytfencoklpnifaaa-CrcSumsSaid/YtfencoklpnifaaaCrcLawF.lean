/-
  Walks of the statements of layer 2: CrcSums.
-/
import Derived.Test.YtfencoklpnifaaaCrcLawB
import Derived.Deep.RegionHeld3
import Derived.IntWalk
namespace Go.Proofs.Ytfencoklpnifaaa.CrcLaw
open Go.RowKit Go.WideShapes Go.ChangeShapes Go.Proofs.Ytfencoklpnifaaa.CrcMath Go.Proofs.Ytfencoklpnifaaa.NumMem Go.Proofs.Ytfencoklpnifaaa.CrcWalk Go.Proofs.Ytfencoklpnifaaa.Open

/-- What Open tells: bytes, and whether they are a seal's. -/
def Out (w : World) (n : Nat) (q : Int) (x : List UInt8) (e : Ending) (w' : World) : Prop := ∃ A c, e = .returned (.tuple #[.slice A n c, .int .i64 q]) ∧ Rd w' A n c x ∧ Below w.heap.size w w'

theorem out_both (s : List UInt8) (n : Nat) (hs : s.length = n) (hn : n ≤ 500) : ∃ (n5 : Nat) (q : Int) (x : List UInt8), n5 ≤ 500 ∧
    (∀ g A cap w, Tab w g → Rd w A n cap s → Calls Try.prog 12 #[.pointer (some ⟨g, 0, none⟩), .slice A n cap] w (Out w n5 q x)) ∧
    (∀ A cap w, Rd w A n cap s → Calls Try.prog 13 #[.slice A n cap] w (Out w n5 q x)) := by
  by_cases hy : ∃ x, closedB x = s
  · obtain ⟨x, rfl⟩ := hy
    rw [closedB_length] at hs
    subst hs
    refine ⟨x.length, 0, x, by omega, fun g A cap w ht h => ?_, fun A cap w h => ?_⟩
    · exact (open_yes g A _ cap x w ht h (by omega)).mono fun e w' hh => hh
    · have et : (closedB x).take x.length = x := by unfold closedB; rw [List.take_left]
      refine (refOpen_long A x.length cap _ w h (by omega)).mono ?_
      rintro e w' ⟨h1, _⟩
      rw [et] at h1
      exact h1 rfl
  · have hno : ∀ x, closedB x ≠ s := fun x hx => hy ⟨x, hx⟩
    refine ⟨0, 2, [], by omega, fun g A cap w ht h => ?_, fun A cap w h => ?_⟩
    · exact (open_no g A n cap s w ht h (by omega) hno).mono fun e w' hh => ⟨none, 0, hh.1, Rd.nil _, hh.2⟩
    · by_cases h4 : n < 4
      · exact (refOpen_short A n cap w h4).mono fun e w' hh => ⟨none, 0, hh.1, Rd.nil _, hh.2⟩
      · obtain ⟨m, rfl⟩ : ∃ m, n = m + 4 := ⟨n - 4, by omega⟩
        exact (refOpen_long A m cap s w h (by omega)).mono fun e w' hh => ⟨none, 0, (hh.2 (hno _)).1, Rd.nil _, (hh.2 (hno _)).2⟩

set_option maxRecDepth 100000 in
set_option maxHeartbeats 8000000 in
theorem sums_walk (A : Option Addr) (n cap : Nat) (l : List UInt8) (i : UInt8) (w : World) (hl : Rd w A n cap l) :
    Calls Try.prog 3 #[.slice A n cap, .int .u8 (i.toNat : Int)] w fun e w' => e = .returned (.bool true) ∧ Below w.heap.size w w' := by
  have hcap := hl.le_cap
  have hmax := hl.2.2.1
  unfold maxLen at hmax
  have hz := tab_zero
  have hi := UInt8.toNat_lt i
  generalize i.toNat = j at *
  go_enter Try.func3, Try.ntmps3
  go_wp2_with fail
  refine (shown_any _).mono ?_
  rintro e w1 ⟨rfl, B1⟩
  go_wp2_with fail
  refine (few_any A n cap _ hcap (by omega)).mono ?_
  rintro e w' ⟨rfl, rfl⟩
  have ra := few_rd (hl.below B1)
  have hn : min n 500 ≤ 500 := Nat.min_le_right _ _
  generalize min n 500 = n' at *
  generalize l.take n' = s at *
  clear hl hcap
  have hla := ra.len
  obtain ⟨n5, q, x, hn5, ho1, ho2⟩ := out_both s n' hla hn
  have HO1 := Go.Lib.hid ho1
  have HO2 := Go.Lib.hid ho2
  have HA := Go.Lib.hid hla
  clear hla ho1 ho2
  go_wp2_with fail
  refine (new_any _).mono ?_
  rintro e w2 ⟨rfl, b2⟩
  have b3 := below_chain b2 (tab_below w2)
  have B3 := below_chain B1 b3
  have r3 := ra.below b3
  have t3 := Tab.new w2
  clear B1 b2 b3 ra
  go_wp2_with (with_reducible refine wpList_table rfl (.tmp 6) (.tmp 14) rfl rfl rfl ?_)
  generalize hwx : w2.alloc (.cells tab 27) = w3 at *
  clear hwx hz
  refine (HO1.out w2.heap.size A cap _ t3 r3).mono ?_
  rintro e w4 ⟨A4, c4, rfl, x4, b4⟩
  have B4 := below_chain B3 b4
  have r4 := r3.below b4
  have t4 := t3.below b4
  clear B3 r3 t3 b4
  go_wp2_with fail
  refine (HO2.out A cap _ r4).mono ?_
  rintro e w5 ⟨A5, c5, rfl, y5, b5⟩
  have B5 := below_chain B4 b5
  have r5 := r4.below b5
  have t5 := t4.below b5
  have x5 := x4.below b5
  clear B4 r4 t4 b5 x4 HO1 HO2
  have sx := rd_str x5
  have sy := rd_str y5
  have kj := t5.cell j hi
  have j0 : (0 : Int) ≤ (j : Int) := by omega
  have j1 : (j : Int) < 256 := by omega
  have hs8 := step8_lt j (by omega)
  generalize hst : step8 j = st at *
  have HST := Go.Lib.hid hst
  generalize hsm : sum s = sm at *
  have HSM := Go.Lib.hid hsm
  generalize hcb : closedB s = cb at *
  have HCB := Go.Lib.hid hcb
  clear hst hsm hcb
  have hcbl : cb.length = n' + 4 := by rw [← HCB.out, closedB_length, HA.out]
  have HCL := Go.Lib.hid hcbl
  clear hcbl
  have hwj : IntKind.i64.wrap (j : Int) = (j : Int) := IntWalk.i64_in _ (by omega)
  go_wp2_with fail
  refine wp_region_noPanic ?_
  go_region_held (fun w' => (convert 22 9 (.slice A4 n5 c4)).run Try.prog w' = .ok (.string ⟨x.toArray⟩) w' ∧ (convert 22 9 (.slice A5 n5 c5)).run Try.prog w' = .ok (.string ⟨x.toArray⟩) w' ∧ w'.cell? ⟨w2.heap.size, j, none⟩ = some (.int .u32 (st : Int)))
    (first | exact ⟨sx, sy, kj⟩ | exact ⟨rd_str x5.drew, rd_str y5.drew, kj⟩ | exact ⟨rd_str x9, rd_str y9, k9⟩ | exact ⟨rd_str x8, rd_str y8, k8⟩)
    (first
      | (go_at_call 14; refine (refEntry_any j _ (by omega)).mono ?_; rintro e w' ⟨rfl, rfl⟩; rw [HST.out])
      | (go_at_call 15; refine (sum_any w2.heap.size A n' cap s _ ?_ ?_).mono ?_; exact t5; exact r5; rintro e w' ⟨rfl, rfl⟩; rw [HSM.out])
      | (go_at_call 16; refine (refSum_any A n' cap s _ ?_).mono ?_; exact r5; rintro e w' ⟨rfl, rfl⟩; rw [HSM.out])
      | (go_at_call 17; refine (seal_any w2.heap.size A n' cap s _ ?_ ?_ (by omega)).mono ?_; exact t5; exact r5; rintro e w8 ⟨rfl, hr8, b8⟩; rw [HCB.out] at hr8; have z8 := row_rd hr8 HCL.out (by omega); have x8 := x5.drew.below b8; have y8 := y5.drew.below b8; have r8 := r5.drew.below b8; have k8 := (t5.drew.below b8).cell j hi; rw [HST.out] at k8; have B8 : Below w.heap.size w w8 := below_chain B5.drew b8; have s8 : (convert 22 9 (.slice (some ⟨w5.heap.size, 0, none⟩) (n' + 4) (n' + 4))).run Try.prog w8 = .ok (.string ⟨cb.toArray⟩) w8 := rd_str z8; clear hr8)
      | (go_at_call 18; refine (refSeal_any A n' cap s _ r8 (by omega)).mono ?_; rintro e w9 ⟨A9, c9, rfl, z9, b9⟩; rw [HCB.out] at z9; have x9 := x8.below b9; have y9 := y8.below b9; have k9 : w9.cell? ⟨w2.heap.size, j, none⟩ = some (.int .u32 (st : Int)) := (b9.cell (p := ⟨w2.heap.size, j, none⟩) (World.block_lt_of_cell? w8 _ k8)).trans k8; have B9 := below_chain B8 b9; have s9 := rd_str z9; have s10 : (convert 22 9 (.slice (some ⟨w5.heap.size, 0, none⟩) (n' + 4) (n' + 4))).run Try.prog w9 = .ok (.string ⟨cb.toArray⟩) w9 := rd_str (z8.below b9)))
  all_goals (refine NoPanic.normal ?_)
  all_goals (go_wp2_with fail)
  all_goals (go_ret; exact ⟨rfl, B9⟩)

section
variable {H : Type} {enc : TypeId × Value → H}
theorem sums_main (W : World) (base : Nat) (v0 v1 : Value) {d0 d1 : DataW H} {p0 p1 : List MemPlace} (o0 : Value.okWide Try.prog W .any base 22 v0) (o1 : Value.okWide Try.prog W .any base 5 v1)
    (h0 : DataW.Trod enc Try.prog W 0 (fun _ => true) true 22 v0 d0 p0) (h1 : DataW.Trod enc Try.prog W 0 (fun _ => true) true 5 v1 d1 p1) :
    Calls Try.prog 3 #[v0, v1] W fun e W' => e = .returned (.bool true) ∧ Below W.heap.size W W' := by
  obtain ⟨A, n, cap, l, rfl, hl⟩ := op_bytes Try.underlying22 Try.underlying5 (by kernel_rfl) o0 h0
  obtain ⟨z, rfl, wz⟩ := op_int Try.underlying5 o1 h1
  have hb := bounds_u8 wz
  obtain ⟨c, rfl⟩ : ∃ c : UInt8, z = (c.toNat : Int) := by
    refine ⟨UInt8.ofNat z.toNat, ?_⟩
    have : z.toNat < 256 := by omega
    simp [Nat.mod_eq_of_lt this]
    omega
  exact sums_walk A n cap l c W hl
end

end Go.Proofs.Ytfencoklpnifaaa.CrcLaw
