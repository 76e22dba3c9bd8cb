/-
  Walks of the statements of layer 2: CrcBack.
-/
import Derived.Test.YtfencoklpnifaaaCrcLawA
namespace Go.Proofs.Ytfencoklpnifaaa.CrcLaw
open Go.RowKit Go.WideShapes Go.ChangeShapes Go.Proofs.Ytfencoklpnifaaa.CrcMath Go.Proofs.Ytfencoklpnifaaa.NumMem Go.Proofs.Ytfencoklpnifaaa.CrcWalk Go.Proofs.Ytfencoklpnifaaa.Open

theorem few_rd {w : World} {A : Option Addr} {n cap : Nat} {l : List UInt8} (h : Rd w A n cap l) : Rd w A (min n 500) cap (l.take (min n 500)) := h.first (Nat.min_le_left _ _)

set_option maxRecDepth 100000 in
set_option maxHeartbeats 4000000 in
theorem back_walk (A B : Option Addr) (n cap m cbp : Nat) (l k : List UInt8) (w : World) (hl : Rd w A n cap l) (hk : Rd w B m cbp k) :
    Calls Try.prog 4 #[.slice A n cap, .slice B m cbp] w fun e w' => e = .returned (.bool true) ∧ Below w.heap.size w w' := by
  have hcap := hl.le_cap
  have hmax := hl.2.2.1
  have hcap2 := hk.le_cap
  have hmax2 := hk.2.2.1
  unfold maxLen at hmax hmax2
  have hz := tab_zero
  go_enter Try.func4, Try.ntmps4
  go_wp2_with fail
  refine (shown_any _).mono ?_
  rintro e w1 ⟨rfl, B1⟩
  go_wp2_with fail
  refine (new_any _).mono ?_
  rintro e w2 ⟨rfl, b2⟩
  have B2 := below_chain (below_chain B1 b2) (tab_below w2)
  have t2 := Tab.new w2
  clear B1 b2
  go_wp2_with (with_reducible refine wpList_table rfl (.tmp 6) (.tmp 12) rfl rfl rfl ?_)
  generalize hwx : w2.alloc (.cells tab 27) = w3 at *
  clear hwx hz
  refine (few_any A n cap _ hcap (by omega)).mono ?_
  rintro e w' ⟨rfl, rfl⟩
  go_wp2_with fail
  refine (few_any B m cbp _ hcap2 (by omega)).mono ?_
  rintro e w' ⟨rfl, rfl⟩
  have ra := few_rd (hl.below B2)
  have rb := few_rd (hk.below B2)
  have hn : min n 500 ≤ 500 := Nat.min_le_right _ _
  have hm : min m 500 ≤ 500 := Nat.min_le_right _ _
  generalize min n 500 = n' at *
  generalize min m 500 = m' at *
  generalize l.take n' = a at *
  generalize k.take m' = b at *
  clear hl hk hcap hcap2
  have hla := ra.len
  have hlb := rb.len
  have HA := Go.Lib.hid hla
  have HB := Go.Lib.hid hlb
  clear hla hlb
  go_wp2_with fail
  refine (seal_any w2.heap.size A n' cap a _ t2 ra (by omega)).mono ?_
  rintro e w4 ⟨rfl, hr4, b4⟩
  have B4 := below_chain B2 b4
  have t4 := t2.below b4
  have ra4 := ra.below b4
  have rb4 := rb.below b4
  have s4 := row_rd hr4 (n := n' + 4) (by rw [closedB_length, HA.out]) (by omega)
  clear B2 t2 ra rb b4 hr4
  go_wp2_with fail
  refine (open_yes w2.heap.size _ _ _ a _ t4 s4 (by omega)).mono ?_
  rintro e w5 ⟨A5, c5, rfl, r5, b5⟩
  rw [HA.out] at r5 ⊢
  have B5 := below_chain B4 b5
  have t5 := t4.below b5
  have ra5 := ra4.below b5
  have rb5 := rb4.below b5
  have s5 := s4.below b5
  clear B4 t4 ra4 rb4 s4 b5
  have x5 := rd_str s5.drew
  by_cases hab : a = b
  · subst hab
    generalize hx : closedB a = x at *
    have HX := Go.Lib.hid hx
    clear hx
    go_wp2_with fail
    go_region_with (first
      | (go_at_call 17; refine (seal_any w2.heap.size B m' cbp a _ ?_ ?_ (by omega)).mono ?_; exact t5; exact rb5; rintro e w6 ⟨rfl, hr6, b6⟩; have s6 := row_rd hr6 (n := m' + 4) (by rw [closedB_length, HB.out]) (by omega); rw [HX.out] at s6; have x6 : (convert 22 9 (.slice (some ⟨w5.heap.size, 0, none⟩) (m' + 4) (m' + 4))).run Try.prog w6 = .ok (.string ⟨x.toArray⟩) w6 := rd_str s6; have x7 := rd_str (s5.drew.below b6); have y1 := rd_str (r5.drew.below b6); have y2 := rd_str (ra5.drew.below b6); have y3 := rd_str (rb5.drew.below b6); clear s6 hr6))
    all_goals go_wp2_with fail
    all_goals go_ret
    all_goals exact ⟨rfl, below_chain B5.drew b6⟩
  · have hc : (closedB a == closedB b) = false := by
      rw [beq_eq_false_iff_ne]
      exact fun h => hab (closedB_inj h)
    have hd : (a == b) = false := by rw [beq_eq_false_iff_ne]; exact hab
    generalize hx : closedB a = x at *
    generalize hy : closedB b = y at *
    have HX := Go.Lib.hid hx
    have HY := Go.Lib.hid hy
    clear hx hy hab
    go_wp2_with fail
    go_region_with (first
      | (go_at_call 17; refine (seal_any w2.heap.size B m' cbp b _ ?_ ?_ (by omega)).mono ?_; exact t5; exact rb5; rintro e w6 ⟨rfl, hr6, b6⟩; have s6 := row_rd hr6 (n := m' + 4) (by rw [closedB_length, HB.out]) (by omega); rw [HY.out] at s6; have x6 : (convert 22 9 (.slice (some ⟨w5.heap.size, 0, none⟩) (m' + 4) (m' + 4))).run Try.prog w6 = .ok (.string ⟨y.toArray⟩) w6 := rd_str s6; have x7 := rd_str (s5.drew.below b6); have y1 := rd_str (r5.drew.below b6); have y2 := rd_str (ra5.drew.below b6); have y3 := rd_str (rb5.drew.below b6); clear s6 hr6))
    all_goals go_wp2_with fail
    all_goals go_ret
    all_goals exact ⟨rfl, below_chain B5.drew b6⟩

section
variable {H : Type} {enc : TypeId × Value → H}
theorem back_main (W : World) (base : Nat) (v0 v1 : Value) {d0 d1 : DataW H} {p0 p1 : List MemPlace} (o0 : Value.okWide Try.prog W .any base 22 v0) (o1 : Value.okWide Try.prog W .any base 22 v1)
    (h0 : DataW.Trod enc Try.prog W 0 (fun _ => true) true 22 v0 d0 p0) (h1 : DataW.Trod enc Try.prog W 0 (fun _ => true) true 22 v1 d1 p1) :
    Calls Try.prog 4 #[v0, v1] W fun e W' => e = .returned (.bool true) ∧ Below W.heap.size W W' := by
  obtain ⟨A, n, cap, l, rfl, hl⟩ := op_bytes Try.underlying22 Try.underlying5 (by kernel_rfl) o0 h0
  obtain ⟨B, m, c, k, rfl, hk⟩ := op_bytes Try.underlying22 Try.underlying5 (by kernel_rfl) o1 h1
  exact back_walk A B n cap m c l k W hl hk
end

end Go.Proofs.Ytfencoklpnifaaa.CrcLaw
