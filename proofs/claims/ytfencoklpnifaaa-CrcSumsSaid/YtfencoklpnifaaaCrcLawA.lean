/-
  Walks of the statements of layer 2: CrcLong.
-/
import Derived.Test.YtfencoklpnifaaaCrcShown
import Derived.Test.YtfencoklpnifaaaCrcRef
import Derived.Test.YtfencoklpnifaaaOpen
import Derived.WalkLawsBesides
import Derived.Deep.DeepCutAuto
import Derived.Deep.CutBlock
namespace Go.Proofs.Ytfencoklpnifaaa.CrcLaw
open Go.RowKit Go.WideShapes Go.ChangeShapes Go.Proofs.Ytfencoklpnifaaa.CrcMath Go.Proofs.Ytfencoklpnifaaa.NumMem Go.Proofs.Ytfencoklpnifaaa.CrcWalk Go.Proofs.Ytfencoklpnifaaa.Open

theorem tab_below (w : World) : Below w.heap.size w (w.alloc (.cells tab 27)) := (Below.refl _ _).alloc (Nat.le_refl _) _

set_option maxRecDepth 100000 in
set_option maxHeartbeats 4000000 in
theorem long_walk (A : Option Addr) (n cap : Nat) (l : List UInt8) (w : World) (hl : Rd w A n cap l) :
    Calls Try.prog 7 #[.slice A n cap] w fun e w' => e = .returned (.bool true) ∧ Below w.heap.size w w' := by
  have hcap := hl.le_cap
  have hmax := hl.2.2.1
  unfold maxLen at hmax
  have hz := tab_zero
  go_enter Try.func7, Try.ntmps7
  go_wp2_with fail
  refine (shown_any _).mono ?_
  rintro e w1 ⟨rfl, B1⟩
  go_wp2_with fail
  refine (new_any _).mono ?_
  rintro e w2 ⟨rfl, b2⟩
  have B2 := below_chain (below_chain B1 b2) (tab_below w2)
  have r2 := hl.below B2
  have t2 := Tab.new w2
  clear B1 b2
  go_upto_if 16 with (with_reducible refine wpList_table rfl (.tmp 4) (.tmp 13) rfl rfl rfl ?_)
  generalize hwx : w2.alloc (.cells tab 27) = w3 at *
  clear hwx hz
  go_cut [0] (fun v wx => w3 = wx ∧ ∃ n' l', v = .slice A n' cap ∧ n' ≤ 300 ∧ n' ≤ cap ∧ Rd w3 A n' cap l')
  case first =>
    go_wp2_with fail
    · go_meet
      exact ⟨rfl, _, _, rfl, by omega, by omega, r2.first (by omega)⟩
    · go_meet
      exact ⟨rfl, _, _, rfl, by omega, by omega, r2⟩
  case rest =>
    obtain ⟨rfl, n', l', rfl, hn', hc', r3⟩ := hcut
    clear r2 hl hcap
    have hln := r3.len
    have HLN := Go.Lib.hid hln
    clear hln
    go_wp2_with fail
    refine (seal_any w2.heap.size A n' cap l' _ t2 r3 (by omega)).mono ?_
    rintro e w4 ⟨rfl, hr4, b4⟩
    have B4 := below_chain B2 b4
    have t4 := t2.below b4
    have r4 := r3.below b4
    have s4 := row_rd hr4 (n := n' + 4) (by rw [closedB_length, HLN.out]) (by omega)
    clear B2 t2 r3 b4 hr4
    go_wp2_with fail
    refine (seal_any w2.heap.size _ (n' + 4) _ (closedB l') _ t4 s4 (by omega)).mono ?_
    rintro e w5 ⟨rfl, hr5, b5⟩
    have B5 := below_chain B4 b5
    have t5 := t4.below b5
    have r5 := r4.below b5
    have s5 := row_rd hr5 (n := n' + 8) (by rw [closedB_length, closedB_length, HLN.out]) (by omega)
    clear B4 t4 r4 b5 hr5 s4
    go_wp2_with fail
    refine (open_yes w2.heap.size _ _ _ (closedB l') _ t5 s5 (by omega)).mono ?_
    rintro e w6 ⟨A6, c6, rfl, r6, b6⟩
    have e6 : (closedB l').length = n' + 4 := by rw [closedB_length, HLN.out]
    rw [e6] at r6 ⊢
    have B6 := below_chain B5 b6
    have t6 := t5.below b6
    have q6 := r5.below b6
    clear B5 t5 r5 b6 s5 e6
    go_wp2_with fail
    refine (open_yes w2.heap.size _ _ _ l' _ t6 r6 (by omega)).mono ?_
    rintro e w7 ⟨A7, c7, rfl, r7, b7⟩
    rw [HLN.out] at r7 ⊢
    have B7 := below_chain B6 b7
    have t7 := t6.below b7
    have q7 := q6.below b7
    clear B6 t6 r6 b7 q6
    go_wp2_with fail
    all_goals
      refine (open_short _ _ _ _ _ (by omega)).mono ?_
      rintro e w8 ⟨rfl, b8⟩
      have B8 := below_chain B7 b8
      have s7 := rd_str (r7.below b8)
      have s8 := rd_str (q7.below b8)
      clear B7 t7 r7 q7 b8
      go_wp2_with fail
      go_ret
      exact ⟨rfl, B8⟩

section
variable {H : Type} {enc : TypeId × Value → H}
theorem long_main (W : World) (base : Nat) (v0 : Value) {d0 : DataW H} {p0 : List MemPlace} (o0 : Value.okWide Try.prog W .any base 22 v0) (h0 : DataW.Trod enc Try.prog W 0 (fun _ => true) true 22 v0 d0 p0) :
    Calls Try.prog 7 #[v0] W fun e W' => e = .returned (.bool true) ∧ Below W.heap.size W W' := by
  obtain ⟨A, n, cap, l, rfl, hl⟩ := op_bytes Try.underlying22 Try.underlying5 (by kernel_rfl) o0 h0
  exact long_walk A n cap l W hl
end

end Go.Proofs.Ytfencoklpnifaaa.CrcLaw
