/-
  Walks of the statements of layer 1: NumBehind.
-/
import Derived.Test.YtegpjgopakdhcaaNumLawB
import Derived.Deep.RegionHeld3
import Derived.Deep.DrawnRows
namespace Go.Proofs.Ytegpjgopakdhcaa.NumLaw
open Go.RowKit Go.WideShapes Go.ChangeShapes Go.Proofs.Ytegpjgopakdhcaa.NumMath Go.Proofs.Ytegpjgopakdhcaa.NumMem Go.Proofs.Ytegpjgopakdhcaa.NumWalk Go.Proofs.Ytegpjgopakdhcaa.Open
open Go.Lib (uvarint zigzag)
attribute [local go_sem ↓] Go.wp_at_zero Go.wp_at_succ

/-- make([]byte, 0, 200). -/
theorem make_200 : ∃ C : Array Value, C.size = 200 ∧ ∀ W : World, (Instr.makeSlice 22 (.int .i64 0) (.int .i64 200)).run Try.prog W = .ok (.slice (some ⟨W.heap.size, 0, none⟩) 0 200) (W.alloc (.cells C 5)) := by
  have hi := u8_info
  obtain ⟨i, h1, h2, h3, h4⟩ : ∃ i, Try.prog.info? 5 = some i ∧ i.zero = some (.int .u8 0) ∧ i.size = 1 ∧ i.bytes = 1 := by
    cases hq : Try.prog.info? 5 with
    | none => simp [hq] at hi
    | some i => simp [hq] at hi; exact ⟨i, rfl, hi.1, hi.2.1, hi.2.2⟩
  refine ⟨madeCells (Value.int .u8 0).cells (200 * i.size), by rw [size_madeCells, h3], fun W => ?_⟩
  exact run_make W 22 5 i (.int .u8 0) Try.underlying22 h1 h2 .i64 .i64 0 200 (by omega) (by omega) (by rw [h4]; decide) (by omega)

theorem cat_eq (a b : List UInt8) : (({ data := a.toArray } : ByteArray) ++ { data := b.toArray }) = ⟨(a ++ b).toArray⟩ := by
  apply ByteArray.ext
  simp

set_option maxRecDepth 100000 in
set_option maxHeartbeats 4000000 in
theorem behind_walk (A : Option Addr) (n cap : Nat) (l : List UInt8) (x y : Int) (w : World) (hl : Rd w A n cap l) (h0 : -9223372036854775808 ≤ x) (h1 : x ≤ 9223372036854775807) (hy0 : -9223372036854775808 ≤ y) (hy1 : y ≤ 9223372036854775807) :
    Calls Try.prog 9 #[.slice A n cap, .int .i64 x, .int .i64 y] w fun e w' => e = .returned (.bool true) ∧ Below w.heap.size w w' := by
  have hcap := hl.le_cap
  have hmax := hl.2.2.1
  unfold maxLen at hmax
  obtain ⟨C, hC, hmk⟩ := make_200
  go_enter Try.func9, Try.ntmps9
  go_wp2_with fail
  refine (shown_any _).mono ?_
  rintro e w1 ⟨rfl, B1⟩
  have r1 := hl.below B1
  go_upto_if 14 with (fail)
  go_cut [0] (fun v wx => w1 = wx ∧ ∃ A' n' cap' l', v = .slice A' n' cap' ∧ n' ≤ 60 ∧ Rd w1 A' n' cap' l')
  case first =>
    go_wp2_with fail
    · go_meet
      exact ⟨rfl, _, _, _, _, rfl, by omega, r1.first (by omega)⟩
    · go_meet
      exact ⟨rfl, _, _, _, _, rfl, by omega, r1⟩
  case rest =>
    obtain ⟨rfl, A', n', cap', l', rfl, hn', r2⟩ := hcut
    clear r1 hl hcap hmax
    have hln := r2.len
    have HLN := Go.Lib.hid hln
    clear hln
    have x10 := enc_le x h0 h1
    have y10 := enc_le y hy0 hy1
    have ba : Below w1.heap.size w1 (w1.alloc (.cells C 5)) := (Below.refl _ _).alloc (Nat.le_refl _) _
    have r3 := r2.below ba
    have oe : Own (w1.alloc (.cells C 5)) w1.heap.size 5 (some ⟨w1.heap.size, 0, none⟩) 0 200 [] := World.ownsRow_made w1 C 200 (Nat.le_refl _) (by unfold maxLen; omega) (by rw [hC])
    clear hC
    go_wp2_with (first
      | (at_builtin; refine wpList_append_fresh rfl (.tmp 17) (.tmp 18) 22 rfl 5 Try.underlying22 u8_info rfl rfl oe r3 (by omega) ba.size w1 ba ?_; intro A5 c5 w5 o5 b5))
    have B5 := below_chain B1 b5
    have r5 := r2.below b5
    clear oe r3 ba r2 b5 B1 hmk
    refine (put_any _ _ _ _ x _ o5.rd h0 h1 (by omega)).mono ?_
    rintro e w6 ⟨rfl, hr6, hb6⟩
    have t6 := row_rd hr6 (by rw [List.length_append, HLN.out]; omega)
    rw [List.length_append, HLN.out] at t6
    have q6 := o5.rd.below hb6
    have r6 := r5.below hb6
    have B6 := below_chain B5 hb6
    clear r5 o5 hr6 hb6 B5
    go_wp2_with fail
    refine (put_any _ _ _ _ y _ q6 hy0 hy1 (by omega)).mono ?_
    rintro e w7 ⟨rfl, hr7, hb7⟩
    have u7 := row_rd hr7 (by rw [List.length_append, HLN.out]; omega)
    rw [List.length_append, HLN.out] at u7
    have t7 := t6.below hb7
    have q7 := q6.below hb7
    have r7 := r6.below hb7
    have B7 := below_chain B6 hb7
    clear t6 q6 r6 B6 hb7 hr7
    have c1 := cat_eq l' (enc x)
    have c2 := cat_eq l' (enc y)
    have st := rd_str t7
    have su := rd_str u7
    have sq := rd_str q7
    have sr := rd_str r7
    have lx : l'.length + (enc x).length ≤ 9223372036854775807 := by rw [HLN.out]; omega
    have ly : l'.length + (enc y).length ≤ 9223372036854775807 := by rw [HLN.out]; omega
    generalize hex : enc x = ex at *
    generalize hey : enc y = ey at *
    have HX := Go.Lib.hid hex
    have HY := Go.Lib.hid hey
    clear hex hey
    go_wp2_with fail
    refine wp_region_noPanic ?_
    go_region_held (fun w' => (convert 22 9 (.slice (some ⟨w5.heap.size, 0, none⟩) (n' + ex.length) (n' + ex.length))).run Try.prog w' = .ok (.string ⟨(l' ++ ex).toArray⟩) w' ∧ (convert 22 9 (.slice (some ⟨w6.heap.size, 0, none⟩) (n' + ey.length) (n' + ey.length))).run Try.prog w' = .ok (.string ⟨(l' ++ ey).toArray⟩) w' ∧ (convert 22 9 (.slice A5 n' c5)).run Try.prog w' = .ok (.string ⟨l'.toArray⟩) w' ∧ (convert 22 9 (.slice A' n' cap')).run Try.prog w' = .ok (.string ⟨l'.toArray⟩) w')
      (first | exact ⟨rd_str t7.drew, rd_str u7.drew, rd_str q7.drew, rd_str r7.drew⟩ | exact ⟨rd_str t9, rd_str u9, rd_str q9, rd_str r9⟩ | exact ⟨rd_str t8, rd_str u8, rd_str q8, rd_str r8⟩ | exact ⟨st, su, sq, sr⟩)
      (first
        | (go_at_call_of 12 (Value.int IntKind.i64 x); refine (putNil_any x _ h0 h1).mono ?_; rintro e w8 ⟨rfl, hr8, hb8⟩; rw [HX.out] at hr8 ⊢; have t8 := t7.drew.below hb8; have u8 := u7.drew.below hb8; have q8 := q7.drew.below hb8; have r8 := r7.drew.below hb8; have B8 : Below w.heap.size w w8 := below_chain B7.drew hb8; have sx : (convert 22 9 (.slice (some ⟨w7.heap.size, 0, none⟩) ex.length ex.length)).run Try.prog w8 = .ok (.string ⟨ex.toArray⟩) w8 := rd_str (row_rd hr8 (by omega)); clear hb8 hr8)
        | (go_at_call_of 12 (Value.int IntKind.i64 y); refine (putNil_any y _ hy0 hy1).mono ?_; rintro e w9 ⟨rfl, hr9, hb9⟩; rw [HY.out] at hr9 ⊢; have t9 := t8.below hb9; have u9 := u8.below hb9; have q9 := q8.below hb9; have r9 := r8.below hb9; have B9 : Below w.heap.size w w9 := below_chain B8 hb9; have sy := rd_str (row_rd hr9 (by omega)); clear hb9 hr9))
    all_goals (refine NoPanic.normal ?_)
    all_goals (go_wp2_with fail)
    all_goals (go_ret; exact ⟨rfl, B9⟩)

section
variable {H : Type} {enc : TypeId × Value → H}
theorem behind_main (W : World) (base : Nat) (v0 v1 v2 : Value) {d0 d1 d2 : DataW H} {p0 p1 p2 : List MemPlace} (o0 : Value.okWide Try.prog W .any base 22 v0) (o1 : Value.okWide Try.prog W .any base 3 v1) (o2 : Value.okWide Try.prog W .any base 3 v2)
    (h0 : DataW.Trod enc Try.prog W 0 (fun _ => true) true 22 v0 d0 p0) (h1 : DataW.Trod enc Try.prog W 0 (fun _ => true) true 3 v1 d1 p1) (h2 : DataW.Trod enc Try.prog W 0 (fun _ => true) true 3 v2 d2 p2) :
    Calls Try.prog 9 #[v0, v1, v2] W fun e W' => e = .returned (.bool true) ∧ Below W.heap.size W W' := by
  obtain ⟨A, n, cap, l, rfl, hl⟩ := op_bytes Try.underlying22 Try.underlying5 (by kernel_rfl) o0 h0
  obtain ⟨x, rfl, a1, a2⟩ := op_i64 Try.underlying3 o1 h1
  obtain ⟨y, rfl, b1, b2⟩ := op_i64 Try.underlying3 o2 h2
  exact behind_walk A n cap l x y W hl a1 a2 b1 b2
end

end Go.Proofs.Ytegpjgopakdhcaa.NumLaw
