/-
  Walks of the statements of layer 1: NumShort, NumCut.
-/
import Derived.Test.YtegpjgopakdhcaaNumShown
import Derived.Test.YtegpjgopakdhcaaOpen
namespace Go.Proofs.Ytegpjgopakdhcaa.NumLaw
open Go.RowKit Go.Proofs.Ytegpjgopakdhcaa.NumMath Go.Proofs.Ytegpjgopakdhcaa.NumMem Go.Proofs.Ytegpjgopakdhcaa.NumWalk
open Go.Lib (uvarint zigzag)

theorem str_ne {a b : List UInt8} (h : a ≠ b) : (a == b) = false := beq_eq_false_iff_ne.2 h

set_option maxHeartbeats 1000000 in
theorem short_walk (x y : Int) (w : World) (hx0 : -9223372036854775808 ≤ x) (hx1 : x ≤ 9223372036854775807) (hy0 : -9223372036854775808 ≤ y) (hy1 : y ≤ 9223372036854775807) :
    Calls Try.prog 6 #[.int .i64 x, .int .i64 y] w fun e w' => e = .returned (.bool true) ∧ Below w.heap.size w w' := by
  have p1 := enc_pos x
  have p2 := enc_le x hx0 hx1
  have q1 := enc_pos y
  have q2 := enc_le y hy0 hy1
  have hm : 0 ≤ x → x ≤ y → (enc x).length ≤ (enc y).length := enc_mono
  have he : x = y ∨ enc x ≠ enc y := by
    by_cases h : enc x = enc y
    · exact .inl (enc_inj h)
    · exact .inr h
  have HM := Go.Lib.hid hm
  have HE := Go.Lib.hid he
  clear hm he
  go_enter Try.func6, Try.ntmps6
  go_wp2_with fail
  refine (shown_any _).mono ?_
  rintro e w1 ⟨rfl, B1⟩
  go_wp2_with fail
  refine (putNil_any x _ hx0 hx1).mono ?_
  rintro e w2 ⟨rfl, hr2, hb2⟩
  have B2 := below_chain B1 hb2
  go_wp2_with fail
  refine (putNil_any y _ hy0 hy1).mono ?_
  rintro e w3 ⟨rfl, hr3, hb3⟩
  have B3 := below_chain B2 hb3
  have s2 := rd_str ((row_rd hr2 (by omega)).below hb3)
  have s3 := rd_str (row_rd hr3 (by omega))
  clear hr2 hr3 hb2 hb3 B1 B2
  have hml := HM.out
  rcases HE.out with rfl | hne
  · generalize enc x = a at *
    by_cases hxn : 0 ≤ x
    · clear HM HE hml
      go_wp2_with fail
      go_ret
      exact ⟨rfl, B3⟩
    · clear HM HE hml
      go_wp2_with fail
      go_ret
      exact ⟨rfl, B3⟩
  · have hbe := str_ne hne
    have hxy : (x == y) = false := by
      rw [beq_eq_false_iff_ne]
      rintro rfl
      exact hne rfl
    generalize enc x = a at *
    generalize enc y = b at *
    clear HM HE hne
    by_cases hxn : 0 ≤ x
    · by_cases hyx : x ≤ y
      · have hl := hml hxn hyx
        clear hml
        go_wp2_with fail
        go_ret
        exact ⟨rfl, B3⟩
      · clear hml
        go_wp2_with fail
        go_ret
        exact ⟨rfl, B3⟩
    · clear hml
      go_wp2_with fail
      go_ret
      exact ⟨rfl, B3⟩

set_option maxHeartbeats 1000000 in
theorem cut_walk (x m : Int) (w : World) (hx0 : -9223372036854775808 ≤ x) (hx1 : x ≤ 9223372036854775807) (hm0 : -9223372036854775808 ≤ m) (hm1 : m ≤ 9223372036854775807) :
    Calls Try.prog 8 #[.int .i64 x, .int .i64 m] w fun e w' => e = .returned (.bool true) ∧ Below w.heap.size w w' := by
  have p1 := enc_pos x
  have p2 := enc_le x hx0 hx1
  go_enter Try.func8, Try.ntmps8
  go_wp2_with fail
  refine (shown_any _).mono ?_
  rintro e w1 ⟨rfl, B1⟩
  go_wp2_with fail
  refine (putNil_any x _ hx0 hx1).mono ?_
  rintro e w2 ⟨rfl, hr2, hb2⟩
  have B2 := below_chain B1 hb2
  have r2 := row_rd hr2 (by omega)
  clear B1 hb2 hr2
  by_cases hneg : m < 0
  · generalize enc x = a at *
    go_wp2_with fail
    go_ret
    exact ⟨rfl, B2⟩
  · obtain ⟨k, rfl⟩ := Int.eq_ofNat_of_zero_le (by omega : 0 ≤ m)
    by_cases hk : (enc x).length ≤ k
    · generalize enc x = a at *
      go_wp2_with fail
      go_ret
      exact ⟨rfl, B2⟩
    · have hc0 : lenV ((enc x).take k) = 0 := lenV_cut (zigzag x) k (by show k < (enc x).length; omega)
      have r3 := r2.first (k := k) (by omega)
      have n1 : numV ((enc x).take k) = 0 := by unfold numV; rw [if_pos hc0]
      have l1 : numL ((enc x).take k) = [] := by unfold numL; rw [if_pos hc0]
      have b1 : numB ((enc x).take k) false = true := by unfold numB; rw [if_pos hc0]
      have n2 : numV [] = 0 := rfl
      have l2 : numL [] = [] := rfl
      have b2 : numB [] true = true := rfl
      have t2 : textV [] = [] := rfl
      generalize (enc x).take k = z at *
      generalize enc x = a at *
      clear hc0 r2
      go_wp2_with fail
      refine (newReader_any _ k _ z _ r3 (by omega)).mono ?_
      rintro e w3 ⟨g, rfl, hg, hr, hb3⟩
      have B3 := below_chain B2 hb3
      have hg' : w.heap.size ≤ g := Nat.le_trans B2.size hg
      clear B2 hb3 r3
      go_wp2_with fail
      refine (num_any g _ _ _ hr).mono ?_
      rintro e w4 ⟨rfl, hr4, hg4⟩
      rw [l1, b1] at hr4
      rw [n1]
      have B4 := below_grownBy B3 hg4 hg'
      clear hr hg4 B3 hg
      go_wp2_with fail
      refine (bad_any g _ _ _ hr4).mono ?_
      rintro e w5 ⟨rfl, rfl⟩
      go_wp2_with fail
      refine (left_any g _ _ _ hr4).mono ?_
      rintro e w5 ⟨rfl, rfl⟩
      go_wp2_with fail
      refine (num_any g _ _ _ hr4).mono ?_
      rintro e w5 ⟨rfl, hr5, hg5⟩
      rw [l2, b2] at hr5
      rw [n2]
      have B5 := below_grownBy B4 hg5 hg'
      clear hr4 hg5 B4
      go_wp2_with fail
      refine (text_any g _ _ _ hr5).mono ?_
      rintro e w6 ⟨rfl, hr6, hg6⟩
      rw [t2]
      have B6 := below_grownBy B5 hg6 hg'
      go_wp2_with fail
      go_ret
      exact ⟨rfl, B6⟩

section
variable {H : Type} {enc : TypeId × Value → H}
theorem short_main (W : World) (base : Nat) (v0 v1 : Value) {d0 d1 : DataW H} {p0 p1 : List MemPlace} (o0 : Value.okWide Try.prog W .any base 3 v0) (o1 : Value.okWide Try.prog W .any base 3 v1)
    (h0 : DataW.Trod enc Try.prog W 0 (fun _ => true) true 3 v0 d0 p0) (h1 : DataW.Trod enc Try.prog W 0 (fun _ => true) true 3 v1 d1 p1) :
    Calls Try.prog 6 #[v0, v1] W fun e W' => e = .returned (.bool true) ∧ Below W.heap.size W W' := by
  obtain ⟨x, rfl, a1, a2⟩ := Open.op_i64 Try.underlying3 o0 h0
  obtain ⟨y, rfl, b1, b2⟩ := Open.op_i64 Try.underlying3 o1 h1
  exact short_walk x y W a1 a2 b1 b2

theorem cut_main (W : World) (base : Nat) (v0 v1 : Value) {d0 d1 : DataW H} {p0 p1 : List MemPlace} (o0 : Value.okWide Try.prog W .any base 3 v0) (o1 : Value.okWide Try.prog W .any base 3 v1)
    (h0 : DataW.Trod enc Try.prog W 0 (fun _ => true) true 3 v0 d0 p0) (h1 : DataW.Trod enc Try.prog W 0 (fun _ => true) true 3 v1 d1 p1) :
    Calls Try.prog 8 #[v0, v1] W fun e W' => e = .returned (.bool true) ∧ Below W.heap.size W W' := by
  obtain ⟨x, rfl, a1, a2⟩ := Open.op_i64 Try.underlying3 o0 h0
  obtain ⟨y, rfl, b1, b2⟩ := Open.op_i64 Try.underlying3 o1 h1
  exact cut_walk x y W a1 a2 b1 b2
end

end Go.Proofs.Ytegpjgopakdhcaa.NumLaw
