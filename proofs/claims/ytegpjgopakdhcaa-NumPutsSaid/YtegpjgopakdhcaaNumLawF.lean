/-
  Walks of the statements of layer 1: NumPuts.
-/
import Derived.Test.YtegpjgopakdhcaaNumRefPut
import Derived.Test.YtegpjgopakdhcaaNumLawB
import Derived.Deep.RegionLaw
import Derived.Deep.DrawnRows
namespace Go.Proofs.Ytegpjgopakdhcaa.NumLaw
open Go.RowKit Go.WideShapes Go.ChangeShapes Go.Proofs.Ytegpjgopakdhcaa.NumMath Go.Proofs.Ytegpjgopakdhcaa.NumMem Go.Proofs.Ytegpjgopakdhcaa.NumWalk Go.Proofs.Ytegpjgopakdhcaa.Open
open Go.Lib (uvarint zigzag)
attribute [local go_sem ↓] Go.wp_at_zero Go.wp_at_succ

theorem puts_len (l : List UInt8) (s : ByteArray) : (l ++ enc (s.size : Int) ++ s.data.toList).length = l.length + ((enc (s.size : Int)).length + s.size) := by
  simp only [List.length_append]
  have : s.data.toList.length = s.size := by simp
  omega

set_option maxRecDepth 100000 in
set_option maxHeartbeats 4000000 in
theorem puts_walk (A : Option Addr) (n cap : Nat) (l : List UInt8) (x : Int) (s : ByteArray) (w : World) (hl : Rd w A n cap l) (h0 : -9223372036854775808 ≤ x) (h1 : x ≤ 9223372036854775807) (hs : s.size ≤ maxLen) :
    Calls Try.prog 3 #[.slice A n cap, .int .i64 x, .string s] w fun e w' => e = .returned (.bool true) ∧ Below w.heap.size w w' := by
  have hcap := hl.le_cap
  have hmax := hl.2.2.1
  unfold maxLen at hmax hs
  go_enter Try.func3, Try.ntmps3
  go_wp2_with fail
  refine (shown_any _).mono ?_
  rintro e w1 ⟨rfl, B1⟩
  have r1 := hl.below B1
  go_upto_if 11 with (fail)
  go_cut [0] (fun v wx => w1 = wx ∧ ∃ A' n' cap' l', v = .slice A' n' cap' ∧ n' ≤ 100 ∧ Rd w1 A' n' cap' l')
  case first =>
    go_wp2_with fail
    · go_meet
      exact ⟨rfl, _, _, _, _, rfl, by omega, r1.first (by omega)⟩
    · go_meet
      exact ⟨rfl, _, _, _, _, rfl, by omega, r1⟩
  case rest =>
    obtain ⟨rfl, A', n', cap', l', rfl, hn', r2⟩ := hcut
    clear r1 hl hcap hmax
    go_upto_if 16 with (fail)
    go_cut [2] (fun v wx => w1 = wx ∧ ∃ s' : ByteArray, v = .string s' ∧ s'.size ≤ 300)
    case first =>
      go_wp2_with fail
      · go_meet
        exact ⟨rfl, _, rfl, by simp; omega⟩
      · go_meet
        exact ⟨rfl, _, rfl, by omega⟩
    case rest =>
      obtain ⟨rfl, s', rfl, hs'⟩ := hcut
      clear hs
      have hln := r2.len
      have HLN := Go.Lib.hid hln
      clear hln
      have x10 := enc_le x h0 h1
      have s10 := enc_le (s'.size : Int) (by omega) (by omega)
      have ow1 : Own (w1.alloc (.cells #[] 5)).drew w1.heap.size 5 (some ⟨w1.heap.size, 0, none⟩) 0 0 [] := Own.empty w1 5 (Nat.le_refl _)
      have bd1 : Below w1.heap.size w1 (w1.alloc (.cells #[] 5)).drew := ((Below.refl _ _).alloc (Nat.le_refl _) _).drew
      have rd1 := r2.below bd1
      go_wp2_with fail
      go_region_law (first
        | (refine step_append_fresh (by rfl) (.tmp 21) (.tmp 22) 22 rfl 5 Try.underlying22 u8_info rfl rfl ow1 rd1 (by omega) bd1.size w1 bd1 ?_; intro A5 c5 w5 o5 b5; clear ow1 bd1 rd1)
        | (go_simp; go_at_call 12; refine (put_any _ _ _ _ x _ o5.rd h0 h1 (by omega)).mono ?_; rintro e w6 ⟨rfl, hr6, hb6⟩; have t6 := row_rd hr6 (by rw [List.length_append, HLN.out]; omega); rw [List.length_append, HLN.out] at t6; have s6 := rd_str t6; have r6 := (r2.below b5).below hb6; have B6 := below_chain (below_chain B1 b5) hb6; clear o5 hr6 hb6)
        | (go_simp; go_at_call 13; refine (refPut_any _ _ _ _ x _ r6 h0 h1 (by omega)).mono ?_; rintro e w7 ⟨A7, c7, rfl, o7, b7⟩; have s7 := rd_str (t6.below b7); have s8 := rd_str o7.rd; have r7 := r6.below b7; have B7 := below_chain B6 b7; have bd7 : Below w7.heap.size w7 (w7.alloc (.cells #[] 5)) := (Below.refl _ _).alloc (Nat.le_refl _) _; have rd7 := r7.below bd7; clear r6 B6 o7 b7)
        | (refine step_append_fresh (by rfl) (.tmp 34) (.tmp 35) 22 rfl 5 Try.underlying22 u8_info rfl rfl (Own.empty w7 5 (Nat.le_refl _)) rd7 (by omega) bd7.size w7 bd7 ?_; intro A9 c9 w9 o9 b9; clear bd7 rd7 s7 s8)
        | (go_simp; go_at_call 14; refine (putText_any _ _ _ _ s' _ o9.rd (by omega) (by omega)).mono ?_; rintro e w10 ⟨rfl, hr10, hb10⟩; have t10 := row_rd hr10 (by rw [puts_len l' s', HLN.out]; omega); rw [puts_len l' s', HLN.out] at t10; have s10 := rd_str t10; have r10 := (r7.below b9).below hb10; have B10 := below_chain (below_chain B7 b9) hb10; clear o9 hr10 hb10 r7 B7 b9)
        | (go_simp; go_at_call 15; refine (refPutText_any _ _ _ _ s' _ r10 (by omega) (by omega)).mono ?_; rintro e w11 ⟨A11, c11, rfl, o11, b11⟩; have s11 := rd_str (t10.below b11); have s12 := rd_str o11.rd; have B11 := below_chain B10 b11; clear r10 B10 o11 b11))
      all_goals (go_wp2_with fail)
      all_goals (go_ret; exact ⟨rfl, B11⟩)

section
variable {H : Type} {enc : TypeId × Value → H}
theorem puts_main (W : World) (base : Nat) (v0 v1 v2 : Value) {d0 d1 d2 : DataW H} {p0 p1 p2 : List MemPlace} (o0 : Value.okWide Try.prog W .any base 22 v0) (o1 : Value.okWide Try.prog W .any base 3 v1) (o2 : Value.okWide Try.prog W .any base 9 v2)
    (h0 : DataW.Trod enc Try.prog W 0 (fun _ => true) true 22 v0 d0 p0) (h1 : DataW.Trod enc Try.prog W 0 (fun _ => true) true 3 v1 d1 p1) (h2 : DataW.Trod enc Try.prog W 0 (fun _ => true) true 9 v2 d2 p2) :
    Calls Try.prog 3 #[v0, v1, v2] W fun e W' => e = .returned (.bool true) ∧ Below W.heap.size W W' := by
  obtain ⟨A, n, cap, l, rfl, hl⟩ := op_bytes Try.underlying22 Try.underlying5 (by kernel_rfl) o0 h0
  obtain ⟨x, rfl, a1, a2⟩ := op_i64 Try.underlying3 o1 h1
  obtain ⟨s, rfl, hs⟩ := op_string Try.underlying9 o2 h2
  exact puts_walk A n cap l x s W hl a1 a2 hs
end

end Go.Proofs.Ytegpjgopakdhcaa.NumLaw
