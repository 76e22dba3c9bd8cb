/-
  Walks of the statements of layer 1: NumText.
-/
import Derived.Test.YtegpjgopakdhcaaNumShown
import Derived.Test.YtegpjgopakdhcaaNumApp
import Derived.Test.YtegpjgopakdhcaaOpen
import Derived.Deep.DeepCutAuto
namespace Go.Proofs.Ytegpjgopakdhcaa.NumLaw
open Go.RowKit Go.Proofs.Ytegpjgopakdhcaa.NumMath Go.Proofs.Ytegpjgopakdhcaa.NumMem Go.Proofs.Ytegpjgopakdhcaa.NumWalk
open Go.Lib (uvarint zigzag)

theorem putTextNil_any (s : ByteArray) (w : World) (hs : s.size ≤ 70368744177664) :
    Calls Try.prog 14 #[.slice none 0 0, .string s] w fun e w' => e = .returned (.slice (some ⟨w.heap.size, 0, none⟩) ((enc (s.size : Int)).length + s.size) ((enc (s.size : Int)).length + s.size)) ∧ Row w' w.heap.size 5 (enc (s.size : Int) ++ s.data.toList) ∧ Below w.heap.size w w' :=
  (putText_any none 0 0 [] s w (Rd.nil _) hs (by omega)).mono fun e w' ⟨he, hr, hb⟩ => ⟨by rw [he]; simp, by simpa using hr, hb⟩

/-- Reading a text that was put. -/
theorem text_back (s b : List UInt8) (hs : s.length ≤ 70368744177664) : textV (enc (s.length : Int) ++ s ++ b) = s ∧ textL (enc (s.length : Int) ++ s ++ b) = b ∧ textB (enc (s.length : Int) ++ s ++ b) false = false := by
  have hn := numV_enc (s.length : Int) (by omega) (by omega) (s ++ b)
  have hp := enc_pos (s.length : Int)
  rw [← List.append_assoc] at hn
  have hl : numL (enc (s.length : Int) ++ s ++ b) = s ++ b := by
    unfold numL
    rw [if_neg (by rw [hn.1]; omega), hn.1, List.append_assoc, List.drop_left]
  have hb : numB (enc (s.length : Int) ++ s ++ b) false = false := by
    unfold numB
    rw [if_neg (by rw [hn.1]; omega)]
  have hok : textOk (enc (s.length : Int) ++ s ++ b) := by
    unfold textOk
    rw [hn.2, hl]
    simp
    omega
  refine ⟨?_, ?_, ?_⟩
  · unfold textV
    rw [if_pos hok, hn.2, hl, Int.toNat_natCast, List.take_left]
  · unfold textL
    rw [if_pos hok, hn.2, hl, Int.toNat_natCast, List.drop_left]
  · unfold textB
    rw [if_pos hok, hb]

theorem str_cat (z : List UInt8) (s : ByteArray) : (({ data := z.toArray } : ByteArray) ++ s) = ⟨(z ++ s.data.toList).toArray⟩ := by
  apply ByteArray.ext
  simp

set_option maxHeartbeats 1000000 in
theorem text_walk (s : ByteArray) (A : Option Addr) (n cap : Nat) (l : List UInt8) (w : World) (hs : s.size ≤ maxLen) (hl : Rd w A n cap l) :
    Calls Try.prog 7 #[.string s, .slice A n cap] w fun e w' => e = .returned (.bool true) ∧ Below w.heap.size w w' := by
  have hcap := hl.le_cap
  have hmax := hl.2.2.1
  unfold maxLen at hs hmax
  go_enter Try.func7, Try.ntmps7
  go_wp2_with fail
  refine (shown_any _).mono ?_
  rintro e w1 ⟨rfl, B1⟩
  have r1 := hl.below B1
  go_upto_if 12 with (fail)
  go_cut [0] (fun v wx => w1 = wx ∧ ∃ s' : ByteArray, v = .string s' ∧ s'.size ≤ 200)
  case first =>
    go_wp2_with fail
    · go_meet
      exact ⟨rfl, _, rfl, by simp; omega⟩
    · go_meet
      exact ⟨rfl, _, rfl, by omega⟩
  case rest =>
    obtain ⟨rfl, s', rfl, hs'⟩ := hcut
    clear hs
    go_upto_if 17 with (fail)
    go_cut [1] (fun v wx => w1 = wx ∧ ∃ A' n' cap' l', v = .slice A' n' cap' ∧ n' ≤ 50 ∧ Rd w1 A' n' cap' l')
    case first =>
      go_wp2_with fail
      · go_meet
        exact ⟨rfl, _, _, _, _, rfl, by omega, r1.first (by omega)⟩
      · go_meet
        exact ⟨rfl, _, _, _, _, rfl, by omega, r1⟩
    case rest =>
      obtain ⟨rfl, A', n', cap', l', rfl, hn', r2⟩ := hcut
      clear r1 hl hcap hmax
      have hln := r2.len
      have HLN := Go.Lib.hid hln
      clear hln
      go_wp2_with fail
      refine (putTextNil_any s' _ (by omega)).mono ?_
      rintro e w2 ⟨rfl, hr2, hb2⟩
      have B2 := below_chain B1 hb2
      have r3 := r2.below hb2
      clear r2 hb2 B1
      go_wp2_with fail
      refine (putNil_any (s'.size : Int) _ (by omega) (by omega)).mono ?_
      rintro e w3 ⟨rfl, hr3, hb3⟩
      have B3 := below_chain B2 hb3
      have r4 := r3.below hb3
      have hp := enc_pos (s'.size : Int)
      have h10 := enc_le (s'.size : Int) (by omega) (by omega)
      have t3 := row_rd hr2 (by simp; omega)
      have t4 := t3.below hb3
      have n4 := row_rd hr3 (by omega)
      have tb := text_back s'.data.toList l' (by simp; omega)
      have es : ((s'.data.toList.length : Nat) : Int) = (s'.size : Int) := by simp
      rw [es] at tb
      have TB := Go.Lib.hid tb
      have hlt : (enc (s'.size : Int) ++ s'.data.toList).length = (enc (s'.size : Int)).length + s'.size := by simp
      rw [hlt] at t4
      clear r3 hb3 B2 t3 hr2 hr3 tb es hlt
      generalize enc (s'.size : Int) = z at *
      generalize hm : z.length = m at *
      have HM := Go.Lib.hid hm
      clear hm
      have ba : Below w3.heap.size w3 (w3.alloc (.cells #[] 5)) := (Below.refl _ _).alloc (Nat.le_refl _) _
      have t5 := t4.below ba
      go_wp2_with (first
        | (at_builtin; refine wpList_append_fresh rfl (.tmp 25) (.tmp 26) 22 rfl 5 Try.underlying22 u8_info rfl rfl (Own.empty w3 5 (Nat.le_refl _)) t5 (by omega) ba.size w3 ba ?_; intro A5 c5 w5 o5 b5)
        | (at_builtin; refine wpList_append_more rfl (.tmp 27) (.tmp 28) 22 rfl 5 Try.underlying22 u8_info rfl rfl o5 (r4.below b5) (by omega) b5.size w3 b5 ?_; intro A6 c6 w6 o6 b6))
      have B6 := below_chain B3 b6
      refine (newReader_any _ _ _ _ _ o6.rd (by omega)).mono ?_
      rintro e w7 ⟨g, rfl, hg, hr7, hb7⟩
      have B7 := below_chain B6 hb7
      have hg' : w.heap.size ≤ g := Nat.le_trans B6.size hg
      have st := rd_str ((t4.below b6).below hb7)
      have sn := rd_str ((n4.below b6).below hb7)
      obtain ⟨tb1, tb2, tb3⟩ := TB.out
      clear TB t4 n4 t5 o5 o6 b5 b6 ba r4 B3 B6 hb7 hg
      have hap := str_cat z s'
      have hzl : z.length + s'.size ≤ 9223372036854775807 := by rw [HM.out]; omega
      go_wp2_with fail
      refine (text_any g _ _ _ hr7).mono ?_
      rintro e w8 ⟨rfl, hr8, hg8⟩
      rw [tb2, tb3] at hr8
      rw [tb1]
      have B8 := below_grownBy B7 hg8 hg'
      clear tb1 tb2 tb3 hr7 hg8 B7 st sn hap hzl
      go_wp2_with fail
      refine (left_any g _ _ _ hr8).mono ?_
      rintro e w9 ⟨rfl, rfl⟩
      rw [HLN.out]
      go_wp2_with fail
      refine (bad_any g _ _ _ hr8).mono ?_
      rintro e w9 ⟨rfl, rfl⟩
      go_wp2_with fail
      go_ret
      exact ⟨rfl, B8⟩

section
variable {H : Type} {enc : TypeId × Value → H}
theorem text_main (W : World) (base : Nat) (v0 v1 : Value) {d0 d1 : DataW H} {p0 p1 : List MemPlace} (o0 : Value.okWide Try.prog W .any base 9 v0) (o1 : Value.okWide Try.prog W .any base 22 v1)
    (h0 : DataW.Trod enc Try.prog W 0 (fun _ => true) true 9 v0 d0 p0) (h1 : DataW.Trod enc Try.prog W 0 (fun _ => true) true 22 v1 d1 p1) :
    Calls Try.prog 7 #[v0, v1] W fun e W' => e = .returned (.bool true) ∧ Below W.heap.size W W' := by
  obtain ⟨s, rfl, hs⟩ := Open.op_string Try.underlying9 o0 h0
  obtain ⟨A, n, cap, l, rfl, hl⟩ := Open.op_bytes Try.underlying22 Try.underlying5 (by kernel_rfl) o1 h1
  exact text_walk s A n cap l W hs hl
end

end Go.Proofs.Ytegpjgopakdhcaa.NumLaw
