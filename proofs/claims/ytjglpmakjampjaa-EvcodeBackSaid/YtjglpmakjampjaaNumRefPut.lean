/-
  Contracts of the document's own answer for layer 1 (registrarref01): Put, PutText.
-/
import Derived.Test.YtjglpmakjampjaaNumPut
import Derived.Test.YtjglpmakjampjaaNumApp
import Derived.Laws.IdiomStrings
import Derived.Deep.DeepCutAuto
namespace Go.Proofs.Ytjglpmakjampjaa.NumWalk
open Go.RowKit Go.Proofs.Ytjglpmakjampjaa.NumMath Go.Proofs.Ytjglpmakjampjaa.NumMem
open Go.Lib (uvarint zigzag)

/-- The state of the loop: some bytes of u are laid down, v is what is left. -/
structure RPut (w wr : World) (A : Option Addr) (n cap : Nat) (l : List UInt8) (u v : Nat) : Prop where
  own : ∃ d, Own wr w.heap.size 5 A n cap (l ++ d) ∧ uvarint u = d ++ uvarint v
  lt : v < 18446744073709551616
  below : Below w.heap.size w wr

theorem RPut.n_le {w wr : World} {A : Option Addr} {n cap : Nat} {l : List UInt8} {u v : Nat} (h : RPut w wr A n cap l u v) (hu : u < 18446744073709551616) : n ≤ l.length + 10 := by
  obtain ⟨d, ho, hd⟩ := h.own
  have h1 := Go.Lib.uvarint_length64 hu
  have h2 := congrArg List.length hd
  have h3 := ho.len
  rw [List.length_append] at h2 h3
  omega

theorem rd_one (w : World) (t : TypeId) (x : Int) (c : UInt8) (hx : x = (c.toNat : Int)) : Rd (w.alloc (.cells #[.int .u8 x] t)) (some ⟨w.heap.size, 0, none⟩) 1 1 [c] := by
  subst hx
  exact (Row.new w t [c]).rd (by unfold maxLen; simp)

theorem rput_step {w w1 : World} {n : Nat} {l : List UInt8} {u v : Nat} {A' : Option Addr} {cap' : Nat} {d : List UInt8} (hd : uvarint u = d ++ uvarint v) (hv : 128 ≤ v) (hlt : v < 18446744073709551616)
    (ho : Own w1 w.heap.size 5 A' (n + 1) cap' (l ++ d ++ [(v % 128 + 128).toUInt8])) (hb : Below w.heap.size w w1) : RPut w w1 A' (n + 1) cap' l u (v / 128) :=
  ⟨⟨d ++ [(v % 128 + 128).toUInt8], by rw [← List.append_assoc]; exact ho, by rw [hd, Go.Lib.uvarint_big hv]; simp⟩, by omega, hb⟩

theorem wrap2 (x : Int) (h0 : 0 ≤ x) (h1 : x ≤ 9223372036854775807) : IntKind.u64.wrap (2 * IntKind.u64.wrap x) = 2 * x := by
  rw [IntKind.wrap_u64, IntKind.wrap_u64]
  omega

set_option maxRecDepth 100000 in
set_option maxHeartbeats 1000000 in
theorem refPut_any (A : Option Addr) (n cap : Nat) (l : List UInt8) (x : Int) (w : World) (h : Rd w A n cap l) (h0 : -9223372036854775808 ≤ x) (h1 : x ≤ 9223372036854775807) (hn : n ≤ 70368744177664) :
    Calls Try.prog 21 #[.slice A n cap, .int .i64 x] w fun e w' => ∃ A' cap', e = .returned (.slice A' (n + (enc x).length) cap') ∧ Own w' w.heap.size 5 A' (n + (enc x).length) cap' (l ++ enc x) ∧ Below w.heap.size w w' := by
  have hz := Go.Lib.zigzag_lt h0 h1
  have ba : Below w.heap.size w (w.alloc (.cells #[] 5)) := (Below.refl _ _).alloc (Nat.le_refl _) _
  have r1 := h.below ba
  have hl := h.len
  have HL := Go.Lib.hid hl
  clear hl
  have hez : x < 0 → 2 * -(x + 1) + 1 = ((zigzag x : Nat) : Int) := by
    intro hx
    unfold zigzag
    rw [if_neg (by omega)]
    omega
  have hep : 0 ≤ x → 2 * x = ((zigzag x : Nat) : Int) := by
    intro hx
    unfold zigzag
    rw [if_pos (by omega)]
    omega
  have HEZ := Go.Lib.hid hez
  have HEP := Go.Lib.hid hep
  have e0 : enc x = uvarint (zigzag x) := rfl
  rw [e0]
  clear hez hep e0
  go_enter Try.func21, Try.ntmps21
  go_upto_if 11 with (fail)
  go_cut [5] (fun t wx => w = wx ∧ t = .int .u64 ((zigzag x : Nat) : Int))
  case first =>
    by_cases hx : x < 0
    · go_wp2_with fail
      go_meet
      exact ⟨rfl, by rw [HEZ.out hx]⟩
    · go_wp2_with fail
      go_meet
      exact ⟨rfl, by rw [wrap2 x (by omega) h1, HEP.out (by omega)]⟩
  case rest =>
    obtain ⟨rfl, rfl⟩ := hcut
    clear HEZ HEP
    go_wp2_with (first
      | (at_builtin; refine wpList_append_fresh rfl (.tmp 18) (.tmp 19) 22 rfl 5 Try.underlying22 u8_info rfl rfl (Own.empty w 5 (Nat.le_refl _)) r1 (by omega) ba.size w ba ?_; intro A5 c5 w5 o5 b5))
    clear r1 ba h
    go_loopw [5, 6] (fun t o wr => ∃ (v : Nat) (A' : Option Addr) (n' c' : Nat), t = .int .u64 (v : Nat) ∧ o = .slice A' n' c' ∧ RPut w wr A' n' c' l (zigzag x) v) (fun t _ _ => (intOf t).toNat)
    case atStart => exact ⟨zigzag x, _, _, _, rfl, rfl, ⟨[], by simpa using o5, rfl⟩, hz, b5⟩
    case round =>
      obtain ⟨v, A', n', c', rfl, rfl, hp⟩ := hrel
      have hnl := hp.n_le hz
      have hv := hp.lt
      have hB := hp.below
      obtain ⟨d, ho, hd⟩ := hp.own
      have HDD := Go.Lib.hid hd
      have hn' : n' ≤ 70368744177674 := by rw [HL.out] at hnl; omega
      clear hd hnl o5 b5 hp
      by_cases h128 : 128 ≤ v
      · have bb : Below w.heap.size w (wr.alloc (.cells #[.int .u8 ((v : Int) % 128 + 128)] 5)) := hB.alloc hB.size _
        have rr := rd_one wr 5 ((v : Int) % 128 + 128) (v % 128 + 128).toUInt8 (by rw [toU8 (by omega)]; omega)
        have oo : Own (wr.alloc (.cells #[.int .u8 ((v : Int) % 128 + 128)] 5)) w.heap.size 5 A' n' c' (l ++ d) := ho.below ((Below.refl _ _).alloc (Nat.le_refl _) _)
        go_wp2_with (first
          | (at_builtin; refine wpList_append_more rfl (.tmp 23) (.tmp 28) 22 rfl 5 Try.underlying22 u8_info rfl rfl oo rr (by omega) bb.size w bb ?_; intro A6 c6 w6 o6 b6))
        go_roundw
        case rel => exact ⟨v / 128, _, _, _, by go_num, rfl, rput_step HDD.out h128 hv o6 b6⟩
        case measure => simp [intOf]; omega
      · have bb : Below w.heap.size w (wr.alloc (.cells #[.int .u8 (v : Int)] 5)) := hB.alloc hB.size _
        have rr := rd_one wr 5 (v : Int) v.toUInt8 (by rw [toU8 (by omega)])
        have oo : Own (wr.alloc (.cells #[.int .u8 (v : Int)] 5)) w.heap.size 5 A' n' c' (l ++ d) := ho.below ((Below.refl _ _).alloc (Nat.le_refl _) _)
        go_wp2_with (first
          | (at_builtin; refine wpList_append_more rfl (.tmp 32) (.tmp 35) 22 rfl 5 Try.underlying22 u8_info rfl rfl oo rr (by omega) bb.size w bb ?_; intro A6 c6 w6 o6 b6))
        go_ret
        have hd := HDD.out
        rw [Go.Lib.uvarint_small (x := v) (by omega)] at hd
        have hlen : n + (uvarint (zigzag x)).length = n' + 1 := by
          have h2 := ho.len
          rw [List.length_append, HL.out] at h2
          rw [hd, List.length_append]
          simp
          omega
        rw [hlen]
        refine ⟨A6, c6, rfl, ?_, b6⟩
        rw [hd, ← List.append_assoc]
        exact o6

/-- []byte(s): what it makes reads as s. -/
theorem rd_bytes (w : World) (e : TypeId) (s : ByteArray) (cap : Nat) (hc : s.size ≤ cap) (hcm : cap ≤ maxLen) (fr : Nat × Nat) :
    Rd (w.drew.alloc (.cells (bytesRow s cap) e fr)) (some ⟨w.heap.size, 0, none⟩) s.size cap s.data.toList := by
  refine Rd.of_block (heap_alloc_new w.drew _) (by simp) hc hcm fun i hi => ?_
  unfold bytesRow
  have hi' : i < s.data.toList.length := by simpa using hi
  rw [Array.getElem?_append_left (by simpa using hi), Array.getElem?_map]
  have hi2 : i < s.data.size := by simpa using hi
  have e1 : s.data.toList.getD i 0 = s.data[i] := by simp [List.getD, Array.getElem?_eq_getElem hi2]
  rw [Array.getElem?_eq_getElem hi2, e1]
  rfl

set_option maxRecDepth 100000 in
set_option maxHeartbeats 1000000 in
theorem refPutText_any (A : Option Addr) (n cap : Nat) (l : List UInt8) (s : ByteArray) (w : World) (h : Rd w A n cap l) (hn : n ≤ 35184372088832) (hs : s.size ≤ 35184372088832) :
    Calls Try.prog 26 #[.slice A n cap, .string s] w fun e w' => ∃ A' cap', e = .returned (.slice A' (n + (enc (s.size : Int)).length + s.size) cap') ∧ Own w' w.heap.size 5 A' (n + (enc (s.size : Int)).length + s.size) cap' (l ++ enc (s.size : Int) ++ s.data.toList) ∧ Below w.heap.size w w' := by
  have h10 := enc_le (s.size : Int) (by omega) (by omega)
  have hcv := fun (W : World) => run_bytes_of_string (P := Try.prog) W 9 22 5 s Try.underlying9 Try.underlying22 Try.underlying5
  go_enter Try.func26, Try.ntmps26
  go_wp2_with fail
  refine (refPut_any A n cap l (s.size : Int) _ h (by omega) (by omega) (by omega)).mono ?_
  rintro e w1 ⟨A1, c1, rfl, o1, b1⟩
  have hcv1 := hcv w1
  have hc1 := grownCap_ge w1 s.size 0 5
  have hc2 := grownCap_le_maxLen w1 s.size 0 5 (by unfold maxLen; omega)
  generalize hC : grownCap w1 s.size 0 5 = C at hcv1 hc1 hc2
  clear hC hcv
  have rr := rd_bytes w1 5 s C hc1 hc2 ((bytesRow s C).size, (bytesRow s C).size + 1)
  have bd : Below w1.heap.size w1 (w1.drew.alloc (.cells (bytesRow s C) 5 ((bytesRow s C).size, (bytesRow s C).size + 1))) := ((Below.refl _ _).drew).alloc (Nat.le_refl _) _
  have oo := o1.below bd
  have bb := b1.trans (bd.mono b1.size)
  generalize bytesRow s C = X at *
  clear o1 h
  go_wp2_with (first
    | (at_builtin; refine wpList_append_more rfl (.tmp 8) (.tmp 10) 22 rfl 5 Try.underlying22 u8_info rfl rfl oo rr (by omega) bb.size w bb ?_; intro A6 c6 w6 o6 b6))
  go_ret
  exact ⟨A6, c6, rfl, o6, b6⟩

end Go.Proofs.Ytjglpmakjampjaa.NumWalk
