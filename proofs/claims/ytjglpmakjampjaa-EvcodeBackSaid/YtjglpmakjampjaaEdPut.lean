/-
  Contracts of layer 5: encode (its closures write one variable), Put.
-/
import Derived.Test.YtjglpmakjampjaaEdConc
import Derived.Test.YtjglpmakjampjaaEcTake
import Derived.Test.YtjglpmakjampjaaEvApiB
import Derived.OneCell
namespace Go.Proofs.Ytjglpmakjampjaa.EdWalk
open Go.RowKit Go.Proofs.Ytjglpmakjampjaa.MemRow Go.Proofs.Ytjglpmakjampjaa.Ev Go.Proofs.Ytjglpmakjampjaa.NameMath Go.Proofs.Ytjglpmakjampjaa.NameWalk Go.Proofs.Ytjglpmakjampjaa.EvWalk Go.Proofs.Ytjglpmakjampjaa.NumMath Go.Proofs.Ytjglpmakjampjaa.NumMem Go.Proofs.Ytjglpmakjampjaa.NumWalk Go.Proofs.Ytjglpmakjampjaa.EcWalk

/-- The variable that the closures write: block B holds a slice that reads as the bytes l. -/
def BoxB (w : World) (B : Nat) (l : List UInt8) : Prop := ∃ A cap, w.heap[B]? = some (.cells #[.slice A l.length cap] 22 (0, 0)) ∧ Rd w A l.length cap l
theorem BoxB.lt {w : World} {B : Nat} {l : List UInt8} (h : BoxB w B l) : B < w.heap.size := by
  obtain ⟨A, cap, hh, _⟩ := h
  exact lt_of_block hh
theorem BoxB.below {w w' : World} {B : Nat} {l : List UInt8} (h : BoxB w B l) (hb : Below w.heap.size w w') : BoxB w' B l := by
  have hlt := h.lt
  obtain ⟨A, cap, hh, hr⟩ := h
  exact ⟨A, cap, (hb.block B hlt).trans hh, hr.below hb⟩
theorem one_no_byte {w : World} {g : Nat} {v : Value} {t : TypeId} (h : w.heap[g]? = some (.cells #[v] t (0, 0))) (h0 : ∀ k, v ≠ .int .u8 k) : ∀ o k, w.cell? ⟨g, o, none⟩ ≠ some (.int .u8 k) := by
  intro o k
  rw [cell_of_row w g o _ t (0, 0) h]
  match o with
  | 0 => simpa using h0 k
  | n + 1 => simp
/-- A new row is laid, and the variable names it. -/
theorem box_store {w w1 : World} {B n : Nat} {l l' : List UInt8} (h : BoxB w B l) (hb : Below w.heap.size w w1) (hr : Row w1 w.heap.size 5 l') (hn : l'.length = n) (hm : n ≤ maxLen) :
    BoxB (w1.setCell ⟨B, 0, none⟩ (.slice (some ⟨w.heap.size, 0, none⟩) n n)) B l' ∧ w.grownBy (w1.setCell ⟨B, 0, none⟩ (.slice (some ⟨w.heap.size, 0, none⟩) n n)) (some B) := by
  subst hn
  have hlt := h.lt
  obtain ⟨A, cap, hh, _⟩ := h
  have hh1 := (hb.block B hlt).trans hh
  have hs := grown_set w1 B 0 (.slice (some ⟨w.heap.size, 0, none⟩) l'.length l'.length)
  refine ⟨⟨_, _, one_setCell hh1, (hr.rd hm).grown hs (one_no_byte hh1 (by simp))⟩, ?_⟩
  exact ⟨hs.os.trans hb.os, hs.tape.trans hb.tape, hs.output.trans hb.output, Nat.le_trans hb.size hs.size, fun k hk hne => (hs.block k (Nat.lt_of_lt_of_le hk hb.size) hne).trans (hb.block k hk)⟩

set_option maxHeartbeats 2000000 in
set_option maxRecDepth 100000 in
theorem encNum_any (B : Nat) (l : List UInt8) (x : Int) (w : World) (h : BoxB w B l) (hx : -9223372036854775808 ≤ x ∧ x ≤ 9223372036854775807) (hl : l.length ≤ 10000000) :
    Calls Try.prog 40 #[.int .i64 x, .pointer (some ⟨B, 0, none⟩)] w fun e w' => ∃ l', Hid (l' = l ++ enc x) ∧ e = .returned (.tuple #[]) ∧ BoxB w' B l' ∧ w.grownBy w' (some B) := by
  have H := Go.Lib.hid h
  obtain ⟨A, cap, hh, hr⟩ := h
  have k0 := cell_of_one hh
  have hlt := lt_of_block hh
  have HH := Go.Lib.hid hh
  have hel := enc_le x hx.1 hx.2
  obtain ⟨hx0, hx1⟩ := hx
  clear hh
  go_enter Try.func40, Try.ntmps40
  go_wp2_with fail
  refine (put_any A l.length cap l x w hr hx0 hx1 (by omega)).mono ?_
  rintro e w1 ⟨rfl, hr1, hb1⟩
  have hh1 := (hb1.block B hlt).trans HH.out
  have k1 := cell_of_one hh1
  have f1 := free_of_one hh1
  have bs := box_store H.out hb1 hr1 (n := l.length + (enc x).length) (by rw [List.length_append]) (by unfold maxLen; omega)
  have BS := Go.Lib.hid bs
  clear hh1 bs hr1 hr k0
  generalize (enc x).length = q at *
  go_wp2_with fail
  go_end0
  exact ⟨_, Go.Lib.hid rfl, rfl, BS.out.1, BS.out.2⟩

set_option maxHeartbeats 2000000 in
set_option maxRecDepth 100000 in
theorem encText_any (B : Nat) (l : List UInt8) (s : ByteArray) (w : World) (h : BoxB w B l) (hs : s.size ≤ 1000) (hl : l.length ≤ 10000000) :
    Calls Try.prog 42 #[.string s, .pointer (some ⟨B, 0, none⟩)] w fun e w' => ∃ l', Hid (l' = l ++ txt s) ∧ e = .returned (.tuple #[]) ∧ BoxB w' B l' ∧ w.grownBy w' (some B) := by
  have H := Go.Lib.hid h
  obtain ⟨A, cap, hh, hr⟩ := h
  have k0 := cell_of_one hh
  have hlt := lt_of_block hh
  have HH := Go.Lib.hid hh
  have hel := enc_le (s.size : Int) (by omega) (by omega)
  clear hh
  go_enter Try.func42, Try.ntmps42
  go_wp2_with fail
  refine (putText_any A l.length cap l s w hr (by omega) (by omega)).mono ?_
  rintro e w1 ⟨rfl, hr1, hb1⟩
  have hh1 := (hb1.block B hlt).trans HH.out
  have k1 := cell_of_one hh1
  have f1 := free_of_one hh1
  rw [List.append_assoc] at hr1
  have bs := box_store H.out hb1 hr1 (n := l.length + ((enc (s.size : Int)).length + s.size)) (by rw [List.length_append, List.length_append, size_list]) (by unfold maxLen; omega)
  have BS := Go.Lib.hid bs
  clear hh1 bs hr1 hr k0
  generalize (enc (s.size : Int)).length = q at *
  go_wp2_with fail
  go_end0
  exact ⟨_, Go.Lib.hid rfl, rfl, BS.out.1, BS.out.2⟩

end Go.Proofs.Ytjglpmakjampjaa.EdWalk
