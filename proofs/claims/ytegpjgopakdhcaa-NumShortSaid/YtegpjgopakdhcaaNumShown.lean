/-
  The head of all statements of layer 1: the document's examples (registrarlaw01.shown returns true, and changes nothing that was there).
-/
import Derived.Test.YtegpjgopakdhcaaNumReader
namespace Go.Proofs.Ytegpjgopakdhcaa.NumLaw
open Go.RowKit Go.Proofs.Ytegpjgopakdhcaa.NumMath Go.Proofs.Ytegpjgopakdhcaa.NumMem Go.Proofs.Ytegpjgopakdhcaa.NumWalk
open Go.Lib (uvarint zigzag)

theorem enc_0 : enc 0 = [0] := by
  show uvarint (zigzag 0) = [0]
  have z0 : zigzag 0 = 0 := rfl
  rw [z0, Go.Lib.uvarint_small (by omega)]
  rfl
theorem enc_m1 : enc (-1) = [1] := by
  show uvarint (zigzag (-1)) = [1]
  have z0 : zigzag (-1) = 1 := rfl
  rw [z0, Go.Lib.uvarint_small (by omega)]
  rfl
theorem enc_64 : enc 64 = [128, 1] := by
  show uvarint (zigzag 64) = [128, 1]
  have z0 : zigzag 64 = 128 := rfl
  rw [z0, Go.Lib.uvarint_big (by omega), Go.Lib.uvarint_small (by omega)]
  rfl

/-- What Put answers, as a slice that reads. -/
theorem row_rd {w : World} {g : Nat} {t : TypeId} {l : List UInt8} (h : Row w g t l) (hn : l.length ≤ 281474976710656) : Rd w (some ⟨g, 0, none⟩) l.length l.length l := h.rd (by unfold maxLen; omega)

/-- string(b), for the numbers of this program. -/
theorem rd_str {w : World} {A : Option Addr} {n cap : Nat} {l : List UInt8} (h : Rd w A n cap l) : (convert 22 9 (.slice A n cap)).run Try.prog w = .ok (.string ⟨l.toArray⟩) w :=
  h.string (P := Try.prog) 22 9 5 Try.underlying22 Try.underlying5 Try.underlying9

theorem below_chain {w w1 w2 : World} (h1 : Below w.heap.size w w1) (h2 : Below w1.heap.size w1 w2) : Below w.heap.size w w2 := h1.trans (h2.mono h1.size)
theorem below_grownBy {w w1 w2 : World} {g : Nat} (h1 : Below w.heap.size w w1) (h2 : w1.grownBy w2 (some g)) (hg : w.heap.size ≤ g) : Below w.heap.size w w2 :=
  h1.grown h2 h1.size (by rintro k ⟨rfl⟩; exact hg)

theorem undrew {w w' : World} {r : Option Nat} (h : w.drew.grownBy w' r) : w.grownBy w' r := ⟨h.os, h.tape, h.output, h.size, h.block⟩

theorem putNil_any (x : Int) (w : World) (h0 : -9223372036854775808 ≤ x) (h1 : x ≤ 9223372036854775807) :
    Calls Try.prog 12 #[.slice none 0 0, .int .i64 x] w fun e w' => e = .returned (.slice (some ⟨w.heap.size, 0, none⟩) (enc x).length (enc x).length) ∧ Row w' w.heap.size 5 (enc x) ∧ Below w.heap.size w w' :=
  (put_any none 0 0 [] x w (Rd.nil _) h0 h1 (by omega)).mono fun e w' ⟨he, hr, hb⟩ => ⟨by rw [he]; simp, by simpa using hr, hb⟩

theorem rd_two (w : World) (a b : UInt8) (t : TypeId) : Rd (w.alloc (.cells #[.int .u8 (a.toNat : Int), .int .u8 (b.toNat : Int)] t)) (some ⟨w.heap.size, 0, none⟩) 2 2 [a, b] :=
  (Row.new w t [a, b]).rd (by unfold maxLen; simp)

set_option maxHeartbeats 400000 in
theorem shown_any (w : World) : Calls Try.prog 11 #[] w fun e w' => e = .returned (.bool true) ∧ Below w.heap.size w w' := by
  have n64 : numV [128, 1] = 64 := by decide +kernel
  have l64 : numL [128, 1] = [] := by decide +kernel
  have b64 : numB [128, 1] false = false := by decide +kernel
  go_enter Try.func11, Try.ntmps11
  go_wp2_with fail
  refine (newReader_any _ 2 2 [128, 1] _ (rd_two w 128 1 5) (by omega)).mono ?_
  rintro e w1 ⟨g, rfl, hg, hr, hb⟩
  have B1 : Below w.heap.size w w1 := below_chain ((Below.refl _ _).alloc (Nat.le_refl _) _) hb
  have hg' : w.heap.size ≤ g := Nat.le_trans (by simp) hg
  clear hb hg
  go_wp2_with fail
  refine (putNil_any 0 _ (by omega) (by omega)).mono ?_
  rintro e w2 ⟨rfl, hr2, hb2⟩
  rw [enc_0] at hr2 ⊢
  have hs2 := rd_str (row_rd hr2 (by simp))
  simp only [List.length_cons, List.length_nil, Nat.zero_add] at hs2
  have B2 := below_chain B1 hb2
  have R2 := hr.below hb2
  clear hr B1 hb2 hr2
  go_wp2_with fail
  refine (putNil_any (-1) _ (by omega) (by omega)).mono ?_
  rintro e w3 ⟨rfl, hr3, hb3⟩
  rw [enc_m1] at hr3 ⊢
  have hs3 := rd_str (row_rd hr3 (by simp))
  simp only [List.length_cons, List.length_nil, Nat.zero_add] at hs3
  have B3 := below_chain B2 hb3
  have R3 := R2.below hb3
  clear R2 B2 hb3 hr3 hs2
  go_wp2_with fail
  refine (putNil_any 64 _ (by omega) (by omega)).mono ?_
  rintro e w4 ⟨rfl, hr4, hb4⟩
  rw [enc_64] at hr4 ⊢
  have hs4 := rd_str (row_rd hr4 (by simp))
  simp only [List.length_cons, List.length_nil, Nat.zero_add, Nat.reduceAdd] at hs4
  have B4 := below_chain B3 hb4
  have R4 := R3.below hb4
  clear R3 B3 hb4 hr4 hs3
  go_wp2_with fail
  refine (num_any g _ _ _ R4).mono ?_
  rintro e w5 ⟨rfl, hr5, hg5⟩
  rw [l64, b64] at hr5
  rw [n64]
  have B5 := below_grownBy B4 hg5 hg'
  clear R4 B4 hg5 hs4
  go_wp2_with fail
  refine (bad_any g _ _ _ hr5).mono ?_
  rintro e w6 ⟨rfl, rfl⟩
  go_wp2_with fail
  go_ret
  exact ⟨rfl, B5⟩

end Go.Proofs.Ytegpjgopakdhcaa.NumLaw
