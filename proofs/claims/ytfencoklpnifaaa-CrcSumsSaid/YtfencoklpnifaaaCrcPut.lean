/-
  Contracts of layer 2 (crc): putSum, takeSum.
-/
import Derived.Test.YtfencoklpnifaaaCrcNew
namespace Go.Proofs.Ytfencoklpnifaaa.CrcWalk
open Go.RowKit Go.Proofs.Ytfencoklpnifaaa.CrcMath Go.Proofs.Ytfencoklpnifaaa.NumMem

theorem row_set (L X : List UInt8) (o k : Nat) (c : UInt8) (hk : X.length = k) (ho : o + k < L.length) : (L.take o ++ (X ++ L.drop (o + k))).set (o + k) c = L.take o ++ ((X ++ [c]) ++ L.drop (o + (k + 1))) := by
  subst hk
  have h1 : (L.take o).length = o := by simp; omega
  rw [List.set_append_right _ _ (by omega), h1, Nat.add_sub_cancel_left, List.set_append_right _ _ (by omega), Nat.sub_self, List.drop_eq_getElem_cons ho]
  simp [Nat.add_assoc]

/-- The state of putSum behind k bytes. -/
structure PutAt (w wr : World) (g o : Nat) (t : TypeId) (L : List UInt8) (v k : Nat) : Prop where
  row : Row wr g t (L.take o ++ ((le4 v).take k ++ L.drop (o + k)))
  grown : w.grownBy wr (some g)
  size : wr.heap.size = w.heap.size

theorem putAt_start {w : World} {g o : Nat} {t : TypeId} {L : List UInt8} {v : Nat} (h : Row w g t L) : PutAt w w g o t L v 0 :=
  ⟨by simpa using h, ⟨rfl, rfl, rfl, Nat.le_refl _, fun _ _ _ => rfl⟩, rfl⟩
theorem putAt_cell {w wr : World} {g o : Nat} {t : TypeId} {L : List UInt8} {v k : Nat} (h : PutAt w wr g o t L v k) (hk : k < 4) (ho : o + 4 ≤ L.length) : (∃ x, wr.cell? ⟨g, o + k, none⟩ = some x) ∧ wr.frozen? ⟨g, o + k, none⟩ = false := by
  refine ⟨⟨_, h.row.cell (i := o + k) ?_⟩, h.row.frozen _⟩
  simp only [List.length_append, List.length_take, List.length_drop, le4_length]
  omega
theorem putAt_step {w wr : World} {g o : Nat} {t : TypeId} {L : List UInt8} {v k : Nat} (h : PutAt w wr g o t L v k) (hk : k < 4) (ho : o + 4 ≤ L.length) (x : Int) (hx : x = (((le4 v).getD k 0).toNat : Int)) :
    PutAt w (wr.setCell ⟨g, o + k, none⟩ (.int .u8 x)) g o t L v (k + 1) := by
  subst hx
  refine ⟨?_, grown_setCell h.grown _ _, by simpa [World.setCell] using h.size⟩
  have h2 := h.row.set_ (o + k) ((le4 v).getD k 0)
  rw [row_set L _ o k _ (by rw [List.length_take, le4_length]; omega) (by omega)] at h2
  have e : (le4 v).take (k + 1) = (le4 v).take k ++ [(le4 v).getD k 0] := by
    have hk4 : k < (le4 v).length := by rw [le4_length]; exact hk
    rw [List.take_succ_eq_append_getElem hk4, List.getD, List.getElem?_eq_getElem hk4]
    rfl
  rw [e]
  exact h2

theorem le4_at (v k : Nat) (hk : k < 4) : (((le4 v).getD k 0).toNat : Int) = (v : Int) / 2 ^ (8 * k) % 256 := by
  rcases (by omega : k = 0 ∨ k = 1 ∨ k = 2 ∨ k = 3) with rfl | rfl | rfl | rfl
  · show ((v.toUInt8.toNat : Nat) : Int) = (v : Int) / 1 % 256
    rw [u8]; omega
  · show (((v / 256).toUInt8.toNat : Nat) : Int) = (v : Int) / 256 % 256
    rw [u8]; omega
  · show (((v / 65536).toUInt8.toNat : Nat) : Int) = (v : Int) / 65536 % 256
    rw [u8]; omega
  · show (((v / 16777216).toUInt8.toNat : Nat) : Int) = (v : Int) / 16777216 % 256
    rw [u8]; omega

set_option maxHeartbeats 1000000 in
theorem putSum_any (g o c : Nat) (L : List UInt8) (v : Nat) (w : World) (h : Row w g 5 L) (ho : o + 4 ≤ L.length) :
    Calls Try.prog 22 #[.slice (some ⟨g, o, none⟩) 4 c, .int .u32 (v : Int)] w fun e w' => e = .returned (.tuple #[]) ∧ Row w' g 5 (L.take o ++ (le4 v ++ L.drop (o + 4))) ∧ w.grownBy w' (some g) ∧ w'.heap.size = w.heap.size := by
  go_enter Try.func22, Try.ntmps22
  go_wp2
  go_loopw [5] (fun i wr => ∃ k : Nat, k ≤ 4 ∧ i = .int .i64 k ∧ PutAt w wr g o 5 L v k) (fun i _ => 4 - (intOf i).toNat)
  case atStart => exact ⟨0, by omega, rfl, putAt_start h⟩
  case round =>
    obtain ⟨k, hk, rfl, hf⟩ := hrel
    by_cases hlt : k < 4
    · obtain ⟨⟨x, hx⟩, hfr⟩ := putAt_cell hf hlt ho
      have hs := putAt_step hf hlt ho
      have HS := Go.Lib.hid hs
      clear hs
      have e1 := le4_at v k hlt
      have E1 := Go.Lib.hid e1
      clear e1
      go_wp2
      go_roundw
      case rel => exact ⟨k + 1, by omega, by go_num, HS.out _ E1.out.symm⟩
      case measure => simp [intOf]; omega
    · obtain rfl : k = 4 := by omega
      go_wp2
      go_end0
      have hr := hf.row
      rw [List.take_of_length_le (l := le4 v) (by rw [le4_length]; exact Nat.le_refl _)] at hr
      exact ⟨rfl, hr, hf.grown, hf.size⟩

theorem word_snoc (l : List UInt8) (c : UInt8) : word (l ++ [c]) = word l + c.toNat * 2 ^ (8 * l.length) := by
  induction l with
  | nil => simp [word]
  | cons d l ih =>
    simp only [List.cons_append, word, List.length_cons, ih]
    have e : 2 ^ (8 * (l.length + 1)) = 256 * 2 ^ (8 * l.length) := by
      rw [Nat.mul_add, Nat.pow_add, Nat.mul_comm]
    rw [e, Nat.mul_add, Nat.add_assoc, Nat.mul_left_comm]
theorem word_take (l : List UInt8) (k : Nat) (h : k < l.length) : word (l.take (k + 1)) = word (l.take k) + (l.getD k 0).toNat * 2 ^ (8 * k) := by
  have e : (l.take k).length = k := by rw [List.length_take]; omega
  rw [List.take_succ_eq_append_getElem h, word_snoc, e]
  simp [List.getD, h]
/-- A byte more, above the others. -/
theorem or_word (x c k : Nat) (hk : k < 4) (hc : c < 256) (hx : x < 2 ^ (8 * k)) : bits .or .u32 (x : Int) (IntKind.u32.wrap ((c : Int) * 2 ^ (8 * k))) = ((x + c * 2 ^ (8 * k) : Nat) : Int) := by
  have key : ∀ m : Nat, m = 2 ^ (8 * k) → c * m < 4294967296 → bits .or .u32 (x : Int) (IntKind.u32.wrap ((c : Int) * 2 ^ (8 * k))) = ((x + c * 2 ^ (8 * k) : Nat) : Int) := by
    intro m hm hlt
    have hc' : c * 2 ^ (8 * k) < 4294967296 := by rw [← hm]; exact hlt
    have e1 : ((c : Int) * 2 ^ (8 * k)) = ((c * 2 ^ (8 * k) : Nat) : Int) := by push_cast; rfl
    have e2 : IntKind.u32.wrap ((c * 2 ^ (8 * k) : Nat) : Int) = ((c * 2 ^ (8 * k) : Nat) : Int) := by rw [IntKind.wrap_u32]; omega
    have hx4 : x < 4294967296 := by
      have : 2 ^ (8 * k) ≤ 2 ^ 32 := Nat.pow_le_pow_right (by omega) (by omega)
      omega
    rw [e1, e2, u32_or_nat _ _ hx4 hc']
    congr 1
    rw [Nat.or_comm, Nat.mul_comm, ← Nat.two_pow_add_eq_or_of_lt hx, Nat.add_comm]
  rcases (by omega : k = 0 ∨ k = 1 ∨ k = 2 ∨ k = 3) with rfl | rfl | rfl | rfl
  · exact key 1 rfl (by omega)
  · exact key 256 rfl (by omega)
  · exact key 65536 rfl (by omega)
  · exact key 16777216 rfl (by omega)

set_option maxHeartbeats 1000000 in
theorem takeSum_any (A : Option Addr) (cap : Nat) (l : List UInt8) (w : World) (h : Rd w A 4 cap l) :
    Calls Try.prog 20 #[.slice A 4 cap] w fun e w' => e = .returned (.int .u32 (word l : Nat)) ∧ w = w' := by
  have hl := h.len
  have HL := Go.Lib.hid hl
  clear hl
  obtain ⟨b, o, rfl, hbl, hc⟩ := h.at_ (by omega)
  have HC := Go.Lib.hid hc
  clear hc
  go_enter Try.func20, Try.ntmps20
  go_wp2
  go_loop [3, 5] (fun r i => ∃ k : Nat, k ≤ 4 ∧ r = .int .u32 ((word (l.take k) : Nat) : Int) ∧ i = .int .i64 k) (fun _ i => 4 - (intOf i).toNat)
  case atStart => exact ⟨0, by omega, rfl, rfl⟩
  case round =>
    obtain ⟨k, hk, rfl, rfl⟩ := hrel
    by_cases hlt : k < 4
    · have hck := HC.out k hlt
      have hs := word_take l k (by rw [HL.out]; exact hlt)
      have hx := word_lt (l.take k)
      have ek : (l.take k).length = k := by rw [List.length_take, HL.out]; omega
      rw [ek, show (256 : Nat) = 2 ^ 8 from rfl, ← Nat.pow_mul] at hx
      have hcl := UInt8.toNat_lt (l.getD k 0)
      generalize (l.getD k 0).toNat = c at *
      generalize word (l.take k) = x at *
      have e1 := or_word x c k hlt hcl hx
      rw [← hs, IntKind.wrap_u32] at e1
      clear ek hs hx h
      go_wp2
      go_round
      case rel => exact ⟨k + 1, by omega, by first | rfl | rw [e1], by go_num⟩
      case measure => simp [intOf]; omega
    · obtain rfl : k = 4 := by omega
      go_wp2
      go_ret
      refine ⟨ret_int ?_, rfl⟩
      rw [List.take_of_length_le (by rw [HL.out]; exact Nat.le_refl _)]

end Go.Proofs.Ytfencoklpnifaaa.CrcWalk
