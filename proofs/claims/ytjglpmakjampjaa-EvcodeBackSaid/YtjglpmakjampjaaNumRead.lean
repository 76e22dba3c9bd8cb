/-
  Contracts of layer 1 (num), decoding: decode, NewReader, fail, Num, Text, Left, Bad. A reader lies in a block of its own; a call changes that block alone.
-/
import Derived.Test.YtjglpmakjampjaaNumPut
namespace Go.Proofs.Ytjglpmakjampjaa.NumWalk
open Go.RowKit Go.Proofs.Ytjglpmakjampjaa.NumMath Go.Proofs.Ytjglpmakjampjaa.NumMem
open Go.Lib (uvarint zigzag)

/-- decode's state at the head of round k. -/
structure DecAt (l : List UInt8) (k q : Nat) : Prop where
  le : k ≤ l.length
  le10 : k ≤ 10
  lt : q < 18446744073709551616
  val : k ≤ 9 → q = valV (l.take k)
  all : ∀ j, j < k → 128 ≤ (l.getD j 0).toNat

theorem and128_fin : ∀ c : Fin 256, bits BinOp.and IntKind.u8 (c.val : Int) 128 = if 128 ≤ c.val then 128 else 0 := by decide +kernel
theorem andNot128_fin : ∀ c : Fin 256, bits BinOp.andNot IntKind.u8 (c.val : Int) 128 = ((c.val % 128 : Nat) : Int) := by decide +kernel

/-- The number so far, with the k-th byte. -/
def accV (q c k : Nat) : Nat := q ||| (c % 128 * 2 ^ (7 * k) % 18446744073709551616)

theorem acc_eq (q c k : Nat) (hq : q < 18446744073709551616) (hc : c < 256) :
    bits BinOp.or IntKind.u64 (q : Int) (IntKind.u64.wrap (IntKind.u64.wrap (bits BinOp.andNot IntKind.u8 (c : Int) 128) * 2 ^ (7 * k))) = (accV q c k : Int) := by
  have e1 := andNot128_fin ⟨c, hc⟩
  simp only at e1
  rw [e1]
  have e2 : IntKind.u64.wrap ((c % 128 : Nat) : Int) = ((c % 128 : Nat) : Int) := by rw [IntKind.wrap_u64]; omega
  rw [e2]
  have e3 : ((c % 128 : Nat) : Int) * 2 ^ (7 * k) = ((c % 128 * 2 ^ (7 * k) : Nat) : Int) := by simp
  rw [e3]
  have e4 : IntKind.u64.wrap ((c % 128 * 2 ^ (7 * k) : Nat) : Int) = ((c % 128 * 2 ^ (7 * k) % 18446744073709551616 : Nat) : Int) := by
    rw [IntKind.wrap_u64]
    omega
  rw [e4, bits_or_u64_nat _ _ hq (Nat.mod_lt _ (by omega))]
  rfl

theorem acc_lt (q c k : Nat) (hq : q < 18446744073709551616) : accV q c k < 18446744073709551616 :=
  Nat.or_lt_two_pow (n := 64) hq (Nat.mod_lt _ (by omega))

theorem pow_128 (k : Nat) : 128 ^ k = 2 ^ (7 * k) := by rw [Nat.pow_mul]

theorem valV_take_succ (l : List UInt8) (k : Nat) (hk : k < l.length) : valV (l.take (k + 1)) = valV (l.take k) + 128 ^ k * ((l.getD k 0).toNat % 128) := by
  have e : l.take (k + 1) = l.take k ++ [l.getD k 0] := by
    rw [List.take_succ_eq_append_getElem hk]
    simp [List.getD, List.getElem?_eq_getElem hk]
  have hl : (l.take k).length = k := by simp; omega
  rw [e, valV_append, hl]
  simp [valV]

theorem acc_val (l : List UInt8) (k : Nat) (hk : k < l.length) (h : k < 9 ∨ (k = 9 ∧ (l.getD k 0).toNat ≤ 1)) : accV (valV (l.take k)) (l.getD k 0).toNat k = valV (l.take (k + 1)) := by
  rw [valV_take_succ l k hk]
  have hv := valV_lt (l.take k)
  have hl : (l.take k).length = k := by simp; omega
  rw [hl, pow_128] at hv
  have hc : (l.getD k 0).toNat < 256 := UInt8.toNat_lt _
  generalize (l.getD k 0).toNat = c at *
  generalize valV (l.take k) = q at *
  have hm : c % 128 * 2 ^ (7 * k) < 18446744073709551616 := by
    rcases h with h | ⟨rfl, h⟩
    · have h1 : 2 ^ (7 * k) ≤ 2 ^ 56 := Nat.pow_le_pow_right (by omega) (by omega)
      have h2 : c % 128 ≤ 127 := by omega
      have := Nat.mul_le_mul h2 h1
      omega
    · have h2 : c % 128 ≤ 1 := by omega
      have := Nat.mul_le_mul_right (2 ^ (7 * 9)) h2
      omega
  unfold accV
  rw [Nat.mod_eq_of_lt hm, pow_128, Nat.or_comm, Nat.mul_comm (c % 128), ← Nat.two_pow_add_eq_or_of_lt hv]
  omega

theorem decAt_next {l : List UInt8} {k q : Nat} (h : DecAt l k q) (hk : k < l.length) (h10 : k < 10) (hc : 128 ≤ (l.getD k 0).toNat) : DecAt l (k + 1) (accV q (l.getD k 0).toNat k) := by
  refine ⟨hk, h10, acc_lt _ _ _ h.lt, fun h9 => ?_, fun j hj => ?_⟩
  · rw [h.val (by omega)]
    exact acc_val l k hk (.inl (by omega))
  · rcases Nat.lt_or_ge j k with hjk | hjk
    · exact h.all j hjk
    · obtain rfl : j = k := by omega
      exact hc

/-- What decode answers. -/
def decU (l : List UInt8) : Nat := if lenV l = 0 then 0 else valV (l.take (lenV l))

theorem decAt_yes {l : List UInt8} {k q : Nat} (h : DecAt l k q) (hk : k < l.length) (h10 : k < 10) (hc : (l.getD k 0).toNat < 128) (he : endB (l.getD k 0).toNat k = true) : lenV l = k + 1 ∧ decU l = accV q (l.getD k 0).toNat k := by
  have hl : lenV l = k + 1 := by
    rw [lenV_end h.all hk h10 hc, if_neg (of_decide_eq_true he)]
  refine ⟨hl, ?_⟩
  have hn := of_decide_eq_true he
  unfold decU
  rw [hl, if_neg (by omega), h.val (by omega), acc_val l k hk (by omega)]

theorem decAt_no {l : List UInt8} {k q : Nat} (h : DecAt l k q) (hk : k < l.length) (h10 : k < 10) (hc : (l.getD k 0).toNat < 128) (he : endB (l.getD k 0).toNat k = false) : lenV l = 0 ∧ decU l = 0 := by
  have hl : lenV l = 0 := by
    have hn := of_decide_eq_false he
    rw [lenV_end h.all hk h10 hc, if_pos (Decidable.not_not.1 hn)]
  exact ⟨hl, by unfold decU; rw [if_pos hl]⟩

theorem decAt_end {l : List UInt8} {k q : Nat} (h : DecAt l k q) (hk : l.length ≤ k ∨ 10 ≤ k) : lenV l = 0 ∧ decU l = 0 := by
  have hl : lenV l = 0 := lenV_none fun j hj => h.all j (by have := h.le; have := h.le10; omega)
  exact ⟨hl, by unfold decU; rw [if_pos hl]⟩

set_option maxHeartbeats 400000 in
set_option maxRecDepth 100000 in
theorem decode_some (b o n cap : Nat) (l : List UInt8) (w : World) (h : Rd w (some ⟨b, o, none⟩) n cap l) (hn : 0 < n) (hc : ∀ i, i < n → w.cell? ⟨b, o + i, none⟩ = some (.int .u8 ((l.getD i 0).toNat : Int))) :
    Calls Try.prog 71 #[.slice (some ⟨b, o, none⟩) n cap] w fun e w' => e = .returned (.tuple #[.int .u64 (decU l : Int), .int .i64 (lenV l : Int)]) ∧ w = w' := by
  have hl := h.len
  have hm := h.le
  unfold maxLen at hm
  have HL := Go.Lib.hid hl
  clear hl
  obtain ⟨m, hmn⟩ : ∃ m : Nat, min (n : Int) 10 = (m : Int) := ⟨min n 10, by omega⟩
  have hm1 : m ≤ n := by omega
  have hm2 : m ≤ 10 := by omega
  have hm3 : n ≤ m ∨ 10 ≤ m := by omega
  go_enter Try.func71, Try.ntmps71
  go_wp2
  clear hmn
  go_loop [4, 10] (fun u i => ∃ k q : Nat, u = .int .u64 q ∧ i = .int .i64 k ∧ k ≤ m ∧ DecAt l k q) (fun _ i => 10 - (intOf i).toNat)
  case atStart => exact ⟨0, 0, rfl, rfl, by omega, ⟨by omega, by omega, by omega, fun _ => rfl, by omega⟩⟩
  case round =>
    obtain ⟨k, q, rfl, rfl, hkm, hd⟩ := hrel
    have hq := hd.lt
    by_cases hlt : k < m
    · have hck := hc k (by omega)
      generalize hcc : (l.getD k 0).toNat = c at hck
      have HC := Go.Lib.hid hcc
      clear hc
      have hc256 : c < 256 := by rw [← hcc]; exact UInt8.toNat_lt _
      have hacc := acc_eq q c k hq hc256
      have hand := and128_fin ⟨c, hc256⟩
      simp only at hand
      have hkl : k < l.length := by rw [HL.out]; omega
      by_cases h128 : 128 ≤ c
      · rw [if_pos h128] at hand
        have hs := decAt_next hd hkl (by omega) (by omega)
        rw [hcc] at hs
        clear hcc
        go_wp2
        go_round
        case rel => exact ⟨k + 1, accV q c k, rfl, by go_num, by omega, hs⟩
        case measure => simp [intOf]; omega
      · rw [if_neg h128] at hand
        cases he : endB c k with
        | true =>
          obtain ⟨r1, r2⟩ := decAt_yes hd hkl (by omega) (by omega) (by rw [hcc]; exact he)
          have R1 := Go.Lib.hid r1
          rw [hcc] at r2
          have R2 := Go.Lib.hid r2
          clear r1 r2 hcc
          go_wp2_with (go_at_call 81; refine (mayEnd_any c k _ (by omega)).mono ?_; rintro e w' ⟨rfl, rfl⟩)
          go_ret2
          rw [R1.out, R2.out]
          exact ⟨rfl, rfl⟩
        | false =>
          obtain ⟨r1, r2⟩ := decAt_no hd hkl (by omega) (by omega) (by rw [hcc]; exact he)
          have R1 := Go.Lib.hid r1
          have R2 := Go.Lib.hid r2
          clear r1 r2 hcc
          go_wp2_with (go_at_call 81; refine (mayEnd_any c k _ (by omega)).mono ?_; rintro e w' ⟨rfl, rfl⟩)
          go_ret2
          rw [R1.out, R2.out]
          exact ⟨rfl, rfl⟩
    · obtain ⟨r1, r2⟩ := decAt_end hd (by rw [HL.out]; omega)
      have R1 := Go.Lib.hid r1
      have R2 := Go.Lib.hid r2
      clear r1 r2
      go_wp2
      go_ret2
      rw [R1.out, R2.out]
      exact ⟨rfl, rfl⟩

set_option maxRecDepth 100000 in
theorem decode_none (A : Option Addr) (cap : Nat) (w : World) :
    Calls Try.prog 71 #[.slice A 0 cap] w fun e w' => e = .returned (.tuple #[.int .u64 0, .int .i64 0]) ∧ w = w' := by
  go_enter Try.func71, Try.ntmps71
  go_wp2
  go_loop [4, 10] (fun u i => u = .int .u64 0 ∧ i = .int .i64 0) (fun _ _ => 0)
  case atStart => exact ⟨rfl, rfl⟩
  case round =>
    obtain ⟨rfl, rfl⟩ := hrel
    go_wp2
    go_ret2
    exact ⟨rfl, rfl⟩

theorem decode_any (A : Option Addr) (n cap : Nat) (l : List UInt8) (w : World) (h : Rd w A n cap l) :
    Calls Try.prog 71 #[.slice A n cap] w fun e w' => e = .returned (.tuple #[.int .u64 (decU l : Int), .int .i64 (lenV l : Int)]) ∧ w = w' := by
  rcases Nat.eq_zero_or_pos n with h0 | h0
  · subst h0
    have hl : l = [] := List.eq_nil_of_length_eq_zero h.len
    subst hl
    exact decode_none A cap w
  · obtain ⟨b, o, rfl, _, hc⟩ := h.at_ h0
    exact decode_some b o n cap l w h h0 hc

theorem decU_lt (l : List UInt8) : decU l < 18446744073709551616 := by
  unfold decU
  split
  · omega
  · rename_i h
    have key : ∀ (m : List UInt8) (i : Nat), i ≤ 9 → lenFrom i m ≠ 0 → valV (m.take (lenFrom i m - i)) < 2 ^ (64 - 7 * i) := by
      intro m
      induction m with
      | nil => intro i _ h0; simp [lenFrom] at h0
      | cons c r ih =>
        intro i hi h0
        simp only [lenFrom] at h0 ⊢
        rw [if_neg (by omega)] at h0 ⊢
        by_cases hc : 128 ≤ c.toNat
        · rw [if_pos hc] at h0 ⊢
          have hi8 : i ≤ 8 := by
            rcases Nat.lt_or_ge i 9 with h9 | h9
            · omega
            · obtain rfl : i = 9 := by omega
              exfalso
              apply h0
              cases r with
              | nil => rfl
              | cons d r => simp [lenFrom]
          have ih' := ih (i + 1) (by omega) h0
          have hle : i + 1 ≤ lenFrom (i + 1) r - 1 + 1 ∨ True := .inr trivial
          have hgt : i + 1 < lenFrom (i + 1) r := lenFrom_gt r (i + 1) h0
          have e : lenFrom (i + 1) r - i = (lenFrom (i + 1) r - (i + 1)) + 1 := by omega
          rw [e, List.take_succ_cons]
          simp only [valV]
          have e2 : 64 - 7 * i = (64 - 7 * (i + 1)) + 7 := by omega
          rw [e2, Nat.pow_add]
          have : (2 : Nat) ^ 7 = 128 := by decide
          omega
        · rw [if_neg hc] at h0 ⊢
          by_cases hz : (0 < i ∧ c.toNat = 0) ∨ (i = 9 ∧ 1 < c.toNat)
          · rw [if_pos hz] at h0; exact absurd rfl h0
          · rw [if_neg hz]
            have e : i + 1 - i = 1 := by omega
            rw [e]
            simp only [List.take_succ_cons, List.take_zero, valV]
            rcases Nat.lt_or_ge i 9 with h9 | h9
            · have h1 : 2 ^ 7 ≤ 2 ^ (64 - 7 * i) := Nat.pow_le_pow_right (by omega) (by omega)
              have : (2 : Nat) ^ 7 = 128 := by decide
              omega
            · obtain rfl : i = 9 := by omega
              have h2 : c.toNat ≤ 1 := by omega
              have : (2 : Nat) ^ (64 - 7 * 9) = 2 := by decide
              omega
    have := key l 0 (by omega) h
    simpa [lenV] using this

end Go.Proofs.Ytjglpmakjampjaa.NumWalk
