/-
  Plain mathematics of layer 1 (num): how many bytes a varint has, what its bytes come to, and that decoding undoes encoding. No Go text and no model here.
-/
import Derived.Lib.Varint
import Derived.Lib.Zigzag
import Derived.Laws.MathBits
namespace Go.Proofs.Ytjglpmakjampjaa.NumMath
open Go.Lib (uvarint uvarint_small uvarint_big uvarint_pos uvarint_length64 zigzag)

/-- The number of bytes of u by its bits: (bits of (u or 1) + 6) / 7. -/
def sizeV (u : Nat) : Nat := (bitLen (u ||| 1) + 6) / 7

theorem or_one (u : Nat) : u ||| 1 = u / 2 * 2 + 1 := by
  apply Nat.eq_of_testBit_eq
  intro i
  cases i with
  | zero => simp [Nat.testBit_zero]
  | succ i =>
    have h : (u / 2 * 2 + 1) / 2 = u / 2 := by omega
    have h1 : (1 : Nat) / 2 = 0 := by decide
    rw [Nat.testBit_or, Nat.testBit_succ, Nat.testBit_succ, Nat.testBit_succ, h, h1]
    simp

theorem bitLen_of {n k : Nat} (hlo : 2 ^ k ≤ n) (hhi : n < 2 ^ (k + 1)) : bitLen n = k + 1 := by
  have h0 : n ≠ 0 := by have := Nat.two_pow_pos k; omega
  unfold bitLen
  rw [if_neg h0, (Nat.log2_eq_iff h0).2 ⟨hlo, hhi⟩]

theorem bitLen_le {n k : Nat} (h : n < 2 ^ k) : bitLen n ≤ k := by
  unfold bitLen
  split
  · omega
  · rename_i h0
    have := (Nat.log2_lt h0).2 h
    omega

theorem sizeV_small {u : Nat} (h : u < 128) : sizeV u = 1 := by
  unfold sizeV
  have e := or_one u
  have h1 : bitLen (u ||| 1) ≤ 7 := bitLen_le (by omega)
  have h2 : 1 ≤ bitLen (u ||| 1) := by
    unfold bitLen
    rw [if_neg (by omega)]
    omega
  omega

theorem sizeV_big {u : Nat} (h : 128 ≤ u) : sizeV u = sizeV (u / 128) + 1 := by
  unfold sizeV
  have e := or_one u
  have e' := or_one (u / 128)
  have h1 : (u ||| 1) / 2 ^ 7 = u / 128 := by omega
  have h2 : bitLen (u ||| 1) = 7 + bitLen (u / 128) := by
    rw [bitLen_shift (u ||| 1) 7 (by omega), h1]
  have h3 : bitLen (u / 128 ||| 1) = bitLen (u / 128) := by
    have h0 : u / 128 ≠ 0 := by omega
    generalize u / 128 = q at *
    unfold bitLen
    rw [if_neg h0, if_neg (by omega)]
    have ha := Nat.log2_self_le h0
    have hb : q < 2 ^ (q.log2 + 1) := Nat.lt_log2_self
    have hc : (q ||| 1).log2 = q.log2 := by
      refine (Nat.log2_eq_iff (by omega)).2 ⟨by omega, ?_⟩
      have : 2 ^ (q.log2 + 1) = 2 ^ q.log2 * 2 := Nat.pow_succ ..
      omega
    rw [hc]
  rw [h2, h3]
  omega

theorem sizeV_eq (u : Nat) : sizeV u = (uvarint u).length := by
  induction u using Nat.strongRecOn with
  | ind u ih =>
    by_cases h : u < 128
    · rw [sizeV_small h, uvarint_small h]; rfl
    · rw [sizeV_big (by omega), uvarint_big (by omega), List.length_cons, ih (u / 128) (by omega)]

/-- The length of the number at the head of l (0: none), from the i-th byte on. -/
def lenFrom : Nat → List UInt8 → Nat
  | _, [] => 0
  | i, c :: r => if 10 ≤ i then 0 else if 128 ≤ c.toNat then lenFrom (i + 1) r else if (0 < i ∧ c.toNat = 0) ∨ (i = 9 ∧ 1 < c.toNat) then 0 else i + 1

def lenV (l : List UInt8) : Nat := lenFrom 0 l

/-- What bytes come to: seven bits each, the least first. -/
def valV : List UInt8 → Nat
  | [] => 0
  | c :: r => c.toNat % 128 + 128 * valV r

theorem lenFrom_le (l : List UInt8) : ∀ i, lenFrom i l ≤ i + l.length := by
  induction l with
  | nil => intro i; simp [lenFrom]
  | cons c r ih =>
    intro i
    simp only [lenFrom, List.length_cons]
    have := ih (i + 1)
    repeat' split
    all_goals omega

theorem lenV_le (l : List UInt8) : lenV l ≤ l.length := by have := lenFrom_le l 0; unfold lenV; omega

theorem lenFrom_le10 (l : List UInt8) : ∀ i, i ≤ 10 → lenFrom i l ≤ 10 := by
  induction l with
  | nil => intro i _; simp [lenFrom]
  | cons c r ih =>
    intro i hi
    simp only [lenFrom]
    by_cases h : 10 ≤ i
    · rw [if_pos h]; omega
    · rw [if_neg h]
      have := ih (i + 1) (by omega)
      repeat' split
      all_goals omega

theorem lenFrom_gt (l : List UInt8) : ∀ i, lenFrom i l ≠ 0 → i < lenFrom i l := by
  induction l with
  | nil => intro i h; simp [lenFrom] at h
  | cons c r ih =>
    intro i h
    have := ih (i + 1)
    simp only [lenFrom] at h ⊢
    by_cases h1 : 10 ≤ i
    · rw [if_pos h1] at h; exact absurd rfl h
    · rw [if_neg h1] at h ⊢
      by_cases h2 : 128 ≤ c.toNat
      · rw [if_pos h2] at h ⊢
        have := this h
        omega
      · rw [if_neg h2] at h ⊢
        by_cases h3 : (0 < i ∧ c.toNat = 0) ∨ (i = 9 ∧ 1 < c.toNat)
        · rw [if_pos h3] at h; exact absurd rfl h
        · rw [if_neg h3]; omega

theorem lenV_le10 (l : List UInt8) : lenV l ≤ 10 := lenFrom_le10 l 0 (by omega)

/-- One step of the loop that looks for a number's last byte, behind i bytes that bear the bit 128. -/
theorem lenV_end {l : List UInt8} {i : Nat} (hall : ∀ j, j < i → 128 ≤ (l.getD j 0).toNat) (hi : i < l.length) (h10 : i < 10) (hc : (l.getD i 0).toNat < 128) :
    lenV l = if (0 < i ∧ (l.getD i 0).toNat = 0) ∨ (i = 9 ∧ 1 < (l.getD i 0).toNat) then 0 else i + 1 := by
  have key : ∀ (m : List UInt8) (k : Nat), (∀ j, j < i - k → 128 ≤ (m.getD j 0).toNat) → k ≤ i → i - k < m.length → (m.getD (i - k) 0).toNat < 128 →
      lenFrom k m = if (0 < i ∧ (m.getD (i - k) 0).toNat = 0) ∨ (i = 9 ∧ 1 < (m.getD (i - k) 0).toNat) then 0 else i + 1 := by
    intro m
    induction m with
    | nil => intro k _ _ hl _; simp at hl
    | cons c r ih =>
      intro k ha hk hl hlt
      simp only [lenFrom]
      rw [if_neg (by omega)]
      by_cases hik : i = k
      · subst hik
        simp only [Nat.sub_self, List.getD_cons_zero] at hlt ⊢
        rw [if_neg (by omega)]
      · have h0 := ha 0 (by omega)
        simp only [List.getD_cons_zero] at h0
        rw [if_pos h0]
        have e : i - k = (i - (k + 1)) + 1 := by omega
        rw [e] at hlt hl ⊢
        simp only [List.getD_cons_succ, List.length_cons] at hlt hl ⊢
        exact ih (k + 1) (fun j hj => by have := ha (j + 1) (by omega); simpa using this) (by omega) (by omega) hlt
  have := key l 0 (by simpa using hall) (Nat.zero_le _) (by simpa using hi) (by simpa using hc)
  simpa [lenV] using this

/-- No last byte among the first ten, or among all. -/
theorem lenV_none {l : List UInt8} (hall : ∀ j, j < min l.length 10 → 128 ≤ (l.getD j 0).toNat) : lenV l = 0 := by
  have key : ∀ (m : List UInt8) (k : Nat), k ≤ 10 → (∀ j, j < min m.length (10 - k) → 128 ≤ (m.getD j 0).toNat) → lenFrom k m = 0 := by
    intro m
    induction m with
    | nil => intro k _ _; rfl
    | cons c r ih =>
      intro k hk ha
      simp only [lenFrom]
      by_cases h : 10 ≤ k
      · rw [if_pos h]
      · rw [if_neg h]
        have h0 := ha 0 (by simp; omega)
        simp only [List.getD_cons_zero] at h0
        rw [if_pos h0]
        refine ih (k + 1) (by omega) fun j hj => ?_
        have := ha (j + 1) (by simp at hj ⊢; omega)
        simpa using this
  exact key l 0 (by omega) (by simpa using hall)

theorem valV_lt (l : List UInt8) : valV l < 128 ^ l.length := by
  induction l with
  | nil => simp [valV]
  | cons c r ih =>
    simp only [valV, List.length_cons, Nat.pow_succ]
    have : c.toNat % 128 < 128 := Nat.mod_lt _ (by omega)
    omega

theorem valV_append (a b : List UInt8) : valV (a ++ b) = valV a + 128 ^ a.length * valV b := by
  induction a with
  | nil => simp [valV]
  | cons c r ih =>
    simp only [List.cons_append, valV, ih, List.length_cons, Nat.pow_succ]
    rw [Nat.mul_add, Nat.add_assoc, Nat.mul_comm (128 ^ r.length) 128, Nat.mul_assoc]

theorem toU8 {x : Nat} (h : x < 256) : (x.toUInt8).toNat = x := by
  simp [Nat.toUInt8, UInt8.toNat_ofNat', Nat.mod_eq_of_lt h]

/-- Encoding, then decoding. -/
theorem valV_uvarint (u : Nat) : valV (uvarint u) = u := by
  induction u using Nat.strongRecOn with
  | ind u ih =>
    by_cases h : u < 128
    · rw [uvarint_small h]
      simp only [valV]
      rw [toU8 (by omega)]
      omega
    · rw [uvarint_big (by omega)]
      simp only [valV]
      rw [toU8 (by omega), ih (u / 128) (by omega)]
      omega

/-- The head of a number below 128^(10-i)/.. is read whole, whatever stands behind it. -/
theorem lenFrom_uvarint (u : Nat) : ∀ (i : Nat) (rest : List UInt8), i ≤ 9 → u < 2 ^ (64 - 7 * i) → (0 < i → 0 < u) → lenFrom i (uvarint u ++ rest) = i + (uvarint u).length := by
  induction u using Nat.strongRecOn with
  | ind u ih =>
    intro i rest hi hu h0
    by_cases h : u < 128
    · rw [uvarint_small h]
      simp only [List.cons_append, List.nil_append, lenFrom, List.length_cons, List.length_nil]
      rw [toU8 (by omega), if_neg (by omega), if_neg (by omega), if_neg]
      intro hh
      rcases hh with ⟨a, b⟩ | ⟨a, b⟩
      · have := h0 a; omega
      · subst a; simp at hu; omega
    · rw [uvarint_big (by omega)]
      simp only [List.cons_append, lenFrom, List.length_cons]
      have hi8 : i ≤ 8 := by
        rcases Nat.lt_or_ge i 9 with h9 | h9
        · omega
        · have : i = 9 := by omega
          subst this
          simp at hu
          omega
      rw [toU8 (by omega), if_neg (by omega), if_pos (by omega)]
      rw [ih (u / 128) (by omega) (i + 1) rest (by omega) ?_ (by omega)]
      · omega
      · have e : 64 - 7 * i = (64 - 7 * (i + 1)) + 7 := by omega
        rw [e, Nat.pow_add] at hu
        have : (2 : Nat) ^ 7 = 128 := by decide
        rw [this] at hu
        exact Nat.div_lt_of_lt_mul (by rw [Nat.mul_comm]; exact hu)

theorem lenV_uvarint {u : Nat} (hu : u < 18446744073709551616) (rest : List UInt8) : lenV (uvarint u ++ rest) = (uvarint u).length := by
  have := lenFrom_uvarint u 0 rest (by omega) (by simpa using hu) (by omega)
  simpa [lenV] using this

/-- A number of which bytes are missing is none. -/
theorem lenFrom_cut (u : Nat) : ∀ (i k : Nat), k < (uvarint u).length → lenFrom i ((uvarint u).take k) = 0 := by
  induction u using Nat.strongRecOn with
  | ind u ih =>
    intro i k hk
    cases k with
    | zero => simp [lenFrom]
    | succ k =>
      by_cases h : u < 128
      · rw [uvarint_small h] at hk; simp at hk
      · rw [uvarint_big (by omega)] at hk ⊢
        simp only [List.take_succ_cons, lenFrom]
        rw [toU8 (by omega)]
        by_cases h10 : 10 ≤ i
        · rw [if_pos h10]
        · rw [if_neg h10, if_pos (by omega)]
          exact ih (u / 128) (by omega) (i + 1) k (by simpa using hk)

theorem lenV_cut (u k : Nat) (hk : k < (uvarint u).length) : lenV ((uvarint u).take k) = 0 := lenFrom_cut u 0 k hk

/-- A lesser number has no more bytes. -/
theorem uvarint_mono : ∀ (v u : Nat), u ≤ v → (uvarint u).length ≤ (uvarint v).length := by
  intro v
  induction v using Nat.strongRecOn with
  | ind v ih =>
    intro u huv
    by_cases h : u < 128
    · rw [uvarint_small h]
      have := uvarint_pos v
      simpa using this
    · rw [uvarint_big (x := u) (by omega), uvarint_big (x := v) (by omega), List.length_cons, List.length_cons]
      have := ih (v / 128) (by omega) (u / 128) (Nat.div_le_div_right huv)
      omega

/-- The signed number of u. -/
def unzig (u : Nat) : Int := if u % 2 = 1 then -((u / 2 : Nat) : Int) - 1 else ((u / 2 : Nat) : Int)

theorem unzig_zigzag (x : Int) : unzig (zigzag x) = x := by
  unfold unzig zigzag
  split <;> split <;> omega

theorem zigzag_unzig (u : Nat) : zigzag (unzig u) = u := by
  unfold unzig zigzag
  split <;> split <;> omega

/-- The bytes of x, as Put lays them down. -/
def enc (x : Int) : List UInt8 := uvarint (zigzag x)

theorem enc_pos (x : Int) : 1 ≤ (enc x).length := uvarint_pos _
theorem enc_le (x : Int) (h0 : -9223372036854775808 ≤ x) (h1 : x ≤ 9223372036854775807) : (enc x).length ≤ 10 := uvarint_length64 (Go.Lib.zigzag_lt h0 h1)
theorem enc_inj {x y : Int} (h : enc x = enc y) : x = y := by
  have h1 := congrArg valV h
  simp only [enc, valV_uvarint] at h1
  have h2 := congrArg unzig h1
  simpa [unzig_zigzag] using h2
theorem enc_mono {x y : Int} (h0 : 0 ≤ x) (h : x ≤ y) : (enc x).length ≤ (enc y).length := by
  refine uvarint_mono _ _ ?_
  unfold zigzag
  rw [if_pos h0, if_pos (by omega)]
  omega

/-- What the next number of l is: 0 if there is none. -/
def numV (l : List UInt8) : Int := if lenV l = 0 then 0 else unzig (valV (l.take (lenV l)))

theorem numV_enc (x : Int) (h0 : -9223372036854775808 ≤ x) (h1 : x ≤ 9223372036854775807) (rest : List UInt8) :
    lenV (enc x ++ rest) = (enc x).length ∧ numV (enc x ++ rest) = x := by
  have hl : lenV (enc x ++ rest) = (enc x).length := lenV_uvarint (Go.Lib.zigzag_lt h0 h1) rest
  refine ⟨hl, ?_⟩
  unfold numV
  have := enc_pos x
  rw [hl, if_neg (by omega), List.take_left]
  simp [enc, valV_uvarint, unzig_zigzag]

end Go.Proofs.Ytjglpmakjampjaa.NumMath
