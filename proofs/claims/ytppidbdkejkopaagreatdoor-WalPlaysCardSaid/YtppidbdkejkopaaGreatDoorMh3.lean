/-
  Joined texts: FrMath, NumMath, EcMath, NumLeaf, NumPut, NumRefPut, EcRef, EcOpen, NumRead, NumReader, NumRef, EcTake, EcTakeW, EcBack, EcAll, EdRows, EeCut.
-/
import Derived.Lib.Varint
import Derived.Lib.Zigzag
import Derived.Laws.MathBits
import Derived.Test.YtppidbdkejkopaaGreatDoorProg
import Derived.WalkKit
import Derived.KernelRfl
import Derived.Lib.BitFns
import Derived.Lib.Walk
import Derived.Lib.Hide
import Derived.WalkSpells
import Derived.Laws.CopyOwn
import Derived.Laws.IdiomStrings
import Derived.Deep.DeepCutAuto
import Derived.Deep.RegionHeld
import Derived.Deep.Slices
import Derived.Lib.SmallJoins
import Derived.Maps.AppendAt
import Derived.BigQuiet
import Derived.Deep.RegionLaw
import Derived.Test.YtppidbdkejkopaaGreatDoorMh2
namespace Go.Proofs.YtppidbdkejkopaaGreatDoor.FrMath
open CrcMath
def maxF : Nat := 16384
def frameF (b : List UInt8) : List UInt8 := le4 b.length ++ (le4 (sum (le4 b.length ++ b)) ++ b)
theorem frameF_length (b : List UInt8) : (frameF b).length = b.length + 8 := by
  simp only [frameF, List.length_append, le4_length]
  omega
def takeF (l : List UInt8) : Option (List UInt8) :=
  if l.length < 8 then none
  else if maxF < word (l.take 4) then none
  else if l.length - 8 < word (l.take 4) then none
  else if frameF ((l.drop 8).take (word (l.take 4))) = l.take (8 + word (l.take 4)) then some ((l.drop 8).take (word (l.take 4))) else none
theorem len_word {x y : List UInt8} (hx : x.length ≤ maxF) (hy : y.length ≤ maxF) (h : le4 x.length = le4 y.length) : x.length = y.length := by
  unfold maxF at hx hy
  have := congrArg word h
  rwa [word_le4 (by omega), word_le4 (by omega)] at this
theorem frame_take4 (x r : List UInt8) : (frameF x ++ r).take 4 = le4 x.length := by
  unfold frameF
  rw [List.append_assoc, List.take_append_of_le_length (by rw [le4_length]; omega), List.take_of_length_le (by rw [le4_length]; omega)]
theorem frame_drop8 (x r : List UInt8) : (frameF x ++ r).drop 8 = x ++ r := by
  rfl
theorem takeF_frame {x : List UInt8} (h : x.length ≤ maxF) (r : List UInt8) : takeF (frameF x ++ r) = some x := by
  have hm := h
  unfold maxF at hm
  have hw : word ((frameF x ++ r).take 4) = x.length := by rw [frame_take4, word_le4 (by omega)]
  have hl : (frameF x ++ r).length = x.length + 8 + r.length := by rw [List.length_append, frameF_length]
  unfold takeF
  rw [hw, frame_drop8, List.take_append_of_le_length (Nat.le_refl _), List.take_of_length_le (l := x) (Nat.le_refl _)]
  rw [if_neg (by omega), if_neg (by unfold maxF; omega), if_neg (by omega), if_pos]
  rw [List.take_append_of_le_length (by rw [frameF_length]; omega), List.take_of_length_le (by rw [frameF_length]; omega)]
theorem takeF_some {l x : List UInt8} (h : takeF l = some x) : x.length ≤ maxF ∧ l = frameF x ++ l.drop (8 + x.length) := by
  unfold takeF at h
  split at h
  · cases h
  split at h
  · cases h
  split at h
  · cases h
  split at h
  · rename_i h1 h2 h3 h4
    injection h with h
    have hl : x.length = word (l.take 4) := by
      rw [← h, List.length_take, List.length_drop]
      omega
    refine ⟨by omega, ?_⟩
    rw [h] at h4
    rw [h4, hl, List.take_append_drop]
  · cases h
theorem frame_begins {x y r s : List UInt8} (hx : x.length ≤ maxF) (hy : y.length ≤ maxF) (h : frameF x ++ r = frameF y ++ s) : x = y ∧ r = s := by
  have h4 : le4 x.length = le4 y.length := by rw [← frame_take4 x r, h, frame_take4]
  have hl := len_word hx hy h4
  obtain ⟨h1, h2⟩ := List.append_inj h (by rw [frameF_length, frameF_length, hl])
  refine ⟨?_, h2⟩
  have h5 := frame_drop8 x []
  rw [List.append_nil, List.append_nil, h1] at h5
  have h6 := frame_drop8 y []
  rw [List.append_nil, List.append_nil, h5] at h6
  exact h6
theorem take_none_short {l : List UInt8} (h : l.length < 8) : takeF l = none := by
  unfold takeF
  rw [if_pos h]
theorem cut_none {y : List UInt8} (hy : y.length ≤ maxF) {c : Nat} (hc : c < y.length + 8) : takeF ((frameF y).take c) = none := by
  cases h : takeF ((frameF y).take c) with
  | none => rfl
  | some x =>
    exfalso
    obtain ⟨hx, hl⟩ := takeF_some h
    have h1 : frameF y ++ [] = frameF x ++ (((frameF y).take c).drop (8 + x.length) ++ (frameF y).drop c) := by
      rw [← List.append_assoc, ← hl, List.take_append_drop, List.append_nil]
    have h2 := (frame_begins hy hx h1).1
    have h3 := congrArg List.length hl
    rw [List.length_append, List.length_take, frameF_length, frameF_length, ← h2] at h3
    omega
def joinF (xs : List (List UInt8)) : List UInt8 := xs.flatMap frameF
def scanF (l : List UInt8) : List (List UInt8) :=
  match h : takeF l with
  | none => []
  | some x => x :: scanF (l.drop (8 + x.length))
termination_by l.length
decreasing_by
  have hl := congrArg List.length (takeF_some h).2
  rw [List.length_append, frameF_length] at hl
  rw [List.length_drop] at hl ⊢
  omega
theorem scanF_none {l : List UInt8} (h : takeF l = none) : scanF l = [] := by
  rw [scanF]
  split
  · rfl
  · rename_i h2
    rw [h] at h2
    cases h2
theorem scanF_some {l x : List UInt8} (h : takeF l = some x) : scanF l = x :: scanF (l.drop (8 + x.length)) := by
  rw [scanF]
  split
  · rename_i h2
    rw [h] at h2
    cases h2
  · rename_i y h2
    rw [h] at h2
    injection h2 with h2
    subst h2
    rfl
theorem scanF_frame {x : List UInt8} (h : x.length ≤ maxF) (r : List UInt8) : scanF (frameF x ++ r) = x :: scanF r := by
  rw [scanF_some (takeF_frame h r), show 8 + x.length = (frameF x).length by rw [frameF_length]; omega, List.drop_left]
theorem scanF_nil : scanF [] = [] := scanF_none rfl
theorem scanF_join : ∀ (xs : List (List UInt8)), (∀ x ∈ xs, x.length ≤ maxF) → ∀ r, scanF (joinF xs ++ r) = xs ++ scanF r
  | [], _, r => rfl
  | x :: xs, h, r => by
    unfold joinF
    rw [List.flatMap_cons, List.append_assoc, scanF_frame (h x (List.mem_cons_self ..)), List.cons_append]
    congr 1
    exact scanF_join xs (fun y hy => h y (List.mem_cons_of_mem _ hy)) r
theorem joinF_append (xs ys : List (List UInt8)) : joinF (xs ++ ys) = joinF xs ++ joinF ys := List.flatMap_append
theorem joinF_cons (x : List UInt8) (xs : List (List UInt8)) : joinF (x :: xs) = frameF x ++ joinF xs := List.flatMap_cons
theorem joinF_one (x : List UInt8) : joinF [x] = frameF x := by
  rw [joinF_cons]
  exact List.append_nil _
theorem scanF_is (l : List UInt8) : ∃ r, l = joinF (scanF l) ++ r ∧ takeF r = none ∧ ∀ x ∈ scanF l, x.length ≤ maxF := by
  induction hn : l.length using Nat.strongRecOn generalizing l with
  | _ n ih =>
    cases h : takeF l with
    | none => exact ⟨l, by rw [scanF_none h]; rfl, h, by rw [scanF_none h]; simp⟩
    | some x =>
      obtain ⟨hx, hl⟩ := takeF_some h
      have hlt : (l.drop (8 + x.length)).length < n := by
        have := congrArg List.length hl
        rw [List.length_append, frameF_length] at this
        omega
      obtain ⟨r, h1, h2, h3⟩ := ih _ hlt _ rfl
      refine ⟨r, ?_, h2, ?_⟩
      · rw [scanF_some h, joinF_cons, List.append_assoc, ← h1]
        exact hl
      · rw [scanF_some h]
        intro y hy
        rcases List.mem_cons.1 hy with rfl | hy
        · exact hx
        · exact h3 y hy
end Go.Proofs.YtppidbdkejkopaaGreatDoor.FrMath
namespace Go.Proofs.YtppidbdkejkopaaGreatDoor.NumMath
open Go.Lib (uvarint uvarint_small uvarint_big uvarint_pos uvarint_length64 zigzag)
def sizeV (u : Nat) : Nat := (bitLen (u ||| 1) + 6) / 7
theorem or_one (u : Nat) : u ||| 1 = u / 2 * 2 + 1 := by
  apply Nat.eq_of_testBit_eq
  intro i
  cases i with
  | zero => simp [Nat.testBit_zero]
  | succ i =>
    have h : (u / 2 * 2 + 1) / 2 = u / 2 := by omega
    have h1 : (1 : Nat) / 2 = 0 := by decide
    rw [Nat.testBit_or, Nat.testBit_succ, Nat.testBit_succ, Nat.testBit_succ, h, h1]
    simp
theorem bitLen_le {n k : Nat} (h : n < 2 ^ k) : bitLen n ≤ k := by
  unfold bitLen
  split
  · omega
  · rename_i h0
    have := (Nat.log2_lt h0).2 h
    omega
theorem sizeV_small {u : Nat} (h : u < 128) : sizeV u = 1 := by
  unfold sizeV
  have e := or_one u
  have h1 : bitLen (u ||| 1) ≤ 7 := bitLen_le (by omega)
  have h2 : 1 ≤ bitLen (u ||| 1) := by
    unfold bitLen
    rw [if_neg (by omega)]
    omega
  omega
theorem sizeV_big {u : Nat} (h : 128 ≤ u) : sizeV u = sizeV (u / 128) + 1 := by
  unfold sizeV
  have e := or_one u
  have e' := or_one (u / 128)
  have h1 : (u ||| 1) / 2 ^ 7 = u / 128 := by omega
  have h2 : bitLen (u ||| 1) = 7 + bitLen (u / 128) := by
    rw [bitLen_shift (u ||| 1) 7 (by omega), h1]
  have h3 : bitLen (u / 128 ||| 1) = bitLen (u / 128) := by
    have h0 : u / 128 ≠ 0 := by omega
    generalize u / 128 = q at *
    unfold bitLen
    rw [if_neg h0, if_neg (by omega)]
    have ha := Nat.log2_self_le h0
    have hb : q < 2 ^ (q.log2 + 1) := Nat.lt_log2_self
    have hc : (q ||| 1).log2 = q.log2 := by
      refine (Nat.log2_eq_iff (by omega)).2 ⟨by omega, ?_⟩
      have : 2 ^ (q.log2 + 1) = 2 ^ q.log2 * 2 := Nat.pow_succ ..
      omega
    rw [hc]
  rw [h2, h3]
  omega
theorem sizeV_eq (u : Nat) : sizeV u = (uvarint u).length := by
  induction u using Nat.strongRecOn with
  | ind u ih =>
    by_cases h : u < 128
    · rw [sizeV_small h, uvarint_small h]; rfl
    · rw [sizeV_big (by omega), uvarint_big (by omega), List.length_cons, ih (u / 128) (by omega)]
def lenFrom : Nat → List UInt8 → Nat
  | _, [] => 0
  | i, c :: r => if 10 ≤ i then 0 else if 128 ≤ c.toNat then lenFrom (i + 1) r else if (0 < i ∧ c.toNat = 0) ∨ (i = 9 ∧ 1 < c.toNat) then 0 else i + 1
def lenV (l : List UInt8) : Nat := lenFrom 0 l
def valV : List UInt8 → Nat
  | [] => 0
  | c :: r => c.toNat % 128 + 128 * valV r
theorem lenFrom_le (l : List UInt8) : ∀ i, lenFrom i l ≤ i + l.length := by
  induction l with
  | nil => intro i; simp [lenFrom]
  | cons c r ih =>
    intro i
    simp only [lenFrom, List.length_cons]
    have := ih (i + 1)
    repeat' split
    all_goals omega
theorem lenV_le (l : List UInt8) : lenV l ≤ l.length := by have := lenFrom_le l 0; unfold lenV; omega
theorem lenFrom_gt (l : List UInt8) : ∀ i, lenFrom i l ≠ 0 → i < lenFrom i l := by
  induction l with
  | nil => intro i h; simp [lenFrom] at h
  | cons c r ih =>
    intro i h
    have := ih (i + 1)
    simp only [lenFrom] at h ⊢
    by_cases h1 : 10 ≤ i
    · rw [if_pos h1] at h; exact absurd rfl h
    · rw [if_neg h1] at h ⊢
      by_cases h2 : 128 ≤ c.toNat
      · rw [if_pos h2] at h ⊢
        have := this h
        omega
      · rw [if_neg h2] at h ⊢
        by_cases h3 : (0 < i ∧ c.toNat = 0) ∨ (i = 9 ∧ 1 < c.toNat)
        · rw [if_pos h3] at h; exact absurd rfl h
        · rw [if_neg h3]; omega
theorem lenV_end {l : List UInt8} {i : Nat} (hall : ∀ j, j < i → 128 ≤ (l.getD j 0).toNat) (hi : i < l.length) (h10 : i < 10) (hc : (l.getD i 0).toNat < 128) :
    lenV l = if (0 < i ∧ (l.getD i 0).toNat = 0) ∨ (i = 9 ∧ 1 < (l.getD i 0).toNat) then 0 else i + 1 := by
  have key : ∀ (m : List UInt8) (k : Nat), (∀ j, j < i - k → 128 ≤ (m.getD j 0).toNat) → k ≤ i → i - k < m.length → (m.getD (i - k) 0).toNat < 128 →
      lenFrom k m = if (0 < i ∧ (m.getD (i - k) 0).toNat = 0) ∨ (i = 9 ∧ 1 < (m.getD (i - k) 0).toNat) then 0 else i + 1 := by
    intro m
    induction m with
    | nil => intro k _ _ hl _; simp at hl
    | cons c r ih =>
      intro k ha hk hl hlt
      simp only [lenFrom]
      rw [if_neg (by omega)]
      by_cases hik : i = k
      · subst hik
        simp only [Nat.sub_self, List.getD_cons_zero] at hlt ⊢
        rw [if_neg (by omega)]
      · have h0 := ha 0 (by omega)
        simp only [List.getD_cons_zero] at h0
        rw [if_pos h0]
        have e : i - k = (i - (k + 1)) + 1 := by omega
        rw [e] at hlt hl ⊢
        simp only [List.getD_cons_succ, List.length_cons] at hlt hl ⊢
        exact ih (k + 1) (fun j hj => by have := ha (j + 1) (by omega); simpa using this) (by omega) (by omega) hlt
  have := key l 0 (by simpa using hall) (Nat.zero_le _) (by simpa using hi) (by simpa using hc)
  simpa [lenV] using this
theorem lenV_none {l : List UInt8} (hall : ∀ j, j < min l.length 10 → 128 ≤ (l.getD j 0).toNat) : lenV l = 0 := by
  have key : ∀ (m : List UInt8) (k : Nat), k ≤ 10 → (∀ j, j < min m.length (10 - k) → 128 ≤ (m.getD j 0).toNat) → lenFrom k m = 0 := by
    intro m
    induction m with
    | nil => intro k _ _; rfl
    | cons c r ih =>
      intro k hk ha
      simp only [lenFrom]
      by_cases h : 10 ≤ k
      · rw [if_pos h]
      · rw [if_neg h]
        have h0 := ha 0 (by simp; omega)
        simp only [List.getD_cons_zero] at h0
        rw [if_pos h0]
        refine ih (k + 1) (by omega) fun j hj => ?_
        have := ha (j + 1) (by simp at hj ⊢; omega)
        simpa using this
  exact key l 0 (by omega) (by simpa using hall)
theorem valV_lt (l : List UInt8) : valV l < 128 ^ l.length := by
  induction l with
  | nil => simp [valV]
  | cons c r ih =>
    simp only [valV, List.length_cons, Nat.pow_succ]
    have : c.toNat % 128 < 128 := Nat.mod_lt _ (by omega)
    omega
theorem valV_append (a b : List UInt8) : valV (a ++ b) = valV a + 128 ^ a.length * valV b := by
  induction a with
  | nil => simp [valV]
  | cons c r ih =>
    simp only [List.cons_append, valV, ih, List.length_cons, Nat.pow_succ]
    rw [Nat.mul_add, Nat.add_assoc, Nat.mul_comm (128 ^ r.length) 128, Nat.mul_assoc]
theorem toU8 {x : Nat} (h : x < 256) : (x.toUInt8).toNat = x := by
  simp [Nat.toUInt8, UInt8.toNat_ofNat', Nat.mod_eq_of_lt h]
theorem valV_uvarint (u : Nat) : valV (uvarint u) = u := by
  induction u using Nat.strongRecOn with
  | ind u ih =>
    by_cases h : u < 128
    · rw [uvarint_small h]
      simp only [valV]
      rw [toU8 (by omega)]
      omega
    · rw [uvarint_big (by omega)]
      simp only [valV]
      rw [toU8 (by omega), ih (u / 128) (by omega)]
      omega
theorem lenFrom_uvarint (u : Nat) : ∀ (i : Nat) (rest : List UInt8), i ≤ 9 → u < 2 ^ (64 - 7 * i) → (0 < i → 0 < u) → lenFrom i (uvarint u ++ rest) = i + (uvarint u).length := by
  induction u using Nat.strongRecOn with
  | ind u ih =>
    intro i rest hi hu h0
    by_cases h : u < 128
    · rw [uvarint_small h]
      simp only [List.cons_append, List.nil_append, lenFrom, List.length_cons, List.length_nil]
      rw [toU8 (by omega), if_neg (by omega), if_neg (by omega), if_neg]
      intro hh
      rcases hh with ⟨a, b⟩ | ⟨a, b⟩
      · have := h0 a; omega
      · subst a; simp at hu; omega
    · rw [uvarint_big (by omega)]
      simp only [List.cons_append, lenFrom, List.length_cons]
      have hi8 : i ≤ 8 := by
        rcases Nat.lt_or_ge i 9 with h9 | h9
        · omega
        · have : i = 9 := by omega
          subst this
          simp at hu
          omega
      rw [toU8 (by omega), if_neg (by omega), if_pos (by omega)]
      rw [ih (u / 128) (by omega) (i + 1) rest (by omega) ?_ (by omega)]
      · omega
      · have e : 64 - 7 * i = (64 - 7 * (i + 1)) + 7 := by omega
        rw [e, Nat.pow_add] at hu
        have : (2 : Nat) ^ 7 = 128 := by decide
        rw [this] at hu
        exact Nat.div_lt_of_lt_mul (by rw [Nat.mul_comm]; exact hu)
theorem lenV_uvarint {u : Nat} (hu : u < 18446744073709551616) (rest : List UInt8) : lenV (uvarint u ++ rest) = (uvarint u).length := by
  have := lenFrom_uvarint u 0 rest (by omega) (by simpa using hu) (by omega)
  simpa [lenV] using this
def unzig (u : Nat) : Int := if u % 2 = 1 then -((u / 2 : Nat) : Int) - 1 else ((u / 2 : Nat) : Int)
theorem unzig_zigzag (x : Int) : unzig (zigzag x) = x := by
  unfold unzig zigzag
  split <;> split <;> omega
theorem zigzag_unzig (u : Nat) : zigzag (unzig u) = u := by
  unfold unzig zigzag
  split <;> split <;> omega
def enc (x : Int) : List UInt8 := uvarint (zigzag x)
theorem enc_pos (x : Int) : 1 ≤ (enc x).length := uvarint_pos _
theorem enc_le (x : Int) (h0 : -9223372036854775808 ≤ x) (h1 : x ≤ 9223372036854775807) : (enc x).length ≤ 10 := uvarint_length64 (Go.Lib.zigzag_lt h0 h1)
def numV (l : List UInt8) : Int := if lenV l = 0 then 0 else unzig (valV (l.take (lenV l)))
theorem numV_enc (x : Int) (h0 : -9223372036854775808 ≤ x) (h1 : x ≤ 9223372036854775807) (rest : List UInt8) :
    lenV (enc x ++ rest) = (enc x).length ∧ numV (enc x ++ rest) = x := by
  have hl : lenV (enc x ++ rest) = (enc x).length := lenV_uvarint (Go.Lib.zigzag_lt h0 h1) rest
  refine ⟨hl, ?_⟩
  unfold numV
  have := enc_pos x
  rw [hl, if_neg (by omega), List.take_left]
  simp [enc, valV_uvarint, unzig_zigzag]
end Go.Proofs.YtppidbdkejkopaaGreatDoor.NumMath
namespace Go.Proofs.YtppidbdkejkopaaGreatDoor.EcWalk
open Go.RowKit MemRow Ev NameMath NameWalk EvWalk NumMath
def txt (s : ByteArray) : List UInt8 := enc (s.size : Int) ++ s.data.toList
def txts (ss : List ByteArray) : List UInt8 := ss.flatMap txt
def fldE (f : ByteArray × Int) : List UInt8 := txt f.1 ++ enc f.2
def fldsE (fs : List (ByteArray × Int)) : List UInt8 := fs.flatMap fldE
def encE (e : Ev) : List UInt8 := txt e.s ++ txt e.t ++ enc (e.tags.length : Int) ++ txts e.tags ++ enc (e.fs.length : Int) ++ fldsE e.fs
theorem txt_len (s : ByteArray) : (txt s).length = (enc (s.size : Int)).length + s.size := by
  unfold txt
  rw [List.length_append, size_list]
theorem txts_snoc (ss : List ByteArray) (s : ByteArray) : txts (ss ++ [s]) = txts ss ++ txt s := by simp [txts]
theorem fldsE_snoc (fs : List (ByteArray × Int)) (f : ByteArray × Int) : fldsE (fs ++ [f]) = fldsE fs ++ fldE f := by simp [fldsE]
theorem name_small {s : ByteArray} (h : nameB s = true) : s.size ≤ 24 := by
  rw [size_list]
  exact (may_parts h).2.1
theorem txt_le {s : ByteArray} (h : s.size ≤ 1000) : (txt s).length ≤ 1010 := by
  have := enc_le (s.size : Int) (by omega) (by omega)
  rw [txt_len]
  omega
theorem txts_le {ss : List ByteArray} (h : ∀ s ∈ ss, s.size ≤ 1000) : (txts ss).length ≤ 1010 * ss.length := by
  induction ss with
  | nil => simp [txts]
  | cons s ss ih =>
    have h1 := txt_le (h s (by simp))
    have h2 := ih fun x hx => h x (by simp [hx])
    have e : txts (s :: ss) = txt s ++ txts ss := by simp [txts]
    rw [e, List.length_append, List.length_cons]
    omega
theorem fldsE_le {fs : List (ByteArray × Int)} (h : ∀ f ∈ fs, f.1.size ≤ 1000) (hz : ∀ f ∈ fs, -9223372036854775808 ≤ f.2 ∧ f.2 ≤ 9223372036854775807) : (fldsE fs).length ≤ 1020 * fs.length := by
  induction fs with
  | nil => simp [fldsE]
  | cons f fs ih =>
    have h1 := txt_le (h f (by simp))
    have h2 := ih (fun x hx => h x (by simp [hx])) (fun x hx => hz x (by simp [hx]))
    have h3 := hz f (by simp)
    have h4 := enc_le f.2 h3.1 h3.2
    have e : fldsE (f :: fs) = fldE f ++ fldsE fs := by simp [fldsE]
    rw [e, fldE, List.length_append, List.length_append, List.length_cons]
    omega
theorem tag_small {s : ByteArray} (h : tagB s = true) : s.size ≤ 49 := by
  unfold tagB parts at h
  rcases cut_index s.data.toList with ⟨_, h2⟩ | ⟨i, h0, _, h2⟩
  · rw [h2] at h
    simp at h
  · rw [h2] at h
    simp only at h
    split at h
    next hm =>
      rw [Bool.and_eq_true] at hm
      have h3 := (may_parts hm.1).2.1
      have h4 := (may_parts hm.2).2.1
      rw [List.length_take] at h3
      rw [List.length_drop] at h4
      rw [size_list]
      omega
    next => simp at h
structure Small (e : Ev) : Prop where
  s : e.s.size ≤ 24
  t : e.t.size ≤ 24
  tags : ∀ x ∈ e.tags, x.size ≤ 49
  names : ∀ f ∈ e.fs, f.1.size ≤ 24
  nums : ∀ f ∈ e.fs, -1099511627776 ≤ f.2 ∧ f.2 ≤ 1099511627776
  nt : e.tags.length ≤ 6
  nf : e.fs.length ≤ 4
theorem may_smallE {e : Ev} (h : mayE e = 0) : Small e := by
  obtain ⟨h1, h2, h3, h4, h5, h6, h7, _, _⟩ := (mayE_zero e).1 h
  rw [List.all_eq_true] at h5 h6 h7
  exact ⟨name_small h1, name_small h2, fun x hx => tag_small (h6 x hx), fun f hf => name_small (h5 f hf), fun f hf => of_decide_eq_true (h7 f hf), h3, h4⟩
end Go.Proofs.YtppidbdkejkopaaGreatDoor.EcWalk
namespace Go.Proofs.YtppidbdkejkopaaGreatDoor.NumWalk
open Go.RowKit NumMath
open Go.Lib (uvarint zigzag)
theorem ret_int {k : IntKind} {a b : Int} (h : a = b) : Ending.returned (.int k a) = .returned (.int k b) := by rw [h]
theorem ret_bool {a b : Bool} (h : a = b) : Ending.returned (.bool a) = .returned (.bool b) := by rw [h]
theorem not_i64 (x : Int) (h0 : -9223372036854775808 ≤ x) (h1 : x ≤ 9223372036854775807) : bits .xor .i64 (-1) x = -x - 1 := by
  show IntKind.i64.wrap ((BitVec.ofInt 64 (-1) ^^^ BitVec.ofInt 64 x).toNat : Int) = _
  have e1 : (BitVec.ofInt 64 (-1)).toNat = 2 ^ 64 - 1 := by decide
  have e2 : (BitVec.ofInt 64 x).toNat = (x % 18446744073709551616).toNat := by simp [BitVec.toNat_ofInt]
  have e3 : (x % 18446744073709551616).toNat < 2 ^ 64 := by omega
  rw [BitVec.toNat_xor, e1, e2, Go.Lib.xor_ones64 _ e3, IntKind.wrap_i64]
  omega
theorem or_one_u64 (a : Nat) (ha : a < 18446744073709551616) : bits .or .u64 (a : Int) 1 = ((a / 2 * 2 + 1 : Nat) : Int) := by
  have h := bits_or_u64_nat a 1 ha (by decide)
  rw [or_one] at h
  exact h
theorem zig_neg (x : Int) (h0 : -9223372036854775808 ≤ x) (h1 : x < 0) :
    bits BinOp.or IntKind.u64 (IntKind.u64.wrap (IntKind.u64.wrap (bits BinOp.xor IntKind.i64 (-1) x) * 2)) 1 = ((zigzag x : Nat) : Int) := by
  rw [not_i64 x h0 (by omega)]
  have e : IntKind.u64.wrap (IntKind.u64.wrap (-x - 1) * 2) = (((-2 * x - 2).toNat : Nat) : Int) := by
    rw [IntKind.wrap_u64, IntKind.wrap_u64]
    omega
  rw [e, or_one_u64 _ (by omega)]
  unfold zigzag
  rw [if_neg (by omega)]
  omega
set_option maxRecDepth 100000 in
theorem unsigned_any (x : Int) (w : World) (h0 : -9223372036854775808 ≤ x) (h1 : x ≤ 9223372036854775807) :
    Calls Tryz.prog 112 #[.int .i64 x] w fun e w' => e = .returned (.int .u64 (zigzag x : Nat)) ∧ w = w' := by
  by_cases hx : x < 0
  · go_enter Tryz.func112, Tryz.ntmps112
    go_wp2
    go_ret
    exact ⟨ret_int (zig_neg x h0 hx), rfl⟩
  · go_enter Tryz.func112, Tryz.ntmps112
    go_wp2
    go_ret
    exact ⟨ret_int (Go.Lib.zigzag_nonneg (by omega)).symm, rfl⟩
theorem unzig_odd (u : Nat) (h : u < 18446744073709551616) (ho : (bits BinOp.and IntKind.u64 (u : Int) 1 != 0) = true) : bits BinOp.xor IntKind.i64 (-1) ((u : Int) / 2) = unzig u := by
  rw [Go.Lib.u64_and1 (u : Int) (by omega) (by omega)] at ho
  simp at ho
  rw [not_i64 _ (by omega) (by omega)]
  unfold unzig
  rw [if_pos (by omega)]
  omega
theorem unzig_even (u : Nat) (h : u < 18446744073709551616) (ho : (bits BinOp.and IntKind.u64 (u : Int) 1 != 0) = false) : (u : Int) / 2 = unzig u := by
  rw [Go.Lib.u64_and1 (u : Int) (by omega) (by omega)] at ho
  simp at ho
  unfold unzig
  rw [if_neg (by omega)]
  omega
set_option maxRecDepth 100000 in
theorem signed_any (u : Nat) (w : World) (h : u < 18446744073709551616) :
    Calls Tryz.prog 130 #[.int .u64 u] w fun e w' => e = .returned (.int .i64 (unzig u)) ∧ w = w' := by
  have hu := h
  go_enter Tryz.func130, Tryz.ntmps130
  go_wp2
  · go_ret
    exact ⟨ret_int (unzig_odd u hu (by assumption)), rfl⟩
  · go_ret
    exact ⟨ret_int (unzig_even u hu (by assumption)), rfl⟩
def endB (c i : Nat) : Bool := decide (¬ ((0 < i ∧ c = 0) ∨ (i = 9 ∧ 1 < c)))
set_option maxRecDepth 100000 in
theorem mayEnd_any (c i : Nat) (w : World) (h : i < 10) :
    Calls Tryz.prog 167 #[.int .u8 (c : Int), .int .i64 (i : Int)] w fun e w' => e = .returned (.bool (endB c i)) ∧ w = w' := by
  go_enter Tryz.func167, Tryz.ntmps167
  go_wp2
  all_goals go_ret
  all_goals (refine ⟨ret_bool ?_, rfl⟩; unfold endB; rw [Bool.eq_iff_iff]; simp at *; omega)
theorem lib_bitLen (x : Nat) (h : x < 18446744073709551616) : Go.Lib.bitLen x = bitLen x := by
  induction x using Nat.strongRecOn with
  | ind x ih =>
    by_cases h0 : x = 0
    · subst h0; rfl
    · by_cases h1 : x = 1
      · subst h1; decide
      · rw [Go.Lib.bitLen_half x h0 (by omega), ih (x / 2) (by omega) (by omega), bitLen_shift x 1 (by omega)]
set_option maxRecDepth 100000 in
theorem len8tab_size : (Go.Lib.len8tab.size : Int) = 256 := by
  have : Go.Lib.len8tab.size = 256 := by decide
  omega
theorem len8_at (y : Int) (h : y.toNat < Go.Lib.len8tab.size) (h0 : 0 ≤ y) (h1 : y ≤ 255) : ((Go.Lib.len8tab[y.toNat]'h).toNat : Int) = Go.Lib.bitLen y.toNat := by
  have e : ((Go.Lib.len8tab[y.toNat]'h).toNat : Int) = Go.Lib.len8 y := by
    unfold Go.Lib.len8
    rw [getElem?_pos Go.Lib.len8tab y.toNat h]
    rfl
  rw [e, Go.Lib.len8_of y h0 h1]
theorem len_close (k : Nat) (x y : Int) (h : y.toNat < Go.Lib.len8tab.size) (hk : k ≤ 56) (h0 : 0 ≤ y) (h1 : y ≤ 255) (hx : x.toNat < 2 ^ 64) (e : y.toNat = x.toNat / 2 ^ k) (hp : 2 ^ k ≤ x.toNat) :
    wrap64 ((k : Int) + wrap64 ((Go.Lib.len8tab[y.toNat]'h).toNat : Int)) = (Go.Lib.bitLen x.toNat : Int) := by
  rw [len8_at y h h0 h1, Go.Lib.bitLen_shift k x.toNat hp hx, ← e]
  have := Go.Lib.bitLen_le8' y h0 h1
  unfold wrap64
  omega
theorem len_close0 (x : Int) (h : x.toNat < Go.Lib.len8tab.size) (h0 : 0 ≤ x) (h1 : x ≤ 255) :
    wrap64 (wrap64 ((Go.Lib.len8tab[x.toNat]'h).toNat : Int)) = (Go.Lib.bitLen x.toNat : Int) := by
  rw [len8_at x h h0 h1]
  have := Go.Lib.bitLen_le8' x h0 h1
  unfold wrap64
  omega
theorem way56 (x : Int) (h0 : 72057594037927936 ≤ x) (h1 : x ≤ 18446744073709551615) (h : (x / 4294967296 / 65536 / 256).toNat < Go.Lib.len8tab.size) : wrap64 (56 + wrap64 ((Go.Lib.len8tab[(x / 4294967296 / 65536 / 256).toNat]'h).toNat : Int)) = (Go.Lib.bitLen x.toNat : Int) :=
  len_close 56 x _ h (by omega) (by omega) (by omega) (by omega) (by omega) (by omega)
theorem way48 (x : Int) (h0 : 281474976710656 ≤ x) (h1 : x ≤ 72057594037927935) (h : (x / 4294967296 / 65536).toNat < Go.Lib.len8tab.size) : wrap64 (48 + wrap64 ((Go.Lib.len8tab[(x / 4294967296 / 65536).toNat]'h).toNat : Int)) = (Go.Lib.bitLen x.toNat : Int) :=
  len_close 48 x _ h (by omega) (by omega) (by omega) (by omega) (by omega) (by omega)
theorem way40 (x : Int) (h0 : 1099511627776 ≤ x) (h1 : x ≤ 281474976710655) (h : (x / 4294967296 / 256).toNat < Go.Lib.len8tab.size) : wrap64 (40 + wrap64 ((Go.Lib.len8tab[(x / 4294967296 / 256).toNat]'h).toNat : Int)) = (Go.Lib.bitLen x.toNat : Int) :=
  len_close 40 x _ h (by omega) (by omega) (by omega) (by omega) (by omega) (by omega)
theorem way32 (x : Int) (h0 : 4294967296 ≤ x) (h1 : x ≤ 1099511627775) (h : (x / 4294967296).toNat < Go.Lib.len8tab.size) : wrap64 (32 + wrap64 ((Go.Lib.len8tab[(x / 4294967296).toNat]'h).toNat : Int)) = (Go.Lib.bitLen x.toNat : Int) :=
  len_close 32 x _ h (by omega) (by omega) (by omega) (by omega) (by omega) (by omega)
theorem way24 (x : Int) (h0 : 16777216 ≤ x) (h1 : x ≤ 4294967295) (h : (x / 65536 / 256).toNat < Go.Lib.len8tab.size) : wrap64 (24 + wrap64 ((Go.Lib.len8tab[(x / 65536 / 256).toNat]'h).toNat : Int)) = (Go.Lib.bitLen x.toNat : Int) :=
  len_close 24 x _ h (by omega) (by omega) (by omega) (by omega) (by omega) (by omega)
theorem way16 (x : Int) (h0 : 65536 ≤ x) (h1 : x ≤ 16777215) (h : (x / 65536).toNat < Go.Lib.len8tab.size) : wrap64 (16 + wrap64 ((Go.Lib.len8tab[(x / 65536).toNat]'h).toNat : Int)) = (Go.Lib.bitLen x.toNat : Int) :=
  len_close 16 x _ h (by omega) (by omega) (by omega) (by omega) (by omega) (by omega)
theorem way8 (x : Int) (h0 : 256 ≤ x) (h1 : x ≤ 65535) (h : (x / 256).toNat < Go.Lib.len8tab.size) : wrap64 (8 + wrap64 ((Go.Lib.len8tab[(x / 256).toNat]'h).toNat : Int)) = (Go.Lib.bitLen x.toNat : Int) :=
  len_close 8 x _ h (by omega) (by omega) (by omega) (by omega) (by omega) (by omega)
set_option maxHeartbeats 4000000 in
set_option maxRecDepth 100000 in
theorem len64_any (x : Int) (w : World) (h0 : 0 ≤ x) (h1 : x ≤ 18446744073709551615) :
    Calls Tryz.prog 146 #[.int .u64 x] w fun e w' => e = .returned (.int .i64 (Go.Lib.bitLen x.toNat)) ∧ w = w' := by
  have hs := len8tab_size
  go_enter Tryz.func146, Tryz.ntmps146
  go_wp2
  all_goals (go_ret; refine ⟨ret_int ?_, rfl⟩)
  · exact way56 x (by omega) (by omega) _
  · exact way48 x (by omega) (by omega) _
  · exact way40 x (by omega) (by omega) _
  · exact way32 x (by omega) (by omega) _
  · exact way24 x (by omega) (by omega) _
  · exact way16 x (by omega) (by omega) _
  · exact way8 x (by omega) (by omega) _
  · exact len_close0 x _ (by omega) (by omega)
set_option maxRecDepth 100000 in
theorem size_any (u : Nat) (w : World) (h : u < 18446744073709551616) :
    Calls Tryz.prog 114 #[.int .u64 u] w fun e w' => e = .returned (.int .i64 ((uvarint u).length : Nat)) ∧ w = w' := by
  have e1 := or_one_u64 u h
  have e2 : Go.Lib.bitLen (u / 2 * 2 + 1) = bitLen (u / 2 * 2 + 1) := lib_bitLen _ (by omega)
  have e3 : sizeV u = (bitLen (u / 2 * 2 + 1) + 6) / 7 := by unfold sizeV; rw [or_one]
  have e4 := sizeV_eq u
  have e5 : bitLen (u / 2 * 2 + 1) ≤ 64 := bitLen_le (by omega)
  generalize hb : u / 2 * 2 + 1 = b at *
  have hb1 : b < 18446744073709551616 := by omega
  have E : (Go.Lib.bitLen b + 6) / 7 = (uvarint u).length := by omega
  have e6 : Go.Lib.bitLen b ≤ 64 := by omega
  have HE := Go.Lib.hid E
  clear e2 e3 e4 e5 hb E
  go_enter Tryz.func114, Tryz.ntmps114
  go_wp2_with (go_at_call 146; refine (len64_any _ _ (by omega) (by omega)).mono ?_; rintro e w' ⟨rfl, rfl⟩)
  go_ret
  refine ⟨ret_int ?_, rfl⟩
  have := HE.out
  omega
end Go.Proofs.YtppidbdkejkopaaGreatDoor.NumWalk
namespace Go.Proofs.YtppidbdkejkopaaGreatDoor.NumWalk
open Go.RowKit NumMath NumMem
open Go.Lib (uvarint zigzag)
theorem u8_info : (Tryz.prog.info? 5).map (fun i => (i.zero, i.size, i.bytes)) = some (some (.int .u8 0), 1, 1) := by kernel_rfl
theorem u8_size : (Tryz.prog.info? 5).map (·.size) = some 1 := by kernel_rfl
theorem splice_zeros (l : List UInt8) (room : Nat) : splice (cellsOf (List.replicate (l.length + room) 0)) 0 (cellsOf l) = cellsOf (l ++ List.replicate room 0) := by
  unfold splice
  rw [cellsOf_append, cellsOf_length]
  simp [cellsOf]
set_option maxRecDepth 100000 in
theorem extend_any (A : Option Addr) (n cap : Nat) (l : List UInt8) (room : Nat) (w : World) (h : Rd w A n cap l) (hr : n + room ≤ 281474976710656) :
    Calls Tryz.prog 113 #[.slice A n cap, .int .i64 (room : Int)] w fun e w' => e = .returned (.slice (some ⟨w.heap.size, 0, none⟩) (n + room) (n + room)) ∧ Row w' w.heap.size 5 (l ++ List.replicate room 0) ∧ Below w.heap.size w w' := by
  have hmk := fun W => run_make_bytes (P := Tryz.prog) 58 5 Tryz.underlying58 u8_info (n + room) hr ((n : Int) + (room : Int)) (by omega) W
  have hl := h.len
  have H := Go.Lib.hid hl
  clear hl
  go_enter Tryz.func113, Tryz.ntmps113
  go_wp2_with (with_reducible refine wpList_copy_splice rfl (.tmp 11) (.tmp 12) 58 58 rfl 5 Tryz.underlying58 u8_size _ _ _ _ _ _ rfl rfl w.heap.size 0 (cellsOf (List.replicate (n + room) 0)) 5 (heap_alloc_new w _) (cellsOf l) (by rw [cellsOf_length, H.out]; simp [Nat.min_def]) (fun h0 => ⟨rfl, (h.below ((Below.refl _ _).alloc (Nat.le_refl _) _)).src h0⟩) (by simp [cellsOf, H.out]) (cellsOf_one l) w.heap.size w ((Below.refl _ _).alloc (Nat.le_refl _) _) (Nat.le_refl _) ?_; intro w2 HG2 hB2)
  go_ret
  refine ⟨rfl, ?_, hB2⟩
  have h2 := HG2.out
  obtain rfl := H.out
  rw [splice_zeros] at h2
  exact h2
theorem or128 (v : Nat) : bits BinOp.or IntKind.u8 (IntKind.u8.wrap (v : Int)) 128 = (((v % 128 + 128).toUInt8.toNat : Nat) : Int) := by
  rw [toU8 (by omega)]
  have e : IntKind.u8.wrap (v : Int) = ((v % 256 : Nat) : Int) := by
    rw [IntKind.wrap_u8]
    omega
  rw [e, Go.Lib.u8_or128_any _ (by omega) (by omega)]
  omega
structure FillAt (w wr : World) (g o : Nat) (t : TypeId) (L : List UInt8) (u k v : Nat) : Prop where
  row : Row wr g t (L.take o ++ ((uvarint u).take k ++ L.drop (o + k)))
  left : uvarint u = (uvarint u).take k ++ uvarint v
  lt : v < 18446744073709551616
  le : k < (uvarint u).length
  grown : w.grownBy wr (some g)
  size : wr.heap.size = w.heap.size
theorem fillAt_start {w : World} {g o : Nat} {t : TypeId} {L : List UInt8} {u : Nat} (h : Row w g t L) (hu : u < 18446744073709551616) : FillAt w w g o t L u 0 u :=
  ⟨by simpa using h, by simp, hu, Go.Lib.uvarint_pos u, ⟨rfl, rfl, rfl, Nat.le_refl _, fun _ _ _ => rfl⟩, rfl⟩
theorem row_set (L X : List UInt8) (o k : Nat) (c : UInt8) (hk : X.length = k) (ho : o + k < L.length) : (L.take o ++ (X ++ L.drop (o + k))).set (o + k) c = L.take o ++ ((X ++ [c]) ++ L.drop (o + (k + 1))) := by
  subst hk
  have h1 : (L.take o).length = o := by simp; omega
  rw [List.set_append_right _ _ (by omega), h1, Nat.add_sub_cancel_left, List.set_append_right _ _ (by omega), Nat.sub_self, List.drop_eq_getElem_cons ho]
  simp [Nat.add_assoc]
theorem take_add_one (a b : List UInt8) (c : UInt8) (r : List UInt8) (k : Nat) (h : a = a.take k ++ b) (hb : b = c :: r) : a.take (k + 1) = a.take k ++ [c] ∧ a = a.take (k + 1) ++ r ∧ (a.take k).length = k := by
  have hl : a.length = (a.take k).length + b.length := by rw [← List.length_append, ← h]
  have hk : (a.take k).length = k := by
    have h2 := List.length_take_le k a
    subst hb
    simp only [List.length_take, List.length_cons] at hl ⊢
    omega
  have e : a.take (k + 1) = a.take k ++ [c] := by
    have h3 := congrArg (List.take (k + 1)) h
    rw [List.take_append, hk, hb] at h3
    simp at h3
    rw [h3, List.take_take, Nat.min_eq_right (by omega)]
  refine ⟨e, ?_, hk⟩
  rw [e, List.append_assoc]
  rw [hb] at h
  exact h
theorem fillAt_step {w wr : World} {g o : Nat} {t : TypeId} {L : List UInt8} {u k v : Nat} (h : FillAt w wr g o t L u k v) (hk : k + 1 < (uvarint u).length) (ho : o + (uvarint u).length ≤ L.length) :
    FillAt w (wr.setCell ⟨g, o + k, none⟩ (.int .u8 (bits BinOp.or IntKind.u8 (IntKind.u8.wrap (v : Int)) 128))) g o t L u (k + 1) (v / 128) := by
  obtain ⟨hr, hl, hv, hle, hg, hs⟩ := h
  have hlen : (uvarint u).length = ((uvarint u).take k).length + (uvarint v).length := by rw [← List.length_append, ← hl]
  have h128 : 128 ≤ v := by
    rcases Nat.lt_or_ge v 128 with hlt | hge
    · rw [Go.Lib.uvarint_small hlt] at hlen
      have := List.length_take_le k (uvarint u)
      simp at hlen
      omega
    · exact hge
  obtain ⟨e1, e2, e3⟩ := take_add_one _ _ _ _ k hl (Go.Lib.uvarint_big h128)
  refine ⟨?_, e2, by omega, hk, grown_setCell hg _ _, by simpa [World.setCell] using hs⟩
  rw [or128, e1, ← row_set L _ o k _ e3 (by omega)]
  exact hr.set_ _ _
theorem fillAt_end {w wr : World} {g o : Nat} {t : TypeId} {L : List UInt8} {u k v : Nat} (h : FillAt w wr g o t L u k v) (hk : k + 1 = (uvarint u).length) (ho : o + (uvarint u).length ≤ L.length) :
    Row (wr.setCell ⟨g, o + k, none⟩ (.int .u8 (IntKind.u8.wrap (v : Int)))) g t (L.take o ++ (uvarint u ++ L.drop (o + (uvarint u).length))) ∧ w.grownBy (wr.setCell ⟨g, o + k, none⟩ (.int .u8 (IntKind.u8.wrap (v : Int)))) (some g) ∧ (wr.setCell ⟨g, o + k, none⟩ (.int .u8 (IntKind.u8.wrap (v : Int)))).heap.size = w.heap.size := by
  obtain ⟨hr, hl, hv, hle, hg, hs⟩ := h
  have hlen : (uvarint u).length = ((uvarint u).take k).length + (uvarint v).length := by rw [← List.length_append, ← hl]
  have h128 : v < 128 := by
    rcases Nat.lt_or_ge v 128 with hlt | hge
    · exact hlt
    · rw [Go.Lib.uvarint_big hge] at hlen
      have := Go.Lib.uvarint_pos (v / 128)
      simp only [List.length_cons, List.length_take] at hlen
      omega
  obtain ⟨e1, e2, e3⟩ := take_add_one _ _ _ _ k hl (Go.Lib.uvarint_small h128)
  refine ⟨?_, grown_setCell hg _ _, by simpa [World.setCell] using hs⟩
  have e4 : IntKind.u8.wrap (v : Int) = ((v.toUInt8.toNat : Nat) : Int) := by
    rw [toU8 (by omega), IntKind.wrap_u8]
    omega
  have e5 : uvarint u = (uvarint u).take k ++ [v.toUInt8] := by
    rw [← e1, hk, List.take_length]
  rw [e4]
  have := hr.set_ (o + k) v.toUInt8
  rw [row_set L _ o k _ e3 (by omega), ← e5, hk] at this
  exact this
theorem fillAt_cell {w wr : World} {g o : Nat} {t : TypeId} {L : List UInt8} {u k v : Nat} (h : FillAt w wr g o t L u k v) (ho : o + (uvarint u).length ≤ L.length) : (∃ x, wr.cell? ⟨g, o + k, none⟩ = some x) ∧ wr.frozen? ⟨g, o + k, none⟩ = false := by
  have hle := h.le
  refine ⟨⟨_, h.row.cell (i := o + k) ?_⟩, h.row.frozen _⟩
  simp only [List.length_append, List.length_take, List.length_drop]
  omega
set_option maxHeartbeats 400000 in
set_option maxRecDepth 100000 in
theorem fill_any (g o c n : Nat) (L : List UInt8) (u : Nat) (w : World) (h : Row w g 5 L) (hu : u < 18446744073709551616) (hn : n = (uvarint u).length) (ho : o + n ≤ L.length) :
    Calls Tryz.prog 115 #[.slice (some ⟨g, o, none⟩) n c, .int .u64 (u : Int)] w fun e w' => e = .returned (.tuple #[]) ∧ Row w' g 5 (L.take o ++ (uvarint u ++ L.drop (o + n))) ∧ w.grownBy w' (some g) ∧ w'.heap.size = w.heap.size := by
  have h10 := Go.Lib.uvarint_length64 hu
  have h1 := Go.Lib.uvarint_pos u
  have hn10 : n ≤ 10 := by omega
  have hn1 : 1 ≤ n := by omega
  have HN := Go.Lib.hid hn
  clear hn h10 h1
  go_enter Tryz.func115, Tryz.ntmps115
  go_wp2
  go_loopw [1, 10] (fun v i wr => ∃ k q : Nat, v = .int .u64 q ∧ i = .int .i64 k ∧ FillAt w wr g o 5 L u k q) (fun _ i _ => n - (intOf i).toNat)
  case atStart => exact ⟨0, u, rfl, rfl, fillAt_start h hu⟩
  case round =>
    obtain ⟨k, q, rfl, rfl, hf⟩ := hrel
    obtain ⟨⟨x, hx⟩, hfr⟩ := fillAt_cell hf (by rw [← HN.out]; exact ho)
    have hq := hf.lt
    have hkn : k < n := by rw [HN.out]; exact hf.le
    by_cases hlt : k + 1 < n
    · have hs := fillAt_step hf (by rw [← HN.out]; exact hlt) (by rw [← HN.out]; exact ho)
      go_wp2
      go_roundw
      case rel => exact ⟨k + 1, q / 128, by go_num, by go_num, hs⟩
      case measure => simp [intOf]; omega
    · obtain rfl : n = k + 1 := by omega
      have hs := fillAt_end hf HN.out (by rw [← HN.out]; exact ho)
      go_wp2
      go_end0
      obtain ⟨r1, r2, r3⟩ := hs
      rw [← HN.out] at r1
      exact ⟨rfl, r1, r2, r3⟩
theorem put_row (l z : List UInt8) (n m : Nat) (hl : l.length = n) : (l ++ List.replicate m 0).take n ++ (z ++ (l ++ List.replicate m 0).drop (n + m)) = l ++ z := by
  subst hl
  have h : (l ++ List.replicate m (0 : UInt8)).drop (l.length + m) = [] := List.drop_eq_nil_of_le (by simp)
  rw [h, List.take_left]
  simp
set_option maxHeartbeats 400000 in
set_option maxRecDepth 100000 in
theorem put_any (A : Option Addr) (n cap : Nat) (l : List UInt8) (x : Int) (w : World) (h : Rd w A n cap l) (h0 : -9223372036854775808 ≤ x) (h1 : x ≤ 9223372036854775807) (hn : n ≤ 140737488355328) :
    Calls Tryz.prog 78 #[.slice A n cap, .int .i64 x] w fun e w' => e = .returned (.slice (some ⟨w.heap.size, 0, none⟩) (n + (enc x).length) (n + (enc x).length)) ∧ Row w' w.heap.size 5 (l ++ enc x) ∧ Below w.heap.size w w' := by
  have hz := Go.Lib.zigzag_lt h0 h1
  have h10 := Go.Lib.uvarint_length64 hz
  have hp := Go.Lib.uvarint_pos (zigzag x)
  have hl := h.len
  have HL := Go.Lib.hid hl
  obtain ⟨m, hm⟩ : ∃ m, m = (uvarint (zigzag x)).length := ⟨_, rfl⟩
  rw [← hm] at h10 hp
  have HM := Go.Lib.hid hm
  clear hl hm
  go_enter Tryz.func78, Tryz.ntmps78
  go_wp2_with fail
  refine (unsigned_any x _ h0 h1).mono ?_
  rintro e w' ⟨rfl, rfl⟩
  go_wp2_with fail
  refine (size_any _ _ hz).mono ?_
  rintro e w' ⟨rfl, rfl⟩
  rw [← HM.out]
  go_wp2_with fail
  refine (extend_any A n cap l m _ h (by omega)).mono ?_
  rintro e w1 ⟨rfl, hr1, hb1⟩
  go_wp2_with fail
  refine (fill_any w.heap.size n m m (l ++ List.replicate m 0) (zigzag x) _ hr1 hz HM.out (by simp [HL.out])).mono ?_
  rintro e w2 ⟨rfl, hr2, hg2, hs2⟩
  have HS2 := Go.Lib.hid hs2
  clear hs2
  go_wp2_with fail
  go_ret
  rw [put_row l _ n m HL.out] at hr2
  have e1 : (enc x).length = m := HM.out.symm
  rw [e1]
  exact ⟨rfl, hr2, hb1.grown hg2 hb1.size (by rintro k ⟨rfl⟩; exact Nat.le_refl _)⟩
theorem text_row (l z x : List UInt8) (n m k : Nat) (hl : l.length = n) (hz : z.length = m) (hx : x.length = k) :
    List.take (n + m) ((l ++ List.replicate (m + k) 0).take n ++ (z ++ (l ++ List.replicate (m + k) 0).drop (n + m))) ++ (x ++ List.drop (n + m + k) ((l ++ List.replicate (m + k) 0).take n ++ (z ++ (l ++ List.replicate (m + k) 0).drop (n + m)))) = l ++ z ++ x := by
  subst hl hz hx
  have h1 : (l ++ List.replicate (z.length + x.length) (0 : UInt8)).drop (l.length + z.length) = List.replicate x.length 0 := by
    rw [List.drop_append, List.drop_eq_nil_of_le (by omega)]
    simp
  rw [List.take_left, h1]
  have h2 : (l ++ (z ++ List.replicate x.length (0 : UInt8))).take (l.length + z.length) = l ++ z := by
    rw [← List.append_assoc, List.take_left' (by simp)]
  have h3 : (l ++ (z ++ List.replicate x.length (0 : UInt8))).drop (l.length + z.length + x.length) = [] := List.drop_eq_nil_of_le (by simp; omega)
  rw [h2, h3]
  simp
theorem text_fit (l z : List UInt8) (n m k : Nat) (hl : l.length = n) (hz : z.length = m) :
    n + m + k ≤ ((l ++ List.replicate (m + k) (0 : UInt8)).take n ++ (z ++ (l ++ List.replicate (m + k) 0).drop (n + m))).length := by
  subst hl hz
  simp only [List.length_append, List.length_take, List.length_drop, List.length_replicate]
  omega
set_option maxHeartbeats 400000 in
set_option maxRecDepth 100000 in
theorem putText_pos (A : Option Addr) (n cap : Nat) (l : List UInt8) (s : ByteArray) (w : World) (h : Rd w A n cap l) (hs : s.size ≤ 70368744177664) (hn : n ≤ 70368744177664) (hs0 : ¬ s = ByteArray.empty) :
    Calls Tryz.prog 149 #[.slice A n cap, .string s] w fun e w' => e = .returned (.slice (some ⟨w.heap.size, 0, none⟩) (n + ((enc (s.size : Int)).length + s.size)) (n + ((enc (s.size : Int)).length + s.size))) ∧ Row w' w.heap.size 5 (l ++ enc (s.size : Int) ++ s.data.toList) ∧ Below w.heap.size w w' := by
  have hz := Go.Lib.zigzag_lt (x := (s.size : Int)) (by omega) (by omega)
  have h10 := Go.Lib.uvarint_length64 hz
  have hp := Go.Lib.uvarint_pos (zigzag (s.size : Int))
  have hl := h.len
  have HL := Go.Lib.hid hl
  obtain ⟨m, hm⟩ : ∃ m, m = (uvarint (zigzag (s.size : Int))).length := ⟨_, rfl⟩
  rw [← hm] at h10 hp
  have HM := Go.Lib.hid hm
  clear hl hm
  go_enter Tryz.func149, Tryz.ntmps149
  go_wp2_with fail
  refine (unsigned_any (s.size : Int) _ (by omega) (by omega)).mono ?_
  rintro e w' ⟨rfl, rfl⟩
  go_wp2_with fail
  refine (size_any _ _ hz).mono ?_
  rintro e w' ⟨rfl, rfl⟩
  rw [← HM.out]
  go_wp2_with fail
  rw [show ((m : Int) + (s.size : Int)) = ((m + s.size : Nat) : Int) from by omega]
  refine (extend_any A n cap l (m + s.size) _ h (by omega)).mono ?_
  rintro e w1 ⟨rfl, hr1, hb1⟩
  go_wp2_with fail
  refine (fill_any w.heap.size n (m + s.size) m (l ++ List.replicate (m + s.size) 0) (zigzag (s.size : Int)) _ hr1 hz HM.out (by simp [HL.out])).mono ?_
  rintro e w2 ⟨rfl, hr2, hg2, hs2⟩
  clear hs2
  have hb2 := hb1.grown hg2 hb1.size (by rintro k ⟨rfl⟩; exact Nat.le_refl _)
  have hfit := text_fit l (uvarint (zigzag (s.size : Int))) n m s.size HL.out HM.out.symm
  obtain ⟨L2, hL2⟩ : ∃ L2, L2 = List.take n (l ++ List.replicate (m + s.size) 0) ++ (uvarint (zigzag (s.size : Int)) ++ List.drop (n + m) (l ++ List.replicate (m + s.size) 0)) := ⟨_, rfl⟩
  rw [← hL2] at hr2 hfit
  have HL2 := Go.Lib.hid hL2
  clear hL2 hr1 hg2 hb1
  go_wp2_with (with_reducible refine wpList_copy_text rfl (.tmp 34) (.tmp 35) 58 9 rfl 5 Tryz.underlying58 u8_size _ _ _ s rfl rfl w.heap.size (n + m) L2 5 hr2 (by omega) (fun _ => by first | rfl | exact if_neg (by omega)) hfit ?_; intro w3 hr3 hg3)
  go_ret
  have hb3 := hb2.grown hg3 hb2.size (by rintro k ⟨rfl⟩; exact Nat.le_refl _)
  rw [HL2.out, text_row l _ _ n m s.size HL.out HM.out.symm (by simp)] at hr3
  have e1 : (enc (s.size : Int)).length = m := HM.out.symm
  rw [e1]
  exact ⟨rfl, hr3, hb3⟩
set_option maxHeartbeats 400000 in
set_option maxRecDepth 100000 in
theorem putText_empty (A : Option Addr) (n cap : Nat) (l : List UInt8) (w : World) (h : Rd w A n cap l) (hn : n ≤ 70368744177664) :
    Calls Tryz.prog 149 #[.slice A n cap, .string ByteArray.empty] w fun e w' => e = .returned (.slice (some ⟨w.heap.size, 0, none⟩) (n + 1) (n + 1)) ∧ Row w' w.heap.size 5 (l ++ [0]) ∧ Below w.heap.size w w' := by
  have hl := h.len
  have HL := Go.Lib.hid hl
  clear hl
  have z0 : zigzag 0 = 0 := rfl
  have v0 : uvarint 0 = [0] := by rw [Go.Lib.uvarint_small (by omega)]; rfl
  have V0 := Go.Lib.hid v0
  clear v0
  have hcp : ∀ (W : World) d, (Builtin.copy_ #[58, 9] 3 #[.slice d 0 0, .string ByteArray.empty]).run Tryz.prog W = .ok (goInt 0) W := fun W d =>
    Go.Lib.run_copy_empty_string W _ _ _ 5 d 0 0 _ Tryz.underlying58 (by kernel_rfl) rfl
  go_enter Tryz.func149, Tryz.ntmps149
  go_wp2_with fail
  refine (unsigned_any 0 _ (by omega) (by omega)).mono ?_
  rintro e w' ⟨rfl, rfl⟩
  rw [z0]
  go_wp2_with fail
  refine (size_any 0 _ (by omega)).mono ?_
  rintro e w' ⟨rfl, rfl⟩
  rw [V0.out]
  go_wp2_with fail
  refine (extend_any A n cap l 1 _ h (by omega)).mono ?_
  rintro e w1 ⟨rfl, hr1, hb1⟩
  go_wp2_with fail
  refine (fill_any w.heap.size n 1 1 (l ++ List.replicate 1 0) 0 _ hr1 (by omega) (by rw [V0.out]; rfl) (by simp [HL.out])).mono ?_
  rintro e w2 ⟨rfl, hr2, hg2, hs2⟩
  clear hs2
  have hb2 := hb1.grown hg2 hb1.size (by rintro k ⟨rfl⟩; exact Nat.le_refl _)
  go_wp2
  go_ret
  rw [put_row l _ n 1 HL.out, V0.out] at hr2
  exact ⟨rfl, hr2, hb2⟩
theorem putText_any (A : Option Addr) (n cap : Nat) (l : List UInt8) (s : ByteArray) (w : World) (h : Rd w A n cap l) (hs : s.size ≤ 70368744177664) (hn : n ≤ 70368744177664) :
    Calls Tryz.prog 149 #[.slice A n cap, .string s] w fun e w' => e = .returned (.slice (some ⟨w.heap.size, 0, none⟩) (n + ((enc (s.size : Int)).length + s.size)) (n + ((enc (s.size : Int)).length + s.size))) ∧ Row w' w.heap.size 5 (l ++ enc (s.size : Int) ++ s.data.toList) ∧ Below w.heap.size w w' := by
  by_cases h0 : s = ByteArray.empty
  · subst h0
    have e1 : enc ((ByteArray.empty.size : Nat) : Int) = [0] := by
      show uvarint (zigzag 0) = [0]
      have z0 : zigzag 0 = 0 := rfl
      rw [z0, Go.Lib.uvarint_small (by omega)]
      rfl
    refine (putText_empty A n cap l w h hn).mono fun e w' ⟨he, hr, hb⟩ => ?_
    rw [e1]
    exact ⟨he, by simpa using hr, hb⟩
  · exact putText_pos A n cap l s w h hs hn h0
end Go.Proofs.YtppidbdkejkopaaGreatDoor.NumWalk
namespace Go.Proofs.YtppidbdkejkopaaGreatDoor.NumWalk
open Go.RowKit NumMath NumMem
open Go.Lib (uvarint zigzag)
structure RPut (w wr : World) (A : Option Addr) (n cap : Nat) (l : List UInt8) (u v : Nat) : Prop where
  own : ∃ d, Own wr w.heap.size 5 A n cap (l ++ d) ∧ uvarint u = d ++ uvarint v
  lt : v < 18446744073709551616
  below : Below w.heap.size w wr
theorem RPut.n_le {w wr : World} {A : Option Addr} {n cap : Nat} {l : List UInt8} {u v : Nat} (h : RPut w wr A n cap l u v) (hu : u < 18446744073709551616) : n ≤ l.length + 10 := by
  obtain ⟨d, ho, hd⟩ := h.own
  have h1 := Go.Lib.uvarint_length64 hu
  have h2 := congrArg List.length hd
  have h3 := ho.len
  rw [List.length_append] at h2 h3
  omega
theorem rd_one (w : World) (t : TypeId) (x : Int) (c : UInt8) (hx : x = (c.toNat : Int)) : Rd (w.alloc (.cells #[.int .u8 x] t)) (some ⟨w.heap.size, 0, none⟩) 1 1 [c] := by
  subst hx
  exact (Row.new w t [c]).rd (by unfold maxLen; simp)
theorem rput_step {w w1 : World} {n : Nat} {l : List UInt8} {u v : Nat} {A' : Option Addr} {cap' : Nat} {d : List UInt8} (hd : uvarint u = d ++ uvarint v) (hv : 128 ≤ v) (hlt : v < 18446744073709551616)
    (ho : Own w1 w.heap.size 5 A' (n + 1) cap' (l ++ d ++ [(v % 128 + 128).toUInt8])) (hb : Below w.heap.size w w1) : RPut w w1 A' (n + 1) cap' l u (v / 128) :=
  ⟨⟨d ++ [(v % 128 + 128).toUInt8], by rw [← List.append_assoc]; exact ho, by rw [hd, Go.Lib.uvarint_big hv]; simp⟩, by omega, hb⟩
theorem wrap2 (x : Int) (h0 : 0 ≤ x) (h1 : x ≤ 9223372036854775807) : IntKind.u64.wrap (2 * IntKind.u64.wrap x) = 2 * x := by
  rw [IntKind.wrap_u64, IntKind.wrap_u64]
  omega
set_option maxRecDepth 100000 in
set_option maxHeartbeats 1000000 in
theorem refPut_any (A : Option Addr) (n cap : Nat) (l : List UInt8) (x : Int) (w : World) (h : Rd w A n cap l) (h0 : -9223372036854775808 ≤ x) (h1 : x ≤ 9223372036854775807) (hn : n ≤ 70368744177664) :
    Calls Tryz.prog 83 #[.slice A n cap, .int .i64 x] w fun e w' => ∃ A' cap', e = .returned (.slice A' (n + (enc x).length) cap') ∧ Own w' w.heap.size 5 A' (n + (enc x).length) cap' (l ++ enc x) ∧ Below w.heap.size w w' := by
  have hz := Go.Lib.zigzag_lt h0 h1
  have ba : Below w.heap.size w (w.alloc (.cells #[] 5)) := (Below.refl _ _).alloc (Nat.le_refl _) _
  have r1 := h.below ba
  have hl := h.len
  have HL := Go.Lib.hid hl
  clear hl
  have hez : x < 0 → 2 * -(x + 1) + 1 = ((zigzag x : Nat) : Int) := by
    intro hx
    unfold zigzag
    rw [if_neg (by omega)]
    omega
  have hep : 0 ≤ x → 2 * x = ((zigzag x : Nat) : Int) := by
    intro hx
    unfold zigzag
    rw [if_pos (by omega)]
    omega
  have HEZ := Go.Lib.hid hez
  have HEP := Go.Lib.hid hep
  have e0 : enc x = uvarint (zigzag x) := rfl
  rw [e0]
  clear hez hep e0
  go_enter Tryz.func83, Tryz.ntmps83
  go_upto_if 11 with (fail)
  go_cut [5] (fun t wx => w = wx ∧ t = .int .u64 ((zigzag x : Nat) : Int))
  case first =>
    by_cases hx : x < 0
    · go_wp2_with fail
      go_meet
      exact ⟨rfl, by rw [HEZ.out hx]⟩
    · go_wp2_with fail
      go_meet
      exact ⟨rfl, by rw [wrap2 x (by omega) h1, HEP.out (by omega)]⟩
  case rest =>
    obtain ⟨rfl, rfl⟩ := hcut
    clear HEZ HEP
    go_wp2_with (first
      | (at_builtin; refine wpList_append_fresh rfl (.tmp 18) (.tmp 19) 58 rfl 5 Tryz.underlying58 u8_info rfl rfl (Own.empty w 5 (Nat.le_refl _)) r1 (by omega) ba.size w ba ?_; intro A5 c5 w5 o5 b5))
    clear r1 ba h
    go_loopw [5, 6] (fun t o wr => ∃ (v : Nat) (A' : Option Addr) (n' c' : Nat), t = .int .u64 (v : Nat) ∧ o = .slice A' n' c' ∧ RPut w wr A' n' c' l (zigzag x) v) (fun t _ _ => (intOf t).toNat)
    case atStart => exact ⟨zigzag x, _, _, _, rfl, rfl, ⟨[], by simpa using o5, rfl⟩, hz, b5⟩
    case round =>
      obtain ⟨v, A', n', c', rfl, rfl, hp⟩ := hrel
      have hnl := hp.n_le hz
      have hv := hp.lt
      have hB := hp.below
      obtain ⟨d, ho, hd⟩ := hp.own
      have HDD := Go.Lib.hid hd
      have hn' : n' ≤ 70368744177674 := by rw [HL.out] at hnl; omega
      clear hd hnl o5 b5 hp
      by_cases h128 : 128 ≤ v
      · have bb : Below w.heap.size w (wr.alloc (.cells #[.int .u8 ((v : Int) % 128 + 128)] 5)) := hB.alloc hB.size _
        have rr := rd_one wr 5 ((v : Int) % 128 + 128) (v % 128 + 128).toUInt8 (by rw [toU8 (by omega)]; omega)
        have oo : Own (wr.alloc (.cells #[.int .u8 ((v : Int) % 128 + 128)] 5)) w.heap.size 5 A' n' c' (l ++ d) := ho.below ((Below.refl _ _).alloc (Nat.le_refl _) _)
        go_wp2_with (first
          | (at_builtin; refine wpList_append_more rfl (.tmp 23) (.tmp 28) 58 rfl 5 Tryz.underlying58 u8_info rfl rfl oo rr (by omega) bb.size w bb ?_; intro A6 c6 w6 o6 b6))
        go_roundw
        case rel => exact ⟨v / 128, _, _, _, by go_num, rfl, rput_step HDD.out h128 hv o6 b6⟩
        case measure => simp [intOf]; omega
      · have bb : Below w.heap.size w (wr.alloc (.cells #[.int .u8 (v : Int)] 5)) := hB.alloc hB.size _
        have rr := rd_one wr 5 (v : Int) v.toUInt8 (by rw [toU8 (by omega)])
        have oo : Own (wr.alloc (.cells #[.int .u8 (v : Int)] 5)) w.heap.size 5 A' n' c' (l ++ d) := ho.below ((Below.refl _ _).alloc (Nat.le_refl _) _)
        go_wp2_with (first
          | (at_builtin; refine wpList_append_more rfl (.tmp 32) (.tmp 35) 58 rfl 5 Tryz.underlying58 u8_info rfl rfl oo rr (by omega) bb.size w bb ?_; intro A6 c6 w6 o6 b6))
        go_ret
        have hd := HDD.out
        rw [Go.Lib.uvarint_small (x := v) (by omega)] at hd
        have hlen : n + (uvarint (zigzag x)).length = n' + 1 := by
          have h2 := ho.len
          rw [List.length_append, HL.out] at h2
          rw [hd, List.length_append]
          simp
          omega
        rw [hlen]
        refine ⟨A6, c6, rfl, ?_, b6⟩
        rw [hd, ← List.append_assoc]
        exact o6
theorem rd_bytes (w : World) (e : TypeId) (s : ByteArray) (cap : Nat) (hc : s.size ≤ cap) (hcm : cap ≤ maxLen) (fr : Nat × Nat) :
    Rd (w.drew.alloc (.cells (bytesRow s cap) e fr)) (some ⟨w.heap.size, 0, none⟩) s.size cap s.data.toList := by
  refine Rd.of_block (heap_alloc_new w.drew _) (by simp) hc hcm fun i hi => ?_
  unfold bytesRow
  have hi' : i < s.data.toList.length := by simpa using hi
  rw [Array.getElem?_append_left (by simpa using hi), Array.getElem?_map]
  have hi2 : i < s.data.size := by simpa using hi
  have e1 : s.data.toList.getD i 0 = s.data[i] := by simp [List.getD, Array.getElem?_eq_getElem hi2]
  rw [Array.getElem?_eq_getElem hi2, e1]
  rfl
set_option maxRecDepth 100000 in
set_option maxHeartbeats 1000000 in
theorem refPutText_any (A : Option Addr) (n cap : Nat) (l : List UInt8) (s : ByteArray) (w : World) (h : Rd w A n cap l) (hn : n ≤ 35184372088832) (hs : s.size ≤ 35184372088832) :
    Calls Tryz.prog 119 #[.slice A n cap, .string s] w fun e w' => ∃ A' cap', e = .returned (.slice A' (n + (enc (s.size : Int)).length + s.size) cap') ∧ Own w' w.heap.size 5 A' (n + (enc (s.size : Int)).length + s.size) cap' (l ++ enc (s.size : Int) ++ s.data.toList) ∧ Below w.heap.size w w' := by
  have h10 := enc_le (s.size : Int) (by omega) (by omega)
  have hcv := fun (W : World) => run_bytes_of_string (P := Tryz.prog) W 9 58 5 s Tryz.underlying9 Tryz.underlying58 Tryz.underlying5
  go_enter Tryz.func119, Tryz.ntmps119
  go_wp2_with fail
  refine (refPut_any A n cap l (s.size : Int) _ h (by omega) (by omega) (by omega)).mono ?_
  rintro e w1 ⟨A1, c1, rfl, o1, b1⟩
  have hcv1 := hcv w1
  have hc1 := grownCap_ge w1 s.size 0 5
  have hc2 := grownCap_le_maxLen w1 s.size 0 5 (by unfold maxLen; omega)
  generalize hC : grownCap w1 s.size 0 5 = C at hcv1 hc1 hc2
  clear hC hcv
  have rr := rd_bytes w1 5 s C hc1 hc2 ((bytesRow s C).size, (bytesRow s C).size + 1)
  have bd : Below w1.heap.size w1 (w1.drew.alloc (.cells (bytesRow s C) 5 ((bytesRow s C).size, (bytesRow s C).size + 1))) := ((Below.refl _ _).drew).alloc (Nat.le_refl _) _
  have oo := o1.below bd
  have bb := b1.trans (bd.mono b1.size)
  generalize bytesRow s C = X at *
  clear o1 h
  go_wp2_with (first
    | (at_builtin; refine wpList_append_more rfl (.tmp 8) (.tmp 10) 58 rfl 5 Tryz.underlying58 u8_info rfl rfl oo rr (by omega) bb.size w bb ?_; intro A6 c6 w6 o6 b6))
  go_ret
  exact ⟨A6, c6, rfl, o6, b6⟩
end Go.Proofs.YtppidbdkejkopaaGreatDoor.NumWalk
namespace Go.Proofs.YtppidbdkejkopaaGreatDoor.EcWalk
open Go.RowKit MemRow Ev NameMath NameWalk EvWalk NumMath NumMem NumWalk
def Laid (w : World) (base : Nat) (v : Value) (l : List UInt8) : Prop := ∃ A cap, v = .slice A l.length cap ∧ Own w base 5 A l.length cap l
theorem Laid.below {w w' : World} {base : Nat} {v : Value} {l : List UInt8} (h : Laid w base v l) (hb : Below w.heap.size w w') : Laid w' base v l := by
  obtain ⟨A, cap, rfl, h⟩ := h
  exact ⟨A, cap, rfl, h.below hb⟩
theorem Laid.lower {w : World} {base base' : Nat} {v : Value} {l : List UInt8} (h : Laid w base v l) (hb : base' ≤ base) : Laid w base' v l := by
  obtain ⟨A, cap, rfl, h⟩ := h
  refine ⟨A, cap, rfl, h.1, ?_⟩
  rcases h.2 with h2 | ⟨g, c, cur, hv, hg, rest⟩
  · exact .inl h2
  · exact .inr ⟨g, c, cur, hv, Nat.le_trans hb hg, rest⟩
theorem refPut_laid (A : Option Addr) (n cap : Nat) (l : List UInt8) (x : Int) (w : World) (h : Rd w A n cap l) (hx : -9223372036854775808 ≤ x ∧ x ≤ 9223372036854775807) (hn : l.length ≤ 10000000) :
    Calls Tryz.prog 83 #[.slice A n cap, .int .i64 x] w fun e w' => ∃ v l', Hid (l' = l ++ enc x) ∧ e = .returned v ∧ Laid w' w.heap.size v l' ∧ Below w.heap.size w w' := by
  have hl := h.len
  refine (refPut_any A n cap l x w h hx.1 hx.2 (by omega)).mono ?_
  rintro e w' ⟨A', c', rfl, ho, hb⟩
  have e1 : n + (enc x).length = (l ++ enc x).length := by rw [List.length_append, hl]
  rw [e1] at ho ⊢
  exact ⟨_, _, Go.Lib.hid rfl, rfl, ⟨A', c', rfl, ho⟩, hb⟩
theorem refTxt_laid (A : Option Addr) (n cap : Nat) (l : List UInt8) (s : ByteArray) (w : World) (h : Rd w A n cap l) (hs : s.size ≤ 1000) (hn : l.length ≤ 10000000) :
    Calls Tryz.prog 119 #[.slice A n cap, .string s] w fun e w' => ∃ v l', Hid (l' = l ++ txt s) ∧ e = .returned v ∧ Laid w' w.heap.size v l' ∧ Below w.heap.size w w' := by
  have hl := h.len
  refine (refPutText_any A n cap l s w h (by omega) (by omega)).mono ?_
  rintro e w' ⟨A', c', rfl, ho, hb⟩
  have e1 : n + (enc (s.size : Int)).length + s.size = (l ++ txt s).length := by rw [List.length_append, txt_len, hl]; omega
  rw [e1, List.append_assoc] at ho
  rw [e1]
  exact ⟨_, _, Go.Lib.hid rfl, rfl, ⟨A', c', rfl, ho⟩, hb⟩
def PutE (l : List UInt8) (ev : Ev) (w : World) (e : Ending) (w' : World) : Prop :=
  (mayE ev = 0 ∧ ∃ v, e = .returned (.tuple #[v, .int .i64 0]) ∧ Laid w' w.heap.size v (l ++ encE ev)) ∨ (mayE ev ≠ 0 ∧ e = .returned (.tuple #[.slice none 0 0, .int .i64 (mayE ev)]))
theorem head_le {e : Ev} (h : Small e) (j : Nat) : (txt e.s ++ txt e.t ++ enc (e.tags.length : Int) ++ txts (e.tags.take j)).length ≤ 10000 := by
  have h1 := txt_le (s := e.s) (by have := h.s; omega)
  have h2 := txt_le (s := e.t) (by have := h.t; omega)
  have h3 := enc_le (e.tags.length : Int) (by omega) (by have := h.nt; omega)
  have h4 := txts_le (ss := e.tags.take j) fun x hx => by have := h.tags x (List.mem_of_mem_take hx); omega
  have h5 : (e.tags.take j).length ≤ 6 := by rw [List.length_take]; have := h.nt; omega
  simp only [List.length_append]
  omega
theorem tail_le {e : Ev} (h : Small e) (j : Nat) : (enc (e.fs.length : Int) ++ fldsE (e.fs.take j)).length ≤ 10000 := by
  have h3 := enc_le (e.fs.length : Int) (by omega) (by have := h.nf; omega)
  have h4 := fldsE_le (fs := e.fs.take j) (fun x hx => by have := h.names x (List.mem_of_mem_take hx); omega) (fun x hx => by have := h.nums x (List.mem_of_mem_take hx); omega)
  have h5 : (e.fs.take j).length ≤ 4 := by rw [List.length_take]; have := h.nf; omega
  simp only [List.length_append]
  omega
set_option maxHeartbeats 2000000 in
set_option maxRecDepth 100000 in
theorem refPutE_any (A : Option Addr) (n cap : Nat) (l : List UInt8) (v : Value) (ev : Ev) (w : World) (h : Rd w A n cap l) (hl : l.length ≤ 1000000) (hv : IsEv w v ev) (hok : EvOk ev) :
    Calls Tryz.prog 84 #[.slice A n cap, v] w fun e w' => PutE l ev w e w' ∧ Below w.heap.size w w' := by
  have hv0 := hv
  obtain ⟨T, nT, cT, F, nF, cF, rfl, hT, hF⟩ := hv
  have lT := RdS.len hT
  have lF := RdF.len hF
  have LT := Go.Lib.hid lT
  have LF := Go.Lib.hid lF
  have B1 : Below w.heap.size w (w.alloc (.cells #[.string ev.s, .string ev.t, .slice T nT cT, .slice F nF cF] 69)) := (Below.refl _ _).alloc (Nat.le_refl _) _
  have E1 := EvAt.new w (.string ev.s) (.string ev.t) (.slice T nT cT) (.slice F nF cF)
  clear lT lF
  go_enter Tryz.func84, Tryz.ntmps84
  go_upto_region 1 with (fail)
  generalize w.alloc (.cells #[.string ev.s, .string ev.t, .slice T nT cT, .slice F nF cF] 69) = w1 at *
  have k0 := E1.c0
  have k1 := E1.c1
  have k2 := E1.c2
  have k3 := E1.c3
  go_wp2_with fail
  refine (refMayE_any _ ev w1 (hv0.below B1) hok).mono ?_
  rintro e w2 ⟨rfl, b2⟩
  have E2 := E1.below b2 E1.lt
  have B2 := below_chain B1 b2
  clear k0 k1 k2 k3 E1 B1 b2
  by_cases h0 : mayE ev = 0
  case neg =>
    have m0 : (mayE ev != 0) = true := by rw [bne_iff_ne]; exact h0
    go_wp2_with fail
    go_ret2
    exact ⟨.inr ⟨h0, rfl⟩, B2⟩
  rw [h0]
  have H0 := Go.Lib.hid h0
  have sm := may_smallE h0
  have SM := Go.Lib.hid sm
  have hs := sm.s
  have ht := sm.t
  have hnt : nT ≤ 6 := by rw [← LT.out]; exact sm.nt
  have hnf : nF ≤ 4 := by rw [← LF.out]; exact sm.nf
  clear h0 sm
  have k0 := E2.c0
  have k1 := E2.c1
  have r2 := h.below B2
  have hs' : ev.s.size ≤ 1000 := by omega
  have ht' : ev.t.size ≤ 1000 := by omega
  have hl3' : (l ++ txt ev.s).length ≤ 10000000 := by have := txt_le hs'; rw [List.length_append]; omega
  have HL3 := Go.Lib.hid hl3'
  clear hl3'
  have hl0 : l.length ≤ 10000000 := by omega
  have b0 : Below w2.heap.size w2 w2.drew := bel_drew (Below.refl _ _)
  have r2d := r2.below b0
  go_wp2_with fail
  go_region_held (fun w' => w'.cell? ⟨w.heap.size, 0, none⟩ = some (.string ev.s) ∧ w'.cell? ⟨w.heap.size, 1, none⟩ = some (.string ev.t))
    (first | exact ⟨k0, k1⟩ | exact ⟨bcell b3 k0, bcell b3 k1⟩ | exact ⟨bcell b4 k0, bcell b4 k1⟩)
    (first
      | (go_at_call 119; refine (refTxt_laid A3 l3.length c3 l3 ev.t w3 o3.rd ht' hl3).mono ?_; rintro e w4 ⟨u4, l4, H4, rfl, ⟨A4, c4, rfl, o4⟩, bb⟩; have b4 := below_chain b3 bb; clear bb)
      | (go_at_call 119; refine (refTxt_laid A n cap l ev.s w2.drew r2d hs' hl0).mono ?_; rintro e w3 ⟨u3, l3, H3, rfl, ⟨A3, c3, rfl, o3⟩, bb⟩; have b3 := below_chain b0 bb; have hl3 : l3.length ≤ 10000000 := (by rw [H3.out]; exact HL3.out); clear bb))
  have E4 := E2.below b4 E2.lt
  have B4 := below_chain B2 b4
  have hl4 : l4.length ≤ 10000000 := by
    have h1 := txt_le hs'
    have h2 := txt_le ht'
    rw [H4.out, H3.out]
    simp only [List.length_append]
    omega
  have hxT : -9223372036854775808 ≤ (nT : Int) ∧ (nT : Int) ≤ 9223372036854775807 := by omega
  have k2 := E4.c2
  clear k0 k1 b3 b4 b0 r2d r2 hl3 HL3 E2 B2
  go_wp2_with fail
  refine (refPut_laid A4 l4.length c4 l4 (nT : Int) w4 o4.rd hxT hl4).mono ?_
  rintro e w5 ⟨u5, l5, H5, rfl, L5, b5⟩
  have E5 := E4.below b5 E4.lt
  have B5 := below_chain B4 b5
  have L5' := Laid.lower L5 B4.size
  have e5 : l5 = l ++ (txt ev.s ++ txt ev.t ++ enc (ev.tags.length : Int) ++ txts (ev.tags.take 0)) := by
    rw [H5.out, H4.out, H3.out, LT.out]
    simp [txts, List.append_assoc]
  have HE5 := Go.Lib.hid e5
  clear k2 E4 B4 b5 L5 e5 hl4 hxT o4 o3
  obtain ⟨A5, c5, rfl, o5⟩ := L5'
  go_wp2_with fail
  go_loopw [7, 8] (fun o i wr => ∃ (j : Nat) (A' : Option Addr) (c' : Nat) (l' : List UInt8), j ≤ nT ∧ o = .slice A' l'.length c' ∧ i = .int .i64 j ∧ Hid (l' = l ++ (txt ev.s ++ txt ev.t ++ enc (ev.tags.length : Int) ++ txts (ev.tags.take j))) ∧ Own wr w.heap.size 5 A' l'.length c' l' ∧
      EvAt wr w.heap.size (.string ev.s) (.string ev.t) (.slice T nT cT) (.slice F nF cF) ∧ Below w.heap.size w wr) (fun _ i _ => nT - (intOf i).toNat)
  case atStart => exact ⟨0, A5, c5, l5, Nat.zero_le _, rfl, rfl, HE5, o5, E5, B5⟩
  case round =>
    obtain ⟨j, A', c', l', hj, rfl, rfl, HQ, oq, Eq, Bq⟩ := hrel
    have k2 := Eq.c2
    have hlq : l'.length ≤ 10000000 := by
      have h1 := head_le SM.out j
      rw [HQ.out, List.length_append]
      omega
    by_cases hlt : j < nT
    · obtain ⟨bt, ot, rfl, _, kt⟩ := RdS.at_ (RdC.below hT Bq) (by omega)
      have ka1 := kt j hlt
      have i1 : (j : Int) < nT := by omega
      have hjl : j < ev.tags.length := by rw [LT.out]; exact hlt
      have ta := take_get ev.tags j hjl
      have hy := SM.out.tags _ (mem_getD ev.tags j hjl)
      have TA := Go.Lib.hid ta
      clear kt ta hjl
      generalize ev.tags.getD j ByteArray.empty = y at *
      have hy' : y.size ≤ 1000 := by omega
      go_wp2_with fail
      refine (refTxt_laid A' l'.length c' l' y wr oq.rd hy' hlq).mono ?_
      rintro e w6 ⟨u6, l6, H6, rfl, L6, b6⟩
      obtain ⟨A6, c6, rfl, o6⟩ := Laid.lower L6 Bq.size
      have E6 := Eq.below b6 Eq.lt
      have B6 := below_chain Bq b6
      have H7 : Hid (l6 = l ++ (txt ev.s ++ txt ev.t ++ enc (ev.tags.length : Int) ++ txts (ev.tags.take (j + 1)))) := Go.Lib.hid (by rw [H6.out, HQ.out, TA.out, txts_snoc]; simp only [List.append_assoc])
      clear k2 ka1 L6
      go_wp2_with fail
      go_roundw
      case rel => exact ⟨j + 1, A6, c6, l6, by omega, rfl, by go_num, H7, o6, E6, B6⟩
      case measure => simp [intOf]; omega
    · obtain rfl : nT = j := by omega
      have hxF : -9223372036854775808 ≤ (nF : Int) ∧ (nF : Int) ≤ 9223372036854775807 := by omega
      have k3 := Eq.c3
      go_wp2_with fail
      refine (refPut_laid A' l'.length c' l' (nF : Int) wr oq.rd hxF hlq).mono ?_
      rintro e w7 ⟨u7, l7, H7, rfl, L7, b7⟩
      obtain ⟨A7, c7, rfl, o7⟩ := Laid.lower L7 Bq.size
      have E7 := Eq.below b7 Eq.lt
      have B7 := below_chain Bq b7
      have H8 : Hid (l7 = l ++ (txt ev.s ++ txt ev.t ++ enc (ev.tags.length : Int) ++ txts ev.tags ++ (enc (ev.fs.length : Int) ++ fldsE (ev.fs.take 0)))) := Go.Lib.hid (by
        rw [H7.out, HQ.out, List.take_of_length_le (by rw [LT.out]; exact Nat.le_refl _), LF.out]
        simp [fldsE, List.append_assoc])
      clear k2 k3 L7 hxF hlq HQ oq
      go_wp2_with fail
      go_loopw [7, 9] (fun o i wq => ∃ (k : Nat) (A' : Option Addr) (c' : Nat) (l' : List UInt8), k ≤ nF ∧ o = .slice A' l'.length c' ∧ i = .int .i64 k ∧ Hid (l' = l ++ (txt ev.s ++ txt ev.t ++ enc (ev.tags.length : Int) ++ txts ev.tags ++ (enc (ev.fs.length : Int) ++ fldsE (ev.fs.take k)))) ∧ Own wq w.heap.size 5 A' l'.length c' l' ∧
          EvAt wq w.heap.size (.string ev.s) (.string ev.t) (.slice T nT cT) (.slice F nF cF) ∧ Below w.heap.size w wq) (fun _ i _ => nF - (intOf i).toNat)
      case atStart => exact ⟨0, A7, c7, l7, Nat.zero_le _, rfl, rfl, H8, o7, E7, B7⟩
      case round =>
        obtain ⟨k, A', c', l', hk, rfl, rfl, HQ, oq, Eq, Bq⟩ := hrel
        have k3 := Eq.c3
        have hlq : l'.length ≤ 1100000 := by
          have h1 := head_le SM.out ev.tags.length
          have h2 := tail_le SM.out k
          rw [List.take_of_length_le (Nat.le_refl _)] at h1
          rw [HQ.out, List.length_append, List.length_append]
          omega
        by_cases hlt : k < nF
        · obtain ⟨bf, of, rfl, _, kf⟩ := RdF.at_ (RdC.below hF Bq) (by omega)
          obtain ⟨y1, y2⟩ := kf k hlt
          have i1 : (k : Int) < nF := by omega
          have hkl : k < ev.fs.length := by rw [LF.out]; exact hlt
          have ta := fs_take ev.fs k hkl
          have hy := SM.out.names _ (fs_mem ev.fs k hkl)
          have hz := SM.out.nums _ (fs_mem ev.fs k hkl)
          have TA := Go.Lib.hid ta
          clear kf ta hkl
          generalize ev.fs.getD k (ByteArray.empty, 0) = f at *
          obtain ⟨nm, nz⟩ := f
          simp only at y1 y2 hy hz
          have hy' : nm.size ≤ 1000 := by omega
          have hz' : -9223372036854775808 ≤ nz ∧ nz ≤ 9223372036854775807 := by omega
          have hl2 : l'.length ≤ 10000000 := by omega
          have b0 : Below wr.heap.size wr wr.drew := bel_drew (Below.refl _ _)
          have rd := oq.rd.below b0
          go_wp2_with fail
          go_region_held (fun w' => w'.cell? ⟨w.heap.size, 3, none⟩ = some (.slice (some ⟨bf, of, none⟩) nF cF) ∧ w'.cell? ⟨bf, of + k * 2, none⟩ = some (.string nm) ∧ w'.cell? ⟨bf, of + k * 2 + 1, none⟩ = some (.int .i64 nz))
            (first | exact ⟨k3, y1, y2⟩ | exact ⟨bcell b8 k3, bcell b8 y1, bcell b8 y2⟩ | exact ⟨bcell b9 k3, bcell b9 y1, bcell b9 y2⟩)
            (first
              | (go_at_call 83; refine (refPut_laid A8 l8.length c8 l8 nz w8 o8.rd hz' hl8).mono ?_; rintro e w9 ⟨u9, l9, H9, rfl, ⟨A9, c9, rfl, o9⟩, bb⟩; have b9 := below_chain b8 bb; clear bb)
              | (go_at_call 119; refine (refTxt_laid A' l'.length c' l' nm wr.drew rd hy' hl2).mono ?_; rintro e w8 ⟨u8, l8, H8', rfl, ⟨A8, c8, rfl, o8⟩, bb⟩; have b8 := below_chain b0 bb; have hl8 : l8.length ≤ 10000000 := (by have h1 := txt_le hy'; rw [H8'.out, List.length_append]; omega); clear bb))
          have E9 := Eq.below b9 Eq.lt
          have B9 := below_chain Bq b9
          obtain ⟨A9', c9', e9, o9'⟩ := Laid.lower (base' := w.heap.size) ⟨A9, c9, rfl, o9⟩ (Nat.le_trans Bq.size b8.size)
          injection e9 with e9a e9b e9c
          subst e9a e9c
          have H10 : Hid (l9 = l ++ (txt ev.s ++ txt ev.t ++ enc (ev.tags.length : Int) ++ txts ev.tags ++ (enc (ev.fs.length : Int) ++ fldsE (ev.fs.take (k + 1))))) := Go.Lib.hid (by rw [H9.out, H8'.out, HQ.out, TA.out, fldsE_snoc, fldE]; simp only [List.append_assoc])
          clear k3 y1 y2 b0 rd
          go_wp2_with fail
          go_roundw
          case rel => exact ⟨k + 1, A9, c9, l9, by omega, rfl, by go_num, H10, o9', E9, B9⟩
          case measure => simp [intOf]; omega
        · obtain rfl : nF = k := by omega
          have HF2 : l' = l ++ encE ev := by
            rw [HQ.out, List.take_of_length_le (by rw [LF.out]; exact Nat.le_refl _), encE]
            simp only [List.append_assoc]
          go_wp2_with fail
          go_ret2
          exact ⟨.inl ⟨H0.out, _, rfl, by rw [← HF2]; exact ⟨_, _, rfl, oq⟩⟩, Bq⟩
end Go.Proofs.YtppidbdkejkopaaGreatDoor.EcWalk
namespace Go.Proofs.YtppidbdkejkopaaGreatDoor.Ev
open Go.RowKit Go.ChangeShapes Go.WideShapes Go.Joins Go.Deep MemRow Go.Proofs.YtppidbdkejkopaaGreatDoor.Open
def noEv : Ev := ⟨ByteArray.empty, ByteArray.empty, [], []⟩
def EvCells (w : World) (b o : Nat) (e : Ev) : Prop :=
  ∃ A n ca B m cb, w.cell? ⟨b, o, none⟩ = some (.string e.s) ∧ w.cell? ⟨b, o + 1, none⟩ = some (.string e.t) ∧ w.cell? ⟨b, o + 2, none⟩ = some (.slice A n ca) ∧ w.cell? ⟨b, o + 3, none⟩ = some (.slice B m cb) ∧ RdS w A n ca e.tags ∧ RdF w B m cb e.fs
theorem EvCells.below {w w' : World} {b o : Nat} {e : Ev} (h : EvCells w b o e) (hb : Below w.heap.size w w') : EvCells w' b o e := by
  obtain ⟨A, n, ca, B, m, cb, h0, h1, h2, h3, h4, h5⟩ := h
  exact ⟨A, n, ca, B, m, cb, bcell hb h0, bcell hb h1, bcell hb h2, bcell hb h3, RdC.below h4 hb, RdC.below h5 hb⟩
theorem EvCells.drew {w : World} {b o : Nat} {e : Ev} (h : EvCells w b o e) (k : Nat) : EvCells (w.drewN k) b o e := h
def RdE (w : World) (A : Option Addr) (n cap : Nat) (es : List Ev) : Prop :=
  es.length = n ∧ n ≤ cap ∧ cap ≤ maxLen ∧ (0 < n → ∃ b o, A = some ⟨b, o, none⟩ ∧ b < w.heap.size ∧ ∀ i, i < n → EvCells w b (o + i * 4) (es.getD i noEv))
theorem RdE.nil (w : World) : RdE w none 0 0 [] := ⟨rfl, Nat.le_refl _, Nat.zero_le _, fun h => absurd h (by omega)⟩
theorem RdE.len {w : World} {A : Option Addr} {n cap : Nat} {es : List Ev} (h : RdE w A n cap es) : es.length = n := h.1
theorem RdE.le {w : World} {A : Option Addr} {n cap : Nat} {es : List Ev} (h : RdE w A n cap es) : n ≤ maxLen := Nat.le_trans h.2.1 h.2.2.1
theorem RdE.at_ {w : World} {A : Option Addr} {n cap : Nat} {es : List Ev} (h : RdE w A n cap es) (hn : 0 < n) : ∃ b o, A = some ⟨b, o, none⟩ ∧ b < w.heap.size ∧ ∀ i, i < n → EvCells w b (o + i * 4) (es.getD i noEv) := h.2.2.2 hn
theorem RdE.below {w w' : World} {A : Option Addr} {n cap : Nat} {es : List Ev} (h : RdE w A n cap es) (hb : Below w.heap.size w w') : RdE w' A n cap es :=
  ⟨h.1, h.2.1, h.2.2.1, fun hn => by
    obtain ⟨b, o, hA, hlt, hc⟩ := h.2.2.2 hn
    exact ⟨b, o, hA, Nat.lt_of_lt_of_le hlt hb.size, fun i hi => (hc i hi).below hb⟩⟩
section
variable {H : Type} {enc : TypeId × Value → H} {P : Program} {W : World} {base : Nat} {t e : TypeId} {v : Value} {d : DataW H} {p : List MemPlace}
theorem tr_events {f0 f1 f2 f3 g0 g1 : Field} {tS tF : TypeId} {fuel : Nat} {y : DataW H × List MemPlace} (ht : P.underlying t = some (.slice e)) (he : P.underlying e = some (.struct #[f0, f1, f2, f3])) (ce : P.cellsOf e = 4) (hone : oneCellFields P #[f0, f1, f2, f3] = true)
    (t0 : P.underlying f0.type = some .string) (t1 : P.underlying f1.type = some .string) (t2 : P.underlying f2.type = some (.slice tS)) (hS : P.underlying tS = some .string) (cS : P.cellsOf tS = 1)
    (t3 : P.underlying f3.type = some (.slice tF)) (hF : P.underlying tF = some (.struct #[g0, g1])) (cF : P.cellsOf tF = 2) (o0 : g0.offset = 0) (o1 : g1.offset = 1) (c0 : P.cellsOf g0.type = 1) (c1 : P.cellsOf g1.type = 1) (u0 : P.underlying g0.type = some .string) (u1 : P.underlying g1.type = some (.int .i64))
    (h : DataW.trod enc P W 0 (fun _ => true) true fuel t [v] = some y) :
    ∃ A n ca es, v = .slice A n ca ∧ RdE W A n ca es ∧ ∀ x ∈ es, EvOk x := by
  rcases open_slice ht h with ⟨hcs, _⟩ | ⟨a, l, c, m, nn, D, Pl, hcs, _, hl, hm, hmm, _, hx⟩
  · simp only [List.cons.injEq, and_true] at hcs
    subst hcs
    exact ⟨none, 0, 0, [], rfl, RdE.nil W, by simp⟩
  · simp only [List.cons.injEq, and_true] at hcs
    subst hcs
    have hm' : m = c := by simpa using hmm
    subst hm'
    have each : ∀ i, i < m → ∃ ev : Ev, EvOk ev ∧ ∃ A1 n1 k1 B1 m1 k2, W.cell? (a.add (i * 4)) = some (.string ev.s) ∧ W.cell? (a.add (i * 4 + 1)) = some (.string ev.t) ∧ W.cell? (a.add (i * 4 + 2)) = some (.slice A1 n1 k1) ∧ W.cell? (a.add (i * 4 + 3)) = some (.slice B1 m1 k2) ∧ RdS W A1 n1 k1 ev.tags ∧ RdF W B1 m1 k2 ev.fs := by
      intro i hi
      obtain ⟨cs', h1, h2⟩ := hx i hi
      rw [ce] at h1
      obtain ⟨_, hlen, hcell⟩ := World.cells?_some h1
      obtain ⟨y0, y1, y2, y3, n, _, _, q0, q1, q2, q3⟩ := trod_struct4 he h2
      obtain ⟨z0, k0⟩ := hone_of hone 0 f0 rfl
      obtain ⟨z1, k1⟩ := hone_of hone 1 f1 rfl
      obtain ⟨z2, k2⟩ := hone_of hone 2 f2 rfl
      obtain ⟨z3, k3⟩ := hone_of hone 3 f3 rfl
      match cs', hlen with
      | [v0, v1, v2, v3], _ =>
        have z0q : DataW.trod enc P W 0 (fun _ => true) true n f0.type [v0] = some y0 := by simpa [z0, k0] using q0
        have z1q : DataW.trod enc P W 0 (fun _ => true) true n f1.type [v1] = some y1 := by simpa [z1, k1] using q1
        have z2q : DataW.trod enc P W 0 (fun _ => true) true n f2.type [v2] = some y2 := by simpa [z2, k2] using q2
        have z3q : DataW.trod enc P W 0 (fun _ => true) true n f3.type [v3] = some y3 := by simpa [z3, k3] using q3
        have e0 := hcell 0 (by omega)
        have e1 := hcell 1 (by omega)
        have e2 := hcell 2 (by omega)
        have e3 := hcell 3 (by omega)
        rw [add_add] at e0 e1 e2 e3
        obtain ⟨s, x0, _, ws⟩ := DataW.trod_string t0 z0q
        obtain ⟨s', x1, _, wt⟩ := DataW.trod_string t1 z1q
        injection x0 with x0
        injection x1 with x1
        obtain ⟨A1, n1, k1', ss, rfl, r1, w1⟩ := tr_strs t2 hS cS z2q
        obtain ⟨B1, m1, k2', fs, rfl, r2, w2, w3⟩ := tr_flds t3 hF cF o0 o1 c0 c1 u0 u1 z3q
        subst x0 x1
        exact ⟨⟨s, s', ss, fs⟩, ⟨ws, wt, w1, w2, w3⟩, A1, n1, k1', B1, m1, k2', by simpa using e0, by simpa using e1, by simpa using e2, by simpa using e3, r1, r2⟩
    have hex : ∃ F : Nat → Ev, ∀ i, i < m → EvOk (F i) ∧ ∃ A1 n1 k1 B1 m1 k2, W.cell? (a.add (i * 4)) = some (.string (F i).s) ∧ W.cell? (a.add (i * 4 + 1)) = some (.string (F i).t) ∧ W.cell? (a.add (i * 4 + 2)) = some (.slice A1 n1 k1) ∧ W.cell? (a.add (i * 4 + 3)) = some (.slice B1 m1 k2) ∧ RdS W A1 n1 k1 (F i).tags ∧ RdF W B1 m1 k2 (F i).fs :=
      ⟨fun i => if hi : i < m then (each i hi).choose else noEv, fun i hi => by simp only [hi, dif_pos]; exact (each i hi).choose_spec⟩
    obtain ⟨F, hF'⟩ := hex
    refine ⟨_, l, m, (List.range l).map F, rfl, ⟨by simp, hl, hm, fun hn => ?_⟩, ?_⟩
    · obtain ⟨_, _, _, _, _, _, _, hc0, _⟩ := hF' 0 (by omega)
      rw [Nat.zero_mul] at hc0
      have e0 := spot_none hc0
      have hb := World.block_lt_of_cell? W _ hc0
      rw [e0, add_at] at hb
      refine ⟨a.block, a.off, by rw [← e0], hb, fun i hi => ?_⟩
      have hFj : ((List.range l).map F).getD i noEv = F i := by simp [List.getD, hi]
      rw [hFj]
      obtain ⟨_, A1, n1, k1, B1, m1, k2, h0, h1, h2, h3, r1, r2⟩ := hF' i (by omega)
      rw [e0, add_at] at h0 h1 h2 h3
      exact ⟨A1, n1, k1, B1, m1, k2, h0, h1, h2, h3, r1, r2⟩
    · intro x hxm
      obtain ⟨j, hj, rfl⟩ := List.mem_map.1 hxm
      exact (hF' j (by have := List.mem_range.1 hj; omega)).1
end
end Go.Proofs.YtppidbdkejkopaaGreatDoor.Ev
namespace Go.Proofs.YtppidbdkejkopaaGreatDoor.NumWalk
open Go.RowKit NumMath NumMem
open Go.Lib (uvarint zigzag)
structure DecAt (l : List UInt8) (k q : Nat) : Prop where
  le : k ≤ l.length
  le10 : k ≤ 10
  lt : q < 18446744073709551616
  val : k ≤ 9 → q = valV (l.take k)
  all : ∀ j, j < k → 128 ≤ (l.getD j 0).toNat
theorem and128_fin : ∀ c : Fin 256, bits BinOp.and IntKind.u8 (c.val : Int) 128 = if 128 ≤ c.val then 128 else 0 := by decide +kernel
theorem andNot128_fin : ∀ c : Fin 256, bits BinOp.andNot IntKind.u8 (c.val : Int) 128 = ((c.val % 128 : Nat) : Int) := by decide +kernel
def accV (q c k : Nat) : Nat := q ||| (c % 128 * 2 ^ (7 * k) % 18446744073709551616)
theorem acc_eq (q c k : Nat) (hq : q < 18446744073709551616) (hc : c < 256) :
    bits BinOp.or IntKind.u64 (q : Int) (IntKind.u64.wrap (IntKind.u64.wrap (bits BinOp.andNot IntKind.u8 (c : Int) 128) * 2 ^ (7 * k))) = (accV q c k : Int) := by
  have e1 := andNot128_fin ⟨c, hc⟩
  simp only at e1
  rw [e1]
  have e2 : IntKind.u64.wrap ((c % 128 : Nat) : Int) = ((c % 128 : Nat) : Int) := by rw [IntKind.wrap_u64]; omega
  rw [e2]
  have e3 : ((c % 128 : Nat) : Int) * 2 ^ (7 * k) = ((c % 128 * 2 ^ (7 * k) : Nat) : Int) := by simp
  rw [e3]
  have e4 : IntKind.u64.wrap ((c % 128 * 2 ^ (7 * k) : Nat) : Int) = ((c % 128 * 2 ^ (7 * k) % 18446744073709551616 : Nat) : Int) := by
    rw [IntKind.wrap_u64]
    omega
  rw [e4, bits_or_u64_nat _ _ hq (Nat.mod_lt _ (by omega))]
  rfl
theorem acc_lt (q c k : Nat) (hq : q < 18446744073709551616) : accV q c k < 18446744073709551616 :=
  Nat.or_lt_two_pow (n := 64) hq (Nat.mod_lt _ (by omega))
theorem pow_128 (k : Nat) : 128 ^ k = 2 ^ (7 * k) := by rw [Nat.pow_mul]
theorem valV_take_succ (l : List UInt8) (k : Nat) (hk : k < l.length) : valV (l.take (k + 1)) = valV (l.take k) + 128 ^ k * ((l.getD k 0).toNat % 128) := by
  have e : l.take (k + 1) = l.take k ++ [l.getD k 0] := by
    rw [List.take_succ_eq_append_getElem hk]
    simp [List.getD, List.getElem?_eq_getElem hk]
  have hl : (l.take k).length = k := by simp; omega
  rw [e, valV_append, hl]
  simp [valV]
theorem acc_val (l : List UInt8) (k : Nat) (hk : k < l.length) (h : k < 9 ∨ (k = 9 ∧ (l.getD k 0).toNat ≤ 1)) : accV (valV (l.take k)) (l.getD k 0).toNat k = valV (l.take (k + 1)) := by
  rw [valV_take_succ l k hk]
  have hv := valV_lt (l.take k)
  have hl : (l.take k).length = k := by simp; omega
  rw [hl, pow_128] at hv
  have hc : (l.getD k 0).toNat < 256 := UInt8.toNat_lt _
  generalize (l.getD k 0).toNat = c at *
  generalize valV (l.take k) = q at *
  have hm : c % 128 * 2 ^ (7 * k) < 18446744073709551616 := by
    rcases h with h | ⟨rfl, h⟩
    · have h1 : 2 ^ (7 * k) ≤ 2 ^ 56 := Nat.pow_le_pow_right (by omega) (by omega)
      have h2 : c % 128 ≤ 127 := by omega
      have := Nat.mul_le_mul h2 h1
      omega
    · have h2 : c % 128 ≤ 1 := by omega
      have := Nat.mul_le_mul_right (2 ^ (7 * 9)) h2
      omega
  unfold accV
  rw [Nat.mod_eq_of_lt hm, pow_128, Nat.or_comm, Nat.mul_comm (c % 128), ← Nat.two_pow_add_eq_or_of_lt hv]
  omega
theorem decAt_next {l : List UInt8} {k q : Nat} (h : DecAt l k q) (hk : k < l.length) (h10 : k < 10) (hc : 128 ≤ (l.getD k 0).toNat) : DecAt l (k + 1) (accV q (l.getD k 0).toNat k) := by
  refine ⟨hk, h10, acc_lt _ _ _ h.lt, fun h9 => ?_, fun j hj => ?_⟩
  · rw [h.val (by omega)]
    exact acc_val l k hk (.inl (by omega))
  · rcases Nat.lt_or_ge j k with hjk | hjk
    · exact h.all j hjk
    · obtain rfl : j = k := by omega
      exact hc
def decU (l : List UInt8) : Nat := if lenV l = 0 then 0 else valV (l.take (lenV l))
theorem decAt_yes {l : List UInt8} {k q : Nat} (h : DecAt l k q) (hk : k < l.length) (h10 : k < 10) (hc : (l.getD k 0).toNat < 128) (he : endB (l.getD k 0).toNat k = true) : lenV l = k + 1 ∧ decU l = accV q (l.getD k 0).toNat k := by
  have hl : lenV l = k + 1 := by
    rw [lenV_end h.all hk h10 hc, if_neg (of_decide_eq_true he)]
  refine ⟨hl, ?_⟩
  have hn := of_decide_eq_true he
  unfold decU
  rw [hl, if_neg (by omega), h.val (by omega), acc_val l k hk (by omega)]
theorem decAt_no {l : List UInt8} {k q : Nat} (h : DecAt l k q) (hk : k < l.length) (h10 : k < 10) (hc : (l.getD k 0).toNat < 128) (he : endB (l.getD k 0).toNat k = false) : lenV l = 0 ∧ decU l = 0 := by
  have hl : lenV l = 0 := by
    have hn := of_decide_eq_false he
    rw [lenV_end h.all hk h10 hc, if_pos (Decidable.not_not.1 hn)]
  exact ⟨hl, by unfold decU; rw [if_pos hl]⟩
theorem decAt_end {l : List UInt8} {k q : Nat} (h : DecAt l k q) (hk : l.length ≤ k ∨ 10 ≤ k) : lenV l = 0 ∧ decU l = 0 := by
  have hl : lenV l = 0 := lenV_none fun j hj => h.all j (by have := h.le; have := h.le10; omega)
  exact ⟨hl, by unfold decU; rw [if_pos hl]⟩
set_option maxHeartbeats 400000 in
set_option maxRecDepth 100000 in
theorem decode_some (b o n cap : Nat) (l : List UInt8) (w : World) (h : Rd w (some ⟨b, o, none⟩) n cap l) (hn : 0 < n) (hc : ∀ i, i < n → w.cell? ⟨b, o + i, none⟩ = some (.int .u8 ((l.getD i 0).toNat : Int))) :
    Calls Tryz.prog 128 #[.slice (some ⟨b, o, none⟩) n cap] w fun e w' => e = .returned (.tuple #[.int .u64 (decU l : Int), .int .i64 (lenV l : Int)]) ∧ w = w' := by
  have hl := h.len
  have hm := h.le
  unfold maxLen at hm
  have HL := Go.Lib.hid hl
  clear hl
  obtain ⟨m, hmn⟩ : ∃ m : Nat, min (n : Int) 10 = (m : Int) := ⟨min n 10, by omega⟩
  have hm1 : m ≤ n := by omega
  have hm2 : m ≤ 10 := by omega
  have hm3 : n ≤ m ∨ 10 ≤ m := by omega
  go_enter Tryz.func128, Tryz.ntmps128
  go_wp2
  clear hmn
  go_loop [4, 10] (fun u i => ∃ k q : Nat, u = .int .u64 q ∧ i = .int .i64 k ∧ k ≤ m ∧ DecAt l k q) (fun _ i => 10 - (intOf i).toNat)
  case atStart => exact ⟨0, 0, rfl, rfl, by omega, ⟨by omega, by omega, by omega, fun _ => rfl, by omega⟩⟩
  case round =>
    obtain ⟨k, q, rfl, rfl, hkm, hd⟩ := hrel
    have hq := hd.lt
    by_cases hlt : k < m
    · have hck := hc k (by omega)
      generalize hcc : (l.getD k 0).toNat = c at hck
      have HC := Go.Lib.hid hcc
      clear hc
      have hc256 : c < 256 := by rw [← hcc]; exact UInt8.toNat_lt _
      have hacc := acc_eq q c k hq hc256
      have hand := and128_fin ⟨c, hc256⟩
      simp only at hand
      have hkl : k < l.length := by rw [HL.out]; omega
      by_cases h128 : 128 ≤ c
      · rw [if_pos h128] at hand
        have hs := decAt_next hd hkl (by omega) (by omega)
        rw [hcc] at hs
        clear hcc
        go_wp2
        go_round
        case rel => exact ⟨k + 1, accV q c k, rfl, by go_num, by omega, hs⟩
        case measure => simp [intOf]; omega
      · rw [if_neg h128] at hand
        cases he : endB c k with
        | true =>
          obtain ⟨r1, r2⟩ := decAt_yes hd hkl (by omega) (by omega) (by rw [hcc]; exact he)
          have R1 := Go.Lib.hid r1
          rw [hcc] at r2
          have R2 := Go.Lib.hid r2
          clear r1 r2 hcc
          go_wp2_with (go_at_call 167; refine (mayEnd_any c k _ (by omega)).mono ?_; rintro e w' ⟨rfl, rfl⟩)
          go_ret2
          rw [R1.out, R2.out]
          exact ⟨rfl, rfl⟩
        | false =>
          obtain ⟨r1, r2⟩ := decAt_no hd hkl (by omega) (by omega) (by rw [hcc]; exact he)
          have R1 := Go.Lib.hid r1
          have R2 := Go.Lib.hid r2
          clear r1 r2 hcc
          go_wp2_with (go_at_call 167; refine (mayEnd_any c k _ (by omega)).mono ?_; rintro e w' ⟨rfl, rfl⟩)
          go_ret2
          rw [R1.out, R2.out]
          exact ⟨rfl, rfl⟩
    · obtain ⟨r1, r2⟩ := decAt_end hd (by rw [HL.out]; omega)
      have R1 := Go.Lib.hid r1
      have R2 := Go.Lib.hid r2
      clear r1 r2
      go_wp2
      go_ret2
      rw [R1.out, R2.out]
      exact ⟨rfl, rfl⟩
set_option maxRecDepth 100000 in
theorem decode_none (A : Option Addr) (cap : Nat) (w : World) :
    Calls Tryz.prog 128 #[.slice A 0 cap] w fun e w' => e = .returned (.tuple #[.int .u64 0, .int .i64 0]) ∧ w = w' := by
  go_enter Tryz.func128, Tryz.ntmps128
  go_wp2
  go_loop [4, 10] (fun u i => u = .int .u64 0 ∧ i = .int .i64 0) (fun _ _ => 0)
  case atStart => exact ⟨rfl, rfl⟩
  case round =>
    obtain ⟨rfl, rfl⟩ := hrel
    go_wp2
    go_ret2
    exact ⟨rfl, rfl⟩
theorem decode_any (A : Option Addr) (n cap : Nat) (l : List UInt8) (w : World) (h : Rd w A n cap l) :
    Calls Tryz.prog 128 #[.slice A n cap] w fun e w' => e = .returned (.tuple #[.int .u64 (decU l : Int), .int .i64 (lenV l : Int)]) ∧ w = w' := by
  rcases Nat.eq_zero_or_pos n with h0 | h0
  · subst h0
    have hl : l = [] := List.eq_nil_of_length_eq_zero h.len
    subst hl
    exact decode_none A cap w
  · obtain ⟨b, o, rfl, _, hc⟩ := h.at_ h0
    exact decode_some b o n cap l w h h0 hc
theorem decU_lt (l : List UInt8) : decU l < 18446744073709551616 := by
  unfold decU
  split
  · omega
  · rename_i h
    have key : ∀ (m : List UInt8) (i : Nat), i ≤ 9 → lenFrom i m ≠ 0 → valV (m.take (lenFrom i m - i)) < 2 ^ (64 - 7 * i) := by
      intro m
      induction m with
      | nil => intro i _ h0; simp [lenFrom] at h0
      | cons c r ih =>
        intro i hi h0
        simp only [lenFrom] at h0 ⊢
        rw [if_neg (by omega)] at h0 ⊢
        by_cases hc : 128 ≤ c.toNat
        · rw [if_pos hc] at h0 ⊢
          have hi8 : i ≤ 8 := by
            rcases Nat.lt_or_ge i 9 with h9 | h9
            · omega
            · obtain rfl : i = 9 := by omega
              exfalso
              apply h0
              cases r with
              | nil => rfl
              | cons d r => simp [lenFrom]
          have ih' := ih (i + 1) (by omega) h0
          have hle : i + 1 ≤ lenFrom (i + 1) r - 1 + 1 ∨ True := .inr trivial
          have hgt : i + 1 < lenFrom (i + 1) r := lenFrom_gt r (i + 1) h0
          have e : lenFrom (i + 1) r - i = (lenFrom (i + 1) r - (i + 1)) + 1 := by omega
          rw [e, List.take_succ_cons]
          simp only [valV]
          have e2 : 64 - 7 * i = (64 - 7 * (i + 1)) + 7 := by omega
          rw [e2, Nat.pow_add]
          have : (2 : Nat) ^ 7 = 128 := by decide
          omega
        · rw [if_neg hc] at h0 ⊢
          by_cases hz : (0 < i ∧ c.toNat = 0) ∨ (i = 9 ∧ 1 < c.toNat)
          · rw [if_pos hz] at h0; exact absurd rfl h0
          · rw [if_neg hz]
            have e : i + 1 - i = 1 := by omega
            rw [e]
            simp only [List.take_succ_cons, List.take_zero, valV]
            rcases Nat.lt_or_ge i 9 with h9 | h9
            · have h1 : 2 ^ 7 ≤ 2 ^ (64 - 7 * i) := Nat.pow_le_pow_right (by omega) (by omega)
              have : (2 : Nat) ^ 7 = 128 := by decide
              omega
            · obtain rfl : i = 9 := by omega
              have h2 : c.toNat ≤ 1 := by omega
              have : (2 : Nat) ^ (64 - 7 * 9) = 2 := by decide
              omega
    have := key l 0 (by omega) h
    simpa [lenV] using this
end Go.Proofs.YtppidbdkejkopaaGreatDoor.NumWalk
namespace Go.Proofs.YtppidbdkejkopaaGreatDoor.NumWalk
open Go.RowKit NumMath NumMem
open Go.Lib (uvarint zigzag)
def numL (l : List UInt8) : List UInt8 := if lenV l = 0 then [] else l.drop (lenV l)
def numB (l : List UInt8) (bad : Bool) : Bool := if lenV l = 0 then true else bad
set_option maxRecDepth 100000 in
theorem fail_any (g : Nat) (l : List UInt8) (bad : Bool) (w : World) (h : Rdr w 161 g l bad) :
    Calls Tryz.prog 129 #[.pointer (some ⟨g, 0, none⟩)] w fun e w' => e = .returned (.tuple #[]) ∧ Rdr w' 161 g [] true ∧ w.grownBy w' (some g) := by
  obtain ⟨A, n, cap, hh, hr, ho⟩ := h
  have HO := Go.Lib.hid ho
  clear ho
  obtain ⟨c0, c1, hf⟩ := two_cell hh
  have f0 := hf 0
  have f1 := hf 1
  have HH := Go.Lib.hid hh
  clear hf hh
  go_enter Tryz.func129, Tryz.ntmps129
  go_wp2
  go_end0
  exact ⟨rfl, ⟨none, 0, 0, two_set1 (two_set0 HH.out), Rd.nil _, Old.none _⟩, grown_setCell (grown_setCell ⟨rfl, rfl, rfl, Nat.le_refl _, fun _ _ _ => rfl⟩ _ _) _ _⟩
set_option maxRecDepth 100000 in
theorem left_any (g : Nat) (l : List UInt8) (bad : Bool) (w : World) (h : Rdr w 161 g l bad) :
    Calls Tryz.prog 103 #[.pointer (some ⟨g, 0, none⟩)] w fun e w' => e = .returned (.int .i64 (l.length : Int)) ∧ w = w' := by
  obtain ⟨A, n, cap, hh, hr, ho⟩ := h
  have HO := Go.Lib.hid ho
  clear ho
  obtain ⟨c0, c1, hf⟩ := two_cell hh
  clear hf hh
  rw [hr.len]
  go_enter Tryz.func103, Tryz.ntmps103
  go_wp2
  go_ret
  exact ⟨rfl, rfl⟩
set_option maxRecDepth 100000 in
theorem bad_any (g : Nat) (l : List UInt8) (bad : Bool) (w : World) (h : Rdr w 161 g l bad) :
    Calls Tryz.prog 169 #[.pointer (some ⟨g, 0, none⟩)] w fun e w' => e = .returned (.bool bad) ∧ w = w' := by
  obtain ⟨A, n, cap, hh, hr, ho⟩ := h
  have HO := Go.Lib.hid ho
  clear ho
  obtain ⟨c0, c1, hf⟩ := two_cell hh
  clear hf hh
  go_enter Tryz.func169, Tryz.ntmps169
  go_wp2
  go_ret
  exact ⟨rfl, rfl⟩
set_option maxRecDepth 100000 in
theorem newReader_any (A : Option Addr) (n cap : Nat) (l : List UInt8) (w : World) (h : Rd w A n cap l) (hn : n ≤ 281474976710656) :
    Calls Tryz.prog 100 #[.slice A n cap] w fun e w' => ∃ g, e = .returned (.pointer (some ⟨g, 0, none⟩)) ∧ w.heap.size ≤ g ∧ Rdr w' 161 g l false ∧ Below w.heap.size w w' := by
  have hl := h.len
  have hm : n ≤ maxLen := h.le
  have HL := Go.Lib.hid hl
  clear hl
  go_enter Tryz.func100, Tryz.ntmps100
  go_wp2_with fail
  refine (extend_any A n cap l 0 _ h (by omega)).mono ?_
  rintro e w1 ⟨rfl, hr1, hb1⟩
  go_wp2
  go_ret
  have hrow : l ++ List.replicate 0 0 = l := by simp
  rw [hrow] at hr1
  have hr2 := hr1.rd (by rw [HL.out]; exact hm)
  rw [HL.out] at hr2
  have hlt1 : w.heap.size < w1.heap.size := (Array.getElem?_eq_some_iff.1 hr1).1
  exact ⟨_, rfl, hb1.size, ⟨_, _, _, heap_alloc_new w1 _, hr2.below ((Below.refl _ _).alloc (Nat.le_refl _) _), fun a h => by cases h; exact hlt1⟩, hb1.alloc hb1.size _⟩
set_option maxRecDepth 100000 in
theorem num_none (g : Nat) (l : List UInt8) (bad : Bool) (w : World) (h : Rdr w 161 g l bad) (hl : lenV l = 0) :
    Calls Tryz.prog 101 #[.pointer (some ⟨g, 0, none⟩)] w fun e w' => e = .returned (.int .i64 0) ∧ Rdr w' 161 g [] true ∧ w.grownBy w' (some g) := by
  have H := Go.Lib.hid h
  obtain ⟨A, n, cap, hh, hr, ho⟩ := h
  have HO := Go.Lib.hid ho
  clear ho
  obtain ⟨c0, c1, hf⟩ := two_cell hh
  have HLV := Go.Lib.hid hl
  clear hf hh hl
  go_enter Tryz.func101, Tryz.ntmps101
  go_wp2_with fail
  refine (decode_any A n cap l _ hr).mono ?_
  rintro e w' ⟨rfl, rfl⟩
  rw [HLV.out]
  go_wp2_with (go_at_call 129; refine (fail_any g l bad _ H.out).mono ?_; rintro e w' ⟨rfl, hr2, hg2⟩)
  go_ret
  exact ⟨rfl, hr2, hg2⟩
set_option maxRecDepth 100000 in
theorem num_some (g : Nat) (l : List UInt8) (bad : Bool) (w : World) (h : Rdr w 161 g l bad) (hl : 0 < lenV l) :
    Calls Tryz.prog 101 #[.pointer (some ⟨g, 0, none⟩)] w fun e w' => e = .returned (.int .i64 (numV l)) ∧ Rdr w' 161 g (l.drop (lenV l)) bad ∧ w.grownBy w' (some g) := by
  have hno := h.no_byte
  obtain ⟨A, n, cap, hh, hr, ho⟩ := h
  have HO := Go.Lib.hid ho
  clear ho
  obtain ⟨c0, c1, hf⟩ := two_cell hh
  have f0 := hf 0
  have HH := Go.Lib.hid hh
  have hle := lenV_le l
  rw [hr.len] at hle
  have hc := hr.cut hle
  have hcap := hr.le_cap
  have hmax := hr.2.2.1
  unfold maxLen at hmax
  have hne : ((lenV l : Int) == 0) = false := by simp; omega
  have hu := decU_lt l
  have hv : unzig (decU l) = numV l := by
    unfold numV decU
    rw [if_neg (by omega), if_neg (by omega)]
  have HV := Go.Lib.hid hv
  clear hf hh hv
  go_enter Tryz.func101, Tryz.ntmps101
  go_wp2_with fail
  refine (decode_any A n cap l _ hr).mono ?_
  rintro e w' ⟨rfl, rfl⟩
  go_wp2_with (go_at_call 130; refine (signed_any _ _ hu).mono ?_; rintro e w' ⟨rfl, rfl⟩)
  · go_ret
    rw [if_pos h] at hc
    have hg := grown_setCell (g := g) (a := w) ⟨rfl, rfl, rfl, Nat.le_refl _, fun _ _ _ => rfl⟩ 0 (.slice A (n - lenV l) (cap - lenV l))
    have h0 : cap - lenV l = 0 := by omega
    rw [h0] at hc hg
    exact ⟨ret_int HV.out, ⟨_, _, _, two_set0 HH.out, hc.grown hg hno, HO.out⟩, hg⟩
  · go_ret
    rw [if_neg h] at hc
    have hg := grown_setCell (g := g) (a := w) ⟨rfl, rfl, rfl, Nat.le_refl _, fun _ _ _ => rfl⟩ 0 (.slice (A.map (·.add (lenV l))) (n - lenV l) (cap - lenV l))
    exact ⟨ret_int HV.out, ⟨_, _, _, two_set0 HH.out, hc.grown hg hno, HO.out.add _⟩, hg⟩
theorem num_any (g : Nat) (l : List UInt8) (bad : Bool) (w : World) (h : Rdr w 161 g l bad) :
    Calls Tryz.prog 101 #[.pointer (some ⟨g, 0, none⟩)] w fun e w' => e = .returned (.int .i64 (numV l)) ∧ Rdr w' 161 g (numL l) (numB l bad) ∧ w.grownBy w' (some g) := by
  by_cases hl : lenV l = 0
  · have e1 : numV l = 0 := by unfold numV; rw [if_pos hl]
    have e2 : numL l = [] := by unfold numL; rw [if_pos hl]
    have e3 : numB l bad = true := by unfold numB; rw [if_pos hl]
    rw [e1, e2, e3]
    exact num_none g l bad w h hl
  · have e2 : numL l = l.drop (lenV l) := by unfold numL; rw [if_neg hl]
    have e3 : numB l bad = bad := by unfold numB; rw [if_neg hl]
    rw [e2, e3]
    exact num_some g l bad w h (by omega)
def textOk (l : List UInt8) : Prop := 0 ≤ numV l ∧ numV l ≤ (numL l).length
instance (l : List UInt8) : Decidable (textOk l) := inferInstanceAs (Decidable (_ ∧ _))
def textV (l : List UInt8) : List UInt8 := if textOk l then (numL l).take (numV l).toNat else []
def textL (l : List UInt8) : List UInt8 := if textOk l then (numL l).drop (numV l).toNat else []
def textB (l : List UInt8) (bad : Bool) : Bool := if textOk l then numB l bad else true
set_option maxRecDepth 100000 in
theorem text_bad (g : Nat) (l : List UInt8) (bad : Bool) (w : World) (h : Rdr w 161 g l bad) (hn : ¬ textOk l) :
    Calls Tryz.prog 184 #[.pointer (some ⟨g, 0, none⟩)] w fun e w' => e = .returned (.string ByteArray.empty) ∧ Rdr w' 161 g [] true ∧ w.grownBy w' (some g) := by
  unfold textOk at hn
  generalize hv : numV l = v at *
  have HV := Go.Lib.hid hv
  clear hv
  go_enter Tryz.func184, Tryz.ntmps184
  go_wp2_with fail
  refine (num_any g l bad _ h).mono ?_
  rintro e w1 ⟨rfl, hr1, hg1⟩
  rw [HV.out]
  have H1 := Go.Lib.hid hr1
  obtain ⟨A, n, cap, hh, hr, ho⟩ := hr1
  have HO := Go.Lib.hid ho
  clear ho
  obtain ⟨c0, c1, hf⟩ := two_cell hh
  have hlen := hr.len
  rw [hlen] at hn
  clear hf hh hlen
  by_cases hv0 : v < 0
  · go_wp2_with (go_at_call 129; refine (fail_any g _ _ _ H1.out).mono ?_; rintro e w' ⟨rfl, hr2, hg2⟩)
    go_ret
    exact ⟨rfl, hr2, hg1.trans hg2⟩
  · have hv1 : (n : Int) < v := by omega
    go_wp2_with (go_at_call 129; refine (fail_any g _ _ _ H1.out).mono ?_; rintro e w' ⟨rfl, hr2, hg2⟩)
    go_ret
    exact ⟨rfl, hr2, hg1.trans hg2⟩
set_option maxRecDepth 100000 in
theorem text_good (g : Nat) (l : List UInt8) (bad : Bool) (w : World) (h : Rdr w 161 g l bad) (hn : textOk l) :
    Calls Tryz.prog 184 #[.pointer (some ⟨g, 0, none⟩)] w fun e w' => e = .returned (.string ⟨((numL l).take (numV l).toNat).toArray⟩) ∧ Rdr w' 161 g ((numL l).drop (numV l).toNat) (numB l bad) ∧ w.grownBy w' (some g) := by
  unfold textOk at hn
  generalize hv : numV l = v at *
  have HV := Go.Lib.hid hv
  clear hv
  obtain ⟨hn0, hn1⟩ := hn
  obtain ⟨k, rfl⟩ := Int.eq_ofNat_of_zero_le hn0
  simp only [Int.toNat_natCast] at *
  generalize hl1 : numL l = l1 at *
  generalize hb1 : numB l bad = bad1 at *
  go_enter Tryz.func184, Tryz.ntmps184
  go_wp2_with fail
  refine (num_any g l bad _ h).mono ?_
  rintro e w1 ⟨rfl, hr1, hg1⟩
  rw [HV.out]
  rw [hl1, hb1] at hr1
  have hno := hr1.no_byte
  obtain ⟨A, n, cap, hh, hr, ho⟩ := hr1
  have HO := Go.Lib.hid ho
  clear ho
  obtain ⟨c0, c1, hf⟩ := two_cell hh
  have f0 := hf 0
  have HH := Go.Lib.hid hh
  have hlen := hr.len
  rw [hlen] at hn1
  have hkn : k ≤ n := by omega
  have hcap := hr.le_cap
  have hmax := hr.2.2.1
  unfold maxLen at hmax
  have hst := (hr.first hkn).string (P := Tryz.prog) 58 9 5 Tryz.underlying58 Tryz.underlying5 Tryz.underlying9
  have hc := hr.cut hkn
  clear hf hh hlen hl1 hb1
  go_wp2
  · go_ret
    rw [if_pos h] at hc
    have hg := grown_setCell (g := g) (a := w1) ⟨rfl, rfl, rfl, Nat.le_refl _, fun _ _ _ => rfl⟩ 0 (.slice A (n - k) (cap - k))
    have h0 : cap - k = 0 := by omega
    rw [h0] at hc hg
    exact ⟨rfl, ⟨_, _, _, two_set0 HH.out, hc.grown hg hno, HO.out⟩, hg1.trans hg⟩
  · go_ret
    rw [if_neg h] at hc
    have hg := grown_setCell (g := g) (a := w1) ⟨rfl, rfl, rfl, Nat.le_refl _, fun _ _ _ => rfl⟩ 0 (.slice (A.map (·.add k)) (n - k) (cap - k))
    exact ⟨rfl, ⟨_, _, _, two_set0 HH.out, hc.grown hg hno, HO.out.add _⟩, hg1.trans hg⟩
theorem text_any (g : Nat) (l : List UInt8) (bad : Bool) (w : World) (h : Rdr w 161 g l bad) :
    Calls Tryz.prog 184 #[.pointer (some ⟨g, 0, none⟩)] w fun e w' => e = .returned (.string ⟨(textV l).toArray⟩) ∧ Rdr w' 161 g (textL l) (textB l bad) ∧ w.grownBy w' (some g) := by
  by_cases hl : textOk l
  · have e1 : textV l = (numL l).take (numV l).toNat := by unfold textV; rw [if_pos hl]
    have e2 : textL l = (numL l).drop (numV l).toNat := by unfold textL; rw [if_pos hl]
    have e3 : textB l bad = numB l bad := by unfold textB; rw [if_pos hl]
    rw [e1, e2, e3]
    exact text_good g l bad w h hl
  · have e1 : textV l = [] := by unfold textV; rw [if_neg hl]
    have e2 : textL l = [] := by unfold textL; rw [if_neg hl]
    have e3 : textB l bad = true := by unfold textB; rw [if_neg hl]
    rw [e1, e2, e3]
    exact text_bad g l bad w h hl
end Go.Proofs.YtppidbdkejkopaaGreatDoor.NumWalk
namespace Go.Proofs.YtppidbdkejkopaaGreatDoor.NumWalk
open Go.RowKit NumMath NumMem
open Go.Lib (uvarint zigzag)
structure LenAt (l : List UInt8) (k : Nat) : Prop where
  le : k ≤ l.length
  le10 : k ≤ 10
  all : ∀ j, j < k → 128 ≤ (l.getD j 0).toNat
theorem lenAt_next {l : List UInt8} {k : Nat} (h : LenAt l k) (hk : k < l.length) (h10 : k < 10) (hc : 128 ≤ (l.getD k 0).toNat) : LenAt l (k + 1) :=
  ⟨hk, h10, fun j hj => by
    rcases Nat.lt_or_ge j k with hjk | hjk
    · exact h.all j hjk
    · obtain rfl : j = k := by omega
      exact hc⟩
set_option maxRecDepth 100000 in
set_option maxHeartbeats 1000000 in
theorem refLength_some (b o n cap : Nat) (l : List UInt8) (w : World) (h : Rd w (some ⟨b, o, none⟩) n cap l) (hn : 0 < n) (hc : ∀ i, i < n → w.cell? ⟨b, o + i, none⟩ = some (.int .u8 ((l.getD i 0).toNat : Int))) :
    Calls Tryz.prog 132 #[.slice (some ⟨b, o, none⟩) n cap] w fun e w' => e = .returned (.int .i64 (lenV l : Int)) ∧ w = w' := by
  have hl := h.len
  have hm := h.le
  unfold maxLen at hm
  have HL := Go.Lib.hid hl
  clear hl
  go_enter Tryz.func132, Tryz.ntmps132
  go_wp2
  go_loop [3] (fun i => ∃ k : Nat, i = .int .i64 k ∧ LenAt l k) (fun i => 10 - (intOf i).toNat)
  case atStart => exact ⟨0, rfl, ⟨by omega, by omega, by omega⟩⟩
  case round =>
    obtain ⟨k, rfl, hd⟩ := hrel
    have hk10 := hd.le10
    have hkl := hd.le
    rw [HL.out] at hkl
    by_cases hlt : k < n ∧ k < 10
    · obtain ⟨hkn, hk⟩ := hlt
      have hck := hc k hkn
      have hkl' : k < l.length := by rw [HL.out]; exact hkn
      generalize hcc : (l.getD k 0).toNat = c at hck
      have hc256 : c < 256 := by rw [← hcc]; exact UInt8.toNat_lt _
      by_cases h128 : 128 ≤ c
      · have hs := lenAt_next hd hkl' hk (by omega)
        clear hcc hc
        go_wp2
        go_round
        case rel => exact ⟨k + 1, by go_num, hs⟩
        case measure => simp [intOf]; omega
      · have r1 := lenV_end hd.all hkl' hk (by omega)
        rw [hcc] at r1
        have R1 := Go.Lib.hid r1
        clear hcc hc r1
        by_cases hk0 : 0 < k
        · by_cases hc0 : c = 0
          · have hb : ((c : Int) == 0) = true := by simp; omega
            go_wp2
            go_ret
            exact ⟨ret_int (by rw [R1.out, if_pos (by omega)]; rfl), rfl⟩
          · have hb : ((c : Int) == 0) = false := by simp; omega
            by_cases hk9 : k = 9
            · have hb9 : ((k : Int) == 9) = true := by simp; omega
              by_cases hc1 : 1 < c
              · clear hk9
                go_wp2
                go_ret
                exact ⟨ret_int (by rw [R1.out, if_pos (by simp at hb9; omega)]; rfl), rfl⟩
              · clear hk9
                go_wp2
                go_ret
                exact ⟨ret_int (by rw [R1.out, if_neg (by omega)]; rfl), rfl⟩
            · have hb9 : ((k : Int) == 9) = false := by simp; omega
              go_wp2
              go_ret
              exact ⟨ret_int (by rw [R1.out, if_neg (by omega)]; rfl), rfl⟩
        · have hb9 : ((k : Int) == 9) = false := by simp; omega
          go_wp2
          go_ret
          exact ⟨ret_int (by rw [R1.out, if_neg (by omega)]; rfl), rfl⟩
    · have r1 : lenV l = 0 := lenV_none fun j hj => hd.all j (by rw [HL.out] at hj; omega)
      have R1 := Go.Lib.hid r1
      clear r1 hc
      by_cases hkn : k < n
      · have hk : ¬ k < 10 := by omega
        clear hlt
        go_wp2
        go_ret
        exact ⟨ret_int (by rw [R1.out]; rfl), rfl⟩
      · clear hlt
        go_wp2
        go_ret
        exact ⟨ret_int (by rw [R1.out]; rfl), rfl⟩
set_option maxRecDepth 100000 in
theorem refLength_none (A : Option Addr) (cap : Nat) (w : World) :
    Calls Tryz.prog 132 #[.slice A 0 cap] w fun e w' => e = .returned (.int .i64 0) ∧ w = w' := by
  go_enter Tryz.func132, Tryz.ntmps132
  go_wp2
  go_loop [3] (fun i => i = .int .i64 0) (fun _ => 0)
  case atStart => rfl
  case round =>
    subst hrel
    go_wp2
    go_ret
    exact ⟨rfl, rfl⟩
theorem refLength_any (A : Option Addr) (n cap : Nat) (l : List UInt8) (w : World) (h : Rd w A n cap l) :
    Calls Tryz.prog 132 #[.slice A n cap] w fun e w' => e = .returned (.int .i64 (lenV l : Int)) ∧ w = w' := by
  rcases Nat.eq_zero_or_pos n with h0 | h0
  · subst h0
    have hl : l = [] := List.eq_nil_of_length_eq_zero h.len
    subst hl
    exact refLength_none A cap w
  · obtain ⟨b, o, rfl, _, hc⟩ := h.at_ h0
    exact refLength_some b o n cap l w h h0 hc
set_option maxRecDepth 100000 in
theorem refFail_any (g : Nat) (l : List UInt8) (bad : Bool) (w : World) (h : Rdr w 141 g l bad) :
    Calls Tryz.prog 133 #[.pointer (some ⟨g, 0, none⟩)] w fun e w' => e = .returned (.tuple #[]) ∧ Rdr w' 141 g [] true ∧ w.grownBy w' (some g) := by
  obtain ⟨A, n, cap, hh, hr, ho⟩ := h
  have HO := Go.Lib.hid ho
  clear ho
  obtain ⟨c0, c1, hf⟩ := two_cell hh
  have f0 := hf 0
  have f1 := hf 1
  have HH := Go.Lib.hid hh
  clear hf hh
  go_enter Tryz.func133, Tryz.ntmps133
  go_wp2
  go_end0
  exact ⟨rfl, ⟨none, 0, 0, two_set0 (two_set1 HH.out), Rd.nil _, Old.none _⟩, grown_setCell (grown_setCell ⟨rfl, rfl, rfl, Nat.le_refl _, fun _ _ _ => rfl⟩ _ _) _ _⟩
theorem valV_step (l : List UInt8) (n k : Nat) (hk : k < n) (hn : n ≤ l.length) : valV ((l.take n).drop k) = valV ((l.take n).drop (k + 1)) * 128 + (l.getD k 0).toNat % 128 := by
  have hk' : k < (l.take n).length := by simp; omega
  rw [List.drop_eq_getElem_cons hk']
  simp only [valV, List.getElem_take]
  have e : l.getD k 0 = l[k] := by simp [List.getD, List.getElem?_eq_getElem (show k < l.length by omega)]
  rw [e]
  omega
theorem valV_drop_le (l : List UInt8) (k : Nat) : valV (l.drop k) ≤ valV l := by
  rcases Nat.lt_or_ge l.length k with hk | hk
  · rw [List.drop_eq_nil_of_le (by omega)]
    simp [valV]
  · have h := valV_append (l.take k) (l.drop k)
    rw [List.take_append_drop] at h
    have h1 : 0 < 128 ^ (l.take k).length := Nat.pow_pos (by omega)
    have h2 := Nat.le_mul_of_pos_left (valV (l.drop k)) h1
    omega
set_option maxRecDepth 100000 in
theorem refNum_none (g : Nat) (l : List UInt8) (bad : Bool) (w : World) (h : Rdr w 141 g l bad) (hl : lenV l = 0) :
    Calls Tryz.prog 104 #[.pointer (some ⟨g, 0, none⟩)] w fun e w' => e = .returned (.int .i64 0) ∧ Rdr w' 141 g [] true ∧ w.grownBy w' (some g) := by
  have H := Go.Lib.hid h
  obtain ⟨A, n, cap, hh, hr, ho⟩ := h
  have HO := Go.Lib.hid ho
  clear ho
  obtain ⟨c0, c1, hf⟩ := two_cell hh
  have HLV := Go.Lib.hid hl
  clear hf hh hl
  go_enter Tryz.func104, Tryz.ntmps104
  go_wp2_with fail
  refine (refLength_any A n cap l _ hr).mono ?_
  rintro e w' ⟨rfl, rfl⟩
  rw [HLV.out]
  go_wp2_with (go_at_call 133; refine (refFail_any g l bad _ H.out).mono ?_; rintro e w' ⟨rfl, hr2, hg2⟩)
  go_ret
  exact ⟨rfl, hr2, hg2⟩
set_option maxHeartbeats 1000000 in
set_option maxRecDepth 100000 in
theorem refNum_some (g : Nat) (l : List UInt8) (bad : Bool) (w : World) (h : Rdr w 141 g l bad) (hl : 0 < lenV l) :
    Calls Tryz.prog 104 #[.pointer (some ⟨g, 0, none⟩)] w fun e w' => e = .returned (.int .i64 (numV l)) ∧ Rdr w' 141 g (l.drop (lenV l)) bad ∧ w.grownBy w' (some g) := by
  have hno := h.no_byte
  obtain ⟨A, n, cap, hh, hr, ho⟩ := h
  have HO := Go.Lib.hid ho
  clear ho
  obtain ⟨c0, c1, hf⟩ := two_cell hh
  have f0 := hf 0
  have HH := Go.Lib.hid hh
  have hle := lenV_le l
  have hle' := hle
  rw [hr.len] at hle
  have hc := hr.cut hle
  have hcap := hr.le_cap
  have hmax := hr.2.2.1
  unfold maxLen at hmax
  have hu := decU_lt l
  have hv : unzig (decU l) = numV l := by
    unfold numV decU
    rw [if_neg (by omega), if_neg (by omega)]
  have hdec : decU l = valV (l.take (lenV l)) := by unfold decU; rw [if_neg (by omega)]
  have HV := Go.Lib.hid hv
  obtain ⟨b, o, rfl, hb, hcell⟩ := hr.at_ (by omega)
  have HB : Hid (∀ k, k < lenV l → valV ((l.take (lenV l)).drop k) = valV ((l.take (lenV l)).drop (k + 1)) * 128 + (l.getD k 0).toNat % 128) := fun k hk => valV_step l (lenV l) k hk hle'
  have HD : Hid (∀ k, valV ((l.take (lenV l)).drop k) ≤ decU l) := fun k => by rw [hdec]; exact valV_drop_le _ k
  have H0 : Hid (valV ((l.take (lenV l)).drop 0) = decU l) := by show _ = _; rw [List.drop_zero, hdec]
  have HE : Hid (valV ((l.take (lenV l)).drop (lenV l)) = 0) := by
    show _ = _
    rw [List.drop_eq_nil_of_le (List.length_take_le _ _)]
    rfl
  have HCL := Go.Lib.hid hcell
  clear hf hh hv hdec hle' hcell
  go_enter Tryz.func104, Tryz.ntmps104
  go_wp2_with fail
  refine (refLength_any _ n cap l _ hr).mono ?_
  rintro e w' ⟨rfl, rfl⟩
  generalize hq : lenV l = q at *
  have hne : ((q : Int) == 0) = false := by simp; omega
  go_wp2_with fail
  go_loop [4, 5] (fun u i => ∃ k : Nat, k ≤ q ∧ i = .int .i64 ((k : Int) - 1) ∧ u = .int .u64 (valV ((l.take q).drop k) : Nat)) (fun _ i => (intOf i + 1).toNat)
  case atStart => exact ⟨q, by omega, rfl, by rw [HE.out]; rfl⟩
  case round =>
    obtain ⟨k, hk, rfl, rfl⟩ := hrel
    by_cases h0 : 0 < k
    · obtain ⟨j, rfl⟩ : ∃ j, k = j + 1 := ⟨k - 1, by omega⟩
      have e1 := HB.out j (by omega)
      have e2 := HD.out j
      have e3 := HD.out (j + 1)
      have hcj := HCL.out j (by omega)
      have hj : ((j + 1 : Nat) : Int) - 1 = (j : Int) := by omega
      rw [hj]
      have HE1 := Go.Lib.hid e1
      have hb0 : 0 ≤ ((l.getD j 0).toNat : Int) := by omega
      have hb1 : (l.getD j 0).toNat < 256 := UInt8.toNat_lt _
      have hlt : valV ((l.take q).drop (j + 1)) * 128 + (l.getD j 0).toNat % 128 < 18446744073709551616 := by omega
      clear e1 e2 HB HD HCL H0 HE hc
      generalize (l.getD j 0).toNat = c at *
      generalize valV ((l.take q).drop (j + 1)) = v at *
      go_wp2
      go_round
      case rel => exact ⟨j, by omega, rfl, by rw [HE1.out]; go_num⟩
      case measure => simp [intOf]
    · obtain rfl : k = 0 := by omega
      rw [H0.out]
      clear HB HD HCL H0 HE h0
      generalize hd : decU l = d at *
      have hz : ∀ (A' : Option Addr) (n' c' : Nat), Rd w A' n' c' (l.drop q) → Old A' g → Rdr (w.setCell ⟨g, 0, none⟩ (.slice A' n' c')) 141 g (l.drop q) bad ∧ w.grownBy (w.setCell ⟨g, 0, none⟩ (.slice A' n' c')) (some g) := by
        intro A' n' c' hr' ho'
        have hg := grown_setCell (g := g) (a := w) ⟨rfl, rfl, rfl, Nat.le_refl _, fun _ _ _ => rfl⟩ 0 (.slice A' n' c')
        exact ⟨⟨_, _, _, two_set0 HH.out, hr'.grown hg hno, ho'⟩, hg⟩
      have HZ := Go.Lib.hid hz
      clear hz hd
      by_cases hcq : cap = q
      · rw [if_pos hcq] at hc
        have hn : n = q := by omega
        subst hn hcq
        simp only [Nat.sub_self] at hc
        by_cases ho : d % 2 = 1
        · have hb : ((d : Int) % 2 == 1) = true := by simp; omega
          have hval : -((d : Int) / 2) - 1 = numV l := by rw [← HV.out]; unfold unzig; rw [if_pos ho]; omega
          have HVAL := Go.Lib.hid hval
          clear hval ho HV
          go_wp2
          go_ret
          exact ⟨ret_int HVAL.out, HZ.out _ _ _ hc HO.out⟩
        · have hb : ((d : Int) % 2 == 1) = false := by simp; omega
          have hval : (d : Int) / 2 = numV l := by rw [← HV.out]; unfold unzig; rw [if_neg ho]; omega
          have HVAL := Go.Lib.hid hval
          clear hval ho HV
          go_wp2
          go_ret
          exact ⟨ret_int HVAL.out, HZ.out _ _ _ hc HO.out⟩
      · rw [if_neg hcq] at hc
        simp only [Option.map_some] at hc
        have hadd : (⟨b, o, none⟩ : Addr).add q = ⟨b, o + q, none⟩ := by unfold Addr.add; split <;> simp_all
        rw [hadd] at hc
        by_cases ho : d % 2 = 1
        · have hb : ((d : Int) % 2 == 1) = true := by simp; omega
          have hval : -((d : Int) / 2) - 1 = numV l := by rw [← HV.out]; unfold unzig; rw [if_pos ho]; omega
          have HVAL := Go.Lib.hid hval
          clear hval ho HV hadd
          go_wp2
          go_ret
          exact ⟨ret_int HVAL.out, HZ.out _ _ _ hc (fun a h => by cases h; exact HO.out ⟨b, o, none⟩ rfl)⟩
        · have hb : ((d : Int) % 2 == 1) = false := by simp; omega
          have hval : (d : Int) / 2 = numV l := by rw [← HV.out]; unfold unzig; rw [if_neg ho]; omega
          have HVAL := Go.Lib.hid hval
          clear hval ho HV hadd
          go_wp2
          go_ret
          exact ⟨ret_int HVAL.out, HZ.out _ _ _ hc (fun a h => by cases h; exact HO.out ⟨b, o, none⟩ rfl)⟩
theorem refNum_any (g : Nat) (l : List UInt8) (bad : Bool) (w : World) (h : Rdr w 141 g l bad) :
    Calls Tryz.prog 104 #[.pointer (some ⟨g, 0, none⟩)] w fun e w' => e = .returned (.int .i64 (numV l)) ∧ Rdr w' 141 g (numL l) (numB l bad) ∧ w.grownBy w' (some g) := by
  by_cases hl : lenV l = 0
  · have e1 : numV l = 0 := by unfold numV; rw [if_pos hl]
    have e2 : numL l = [] := by unfold numL; rw [if_pos hl]
    have e3 : numB l bad = true := by unfold numB; rw [if_pos hl]
    rw [e1, e2, e3]
    exact refNum_none g l bad w h hl
  · have e2 : numL l = l.drop (lenV l) := by unfold numL; rw [if_neg hl]
    have e3 : numB l bad = bad := by unfold numB; rw [if_neg hl]
    rw [e2, e3]
    exact refNum_some g l bad w h (by omega)
set_option maxRecDepth 100000 in
theorem refText_bad (g : Nat) (l : List UInt8) (bad : Bool) (w : World) (h : Rdr w 141 g l bad) (hn : ¬ textOk l) :
    Calls Tryz.prog 134 #[.pointer (some ⟨g, 0, none⟩)] w fun e w' => e = .returned (.string ByteArray.empty) ∧ Rdr w' 141 g [] true ∧ w.grownBy w' (some g) := by
  unfold textOk at hn
  generalize hv : numV l = v at *
  have HV := Go.Lib.hid hv
  clear hv
  go_enter Tryz.func134, Tryz.ntmps134
  go_wp2_with fail
  refine (refNum_any g l bad _ h).mono ?_
  rintro e w1 ⟨rfl, hr1, hg1⟩
  rw [HV.out]
  have H1 := Go.Lib.hid hr1
  obtain ⟨A, n, cap, hh, hr, ho⟩ := hr1
  have HO := Go.Lib.hid ho
  clear ho
  obtain ⟨c0, c1, hf⟩ := two_cell hh
  have hlen := hr.len
  rw [hlen] at hn
  clear hf hh hlen
  by_cases hv0 : v < 0
  · go_wp2_with (go_at_call 133; refine (refFail_any g _ _ _ H1.out).mono ?_; rintro e w' ⟨rfl, hr2, hg2⟩)
    go_ret
    exact ⟨rfl, hr2, hg1.trans hg2⟩
  · have hv1 : (n : Int) < v := by omega
    go_wp2_with (go_at_call 133; refine (refFail_any g _ _ _ H1.out).mono ?_; rintro e w' ⟨rfl, hr2, hg2⟩)
    go_ret
    exact ⟨rfl, hr2, hg1.trans hg2⟩
set_option maxRecDepth 100000 in
theorem refText_good (g : Nat) (l : List UInt8) (bad : Bool) (w : World) (h : Rdr w 141 g l bad) (hn : textOk l) :
    Calls Tryz.prog 134 #[.pointer (some ⟨g, 0, none⟩)] w fun e w' => e = .returned (.string ⟨((numL l).take (numV l).toNat).toArray⟩) ∧ Rdr w' 141 g ((numL l).drop (numV l).toNat) (numB l bad) ∧ w.grownBy w' (some g) := by
  unfold textOk at hn
  generalize hv : numV l = v at *
  have HV := Go.Lib.hid hv
  clear hv
  obtain ⟨hn0, hn1⟩ := hn
  obtain ⟨k, rfl⟩ := Int.eq_ofNat_of_zero_le hn0
  simp only [Int.toNat_natCast] at *
  generalize hl1 : numL l = l1 at *
  generalize hb1 : numB l bad = bad1 at *
  go_enter Tryz.func134, Tryz.ntmps134
  go_wp2_with fail
  refine (refNum_any g l bad _ h).mono ?_
  rintro e w1 ⟨rfl, hr1, hg1⟩
  rw [HV.out]
  rw [hl1, hb1] at hr1
  have hno := hr1.no_byte
  obtain ⟨A, n, cap, hh, hr, ho⟩ := hr1
  have HO := Go.Lib.hid ho
  clear ho
  obtain ⟨c0, c1, hf⟩ := two_cell hh
  have f0 := hf 0
  have HH := Go.Lib.hid hh
  have hlen := hr.len
  rw [hlen] at hn1
  have hkn : k ≤ n := by omega
  have hcap := hr.le_cap
  have hmax := hr.2.2.1
  unfold maxLen at hmax
  have hst := (hr.first hkn).string (P := Tryz.prog) 58 9 5 Tryz.underlying58 Tryz.underlying5 Tryz.underlying9
  have hc := hr.cut hkn
  clear hf hh hlen hl1 hb1
  go_wp2
  · go_ret
    rw [if_pos h] at hc
    have hg := grown_setCell (g := g) (a := w1) ⟨rfl, rfl, rfl, Nat.le_refl _, fun _ _ _ => rfl⟩ 0 (.slice A (n - k) (cap - k))
    have h0 : cap - k = 0 := by omega
    rw [h0] at hc hg
    exact ⟨rfl, ⟨_, _, _, two_set0 HH.out, hc.grown hg hno, HO.out⟩, hg1.trans hg⟩
  · go_ret
    rw [if_neg h] at hc
    have hg := grown_setCell (g := g) (a := w1) ⟨rfl, rfl, rfl, Nat.le_refl _, fun _ _ _ => rfl⟩ 0 (.slice (A.map (·.add k)) (n - k) (cap - k))
    exact ⟨rfl, ⟨_, _, _, two_set0 HH.out, hc.grown hg hno, HO.out.add _⟩, hg1.trans hg⟩
theorem refText_any (g : Nat) (l : List UInt8) (bad : Bool) (w : World) (h : Rdr w 141 g l bad) :
    Calls Tryz.prog 134 #[.pointer (some ⟨g, 0, none⟩)] w fun e w' => e = .returned (.string ⟨(textV l).toArray⟩) ∧ Rdr w' 141 g (textL l) (textB l bad) ∧ w.grownBy w' (some g) := by
  by_cases hl : textOk l
  · have e1 : textV l = (numL l).take (numV l).toNat := by unfold textV; rw [if_pos hl]
    have e2 : textL l = (numL l).drop (numV l).toNat := by unfold textL; rw [if_pos hl]
    have e3 : textB l bad = numB l bad := by unfold textB; rw [if_pos hl]
    rw [e1, e2, e3]
    exact refText_good g l bad w h hl
  · have e1 : textV l = [] := by unfold textV; rw [if_neg hl]
    have e2 : textL l = [] := by unfold textL; rw [if_neg hl]
    have e3 : textB l bad = true := by unfold textB; rw [if_neg hl]
    rw [e1, e2, e3]
    exact refText_bad g l bad w h hl
end Go.Proofs.YtppidbdkejkopaaGreatDoor.NumWalk
namespace Go.Proofs.YtppidbdkejkopaaGreatDoor.EcWalk
open Go.RowKit MemRow Ev NameMath NameWalk EvWalk NumMath NumMem NumWalk
def tx (l : List UInt8) : ByteArray := ⟨(textV l).toArray⟩
def takeTags : Nat → List UInt8 → Bool → List ByteArray × List UInt8 × Bool
  | 0, l, b => ([], l, b)
  | k + 1, l, b => if b = true then ([], l, b) else (tx l :: (takeTags k (textL l) (textB l b)).1, (takeTags k (textL l) (textB l b)).2)
def takeFlds : Nat → List UInt8 → Bool → List (ByteArray × Int) × List UInt8 × Bool
  | 0, l, b => ([], l, b)
  | k + 1, l, b => if b = true then ([], l, b) else ((tx l, numV (textL l)) :: (takeFlds k (numL (textL l)) (numB (textL l) (textB l b))).1, (takeFlds k (numL (textL l)) (numB (textL l) (textB l b))).2)
theorem grown_set (w : World) (g i : Nat) (x : Value) : w.grownBy (w.setCell ⟨g, i, none⟩ x) (some g) := by
  refine ⟨rfl, rfl, rfl, by simp [World.setCell], fun k _ hne => ?_⟩
  have : g ≠ k := fun e => hne (by rw [e])
  simp [World.setCell, Array.getElem?_modify, this]
theorem own_away {k : Nat} {w : World} {base : Nat} {t : TypeId} {A : Option Addr} {n cap : Nat} {cs : List Value} {g i : Nat} (h : OwnC k w base t A n cap cs) (hg : g < base) (x : Value) : OwnC k (w.setCell ⟨g, i, none⟩ x) base t A n cap cs :=
  OwnC.grown h (grown_set w g i x) fun a hA e => by
    have := (OwnC.lt h a hA).1
    injection e with e
    omega
theorem rdr_apart {w w' : World} {T : TypeId} {g : Nat} {l : List UInt8} {b : Bool} {row : Option Nat} (h : Rdr w T g l b) (hg : w.grownBy w' row) (hr : ∀ r, row = some r → g < r) : Rdr w' T g l b := by
  have hlt := h.lt
  obtain ⟨A, n, cap, hh, hr', ho⟩ := h
  refine ⟨A, n, cap, (hg.block g hlt (fun e => by have := hr g e.symm; omega)).trans hh, ⟨hr'.1, hr'.2.1, hr'.2.2.1, fun hn => ?_⟩, ho⟩
  obtain ⟨c, o, hA, hc⟩ := hr'.2.2.2 hn
  exact ⟨c, o, hA, fun i hi => hg.cell (hc i hi) (fun e => by have h1 := hr c e.symm; have h2 : c < g := ho ⟨c, o, none⟩ hA; omega)⟩
theorem gr_step {w wr w' : World} {g : Nat} {row : Option Nat} (h : w.grownBy wr (some g)) (hg : wr.grownBy w' row) (hr : ∀ r, row = some r → w.heap.size ≤ r) : w.grownBy w' (some g) :=
  ⟨hg.os.trans h.os, hg.tape.trans h.tape, hg.output.trans h.output, Nat.le_trans h.size hg.size, fun k hk hne => (hg.block k (Nat.lt_of_lt_of_le hk h.size) (fun e => by have := hr k e.symm; omega)).trans (h.block k hk hne)⟩
theorem gr_step' {w wr w' : World} {g : Nat} (h : w.grownBy wr (some g)) (hg : wr.grownBy w' (some g)) : w.grownBy w' (some g) :=
  ⟨hg.os.trans h.os, hg.tape.trans h.tape, hg.output.trans h.output, Nat.le_trans h.size hg.size, fun k hk hne => (hg.block k (Nat.lt_of_lt_of_le hk h.size) hne).trans (h.block k hk hne)⟩
theorem row_low {k : Nat} {w : World} {base : Nat} {t : TypeId} {A : Option Addr} {n cap : Nat} {cs : List Value} (h : OwnC k w base t A n cap cs) {r : Nat} (e : A.map (·.block) = some r) : base ≤ r := by
  cases A with
  | none => cases e
  | some a =>
    simp only [Option.map_some, Option.some.injEq] at e
    have := (OwnC.lt h a rfl).1
    omega
structure TakeAt (wr w : World) (g : Nat) (l : List UInt8) (b : Bool) (ge : Nat) (s t : ByteArray) (T : Option Addr) (nT cT : Nat) (ts : List ByteArray) (F : Option Addr) (nF cF : Nat) (fs : List (ByteArray × Int)) : Prop where
  rd : Rdr wr 141 g l b
  res : EvAt wr w.heap.size (.string ⟨#[]⟩) (.string ⟨#[]⟩) (.slice none 0 0) (.slice none 0 0)
  ev : EvAt wr ge (.string s) (.string t) (.slice T nT cT) (.slice F nF cF)
  tt : OwnC 1 wr (ge + 1) 9 T nT cT (MemRow.strs ts)
  ff : OwnC 2 wr (ge + 1) 132 F nF cF (flds fs)
  ap : ∀ a c, T = some a → F = some c → a.block ≠ c.block
  gr : w.grownBy wr (some g)
  gw : g < w.heap.size
  we : w.heap.size < ge
section
variable {wr w w' : World} {g ge nT cT nF cF : Nat} {l l' : List UInt8} {b b' : Bool} {s t : ByteArray} {T F : Option Addr} {ts : List ByteArray} {fs : List (ByteArray × Int)}
theorem TakeAt.read (h : TakeAt wr w g l b ge s t T nT cT ts F nF cF fs) (hr : Rdr w' 141 g l' b') (hg : wr.grownBy w' (some g)) : TakeAt w' w g l' b' ge s t T nT cT ts F nF cF fs := by
  have gw := h.gw
  have we := h.we
  refine ⟨hr, h.res.grown hg (by simp; omega), h.ev.grown hg (by simp; omega), OwnC.grown h.tt hg fun a hA e => ?_, OwnC.grown h.ff hg fun a hA e => ?_, h.ap, ?_, h.gw, h.we⟩
  · have := (OwnC.lt h.tt a hA).1
    injection e with e
    omega
  · have := (OwnC.lt h.ff a hA).1
    injection e with e
    omega
  · exact ⟨hg.os.trans h.gr.os, hg.tape.trans h.gr.tape, hg.output.trans h.gr.output, Nat.le_trans h.gr.size hg.size, fun k hk hne => (hg.block k (Nat.lt_of_lt_of_le hk h.gr.size) hne).trans (h.gr.block k hk hne)⟩
theorem TakeAt.drew (h : TakeAt wr w g l b ge s t T nT cT ts F nF cF fs) : TakeAt wr.drew w g l b ge s t T nT cT ts F nF cF fs :=
  ⟨h.rd, h.res, h.ev, h.tt, h.ff, h.ap, ⟨h.gr.os, h.gr.tape, h.gr.output, h.gr.size, h.gr.block⟩, h.gw, h.we⟩
theorem TakeAt.below (h : TakeAt wr w g l b ge s t T nT cT ts F nF cF fs) (hb : Below wr.heap.size wr w') : TakeAt w' w g l b ge s t T nT cT ts F nF cF fs := by
  have hl := h.ev.lt
  have hs := h.gr.size
  exact ⟨h.rd.below hb, h.res.below hb h.res.lt, h.ev.below hb hl, OwnC.below h.tt hb, OwnC.below h.ff hb, h.ap, ⟨hb.os.trans h.gr.os, hb.tape.trans h.gr.tape, hb.output.trans h.gr.output, Nat.le_trans hs hb.size, fun k hk hne => (hb.block k (Nat.lt_of_lt_of_le hk hs)).trans (h.gr.block k hk hne)⟩, h.gw, h.we⟩
theorem ev_set1 {w : World} {g : Nat} {v0 v1 v2 v3 : Value} (h : EvAt w g v0 v1 v2 v3) (x : Value) : EvAt (w.setCell ⟨g, 1, none⟩ x) g v0 x v2 v3 := by
  unfold EvAt at h ⊢
  simp only [World.setCell, Array.getElem?_modify, h]
  rfl
theorem TakeAt.setS (h : TakeAt wr w g l b ge s t T nT cT ts F nF cF fs) (x : ByteArray) : TakeAt (wr.setCell ⟨ge, 1, none⟩ (.string x)) w g l b ge s x T nT cT ts F nF cF fs := by
  have gw := h.gw
  have we := h.we
  have hs := grown_set wr ge 1 (.string x)
  exact ⟨rdr_apart h.rd hs (fun r e => by injection e; omega), h.res.far (by omega) _, ev_set1 h.ev _, own_away h.tt (by omega) _, own_away h.ff (by omega) _, h.ap, gr_step h.gr hs (fun r e => by injection e; omega), gw, we⟩
theorem TakeAt.bad (h : TakeAt wr w g l b ge s t T nT cT ts F nF cF fs) : wr.cell? ⟨g, 1, none⟩ = some (.bool b) := by
  obtain ⟨A, n, cap, hh, _⟩ := h.rd
  exact (two_cell hh).2.1
theorem TakeAt.fin (h : TakeAt wr w g l b ge s t T nT cT ts F nF cF fs) (x0 x1 x2 x3 : Value) (w9 : World) (h9 : w9 = (((wr.setCell ⟨w.heap.size, 0, none⟩ x0).setCell ⟨w.heap.size, 1, none⟩ x1).setCell ⟨w.heap.size, 2, none⟩ x2).setCell ⟨w.heap.size, 3, none⟩ x3) :
    EvAt w9 w.heap.size x0 x1 x2 x3 ∧ Rdr w9 141 g l b ∧ w.grownBy w9 (some g) ∧ OwnC 1 w9 (ge + 1) 9 T nT cT (MemRow.strs ts) ∧ OwnC 2 w9 (ge + 1) 132 F nF cF (flds fs) := by
  subst h9
  have gw := h.gw
  have we := h.we
  have e := h.res.all x0 x1 x2 x3
  refine ⟨e, ?_, ?_, ?_, ?_⟩
  · exact rdr_apart (rdr_apart (rdr_apart (rdr_apart h.rd (grown_set _ _ _ _) (fun r e => by injection e; omega)) (grown_set _ _ _ _) (fun r e => by injection e; omega)) (grown_set _ _ _ _) (fun r e => by injection e; omega)) (grown_set _ _ _ _) (fun r e => by injection e; omega)
  · exact gr_step (gr_step (gr_step (gr_step h.gr (grown_set _ _ _ _) (fun r e => by injection e; omega)) (grown_set _ _ _ _) (fun r e => by injection e; omega)) (grown_set _ _ _ _) (fun r e => by injection e; omega)) (grown_set _ _ _ _) (fun r e => by injection e; omega)
  · exact own_away (own_away (own_away (own_away h.tt (by omega) _) (by omega) _) (by omega) _) (by omega) _
  · exact own_away (own_away (own_away (own_away h.ff (by omega) _) (by omega) _) (by omega) _) (by omega) _
theorem TakeAt.far (h : TakeAt wr w g l b ge s t T nT cT ts F nF cF fs) {r : Nat} (hr : ge < r) (hT : ∀ a, T = some a → a.block ≠ r) (hF : ∀ a, F = some a → a.block ≠ r) (i : Nat) (x : Value) : TakeAt (wr.setCell ⟨r, i, none⟩ x) w g l b ge s t T nT cT ts F nF cF fs := by
  have gw := h.gw
  have we := h.we
  have hs := grown_set wr r i x
  exact ⟨rdr_apart h.rd hs (fun q e => by injection e; omega), h.res.far (by omega) _, h.ev.far (by omega) _, OwnC.grown h.tt hs (fun a hA e => hT a hA (by injection e)), OwnC.grown h.ff hs (fun a hA e => hF a hA (by injection e)), h.ap, gr_step h.gr hs (fun q e => by injection e; omega), gw, we⟩
theorem TakeAt.moreT {T' : Option Addr} {cT' : Nat} {ts' : List ByteArray} {w8 : World} (h : TakeAt wr w g l b ge s t T nT cT ts none 0 0 []) (ho : OwnC 1 w8 (ge + 1) 9 T' (nT + 1) cT' (MemRow.strs ts')) (hg : wr.grownBy w8 (T.map (·.block))) :
    w8.frozen? ⟨ge, 2, none⟩ = false ∧ w8.cell? ⟨ge, 2, none⟩ = some (.slice T nT cT) ∧ TakeAt (w8.setCell ⟨ge, 2, none⟩ (.slice T' (nT + 1) cT')) w g l b ge s t T' (nT + 1) cT' ts' none 0 0 [] := by
  have gw := h.gw
  have we := h.we
  have low := fun r e => row_low h.tt (r := r) e
  have hF : ∀ k, k < ge + 1 → some k ≠ T.map (·.block) := fun k hk e => by have := low k e.symm; omega
  have e8 := h.ev.grown hg (hF _ (by omega))
  have hs := grown_set w8 ge 2 (.slice T' (nT + 1) cT')
  refine ⟨e8.frozen 2, e8.c2, rdr_apart (rdr_apart h.rd hg fun r e => by have := low r e; omega) hs (fun r e => by injection e; omega), (h.res.grown hg (hF _ (by omega))).far (by omega) _, e8.set2 _, own_away ho (by omega) _, OwnC.nil _ _, (fun a c _ hc => by cases hc), gr_step (gr_step h.gr hg fun r e => by have := low r e; omega) hs (fun r e => by injection e; omega), gw, we⟩
theorem TakeAt.moreF {F' : Option Addr} {cF' : Nat} {fs' : List (ByteArray × Int)} {w8 : World} (h : TakeAt wr w g l b ge s t T nT cT ts F nF cF fs) (ho : OwnC 2 w8 (ge + 1) 132 F' (nF + 1) cF' (flds fs')) (hg : wr.grownBy w8 (F.map (·.block)))
    (hloc : F'.map (·.block) = F.map (·.block) ∨ F'.map (·.block) = some wr.heap.size) :
    w8.frozen? ⟨ge, 3, none⟩ = false ∧ w8.cell? ⟨ge, 3, none⟩ = some (.slice F nF cF) ∧ TakeAt (w8.setCell ⟨ge, 3, none⟩ (.slice F' (nF + 1) cF')) w g l b ge s t T nT cT ts F' (nF + 1) cF' fs' := by
  have gw := h.gw
  have we := h.we
  have low := fun r e => row_low h.ff (r := r) e
  have hF : ∀ k, k < ge + 1 → some k ≠ F.map (·.block) := fun k hk e => by have := low k e.symm; omega
  have e8 := h.ev.grown hg (hF _ (by omega))
  have hs := grown_set w8 ge 3 (.slice F' (nF + 1) cF')
  have hT : OwnC 1 w8 (ge + 1) 9 T nT cT (MemRow.strs ts) := OwnC.grown h.tt hg fun a hA e => by
    cases hFe : F with
    | none => rw [hFe] at e; cases e
    | some c =>
      rw [hFe] at e
      simp only [Option.map_some, Option.some.injEq] at e
      exact h.ap a c hA hFe e
  refine ⟨e8.frozen 3, e8.c3, rdr_apart (rdr_apart h.rd hg fun r e => by have := low r e; omega) hs (fun r e => by injection e; omega), (h.res.grown hg (hF _ (by omega))).far (by omega) _, e8.set3 _, own_away hT (by omega) _, own_away ho (by omega) _, fun a c hA hc e => ?_, gr_step (gr_step h.gr hg fun r e => by have := low r e; omega) hs (fun r e => by injection e; omega), gw, we⟩
  rw [hc] at hloc
  simp only [Option.map_some] at hloc
  rcases hloc with hl | hl
  · cases hFe : F with
    | none => rw [hFe] at hl; cases hl
    | some c0 =>
      rw [hFe] at hl
      simp only [Option.map_some, Option.some.injEq] at hl
      exact h.ap a c0 hA hFe (by omega)
  · simp only [Option.some.injEq] at hl
    have := (OwnC.lt h.tt a hA).2
    omega
end
end Go.Proofs.YtppidbdkejkopaaGreatDoor.EcWalk
namespace Go.Proofs.YtppidbdkejkopaaGreatDoor.EcWalk
open Go.RowKit MemRow Ev NameMath NameWalk EvWalk NumMath NumMem NumWalk
def takeE (l : List UInt8) (b : Bool) : Option (Ev × List UInt8) :=
  let l1 := textL l
  let b1 := textB l b
  let l2 := textL l1
  let b2 := textB l1 b1
  let tg := takeTags (min (numV l2) 7).toNat (numL l2) (numB l2 b2)
  let l4 := tg.2.1
  let fl := takeFlds (min (numV l4) 5).toNat (numL l4) (numB l4 tg.2.2)
  if numV l2 < 0 ∨ 6 < numV l2 then none
  else if numV l4 < 0 ∨ fl.2.2 = true ∨ mayE ⟨tx l, tx l1, tg.1, fl.1⟩ ≠ 0 then none
  else some (⟨tx l, tx l1, tg.1, fl.1⟩, fl.2.1)
theorem takeTags_stop {k : Nat} {l : List UInt8} {b : Bool} (h : k = 0 ∨ b = true) : takeTags k l b = ([], l, b) := by
  cases k with
  | zero => rfl
  | succ k =>
    rcases h with h | h
    · cases h
    · rw [takeTags, if_pos h]
theorem takeTags_go {k : Nat} {l : List UInt8} : takeTags (k + 1) l false = (tx l :: (takeTags k (textL l) (textB l false)).1, (takeTags k (textL l) (textB l false)).2) := by
  rw [takeTags, if_neg (by decide)]
theorem takeFlds_stop {k : Nat} {l : List UInt8} {b : Bool} (h : k = 0 ∨ b = true) : takeFlds k l b = ([], l, b) := by
  cases k with
  | zero => rfl
  | succ k =>
    rcases h with h | h
    · cases h
    · rw [takeFlds, if_pos h]
theorem takeFlds_go {k : Nat} {l : List UInt8} : takeFlds (k + 1) l false = ((tx l, numV (textL l)) :: (takeFlds k (numL (textL l)) (numB (textL l) (textB l false))).1, (takeFlds k (numL (textL l)) (numB (textL l) (textB l false))).2) := by
  rw [takeFlds, if_neg (by decide)]
theorem tx_size (l : List UInt8) : (tx l).size ≤ l.length := by
  have e : (tx l).size = (textV l).length := by simp [tx, ByteArray.size]
  rw [e]
  unfold textV
  split
  · rw [List.length_take]
    have : (numL l).length ≤ l.length := by
      unfold numL
      split
      · simp
      · rw [List.length_drop]; omega
    omega
  · simp
theorem tx_small {w : World} {T : TypeId} {g : Nat} {l : List UInt8} {b : Bool} (h : Rdr w T g l b) : (tx l).size ≤ maxLen := by
  obtain ⟨A, n, cap, _, hr, _⟩ := h
  have h1 := hr.le
  have h2 := hr.len
  have h3 := tx_size l
  omega
theorem numV_range (l : List UInt8) : -9223372036854775808 ≤ numV l ∧ numV l ≤ 9223372036854775807 := by
  have hu := decU_lt l
  have hv : numV l = unzig (decU l) ∨ numV l = 0 := by
    unfold numV decU
    by_cases h : lenV l = 0
    · right
      rw [if_pos h]
    · left
      rw [if_neg h, if_neg h]
  rcases hv with hv | hv
  · rw [hv]
    unfold unzig
    split <;> omega
  · rw [hv]
    omega
def NoneE (e : Ending) : Prop := e = .returned (.tuple #[.agg #[.string ⟨#[]⟩, .string ⟨#[]⟩, .slice none 0 0, .slice none 0 0], .int .i64 2])
def OwnIs (w : World) (base : Nat) (v : Value) (ev : Ev) : Prop :=
  ∃ T nT cT F nF cF, v = .agg #[.string ev.s, .string ev.t, .slice T nT cT, .slice F nF cF] ∧ OwnC 1 w base 9 T nT cT (MemRow.strs ev.tags) ∧ OwnC 2 w base 132 F nF cF (flds ev.fs)
theorem OwnIs.ev {w : World} {base : Nat} {v : Value} {ev : Ev} (h : OwnIs w base v ev) : IsEv w v ev := by
  obtain ⟨T, nT, cT, F, nF, cF, rfl, h1, h2⟩ := h
  exact ⟨_, _, _, _, _, _, rfl, OwnC.rd h1, OwnC.rd h2⟩
theorem own_lower {k : Nat} {w : World} {base base' : Nat} {t : TypeId} {A : Option Addr} {n cap : Nat} {cs : List Value} (h : OwnC k w base t A n cap cs) (hb : base' ≤ base) : OwnC k w base' t A n cap cs := by
  refine ⟨h.1, ?_⟩
  rcases h.2 with h2 | ⟨g, c, cur, hv, hg, rest⟩
  · exact .inl h2
  · exact .inr ⟨g, c, cur, hv, Nat.le_trans hb hg, rest⟩
def TakeOut (l : List UInt8) (b : Bool) (g : Nat) (w : World) (e : Ending) (w' : World) : Prop :=
  w.grownBy w' (some g) ∧ ((∃ ev l', takeE l b = some (ev, l') ∧ ∃ v, e = .returned (.tuple #[v, .int .i64 0]) ∧ OwnIs w' w.heap.size v ev ∧ Rdr w' 141 g l' false) ∨
    (takeE l b = none ∧ NoneE e ∧ ∃ l' b', Rdr w' 141 g l' b'))
set_option maxHeartbeats 4000000 in
set_option maxRecDepth 100000 in
theorem refTake_any (g : Nat) (l : List UInt8) (b : Bool) (w : World) (h : Rdr w 141 g l b) :
    Calls Tryz.prog 105 #[.pointer (some ⟨g, 0, none⟩)] w (TakeOut l b g w) := by
  have gw := h.lt
  have HS0 := Go.Lib.hid (tx_small h)
  have e1 := EvAt.new w (.string ⟨#[]⟩) (.string ⟨#[]⟩) (.slice none 0 0) (.slice none 0 0)
  have b1 : Below w.heap.size w (w.alloc (.cells #[.string ⟨#[]⟩, .string ⟨#[]⟩, .slice none 0 0, .slice none 0 0] 69)) := (Below.refl _ _).alloc (Nat.le_refl _) _
  have h1 := h.below b1
  have g1 : w.grownBy (w.alloc (.cells #[.string ⟨#[]⟩, .string ⟨#[]⟩, .slice none 0 0, .slice none 0 0] 69)) (some g) := ⟨b1.os, b1.tape, b1.output, b1.size, fun k hk _ => b1.block k hk⟩
  clear h b1
  go_enter Tryz.func105, Tryz.ntmps105
  go_upto_region 1 with (fail)
  generalize w.alloc (.cells #[.string ⟨#[]⟩, .string ⟨#[]⟩, .slice none 0 0, .slice none 0 0] 69) = w1 at *
  go_wp2_with fail
  refine (refText_any g l b w1 h1).mono ?_
  rintro e w2 ⟨rfl, h2, gg⟩
  have e2 := e1.grown gg (by simp; omega)
  have g2 := gr_step' g1 gg
  clear h1 e1 g1 gg
  go_upto_region 2 with (fail)
  have e3 := EvAt.new w2 (.string (tx l)) (.string ⟨#[]⟩) (.slice none 0 0) (.slice none 0 0)
  have al : Below w2.heap.size w2 (w2.alloc (.cells #[.string (tx l), .string ⟨#[]⟩, .slice none 0 0, .slice none 0 0] 69)) := (Below.refl _ _).alloc (Nat.le_refl _) _
  have t3 : TakeAt (w2.alloc (.cells #[.string (tx l), .string ⟨#[]⟩, .slice none 0 0, .slice none 0 0] 69)) w g (textL l) (textB l b) w2.heap.size (tx l) ⟨#[]⟩ none 0 0 [] none 0 0 [] :=
    ⟨h2.below al, e2.below al e2.lt, e3, OwnC.nil _ _, OwnC.nil _ _, (fun a c hA _ => by cases hA), gr_step g2 (row := none) ⟨al.os, al.tape, al.output, al.size, fun k hk _ => al.block k hk⟩ (fun r e => by cases e), gw, e2.lt⟩
  have hal : w2.alloc (.cells #[.string ⟨(textV l).toArray⟩, .string ⟨#[]⟩, .slice none 0 0, .slice none 0 0] 69) = w2.alloc (.cells #[.string (tx l), .string ⟨#[]⟩, .slice none 0 0, .slice none 0 0] 69) := rfl
  rw [hal]
  clear hal
  generalize w2.alloc (.cells #[.string (tx l), .string ⟨#[]⟩, .slice none 0 0, .slice none 0 0] 69) = w3 at *
  generalize w2.heap.size = ge at *
  clear h2 e2 g2 e3 al
  go_wp2_with fail
  refine (refText_any g _ _ w3 t3.rd).mono ?_
  rintro e w4 ⟨rfl, h4, gg⟩
  have t4 := t3.read h4 gg
  have HS1 := Go.Lib.hid (tx_small t3.rd)
  have z1 := t4.ev.frozen 1
  have k1 := t4.ev.c1
  have t5 := t4.setS (tx (textL l))
  clear t3 t4 h4 gg
  go_upto_region 3 with (fail)
  have hset : w4.setCell ⟨ge, 1, none⟩ (.string ⟨(textV (textL l)).toArray⟩) = w4.setCell ⟨ge, 1, none⟩ (.string (tx (textL l))) := rfl
  rw [hset]
  generalize w4.setCell ⟨ge, 1, none⟩ (.string (tx (textL l))) = w5 at *
  clear z1 k1 hset
  go_wp2_with fail
  refine (refNum_any g _ _ w5 t5.rd).mono ?_
  rintro e w6 ⟨rfl, h6, gg⟩
  have t6 := t5.read h6 gg
  clear t5 h6 gg
  generalize hl2 : textL (textL l) = l2 at *
  generalize hb2 : textB (textL l) (textB l b) = b2 at *
  generalize hn : numV l2 = n at *
  generalize hK : (min n 7).toNat = K
  have HL2 := Go.Lib.hid hl2
  have HB2 := Go.Lib.hid hb2
  have HN := Go.Lib.hid hn
  have hK1 : ∀ j : Nat, j < K ↔ ((j : Int) < n ∧ (j : Int) ≤ 6) := fun j => by omega
  have HK := Go.Lib.hid hK
  have HK1 := Go.Lib.hid hK1
  clear hl2 hb2 hn hK hK1
  go_wp2_with fail
  go_loopw [6] (fun i wr => ∃ (j : Nat) (T : Option Addr) (cT : Nat) (ts : List ByteArray) (l' : List UInt8) (b' : Bool), j ≤ K ∧ i = .int .i64 j ∧ Hid (takeTags K (numL l2) (numB l2 b2) = (ts ++ (takeTags (K - j) l' b').1, (takeTags (K - j) l' b').2)) ∧ ts.length = j ∧ Hid (∀ x ∈ ts, x.size ≤ maxLen) ∧ TakeAt wr w g l' b' ge (tx l) (tx (textL l)) T j cT ts none 0 0 []) (fun i _ => K - (intOf i).toNat)
  case atStart => exact ⟨0, none, 0, [], numL l2, numB l2 b2, Nat.zero_le _, rfl, Go.Lib.hid (by simp), rfl, Go.Lib.hid (by simp), t6⟩
  case round =>
    obtain ⟨j, T, cT, ts, l', b', hj, rfl, HQ, hts, HSZ, ta⟩ := hrel
    have HTS := Go.Lib.hid hts
    clear hts
    have kb := ta.bad
    go_upto_region 5 with (fail)
    go_cut [31] (fun c wx => c = .bool (decide (j < K) && !b') ∧ wr = wx)
    case first =>
      by_cases i1 : (j : Int) < n
      · by_cases i2 : (j : Int) ≤ 6
        · have hd : decide (j < K) = true := decide_eq_true ((HK1.out j).2 ⟨i1, i2⟩)
          have HD := Go.Lib.hid hd
          clear hd
          go_wp2_with fail
          go_meet
          exact ⟨by rw [HD.out]; rfl, rfl⟩
        · have hd : decide (j < K) = false := decide_eq_false fun h => i2 ((HK1.out j).1 h).2
          have HD := Go.Lib.hid hd
          clear hd
          go_wp2_with fail
          go_meet
          exact ⟨by rw [HD.out]; rfl, rfl⟩
      · have hd : decide (j < K) = false := decide_eq_false fun h => i1 ((HK1.out j).1 h).1
        have HD := Go.Lib.hid hd
        clear hd
        go_wp2_with fail
        go_meet
        exact ⟨by rw [HD.out]; rfl, rfl⟩
    case rest =>
      obtain ⟨rfl, rfl⟩ := hcut
      generalize hc : (decide (j < K) && !b') = c
      have HC := Go.Lib.hid hc
      clear hc kb
      cases c with
      | true =>
        have hjb := HC.out
        rw [Bool.and_eq_true] at hjb
        have hjk : j < K := of_decide_eq_true hjb.1
        obtain rfl : b' = false := by cases b' <;> simp_all
        have hj7 := (HK1.out j).1 hjk
        have i2 := hj7.2
        have td := ta.drew
        have l2c := ta.ev.c2
        have hsz2 : ∀ x ∈ ts ++ [tx l'], x.size ≤ maxLen := by
          intro x hx
          rcases List.mem_append.1 hx with hx | hx
          · exact HSZ.out x hx
          · rw [List.mem_singleton.1 hx]
            exact tx_small ta.rd
        have HSZ2 := Go.Lib.hid hsz2
        clear hsz2
        have h63 : j + 1 ≤ maxLen := by unfold maxLen; omega
        have hsz : (j + 1) * 16 ≤ 140737488355328 := by omega
        have hKj : K - j = K - (j + 1) + 1 := by omega
        have HKJ := Go.Lib.hid hKj
        have hgo : takeTags K (numL l2) (numB l2 b2) = ((ts ++ [tx l']) ++ (takeTags (K - (j + 1)) (textL l') (textB l' false)).1, (takeTags (K - (j + 1)) (textL l') (textB l' false)).2) := by
          rw [HQ.out, HKJ.out, takeTags_go]
          simp
        have HGO := Go.Lib.hid hgo
        clear hjb hj7 hKj hgo HC HQ
        go_upto_region 7 with (fail)
        go_region_law (first
          | (go_simp; go_at_call 134; refine (refText_any g l' false wr.drew td.rd).mono ?_; rintro e v1 ⟨rfl, hr, hg⟩; have t1 := td.read hr hg; have m2 := t1.ev.c2; have al : Below v1.heap.size v1 (v1.alloc (.cells #[.string ⟨(textV l').toArray⟩] 9)) := (Below.refl _ _).alloc (Nat.le_refl _) _; have t2 := t1.below al; have m3 := bcell al m2; have d1 : RdC 1 (v1.alloc (.cells #[.string ⟨(textV l').toArray⟩] 9)) (some ⟨v1.heap.size, 0, none⟩) 1 1 (MemRow.strs [tx l']) := RdC.new v1 9 (MemRow.strs [tx l']) rfl (by decide); have big : ge + 1 ≤ (v1.alloc (.cells #[.string ⟨(textV l').toArray⟩] 9)).heap.size := (Nat.le_trans t1.ev.lt al.size))
          | (refine step_append_cells (by rfl) (.tmp 35) (.tmp 38) 61 rfl 9 (.string ByteArray.empty) 16 Tryz.underlying61 string_info rfl (by decide) rfl rfl t2.tt d1 (strs_one [tx l']) h63 hsz big ?_; intro T8 c8 w8 o8 g8 _; obtain ⟨z8, k8, n8⟩ := t2.moreT (ts' := ts ++ [tx l']) (by rw [strs_append]; exact o8) g8))
        all_goals
          go_wp2_with fail
          go_roundw
          case rel => exact ⟨j + 1, T8, c8, ts ++ [tx l'], textL l', textB l' false, by omega, by go_num, HGO, by rw [List.length_append, HTS.out]; rfl, HSZ2, n8⟩
          case measure => simp [intOf]; omega
      | false =>
        have hst : takeTags K (numL l2) (numB l2 b2) = (ts, l', b') := by
          have h1 : K - j = 0 ∨ b' = true := by
            have h2 := HC.out
            rw [Bool.and_eq_false_iff] at h2
            rcases h2 with h2 | h2
            · left
              have := of_decide_eq_false h2
              omega
            · right
              simpa using h2
          rw [HQ.out, takeTags_stop h1]
          simp
        have HST := Go.Lib.hid hst
        clear hst HC HQ
        have hTE : (n < 0 ∨ 6 < n) → takeE l b = none := by
          intro hx
          unfold takeE
          simp only
          rw [HL2.out, HN.out, if_pos hx]
        have HTE := Go.Lib.hid hTE
        clear hTE
        by_cases hx : n < 0 ∨ 6 < n
        · have hr0 := ta.res.c0
          have hr1 := ta.res.c1
          have hr2 := ta.res.c2
          have hr3 := ta.res.c3
          have z0 := ta.res.frozen 0
          have z1 := ta.res.frozen 1
          have z2 := ta.res.frozen 2
          have z3 := ta.res.frozen 3
          have hfin := ta.fin (.string ⟨#[]⟩) (.string ⟨#[]⟩) (.slice none 0 0) (.slice none 0 0) _ rfl
          have HFIN := Go.Lib.hid hfin
          have HX := Go.Lib.hid hx
          clear hfin
          rcases hx with hx | hx
          · go_wp2_with fail
            obtain ⟨E9, R9, G9, _, _⟩ := HFIN.out
            generalize ((((wr.setCell ⟨w.heap.size, 0, none⟩ (.string ⟨#[]⟩)).setCell ⟨w.heap.size, 1, none⟩ (.string ⟨#[]⟩)).setCell ⟨w.heap.size, 2, none⟩ (.slice none 0 0)).setCell ⟨w.heap.size, 3, none⟩ (.slice none 0 0)) = w9 at *
            have q0 := E9.c0
            have q1 := E9.c1
            have q2 := E9.c2
            have q3 := E9.c3
            exact bodyPost_ret (v := .tuple #[.agg #[.string ⟨#[]⟩, .string ⟨#[]⟩, .slice none 0 0, .slice none 0 0], .int .i64 2]) (by simp [results, Tryz.results105, go_sem, q0, q1, q2, q3]) rfl ⟨G9, .inr ⟨HTE.out HX.out, rfl, _, _, R9⟩⟩
          · have hn0 : ¬ n < 0 := by omega
            go_wp2_with fail
            obtain ⟨E9, R9, G9, _, _⟩ := HFIN.out
            generalize ((((wr.setCell ⟨w.heap.size, 0, none⟩ (.string ⟨#[]⟩)).setCell ⟨w.heap.size, 1, none⟩ (.string ⟨#[]⟩)).setCell ⟨w.heap.size, 2, none⟩ (.slice none 0 0)).setCell ⟨w.heap.size, 3, none⟩ (.slice none 0 0)) = w9 at *
            have q0 := E9.c0
            have q1 := E9.c1
            have q2 := E9.c2
            have q3 := E9.c3
            exact bodyPost_ret (v := .tuple #[.agg #[.string ⟨#[]⟩, .string ⟨#[]⟩, .slice none 0 0, .slice none 0 0], .int .i64 2]) (by simp [results, Tryz.results105, go_sem, q0, q1, q2, q3]) rfl ⟨G9, .inr ⟨HTE.out HX.out, rfl, _, _, R9⟩⟩
        have hx1 : ¬ n < 0 := fun h => hx (.inl h)
        have hx2 : ¬ 6 < n := fun h => hx (.inr h)
        have HX := Go.Lib.hid hx
        clear hx HTE
        go_wp2_with fail
        refine (refNum_any g l' b' wr ta.rd).mono ?_
        rintro e u1 ⟨rfl, hr, hg⟩
        have ua := ta.read hr hg
        clear hr hg ta t6
        generalize hm : numV l' = m at *
        generalize hM : (min m 5).toNat = M
        have HMV := Go.Lib.hid hm
        have hM1 : ∀ k : Nat, k < M ↔ ((k : Int) < m ∧ (k : Int) ≤ 4) := fun k => by omega
        have HM := Go.Lib.hid hM
        have HM1 := Go.Lib.hid hM1
        clear hm hM hM1
        go_wp2_with fail
        go_loopw [8, 9] (fun i _ wq => ∃ (k : Nat) (F : Option Addr) (cF : Nat) (fs : List (ByteArray × Int)) (l'' : List UInt8) (b'' : Bool), k ≤ M ∧ i = .int .i64 k ∧ Hid (takeFlds M (numL l') (numB l' b') = (fs ++ (takeFlds (M - k) l'' b'').1, (takeFlds (M - k) l'' b'').2)) ∧ fs.length = k ∧ Hid (∀ f ∈ fs, f.1.size ≤ maxLen ∧ -9223372036854775808 ≤ f.2 ∧ f.2 ≤ 9223372036854775807) ∧ TakeAt wq w g l'' b'' ge (tx l) (tx (textL l)) T j cT ts F k cF fs) (fun i _ _ => M - (intOf i).toNat)
        case atStart => exact ⟨0, none, 0, [], numL l', numB l' b', Nat.zero_le _, rfl, Go.Lib.hid (by simp), rfl, Go.Lib.hid (by simp), ua⟩
        case round =>
          obtain ⟨k, F, cF, fs, l'', b'', hk, rfl, HQ, hfs, HFZ, va⟩ := hrel
          have HFS := Go.Lib.hid hfs
          clear hfs
          have kb := va.bad
          go_upto_region 12 with (fail)
          go_cut [63] (fun c wx => c = .bool (decide (k < M) && !b'') ∧ wr = wx)
          case first =>
            by_cases i1 : (k : Int) < m
            · by_cases i2 : (k : Int) ≤ 4
              · have hd : decide (k < M) = true := decide_eq_true ((HM1.out k).2 ⟨i1, i2⟩)
                have HD := Go.Lib.hid hd
                clear hd
                go_wp2_with fail
                go_meet
                exact ⟨by rw [HD.out]; rfl, rfl⟩
              · have hd : decide (k < M) = false := decide_eq_false fun h => i2 ((HM1.out k).1 h).2
                have HD := Go.Lib.hid hd
                clear hd
                go_wp2_with fail
                go_meet
                exact ⟨by rw [HD.out]; rfl, rfl⟩
            · have hd : decide (k < M) = false := decide_eq_false fun h => i1 ((HM1.out k).1 h).1
              have HD := Go.Lib.hid hd
              clear hd
              go_wp2_with fail
              go_meet
              exact ⟨by rw [HD.out]; rfl, rfl⟩
          case rest =>
            obtain ⟨rfl, rfl⟩ := hcut
            generalize hc : (decide (k < M) && !b'') = c
            have HC := Go.Lib.hid hc
            clear hc kb
            cases c with
            | true =>
              have hjb := HC.out
              rw [Bool.and_eq_true] at hjb
              have hjk : k < M := of_decide_eq_true hjb.1
              obtain rfl : b'' = false := by cases b'' <;> simp_all
              have hj7 := (HM1.out k).1 hjk
              have i2 := hj7.2
              have hfz2 : ∀ f ∈ fs ++ [(tx l'', numV (textL l''))], f.1.size ≤ maxLen ∧ -9223372036854775808 ≤ f.2 ∧ f.2 ≤ 9223372036854775807 := by
                intro f hf
                rcases List.mem_append.1 hf with hf | hf
                · exact HFZ.out f hf
                · rw [List.mem_singleton.1 hf]
                  exact ⟨tx_small va.rd, numV_range _⟩
              have HFZ2 := Go.Lib.hid hfz2
              clear hfz2
              have h63 : k + 1 ≤ maxLen := by unfold maxLen; omega
              have hsz : (k + 1) * 24 ≤ 140737488355328 := by omega
              have hKj : M - k = M - (k + 1) + 1 := by omega
              have HKJ := Go.Lib.hid hKj
              have hgo : takeFlds M (numL l') (numB l' b') = ((fs ++ [(tx l'', numV (textL l''))]) ++ (takeFlds (M - (k + 1)) (numL (textL l'')) (numB (textL l'') (textB l'' false))).1, (takeFlds (M - (k + 1)) (numL (textL l'')) (numB (textL l'') (textB l'' false))).2) := by
                rw [HQ.out, HKJ.out, takeFlds_go]
                simp
              have HGO := Go.Lib.hid hgo
              clear hjb hj7 hKj hgo HC HQ ua
              go_wp2_with fail
              refine (refText_any g l'' false wr va.rd).mono ?_
              rintro e v1 ⟨rfl, hr, hg⟩
              have t1 := va.read hr hg
              clear hr hg va
              go_upto_region 15 with (fail)
              have al : Below v1.heap.size v1 (v1.alloc (.cells #[.string (tx l''), .int .i64 0] 132)) := (Below.refl _ _).alloc (Nat.le_refl _) _
              have t2 := t1.below al
              have f2 : FldAt (v1.alloc (.cells #[.string (tx l''), .int .i64 0] 132)) v1.heap.size (tx l'', 0) := heap_alloc_new v1 _
              have lge := t1.ev.lt
              have lT : ∀ a, T = some a → a.block ≠ v1.heap.size := fun a hA => by have := (OwnC.lt t1.tt a hA).2; omega
              have lF : ∀ a, F = some a → a.block ≠ v1.heap.size := fun a hA => by have := (OwnC.lt t1.ff a hA).2; omega
              have gv : g ≠ v1.heap.size := by have := t1.gw; have := t1.gr.size; omega
              have HLT := Go.Lib.hid lT
              have HLF := Go.Lib.hid lF
              have hal : v1.alloc (.cells #[.string ⟨(textV l'').toArray⟩, .int .i64 0] 132) = v1.alloc (.cells #[.string (tx l''), .int .i64 0] 132) := rfl
              rw [hal]
              clear hal t1 al lT lF
              generalize v1.alloc (.cells #[.string (tx l''), .int .i64 0] 132) = v2 at *
              generalize v1.heap.size = g9 at *
              go_wp2_with fail
              refine (refNum_any g _ _ v2 t2.rd).mono ?_
              rintro e v3 ⟨rfl, hr, hg⟩
              have t3 := t2.read hr hg
              have f3 : FldAt v3 g9 (tx l'', 0) := (hg.block g9 f2.lt (fun e => gv (by injection e with e; exact e.symm))).trans f2
              have z1 := f3.frozen 1
              have p1 := f3.c1
              have t4 := t3.far lge HLT.out HLF.out 1 (.int .i64 (numV (textL l'')))
              have f4 : FldAt (v3.setCell ⟨g9, 1, none⟩ (.int .i64 (numV (textL l'')))) g9 (tx l'', numV (textL l'')) := by
                have h := f3
                unfold FldAt at h ⊢
                simp only [World.setCell, Array.getElem?_modify, h]
                rfl
              clear hr hg t2 t3 f2 f3
              go_upto_region 16 with (fail)
              generalize v3.setCell ⟨g9, 1, none⟩ (.int .i64 (numV (textL l''))) = v4 at *
              clear z1 p1
              have m3 := t4.ev.c3
              have q0 := f4.c0
              have q1 := f4.c1
              have al : Below v4.heap.size v4 (v4.alloc (.cells #[.string (tx l''), .int .i64 (numV (textL l''))] 132)) := (Below.refl _ _).alloc (Nat.le_refl _) _
              have t5 := t4.below al
              have d5 : RdC 2 (v4.alloc (.cells #[.string (tx l''), .int .i64 (numV (textL l''))] 132)) (some ⟨v4.heap.size, 0, none⟩) 1 1 (flds [(tx l'', numV (textL l''))]) := RdC.new v4 132 (flds [(tx l'', numV (textL l''))]) rfl (by decide)
              have big : ge + 1 ≤ (v4.alloc (.cells #[.string (tx l''), .int .i64 (numV (textL l''))] 132)).heap.size := Nat.le_trans t4.ev.lt al.size
              clear f4 t4
              go_wp2_with (at_builtin; refine wpList_append_cells rfl (.tmp 73) (.tmp 75) 67 rfl 132 (.agg #[.string ⟨#[]⟩, .int .i64 0]) 24 Tryz.underlying67 field_info rfl (by decide) rfl rfl t5.ff d5 (flds_one _) h63 hsz big ?_; intro F6 c6 w6 o6 g6 hloc; obtain ⟨z6, k6, n6⟩ := t5.moreF (fs' := fs ++ [(tx l'', numV (textL l''))]) (by rw [flds_append]; exact o6) g6 hloc)
              go_roundw
              case rel => exact ⟨k + 1, F6, c6, fs ++ [(tx l'', numV (textL l''))], _, _, by omega, by go_num, HGO, by rw [List.length_append, HFS.out]; rfl, HFZ2, n6⟩
              case measure => simp [intOf]; omega
            | false =>
              have hst : takeFlds M (numL l') (numB l' b') = (fs, l'', b'') := by
                have h1 : M - k = 0 ∨ b'' = true := by
                  have h2 := HC.out
                  rw [Bool.and_eq_false_iff] at h2
                  rcases h2 with h2 | h2
                  · left
                    have := of_decide_eq_false h2
                    omega
                  · right
                    simpa using h2
                rw [HQ.out, takeFlds_stop h1]
                simp
              have hTE : takeE l b = if m < 0 ∨ b'' = true ∨ mayE ⟨tx l, tx (textL l), ts, fs⟩ ≠ 0 then none else some (⟨tx l, tx (textL l), ts, fs⟩, l'') := by
                unfold takeE
                simp only
                rw [HL2.out, HB2.out, HN.out, HK.out, HST.out, if_neg HX.out]
                simp only
                rw [HMV.out, HM.out, hst]
              have HTE := Go.Lib.hid hTE
              have kb := va.bad
              clear hst hTE HC HQ
              by_cases m0 : m < 0
              · have hno : takeE l b = none := by rw [HTE.out, if_pos (.inl m0)]
                have HNO := Go.Lib.hid hno
                clear hno
                have hr0 := va.res.c0
                have hr1 := va.res.c1
                have hr2 := va.res.c2
                have hr3 := va.res.c3
                have z0 := va.res.frozen 0
                have z1 := va.res.frozen 1
                have z2 := va.res.frozen 2
                have z3 := va.res.frozen 3
                have hfin := va.fin (.string ⟨#[]⟩) (.string ⟨#[]⟩) (.slice none 0 0) (.slice none 0 0) _ rfl
                have HFIN := Go.Lib.hid hfin
                clear hfin
                go_wp2_with fail
                rcases HFIN.out with ⟨E9, R9, G9, _, _⟩
                generalize ((((wr.setCell ⟨w.heap.size, 0, none⟩ (.string ⟨#[]⟩)).setCell ⟨w.heap.size, 1, none⟩ (.string ⟨#[]⟩)).setCell ⟨w.heap.size, 2, none⟩ (.slice none 0 0)).setCell ⟨w.heap.size, 3, none⟩ (.slice none 0 0)) = w9 at *
                have q0 := E9.c0
                have q1 := E9.c1
                have q2 := E9.c2
                have q3 := E9.c3
                exact bodyPost_ret (v := .tuple #[.agg #[.string ⟨#[]⟩, .string ⟨#[]⟩, .slice none 0 0, .slice none 0 0], .int .i64 2]) (by simp [results, Tryz.results105, go_sem, q0, q1, q2, q3]) rfl ⟨G9, .inr ⟨HNO.out, rfl, _, _, R9⟩⟩
              cases b'' with
              | true =>
                have hno : takeE l b = none := by rw [HTE.out, if_pos (.inr (.inl rfl))]
                have HNO := Go.Lib.hid hno
                clear hno
                have hr0 := va.res.c0
                have hr1 := va.res.c1
                have hr2 := va.res.c2
                have hr3 := va.res.c3
                have z0 := va.res.frozen 0
                have z1 := va.res.frozen 1
                have z2 := va.res.frozen 2
                have z3 := va.res.frozen 3
                have hfin := va.fin (.string ⟨#[]⟩) (.string ⟨#[]⟩) (.slice none 0 0) (.slice none 0 0) _ rfl
                have HFIN := Go.Lib.hid hfin
                clear hfin
                go_wp2_with fail
                rcases HFIN.out with ⟨E9, R9, G9, _, _⟩
                generalize ((((wr.setCell ⟨w.heap.size, 0, none⟩ (.string ⟨#[]⟩)).setCell ⟨w.heap.size, 1, none⟩ (.string ⟨#[]⟩)).setCell ⟨w.heap.size, 2, none⟩ (.slice none 0 0)).setCell ⟨w.heap.size, 3, none⟩ (.slice none 0 0)) = w9 at *
                have q0 := E9.c0
                have q1 := E9.c1
                have q2 := E9.c2
                have q3 := E9.c3
                exact bodyPost_ret (v := .tuple #[.agg #[.string ⟨#[]⟩, .string ⟨#[]⟩, .slice none 0 0, .slice none 0 0], .int .i64 2]) (by simp [results, Tryz.results105, go_sem, q0, q1, q2, q3]) rfl ⟨G9, .inr ⟨HNO.out, rfl, _, _, R9⟩⟩
              | false =>
                have e0 := va.ev.c0
                have e1 := va.ev.c1
                have e2 := va.ev.c2
                have e3 := va.ev.c3
                have jv : IsEv wr (.agg #[.string (tx l), .string (tx (textL l)), .slice T j cT, .slice F k cF]) ⟨tx l, tx (textL l), ts, fs⟩ := ⟨_, _, _, _, _, _, rfl, OwnC.rd va.tt, OwnC.rd va.ff⟩
                have hok : EvOk ⟨tx l, tx (textL l), ts, fs⟩ := ⟨HS0.out, HS1.out, HSZ.out, fun f hf => (HFZ.out f hf).1, fun f hf => (HFZ.out f hf).2⟩
                go_wp2_with fail
                refine (refMayE_any _ ⟨tx l, tx (textL l), ts, fs⟩ wr jv hok).mono ?_
                rintro e v1 ⟨rfl, b1⟩
                have vb := va.below b1
                have jw := jv.below b1
                clear e0 e1 e2 e3 b1 va jv kb
                by_cases h0 : mayE ⟨tx l, tx (textL l), ts, fs⟩ = 0
                · rw [h0]
                  have hyes : takeE l b = some (⟨tx l, tx (textL l), ts, fs⟩, l'') := by
                    rw [HTE.out, if_neg]
                    rintro (h | h | h)
                    · omega
                    · cases h
                    · exact h h0
                  have HYES := Go.Lib.hid hyes
                  clear hyes h0
                  have e0 := vb.ev.c0
                  have e1 := vb.ev.c1
                  have e2 := vb.ev.c2
                  have e3 := vb.ev.c3
                  have hr0 := vb.res.c0
                  have hr1 := vb.res.c1
                  have hr2 := vb.res.c2
                  have hr3 := vb.res.c3
                  have z0 := vb.res.frozen 0
                  have z1 := vb.res.frozen 1
                  have z2 := vb.res.frozen 2
                  have z3 := vb.res.frozen 3
                  have hge := vb.we
                  have hfin := vb.fin (.string (tx l)) (.string (tx (textL l))) (.slice T j cT) (.slice F k cF) _ rfl
                  have HFIN := Go.Lib.hid hfin
                  clear hfin
                  go_wp2_with fail
                  obtain ⟨E9, R9, G9, T9, F9⟩ := HFIN.out
                  generalize ((((v1.setCell ⟨w.heap.size, 0, none⟩ (.string (tx l))).setCell ⟨w.heap.size, 1, none⟩ (.string (tx (textL l)))).setCell ⟨w.heap.size, 2, none⟩ (.slice T j cT)).setCell ⟨w.heap.size, 3, none⟩ (.slice F k cF)) = w9 at *
                  have q0 := E9.c0
                  have q1 := E9.c1
                  have q2 := E9.c2
                  have q3 := E9.c3
                  exact bodyPost_ret (v := .tuple #[.agg #[.string (tx l), .string (tx (textL l)), .slice T j cT, .slice F k cF], .int .i64 0]) (by simp [results, Tryz.results105, go_sem, q0, q1, q2, q3]) rfl ⟨G9, .inl ⟨_, _, HYES.out, _, rfl, ⟨_, _, _, _, _, _, rfl, own_lower T9 (by omega), own_lower F9 (by omega)⟩, R9⟩⟩
                · have hm0 : (mayE ⟨tx l, tx (textL l), ts, fs⟩ != 0) = true := by rw [bne_iff_ne]; exact h0
                  have hno : takeE l b = none := by rw [HTE.out, if_pos (.inr (.inr h0))]
                  have HNO := Go.Lib.hid hno
                  clear hno h0
                  generalize mayE ⟨tx l, tx (textL l), ts, fs⟩ = MM at *
                  have hr0 := vb.res.c0
                  have hr1 := vb.res.c1
                  have hr2 := vb.res.c2
                  have hr3 := vb.res.c3
                  have z0 := vb.res.frozen 0
                  have z1 := vb.res.frozen 1
                  have z2 := vb.res.frozen 2
                  have z3 := vb.res.frozen 3
                  have hfin := vb.fin (.string ⟨#[]⟩) (.string ⟨#[]⟩) (.slice none 0 0) (.slice none 0 0) _ rfl
                  have HFIN := Go.Lib.hid hfin
                  clear hfin
                  go_wp2_with fail
                  rcases HFIN.out with ⟨E9, R9, G9, _, _⟩
                  generalize ((((v1.setCell ⟨w.heap.size, 0, none⟩ (.string ⟨#[]⟩)).setCell ⟨w.heap.size, 1, none⟩ (.string ⟨#[]⟩)).setCell ⟨w.heap.size, 2, none⟩ (.slice none 0 0)).setCell ⟨w.heap.size, 3, none⟩ (.slice none 0 0)) = w9 at *
                  have q0 := E9.c0
                  have q1 := E9.c1
                  have q2 := E9.c2
                  have q3 := E9.c3
                  exact bodyPost_ret (v := .tuple #[.agg #[.string ⟨#[]⟩, .string ⟨#[]⟩, .slice none 0 0, .slice none 0 0], .int .i64 2]) (by simp [results, Tryz.results105, go_sem, q0, q1, q2, q3]) rfl ⟨G9, .inr ⟨HNO.out, rfl, _, _, R9⟩⟩
end Go.Proofs.YtppidbdkejkopaaGreatDoor.EcWalk
namespace Go.Proofs.YtppidbdkejkopaaGreatDoor.EcWalk
open Go.RowKit MemRow Ev NameMath NameWalk EvWalk NumMath NumMem NumWalk
theorem num_enc (x : Int) (h : -9223372036854775808 ≤ x ∧ x ≤ 9223372036854775807) (rest : List UInt8) (b : Bool) : numV (enc x ++ rest) = x ∧ numL (enc x ++ rest) = rest ∧ numB (enc x ++ rest) b = b := by
  obtain ⟨h1, h2⟩ := numV_enc x h.1 h.2 rest
  have h3 := enc_pos x
  have h4 : ¬ lenV (enc x ++ rest) = 0 := by omega
  refine ⟨h2, ?_, ?_⟩
  · unfold numL
    rw [if_neg h4, h1, List.drop_left]
  · unfold numB
    rw [if_neg h4]
theorem text_txt (s : ByteArray) (hs : s.size ≤ 1000) (rest : List UInt8) (b : Bool) : tx (txt s ++ rest) = s ∧ textL (txt s ++ rest) = rest ∧ textB (txt s ++ rest) b = b := by
  have e : txt s ++ rest = enc (s.size : Int) ++ (s.data.toList ++ rest) := by rw [txt, List.append_assoc]
  obtain ⟨h1, h2, h3⟩ := num_enc (s.size : Int) (by omega) (s.data.toList ++ rest) b
  have hz := size_list s
  have hok : textOk (txt s ++ rest) := by
    unfold textOk
    rw [e, h1, h2, List.length_append]
    omega
  refine ⟨?_, ?_, ?_⟩
  · unfold tx textV
    rw [if_pos hok, e, h1, h2, Int.toNat_natCast, hz, List.take_left]
  · unfold textL
    rw [if_pos hok, e, h1, h2, Int.toNat_natCast, hz, List.drop_left]
  · unfold textB
    rw [if_pos hok, e, h3]
theorem takeTags_txts (ts : List ByteArray) (h : ∀ x ∈ ts, x.size ≤ 1000) (rest : List UInt8) : takeTags ts.length (txts ts ++ rest) false = (ts, rest, false) := by
  induction ts with
  | nil => simp [takeTags, txts]
  | cons s ts ih =>
    have e : txts (s :: ts) ++ rest = txt s ++ (txts ts ++ rest) := by simp [txts, List.append_assoc]
    obtain ⟨h1, h2, h3⟩ := text_txt s (h s (by simp)) (txts ts ++ rest) false
    rw [List.length_cons, takeTags_go, e, h1, h2, h3, ih fun x hx => h x (by simp [hx])]
theorem takeFlds_fldsE (fs : List (ByteArray × Int)) (h : ∀ f ∈ fs, f.1.size ≤ 1000) (hz : ∀ f ∈ fs, -9223372036854775808 ≤ f.2 ∧ f.2 ≤ 9223372036854775807) (rest : List UInt8) : takeFlds fs.length (fldsE fs ++ rest) false = (fs, rest, false) := by
  induction fs with
  | nil => simp [takeFlds, fldsE]
  | cons f fs ih =>
    have e : fldsE (f :: fs) ++ rest = txt f.1 ++ (enc f.2 ++ (fldsE fs ++ rest)) := by simp [fldsE, fldE, List.append_assoc]
    obtain ⟨h1, h2, h3⟩ := text_txt f.1 (h f (by simp)) (enc f.2 ++ (fldsE fs ++ rest)) false
    obtain ⟨k1, k2, k3⟩ := num_enc f.2 (hz f (by simp)) (fldsE fs ++ rest) false
    rw [List.length_cons, takeFlds_go, e, h1, h2, h3, k1, k2, k3, ih (fun x hx => h x (by simp [hx])) (fun x hx => hz x (by simp [hx]))]
theorem takeE_encE {e : Ev} (h : mayE e = 0) (rest : List UInt8) : takeE (encE e ++ rest) false = some (e, rest) := by
  have sm := may_smallE h
  have a0 : encE e ++ rest = txt e.s ++ (txt e.t ++ (enc (e.tags.length : Int) ++ (txts e.tags ++ (enc (e.fs.length : Int) ++ (fldsE e.fs ++ rest))))) := by simp only [encE, List.append_assoc]
  have hnt := sm.nt
  have hnf := sm.nf
  obtain ⟨s1, s2, s3⟩ := text_txt e.s (by have := sm.s; omega) (txt e.t ++ (enc (e.tags.length : Int) ++ (txts e.tags ++ (enc (e.fs.length : Int) ++ (fldsE e.fs ++ rest))))) false
  obtain ⟨t1, t2, t3⟩ := text_txt e.t (by have := sm.t; omega) (enc (e.tags.length : Int) ++ (txts e.tags ++ (enc (e.fs.length : Int) ++ (fldsE e.fs ++ rest)))) false
  obtain ⟨n1, n2, n3⟩ := num_enc (e.tags.length : Int) (by omega) (txts e.tags ++ (enc (e.fs.length : Int) ++ (fldsE e.fs ++ rest))) false
  obtain ⟨m1, m2, m3⟩ := num_enc (e.fs.length : Int) (by omega) (fldsE e.fs ++ rest) false
  have hT := takeTags_txts e.tags (fun x hx => by have := sm.tags x hx; omega) (enc (e.fs.length : Int) ++ (fldsE e.fs ++ rest))
  have hF := takeFlds_fldsE e.fs (fun f hf => by have := sm.names f hf; omega) (fun f hf => by have := sm.nums f hf; omega) rest
  have k1 : (min (e.tags.length : Int) 7).toNat = e.tags.length := by omega
  have k2 : (min (e.fs.length : Int) 5).toNat = e.fs.length := by omega
  unfold takeE
  simp only
  rw [a0, s1, s2, s3, t1, t2, t3, n1, n2, n3, k1, hT]
  simp only
  rw [m1, m2, m3, k2, hF]
  simp only
  rw [if_neg (by omega), if_neg]
  rintro (h1 | h1 | h1)
  · omega
  · cases h1
  · exact h1 h
end Go.Proofs.YtppidbdkejkopaaGreatDoor.EcWalk
namespace Go.Proofs.YtppidbdkejkopaaGreatDoor.EdWalk
open Go.RowKit MemRow Ev NameMath NameWalk EvWalk NumMath NumMem NumWalk EcWalk
def EvsC (w : World) (base : Nat) : List Ev → List Value → Prop
  | [], cs => cs = []
  | e :: es, cs => ∃ T nT cT F nF cF cs', cs = .string e.s :: .string e.t :: .slice T nT cT :: .slice F nF cF :: cs' ∧ OwnC 1 w base 9 T nT cT (MemRow.strs e.tags) ∧ OwnC 2 w base 132 F nF cF (flds e.fs) ∧ EvsC w base es cs'
theorem EvsC.map {w w' : World} {base base' : Nat} (h1 : ∀ (A : Option Addr) (n c : Nat) (x : List Value), OwnC 1 w base 9 A n c x → OwnC 1 w' base' 9 A n c x) (h2 : ∀ (A : Option Addr) (n c : Nat) (x : List Value), OwnC 2 w base 132 A n c x → OwnC 2 w' base' 132 A n c x) :
    ∀ (es : List Ev) (cs : List Value), EvsC w base es cs → EvsC w' base' es cs
  | [], _, h => h
  | _ :: es, _, ⟨T, nT, cT, F, nF, cF, cs', e, o1, o2, h⟩ => ⟨T, nT, cT, F, nF, cF, cs', e, h1 _ _ _ _ o1, h2 _ _ _ _ o2, EvsC.map h1 h2 es cs' h⟩
theorem EvsC.snoc {w : World} {base : Nat} {e : Ev} {T F : Option Addr} {nT cT nF cF : Nat} (o1 : OwnC 1 w base 9 T nT cT (MemRow.strs e.tags)) (o2 : OwnC 2 w base 132 F nF cF (flds e.fs)) :
    ∀ (es : List Ev) (cs : List Value), EvsC w base es cs → EvsC w base (es ++ [e]) (cs ++ [.string e.s, .string e.t, .slice T nT cT, .slice F nF cF])
  | [], cs, h => by
    obtain rfl : cs = [] := h
    exact ⟨T, nT, cT, F, nF, cF, [], rfl, o1, o2, rfl⟩
  | x :: es, cs, ⟨T1, n1, c1, F1, m1, d1, cs', hc, p1, p2, h⟩ => by
    subst hc
    exact ⟨T1, n1, c1, F1, m1, d1, cs' ++ [.string e.s, .string e.t, .slice T nT cT, .slice F nF cF], rfl, p1, p2, EvsC.snoc o1 o2 es cs' h⟩
theorem EvsC.at_ {w : World} {base : Nat} : ∀ (es : List Ev) (cs : List Value), EvsC w base es cs → ∀ i, i < es.length →
    ∃ T nT cT F nF cF, cs[i * 4]? = some (.string (es.getD i noEv).s) ∧ cs[i * 4 + 1]? = some (.string (es.getD i noEv).t) ∧ cs[i * 4 + 2]? = some (.slice T nT cT) ∧ cs[i * 4 + 3]? = some (.slice F nF cF) ∧ OwnC 1 w base 9 T nT cT (MemRow.strs (es.getD i noEv).tags) ∧ OwnC 2 w base 132 F nF cF (flds (es.getD i noEv).fs)
  | [], _, _, i, hi => by simp at hi
  | e :: es, cs, ⟨T, nT, cT, F, nF, cF, cs', hc, o1, o2, h⟩, i, hi => by
    subst hc
    cases i with
    | zero => exact ⟨T, nT, cT, F, nF, cF, rfl, rfl, rfl, rfl, o1, o2⟩
    | succ i =>
      obtain ⟨T1, n1, c1, F1, m1, d1, q0, q1, q2, q3, p1, p2⟩ := EvsC.at_ es cs' h i (by simpa using hi)
      have e4 : (i + 1) * 4 = i * 4 + 4 := by omega
      rw [e4]
      exact ⟨T1, n1, c1, F1, m1, d1, by simpa using q0, by simpa using q1, by simpa using q2, by simpa using q3, by simpa using p1, by simpa using p2⟩
theorem own_unlike {k k' : Nat} {w : World} {base base' : Nat} {t t' : TypeId} {A A' : Option Addr} {n n' cap cap' : Nat} {cs cs' : List Value} (h : OwnC k w base t A n cap cs) (h' : OwnC k' w base' t' A' n' cap' cs') (ht : t ≠ t') : ∀ a, A = some a → some a.block ≠ A'.map (·.block) := by
  rintro a rfl e
  cases A' with
  | none => cases e
  | some a' =>
    simp only [Option.map_some, Option.some.injEq] at e
    rcases h.2 with ⟨hv, _⟩ | ⟨g, c, cur, hv, _, hg, _⟩
    · cases hv
    · rcases h'.2 with ⟨hv', _⟩ | ⟨g', c', cur', hv', _, hg', _⟩
      · cases hv'
      · injection hv with e1
        injection e1 with e1
        injection hv' with e2
        injection e2 with e2
        subst e1 e2
        simp only at e
        subst e
        rw [hg] at hg'
        injection hg' with hg'
        injection hg' with _ e3
        exact ht e3
def OwnE (w : World) (base : Nat) (A : Option Addr) (n cap : Nat) (es : List Ev) : Prop := ∃ cs, OwnC 4 w base 69 A n cap cs ∧ es.length = n ∧ EvsC w base es cs
theorem OwnE.nil (w : World) (base : Nat) : OwnE w base none 0 0 [] := ⟨[], OwnC.nil _ _, rfl, rfl⟩
theorem OwnE.len {w : World} {base : Nat} {A : Option Addr} {n cap : Nat} {es : List Ev} (h : OwnE w base A n cap es) : es.length = n := by
  obtain ⟨_, _, h, _⟩ := h
  exact h
theorem OwnE.lower {w : World} {base base' : Nat} {A : Option Addr} {n cap : Nat} {es : List Ev} (h : OwnE w base A n cap es) (hb : base' ≤ base) : OwnE w base' A n cap es := by
  obtain ⟨cs, o, hl, hc⟩ := h
  exact ⟨cs, own_lower o hb, hl, EvsC.map (fun _ _ _ _ h => own_lower h hb) (fun _ _ _ _ h => own_lower h hb) es cs hc⟩
theorem OwnE.below {w w' : World} {base : Nat} {A : Option Addr} {n cap : Nat} {es : List Ev} (h : OwnE w base A n cap es) (hb : Below w.heap.size w w') : OwnE w' base A n cap es := by
  obtain ⟨cs, o, hl, hc⟩ := h
  exact ⟨cs, OwnC.below o hb, hl, EvsC.map (fun _ _ _ _ h => OwnC.below h hb) (fun _ _ _ _ h => OwnC.below h hb) es cs hc⟩
theorem own_off' {k : Nat} {w w' : World} {base : Nat} {t : TypeId} {A : Option Addr} {n cap : Nat} {cs : List Value} {g : Nat} (h : OwnC k w base t A n cap cs) (hg : w.grownBy w' (some g)) (hb : g < base) : OwnC k w' base t A n cap cs :=
  OwnC.grown h hg fun a hA e => by
    have := (OwnC.lt h a hA).1
    injection e with e
    omega
theorem OwnE.off {w w' : World} {base : Nat} {A : Option Addr} {n cap : Nat} {es : List Ev} {g : Nat} (h : OwnE w base A n cap es) (hg : w.grownBy w' (some g)) (hb : g < base) : OwnE w' base A n cap es := by
  obtain ⟨cs, o, hl, hc⟩ := h
  exact ⟨cs, own_off' o hg hb, hl, EvsC.map (fun _ _ _ _ h => own_off' h hg hb) (fun _ _ _ _ h => own_off' h hg hb) es cs hc⟩
theorem OwnE.rd {w : World} {base : Nat} {A : Option Addr} {n cap : Nat} {es : List Ev} (h : OwnE w base A n cap es) : RdE w A n cap es := by
  obtain ⟨cs, o, hl, hc⟩ := h
  have r := OwnC.rd o
  refine ⟨hl, r.2.1, r.2.2.1, fun hn => ?_⟩
  obtain ⟨b, a, hA, hlt, hcell⟩ := RdC.at_ r (by omega) hn
  refine ⟨b, a, hA, hlt, fun i hi => ?_⟩
  obtain ⟨T, nT, cT, F, nF, cF, q0, q1, q2, q3, p1, p2⟩ := EvsC.at_ es cs hc i (by omega)
  exact ⟨T, nT, cT, F, nF, cF, hcell _ _ q0, by rw [Nat.add_assoc]; exact hcell _ _ q1, by rw [Nat.add_assoc]; exact hcell _ _ q2, by rw [Nat.add_assoc]; exact hcell _ _ q3, OwnC.rd p1, OwnC.rd p2⟩
theorem event_info : (Tryz.prog.info? 69).map (fun i => (i.zero, i.size, i.bytes)) = some (some (.agg #[.string ⟨#[]⟩, .string ⟨#[]⟩, .slice none 0 0, .slice none 0 0]), 4, 80) := by kernel_rfl
theorem OwnE.more {w w' : World} {base : Nat} {A A' : Option Addr} {n cap cap' : Nat} {es : List Ev} {cs : List Value} {e : Ev} {T F : Option Addr} {nT cT nF cF : Nat} (ho : OwnC 4 w base 69 A n cap cs) (hl : es.length = n) (hc : EvsC w base es cs)
    (o1 : OwnC 1 w base 9 T nT cT (MemRow.strs e.tags)) (o2 : OwnC 2 w base 132 F nF cF (flds e.fs))
    (ho' : OwnC 4 w' base 69 A' (n + 1) cap' (cs ++ [.string e.s, .string e.t, .slice T nT cT, .slice F nF cF])) (hg : w.grownBy w' (A.map (·.block))) : OwnE w' base A' (n + 1) cap' (es ++ [e]) :=
  have k1 : ∀ (B : Option Addr) (m c : Nat) (x : List Value), OwnC 1 w base 9 B m c x → OwnC 1 w' base 9 B m c x := fun _ _ _ _ h => OwnC.grown h hg (own_unlike h ho (by decide))
  have k2 : ∀ (B : Option Addr) (m c : Nat) (x : List Value), OwnC 2 w base 132 B m c x → OwnC 2 w' base 132 B m c x := fun _ _ _ _ h => OwnC.grown h hg (own_unlike h ho (by decide))
  ⟨_, ho', by rw [List.length_append, hl]; rfl, EvsC.snoc (k1 _ _ _ _ o1) (k2 _ _ _ _ o2) es cs (EvsC.map k1 k2 es cs hc)⟩
end Go.Proofs.YtppidbdkejkopaaGreatDoor.EdWalk
