/-
  Plain mathematics of layer 2 (crc): bytes that are turned, one behind the other; what the sum tells of them. No Go text here.
-/
import Derived.Test.YtfencoklpnifaaaCrcMath
namespace Go.Proofs.Ytfencoklpnifaaa.CrcMath

/-- s, of which i bytes from 'at' on are turned. -/
def turn (s : List UInt8) (p i : Nat) (b : List UInt8) : List UInt8 := s.mapIdx fun j c => if p ≤ j ∧ j < p + i then c ^^^ b.getD (j - p) 0 else c

theorem turn_length (s : List UInt8) (p i : Nat) (b : List UInt8) : (turn s p i b).length = s.length := by simp [turn]
theorem turn_get (s : List UInt8) (p i : Nat) (b : List UInt8) (j : Nat) (h : j < s.length) : (turn s p i b)[j]? = some (if p ≤ j ∧ j < p + i then s[j] ^^^ b.getD (j - p) 0 else s[j]) := by
  simp [turn, h]
theorem turn_zero (s : List UInt8) (p : Nat) (b : List UInt8) : turn s p 0 b = s := by
  apply List.ext_getElem?
  intro j
  by_cases h : j < s.length
  · rw [turn_get s p 0 b j h, if_neg (by omega), List.getElem?_eq_getElem h]
  · rw [List.getElem?_eq_none (by rw [turn_length]; omega), List.getElem?_eq_none (by omega)]
theorem turn_at (s : List UInt8) (p i : Nat) (b : List UInt8) (h : p + i < s.length) : (turn s p i b).getD (p + i) 0 = s.getD (p + i) 0 := by
  simp only [List.getD]
  rw [turn_get s p i b _ h, if_neg (by omega), List.getElem?_eq_getElem h]
theorem turn_step (s : List UInt8) (p i : Nat) (b : List UInt8) (h : p + i < s.length) : (turn s p i b).set (p + i) (s.getD (p + i) 0 ^^^ b.getD i 0) = turn s p (i + 1) b := by
  apply List.ext_getElem?
  intro j
  rw [List.getElem?_set]
  by_cases hj : j < s.length
  · rw [turn_get s p (i + 1) b j hj, turn_get s p i b j hj]
    by_cases he : p + i = j
    · subst he
      rw [if_pos rfl, if_pos (by rw [turn_length]; exact h), if_pos (by omega), Nat.add_sub_cancel_left]
      simp [List.getD, h]
    · rw [if_neg he]
      by_cases hin : p ≤ j ∧ j < p + i
      · rw [if_pos hin, if_pos (by omega)]
      · rw [if_neg hin, if_neg (by omega)]
  · rw [List.getElem?_eq_none (l := turn s p (i + 1) b) (by rw [turn_length]; omega), List.getElem?_eq_none (l := turn s p i b) (by rw [turn_length]; omega)]
    split
    · rename_i he
      rw [if_neg (by rw [turn_length]; omega)]
    · rfl

/-- The change as a row of its own. -/
def change (n p i : Nat) (b : List UInt8) : List UInt8 := List.replicate p 0 ++ (b.take i ++ List.replicate (n - p - i) 0)

theorem change_length (n p i : Nat) (b : List UInt8) (hi : i ≤ b.length) (h : p + i ≤ n) : (change n p i b).length = n := by
  simp only [change, List.length_append, List.length_replicate, List.length_take]
  omega
theorem change_get (n p i : Nat) (b : List UInt8) (hi : i ≤ b.length) (h : p + i ≤ n) (j : Nat) (hj : j < n) : (change n p i b)[j]? = some (if p ≤ j ∧ j < p + i then b.getD (j - p) 0 else 0) := by
  unfold change
  by_cases h1 : j < p
  · rw [List.getElem?_append_left (by simpa using h1), if_neg (by omega)]
    simp [h1]
  · rw [List.getElem?_append_right (by simp; omega), List.length_replicate]
    by_cases h2 : j < p + i
    · have h3 : j - p < (b.take i).length := by rw [List.length_take]; omega
      rw [List.getElem?_append_left h3, if_pos (by omega), List.getElem?_take_of_lt (by omega), List.getD, List.getElem?_eq_getElem (by omega)]
      rfl
    · have h3 : (b.take i).length = i := by rw [List.length_take]; omega
      rw [List.getElem?_append_right (by omega), h3, if_neg (by omega), List.getElem?_replicate, if_pos (by omega)]

theorem turn_change (s : List UInt8) (p i : Nat) (b : List UInt8) (hi : i ≤ b.length) (h : p + i ≤ s.length) : turn s p i b = List.zipWith (· ^^^ ·) s (change s.length p i b) := by
  apply List.ext_getElem?
  intro j
  by_cases hj : j < s.length
  · rw [turn_get s p i b j hj, List.getElem?_zipWith, List.getElem?_eq_getElem hj, change_get _ p i b hi h j hj]
    simp only
    by_cases hin : p ≤ j ∧ j < p + i
    · rw [if_pos hin, if_pos hin]
    · rw [if_neg hin, if_neg hin]
      simp
  · rw [List.getElem?_eq_none (by rw [turn_length]; omega), List.getElem?_eq_none (by simp; omega)]

/-- Four at most, side by side, one of them at least turned: another register. -/
theorem turn_reg (s : List UInt8) (p i : Nat) (b : List UInt8) (hi : i ≤ b.length) (h4 : i ≤ 4) (h : p + i ≤ s.length) (hne : ∃ c ∈ b.take i, c ≠ 0) (r : Nat) : reg r (turn s p i b) ≠ reg r s := by
  rw [turn_change s p i b hi h]
  exact turned_reg s (change s.length p i b) (change_length _ p i b hi h) p (s.length - p - i) (b.take i) (by rw [List.length_take]; omega) rfl hne r

theorem turn_sum (s : List UInt8) (p : Nat) (c : UInt8) (h : p < s.length) (hc : c ≠ 0) : sum (turn s p 1 [c]) ≠ sum s := by
  have hr := turn_reg s p 1 [c] (by simp) (by omega) (by omega) ⟨c, by simp, hc⟩ ones
  intro he
  apply hr
  unfold sum at he
  have h2 : reg ones (turn s p 1 [c]) ^^^ ones ^^^ ones = reg ones s ^^^ ones ^^^ ones := by rw [he]
  simpa [Nat.xor_assoc] using h2

/-- A turned seal is none. -/
theorem turn_none (x : List UInt8) (p i : Nat) (b : List UInt8) (hi : i ≤ b.length) (h4 : i ≤ 4) (h : p + i ≤ (closedB x).length) (hne : ∃ c ∈ b.take i, c ≠ 0) : ∀ y, closedB y ≠ turn (closedB x) p i b := by
  intro y hy
  apply turn_reg (closedB x) p i b hi h4 h hne ones
  rw [← hy, reg_closedB, reg_closedB]
/-- Nothing turned: as it was. -/
theorem turn_same (s : List UInt8) (p i : Nat) (b : List UInt8) (hz : ∀ c ∈ b.take i, c = 0) : turn s p i b = s := by
  apply List.ext_getElem?
  intro j
  by_cases h : j < s.length
  · rw [turn_get s p i b j h, List.getElem?_eq_getElem h]
    by_cases hin : p ≤ j ∧ j < p + i
    · rw [if_pos hin]
      have : b.getD (j - p) 0 = 0 := by
        by_cases hb : j - p < b.length
        · have hb2 : j - p < (b.take i).length := by rw [List.length_take]; omega
          have hm := hz (b.take i)[j - p] (List.getElem_mem hb2)
          rw [List.getElem_take] at hm
          simp [List.getD, hb, hm]
        · simp [List.getD, List.getElem?_eq_none (Nat.le_of_not_lt hb)]
      rw [this]
      simp
    · rw [if_neg hin]
  · rw [List.getElem?_eq_none (by rw [turn_length]; omega), List.getElem?_eq_none (by omega)]

end Go.Proofs.Ytfencoklpnifaaa.CrcMath
