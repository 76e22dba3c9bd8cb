/-
  Contracts of the document's own answers for layer 3 (registrarref03): plain, begins, letter, folded.
-/
import Derived.Test.YtfbooapgjhhjmaaNmCut
namespace Go.Proofs.Ytfbooapgjhhjmaa.NameMath

/-- How many bytes the letter has that it begins with. -/
def lw : List UInt8 → Nat
  | [] => 0
  | [a] => if low a = true then 1 else 0
  | a :: b :: _ => if low a = true then 1 else if two a b = true then 2 else 0

/-- It begins with just these two. -/
def isP (x y : UInt8) (t : List UInt8) : Bool := decide (t.take 2 = [x, y])

end Go.Proofs.Ytfbooapgjhhjmaa.NameMath
namespace Go.Proofs.Ytfbooapgjhhjmaa.NameWalk
open Go.RowKit Go.Proofs.Ytfbooapgjhhjmaa.NameMath

set_option maxHeartbeats 2000000 in
set_option maxRecDepth 100000 in
theorem begins_any (s t : ByteArray) (p : Nat) (w : World) (hp : p ≤ s.size) (hs : s.size ≤ 4611686018427387904) (ht : t.size ≤ 4611686018427387904) :
    Calls Try.prog 62 #[.string s, .int .i64 (p : Int), .string t] w fun e w' => e = .returned (.bool (decide ((s.data.toList.drop p).take t.size = t.data.toList))) ∧ w = w' := by
  have hl := size_list s
  have hlt := size_list t
  by_cases h1 : p + t.size ≤ s.size
  · obtain ⟨j, hj⟩ : ∃ j : Nat, j = p + t.size := ⟨_, rfl⟩
    have hz : (↑p : Int) + ↑t.size = ↑j := by omega
    have k0 : (t.size : Int) ≤ ↑s.size - ↑p := by omega
    have k1 : (0 : Int) ≤ ↑p := by omega
    have k2 : (↑p : Int) ≤ ↑j := by omega
    have k3 : (↑j : Int) ≤ ↑s.size := by omega
    have hE : (s.extract p j).toList = (s.data.toList.drop p).take t.size := by
      rw [ByteArray.toList_eq, ByteArray.data_extract, Array.toList_extract, hj]
      show (s.data.toList.drop p).take (p + t.size - p) = _
      rw [Nat.add_sub_cancel_left]
    rw [← hE, ← ByteArray.toList_eq t]
    by_cases he : (s.extract p j).toList = t.toList
    · rw [decide_eq_true he]
      clear hE hl hlt hj
      go_enter Try.func62, Try.ntmps62
      go_wp2
      go_ret
      exact ⟨by simp, rfl⟩
    · rw [decide_eq_false he]
      clear hE hl hlt hj
      go_enter Try.func62, Try.ntmps62
      go_wp2
      go_ret
      exact ⟨by simp [he], rfl⟩
  · have hn : ¬ (s.data.toList.drop p).take t.size = t.data.toList := by
      intro e
      have := congrArg List.length e
      rw [List.length_take, List.length_drop] at this
      omega
    rw [decide_eq_false hn]
    have k0 : ¬ (t.size : Int) ≤ ↑s.size - ↑p := by omega
    clear hl hlt hn
    go_enter Try.func62, Try.ntmps62
    go_wp2
    go_ret
    exact ⟨rfl, rfl⟩

set_option maxRecDepth 100000 in
theorem plain_any (c : UInt8) (w : World) :
    Calls Try.prog 60 #[.int .u8 (c.toNat : Int)] w fun e w' => e = .returned (.bool (low c)) ∧ w = w' := by
  have hi := UInt8.toNat_lt c
  have hlow : low c = decide ((97 ≤ c.toNat ∧ c.toNat ≤ 122) ∨ (48 ≤ c.toNat ∧ c.toNat ≤ 57) ∨ c.toNat = 45 ∨ c.toNat = 95) := rfl
  generalize low c = b at *
  generalize c.toNat = x at *
  have HB := Go.Lib.hid hlow
  clear hlow
  have cases7 : (97 ≤ x ∧ x ≤ 122) ∨ 122 < x ∨ x < 48 ∨ (48 ≤ x ∧ x ≤ 57) ∨ (57 < x ∧ x < 97) := by omega
  rcases cases7 with ⟨h1, h2⟩ | h1 | h1 | ⟨h1, h2⟩ | ⟨h1, h2⟩
  · have hb : b = true := by rw [HB.out]; exact decide_eq_true (by omega)
    subst hb
    have k1 : (97 : Int) ≤ x := by omega
    have k2 : (x : Int) ≤ 122 := by omega
    go_enter Try.func60, Try.ntmps60
    go_wp2
    go_ret
    exact ⟨rfl, rfl⟩
  · have hb : b = false := by rw [HB.out]; exact decide_eq_false (by omega)
    subst hb
    have k1 : (97 : Int) ≤ x := by omega
    have k2 : ¬ (x : Int) ≤ 122 := by omega
    have k3 : (48 : Int) ≤ x := by omega
    have k4 : ¬ (x : Int) ≤ 57 := by omega
    have k5 : ¬ (x : Int) = 45 := by omega
    have k6 : ¬ (x : Int) = 95 := by omega
    go_enter Try.func60, Try.ntmps60
    go_wp2
    go_ret
    exact ⟨by simp [k5, k6], rfl⟩
  · have k1 : ¬ (97 : Int) ≤ x := by omega
    have k3 : ¬ (48 : Int) ≤ x := by omega
    by_cases h45 : x = 45
    · subst h45
      have hb : b = true := by rw [HB.out]; rfl
      subst hb
      go_enter Try.func60, Try.ntmps60
      go_wp2
      go_ret
      exact ⟨rfl, rfl⟩
    · have hb : b = false := by rw [HB.out]; exact decide_eq_false (by omega)
      subst hb
      have k5 : ¬ (x : Int) = 45 := by omega
      have k6 : ¬ (x : Int) = 95 := by omega
      go_enter Try.func60, Try.ntmps60
      go_wp2
      go_ret
      exact ⟨by simp [k5, k6], rfl⟩
  · have hb : b = true := by rw [HB.out]; exact decide_eq_true (by omega)
    subst hb
    have k1 : ¬ (97 : Int) ≤ x := by omega
    have k3 : (48 : Int) ≤ x := by omega
    have k4 : (x : Int) ≤ 57 := by omega
    go_enter Try.func60, Try.ntmps60
    go_wp2
    go_ret
    exact ⟨rfl, rfl⟩
  · have k1 : ¬ (97 : Int) ≤ x := by omega
    have k3 : (48 : Int) ≤ x := by omega
    have k4 : ¬ (x : Int) ≤ 57 := by omega
    have k5 : ¬ (x : Int) = 45 := by omega
    by_cases h95 : x = 95
    · subst h95
      have hb : b = true := by rw [HB.out]; rfl
      subst hb
      go_enter Try.func60, Try.ntmps60
      go_wp2
      go_ret
      exact ⟨rfl, rfl⟩
    · have hb : b = false := by rw [HB.out]; exact decide_eq_false (by omega)
      subst hb
      have k6 : ¬ (x : Int) = 95 := by omega
      go_enter Try.func60, Try.ntmps60
      go_wp2
      go_ret
      exact ⟨by simp [k5, k6], rfl⟩

theorem begins_told {s t : ByteArray} {p : Nat} {b : Bool} (hp : p ≤ s.size) (hs : s.size ≤ 4611686018427387904) (ht : t.size ≤ 4611686018427387904) (h : decide ((s.data.toList.drop p).take t.size = t.data.toList) = b) (w : World) :
    Calls Try.prog 62 #[.string s, .int .i64 (p : Int), .string t] w fun e w' => e = .returned (.bool b) ∧ w = w' := by
  subst h
  exact begins_any s t p w hp hs ht

theorem drop_at {s : ByteArray} {p : Nat} (h : p < s.size) : s.data.toList.drop p = s[p] :: s.data.toList.drop (p + 1) := by
  have h2 : p < s.data.toList.length := by rw [← size_list]; exact h
  rw [List.drop_eq_getElem_cons h2]
  rfl

def lets : Nat → ByteArray
  | 0 => ⟨#[195, 169]⟩
  | 1 => ⟨#[195, 184]⟩
  | 2 => ⟨#[195, 159]⟩
  | _ => ⟨#[206, 187]⟩
def bigs : Nat → ByteArray
  | 0 => ⟨#[195, 137]⟩
  | 1 => ⟨#[195, 152]⟩
  | _ => ⟨#[206, 155]⟩
def smalls : Nat → ByteArray
  | 0 => ⟨#[195, 169]⟩
  | 1 => ⟨#[195, 184]⟩
  | _ => ⟨#[206, 187]⟩

theorem lt4 {k : Nat} (h : k < 4) : k = 0 ∨ k = 1 ∨ k = 2 ∨ k = 3 := by omega
theorem lt3 {k : Nat} (h : k < 3) : k = 0 ∨ k = 1 ∨ k = 2 := by omega
theorem lets_size {k : Nat} (h : k < 4) : (lets k).size = 2 := by rcases lt4 h with rfl | rfl | rfl | rfl <;> rfl
theorem bigs_size {k : Nat} (h : k < 3) : (bigs k).size = 2 := by rcases lt3 h with rfl | rfl | rfl <;> rfl

set_option maxRecDepth 100000 in
theorem letters_any (w : World) :
    Calls Try.prog 61 #[] w fun e w' => e = .returned (.slice (some ⟨w.heap.size, 0, none⟩) 4 4) ∧ (∀ k, k < 4 → w'.cell? ⟨w.heap.size, k, none⟩ = some (.string (lets k))) ∧ Below w.heap.size w w' := by
  go_enter Try.func61, Try.ntmps61
  go_wp2
  go_ret
  refine ⟨rfl, ?_, (Below.refl _ w).alloc (Nat.le_refl _) _⟩
  intro k hk
  rcases lt4 hk with rfl | rfl | rfl | rfl <;> simp [lets]

theorem lw_low {a : UInt8} (l : List UInt8) (h : low a = true) : lw (a :: l) = 1 := by
  cases l with
  | nil => rw [lw, if_pos h]
  | cons b l => rw [lw, if_pos h]

theorem lw_two {a : UInt8} {l : List UInt8} (h : low a = false) {k : Nat} (hk : k < 4) (ht : (a :: l).take 2 = (lets k).data.toList) : lw (a :: l) = 2 := by
  cases l with
  | nil => rcases lt4 hk with rfl | rfl | rfl | rfl <;> simp [lets] at ht
  | cons b l =>
    have h2 : two a b = true := by
      rcases lt4 hk with rfl | rfl | rfl | rfl <;> (simp [lets] at ht; obtain ⟨rfl, rfl⟩ := ht; decide)
    rw [lw, h, if_neg (by decide), if_pos h2]

theorem lw_zero {a : UInt8} {l : List UInt8} (h : low a = false) (ht : ∀ k, k < 4 → ¬ (a :: l).take 2 = (lets k).data.toList) : lw (a :: l) = 0 := by
  cases l with
  | nil => rw [lw, h, if_neg (by decide)]
  | cons b l =>
    have h2 : ¬ two a b = true := by
      intro hh
      simp only [two, decide_eq_true_eq] at hh
      rcases hh with ⟨ha, hb | hb | hb⟩ | ⟨ha, hb⟩
      · exact ht 0 (by omega) (by rw [u8ext (b := 195) ha, u8ext (b := 169) hb]; rfl)
      · exact ht 1 (by omega) (by rw [u8ext (b := 195) ha, u8ext (b := 184) hb]; rfl)
      · exact ht 2 (by omega) (by rw [u8ext (b := 195) ha, u8ext (b := 159) hb]; rfl)
      · exact ht 3 (by omega) (by rw [u8ext (b := 206) ha, u8ext (b := 187) hb]; rfl)
    rw [lw, h, if_neg (by decide), if_neg h2]

set_option maxHeartbeats 4000000 in
set_option maxRecDepth 100000 in
theorem refLetter_any (s : ByteArray) (p : Nat) (w : World) (hp : p < s.size) (hs : s.size ≤ 4611686018427387904) :
    Calls Try.prog 50 #[.string s, .int .i64 (p : Int)] w fun e w' => e = .returned (.int .i64 (lw (s.data.toList.drop p) : Nat)) ∧ Below w.heap.size w w' := by
  have k1 : (0 : Int) ≤ ↑p := by omega
  have k2 : (↑p : Int) < ↑s.size := by omega
  have hd := drop_at hp
  generalize hN : lw (s.data.toList.drop p) = N
  have HN := Go.Lib.hid hN
  have HD := Go.Lib.hid hd
  clear hN hd
  cases hlow : low (s[p]'hp)
  · have HL := Go.Lib.hid hlow
    clear hlow
    go_enter Try.func50, Try.ntmps50
    go_wp2_with fail
    refine (plain_any _ _).mono ?_
    rw [HL.out]
    rintro e w' ⟨rfl, rfl⟩
    go_wp2_with fail
    refine (letters_any _).mono ?_
    rintro e w1 ⟨rfl, hc, b1⟩
    go_wp2_with fail
    go_loop [6] (fun i => ∃ k : Nat, k ≤ 4 ∧ i = .int .i64 (k : Int) ∧ ∀ j, j < k → ¬ (s.data.toList.drop p).take 2 = (lets j).data.toList) (fun i => 4 - (intOf i).toNat)
    case atStart => exact ⟨0, by omega, rfl, fun j hj => absurd hj (by omega)⟩
    case round =>
      obtain ⟨k, hk, rfl, hno⟩ := hrel
      have HNO := Go.Lib.hid hno
      clear hno
      by_cases h4 : k < 4
      · have hk4 : (k : Int) < 4 := by omega
        have hk0 : (0 : Int) ≤ k := by omega
        have hck := hc k h4
        have hsz := lets_size h4
        have HC := Go.Lib.hid hc
        clear hc
        by_cases hm : (s.data.toList.drop p).take 2 = (lets k).data.toList
        · have hN2 : N = 2 := by
            rw [← HN.out]
            rw [HD.out] at hm ⊢
            exact lw_two HL.out h4 hm
          subst hN2
          have cB := Go.Lib.hid (fun w => begins_told (s := s) (t := lets k) (p := p) (b := true) (by omega) hs (by omega) (by rw [hsz]; exact decide_eq_true hm) w)
          clear hm hsz
          go_wp2_with (go_at_call 62; refine (cB.out _).mono ?_; rintro e w' ⟨rfl, rfl⟩)
          go_ret
          exact ⟨rfl, b1⟩
        · have cB := Go.Lib.hid (fun w => begins_told (s := s) (t := lets k) (p := p) (b := false) (by omega) hs (by omega) (by rw [hsz]; exact decide_eq_false hm) w)
          have HM := Go.Lib.hid hm
          clear hm hsz
          go_wp2_with (go_at_call 62; refine (cB.out _).mono ?_; rintro e w' ⟨rfl, rfl⟩)
          go_round
          case rel =>
            refine ⟨k + 1, by omega, by simp, ?_⟩
            intro j hj
            by_cases hjk : j = k
            · subst hjk; exact HM.out
            · exact HNO.out j (by omega)
          case measure =>
            simp [intOf]
            omega
      · have hk4 : ¬ (k : Int) < 4 := by omega
        have hN0 : N = 0 := by
          rw [← HN.out, HD.out]
          refine lw_zero HL.out (fun j hj => ?_)
          rw [← HD.out]
          exact HNO.out j (by omega)
        subst hN0
        go_wp2_with fail
        go_ret
        exact ⟨rfl, b1⟩
  · have hN1 : N = 1 := by rw [← HN.out, HD.out]; exact lw_low _ hlow
    subst hN1
    have HL := Go.Lib.hid hlow
    clear hlow
    go_enter Try.func50, Try.ntmps50
    go_wp2_with fail
    refine (plain_any _ _).mono ?_
    rw [HL.out]
    rintro e w' ⟨rfl, rfl⟩
    go_wp2_with fail
    go_ret
    exact ⟨rfl, Below.refl _ _⟩

end Go.Proofs.Ytfbooapgjhhjmaa.NameWalk
