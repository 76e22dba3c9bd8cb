/-
  Names as lists of bytes: letters, folding, and how a text that is read rune by rune reads byte by byte. No Go text here.
-/
import Derived.Lib.TrimUEq
namespace Go.Proofs.Ytfbooapgjhhjmaa.NameMath

/-- A rune that is a letter of a name. -/
def isL (r : Nat) : Bool := decide (r = 45 ∨ r = 95 ∨ r = 233 ∨ r = 248 ∨ r = 223 ∨ r = 955 ∨ (97 ≤ r ∧ r ≤ 122) ∨ (48 ≤ r ∧ r ≤ 57))
/-- A rune that a name may begin with. -/
def begR (r : Nat) : Bool := decide (r ≠ 45 ∧ ¬ (48 ≤ r ∧ r ≤ 57))
/-- What a rune is folded to (0: to nothing). -/
def foldR (r : Nat) : Nat :=
  if r = 201 then 233 else if r = 216 then 248 else if r = 923 then 955 else if r = 32 ∨ r = 46 ∨ r = 47 then 45 else if 65 ≤ r ∧ r ≤ 90 then r + 32 else if isL r = true then r else 0
/-- The bytes of a rune below 2048. -/
def enc (r : Nat) : List UInt8 := if r < 128 then [UInt8.ofNat r] else [UInt8.ofNat (192 + r / 64), UInt8.ofNat (128 + r % 64)]

/-- A byte that is a letter. -/
def low (a : UInt8) : Bool := decide ((97 ≤ a.toNat ∧ a.toNat ≤ 122) ∨ (48 ≤ a.toNat ∧ a.toNat ≤ 57) ∨ a.toNat = 45 ∨ a.toNat = 95)
/-- Two bytes that are a letter. -/
def two (a b : UInt8) : Bool := decide ((a.toNat = 195 ∧ (b.toNat = 169 ∨ b.toNat = 184 ∨ b.toNat = 159)) ∨ (a.toNat = 206 ∧ b.toNat = 187))

/-- All of it are letters. -/
def allL : List UInt8 → Bool
  | [] => true
  | [a] => low a
  | a :: b :: l => if low a = true then allL (b :: l) else if two a b = true then allL l else false

def first : List UInt8 → Bool
  | [] => false
  | a :: _ => decide (a.toNat ≠ 45 ∧ ¬ (48 ≤ a.toNat ∧ a.toNat ≤ 57))

/-- It is a name. -/
def may (l : List UInt8) : Bool := decide (1 ≤ l.length ∧ l.length ≤ 24) && (first l && allL l)

/-- What one byte is folded to. -/
def one (a : UInt8) : List UInt8 :=
  if low a = true then [a] else if 65 ≤ a.toNat ∧ a.toNat ≤ 90 then [UInt8.ofNat (a.toNat + 32)] else if a.toNat = 32 ∨ a.toNat = 46 ∨ a.toNat = 47 then [45] else []
/-- What two bytes are folded to. -/
def pair (a b : UInt8) : Option (UInt8 × UInt8) :=
  if a.toNat = 195 then (if b.toNat = 169 ∨ b.toNat = 137 then some (195, 169) else if b.toNat = 184 ∨ b.toNat = 152 then some (195, 184) else if b.toNat = 159 then some (195, 159) else none)
  else if a.toNat = 206 then (if b.toNat = 187 ∨ b.toNat = 155 then some (206, 187) else none) else none

def fold : List UInt8 → List UInt8
  | [] => []
  | [a] => one a
  | a :: b :: l => match pair a b with
    | some p => p.1 :: p.2 :: fold l
    | none => one a ++ fold (b :: l)

theorem pair_none {a b : UInt8} (h1 : a.toNat ≠ 195) (h2 : a.toNat ≠ 206) : pair a b = none := by
  simp [pair, h1, h2]

theorem fold_one {a : UInt8} (l : List UInt8) (h1 : a.toNat ≠ 195) (h2 : a.toNat ≠ 206) : fold (a :: l) = one a ++ fold l := by
  cases l with
  | nil => simp [fold]
  | cons b l => rw [fold, pair_none h1 h2]

theorem one_high {a : UInt8} (h : 128 ≤ a.toNat) : one a = [] := by
  have h0 : low a = false := by simp only [low, decide_eq_false_iff_not]; omega
  unfold one
  rw [h0, if_neg (by decide), if_neg (by omega), if_neg (by omega)]

theorem fold_skip {a : UInt8} (l : List UInt8) (h : 128 ≤ a.toNat) (h1 : a.toNat ≠ 195) (h2 : a.toNat ≠ 206) : fold (a :: l) = fold l := by
  rw [fold_one l h1 h2, one_high h, List.nil_append]

theorem low_high {a : UInt8} (h : 128 ≤ a.toNat) : low a = false := by simp only [low, decide_eq_false_iff_not]; omega

theorem allL_low {a : UInt8} (l : List UInt8) (h : low a = true) : allL (a :: l) = allL l := by
  cases l with
  | nil => simp [allL, h]
  | cons b l => rw [allL, if_pos h]

theorem two_low {a b : UInt8} (h : two a b = true) : low a = false := by
  simp only [two, decide_eq_true_eq] at h
  simp only [low, decide_eq_false_iff_not]
  omega

theorem allL_two {a b : UInt8} (l : List UInt8) (h : two a b = true) : allL (a :: b :: l) = allL l := by
  rw [allL, two_low h, if_neg (by decide), if_pos h]

theorem u8ext {a b : UInt8} (h : a.toNat = b.toNat) : a = b := UInt8.toNat_inj.1 h

theorem pair_two {a b : UInt8} (h : two a b = true) : pair a b = some (a, b) := by
  simp only [two, decide_eq_true_eq] at h
  rcases h with ⟨ha, hb | hb | hb⟩ | ⟨ha, hb⟩
  · rw [u8ext (b := 195) ha, u8ext (b := 169) hb]; decide
  · rw [u8ext (b := 195) ha, u8ext (b := 184) hb]; decide
  · rw [u8ext (b := 195) ha, u8ext (b := 159) hb]; decide
  · rw [u8ext (b := 206) ha, u8ext (b := 187) hb]; decide

theorem low_ne {a : UInt8} (h : low a = true) : a.toNat < 128 := by
  simp only [low, decide_eq_true_eq] at h
  omega

theorem one_low {a : UInt8} (h : low a = true) : one a = [a] := by unfold one; rw [if_pos h]

theorem fold_low {a : UInt8} (l : List UInt8) (h : low a = true) : fold (a :: l) = a :: fold l := by
  have := low_ne h
  rw [fold_one l (by omega) (by omega), one_low h]; rfl

theorem fold_two {a b : UInt8} (l : List UInt8) (h : two a b = true) : fold (a :: b :: l) = a :: b :: fold l := by
  rw [fold, pair_two h]

/-- What stands behind letters. -/
theorem allL_append : ∀ (a b : List UInt8), allL a = true → allL (a ++ b) = allL b
  | [], b, _ => rfl
  | [x], b, h => by
    rw [List.singleton_append]
    exact allL_low b (by simpa [allL] using h)
  | x :: y :: l, b, h => by
    by_cases hx : low x = true
    · rw [allL_low _ hx] at h
      have := allL_append (y :: l) b h
      rw [List.cons_append, allL_low _ hx, this]
    · have hx' : low x = false := by simpa using hx
      rw [allL, hx', if_neg (by decide)] at h
      by_cases ht : two x y = true
      · rw [if_pos ht] at h
        have := allL_append l b h
        rw [List.cons_append, List.cons_append, allL_two _ ht, this]
      · rw [if_neg ht] at h
        exact absurd h (by decide)

theorem fold_append : ∀ (a b : List UInt8), allL a = true → fold (a ++ b) = a ++ fold b
  | [], b, _ => rfl
  | [x], b, h => by
    rw [List.singleton_append, fold_low b (by simpa [allL] using h)]; rfl
  | x :: y :: l, b, h => by
    by_cases hx : low x = true
    · rw [allL_low _ hx] at h
      have := fold_append (y :: l) b h
      rw [List.cons_append, fold_low _ hx, this]; rfl
    · have hx' : low x = false := by simpa using hx
      rw [allL, hx', if_neg (by decide)] at h
      by_cases ht : two x y = true
      · rw [if_pos ht] at h
        have := fold_append l b h
        rw [List.cons_append, List.cons_append, fold_two _ ht, this]; rfl
      · rw [if_neg ht] at h
        exact absurd h (by decide)

theorem fold_self {a : List UInt8} (h : allL a = true) : fold a = a := by
  have := fold_append a [] h
  simpa [fold] using this

theorem one_cases (a : UInt8) : one a = [] ∨ ∃ c, one a = [c] ∧ low c = true := by
  unfold one
  by_cases h1 : low a = true
  · rw [if_pos h1]; exact .inr ⟨a, rfl, h1⟩
  · rw [if_neg h1]
    by_cases h2 : 65 ≤ a.toNat ∧ a.toNat ≤ 90
    · rw [if_pos h2]
      refine .inr ⟨_, rfl, ?_⟩
      have : (UInt8.ofNat (a.toNat + 32)).toNat = a.toNat + 32 := by simp; omega
      simp only [low, this, decide_eq_true_eq]; omega
    · rw [if_neg h2]
      by_cases h3 : a.toNat = 32 ∨ a.toNat = 46 ∨ a.toNat = 47
      · rw [if_pos h3]; exact .inr ⟨45, rfl, by decide⟩
      · rw [if_neg h3]; exact .inl rfl

theorem pair_cases {a b : UInt8} {p : UInt8 × UInt8} (h : pair a b = some p) : two p.1 p.2 = true ∧ 128 ≤ a.toNat := by
  unfold pair at h
  by_cases h1 : a.toNat = 195
  · rw [if_pos h1] at h
    refine ⟨?_, by omega⟩
    split at h
    · cases h; decide
    · split at h
      · cases h; decide
      · split at h
        · cases h; decide
        · cases h
  · rw [if_neg h1] at h
    by_cases h2 : a.toNat = 206
    · rw [if_pos h2] at h
      refine ⟨?_, by omega⟩
      split at h
      · cases h; decide
      · cases h
    · rw [if_neg h2] at h; cases h

theorem allL_one (a : UInt8) (l : List UInt8) (h : allL l = true) : allL (one a ++ l) = true := by
  rcases one_cases a with h1 | ⟨c, h1, h2⟩
  · rw [h1]; exact h
  · rw [h1, List.singleton_append, allL_low _ h2, h]

theorem allL_fold : ∀ l : List UInt8, allL (fold l) = true
  | [] => rfl
  | [a] => by
    have := allL_one a [] rfl
    simpa [fold] using this
  | a :: b :: l => by
    rw [fold]
    cases hp : pair a b with
    | none => exact allL_one a _ (allL_fold (b :: l))
    | some p => show allL (p.1 :: p.2 :: fold l) = true; rw [allL_two _ (pair_cases hp).1, allL_fold l]

theorem fold_fold (l : List UInt8) : fold (fold l) = fold l := fold_self (allL_fold l)

theorem allL_iff (l : List UInt8) : allL l = decide (fold l = l) := by
  by_cases h : fold l = l
  · rw [decide_eq_true h, ← h, allL_fold]
  · rw [decide_eq_false h]
    cases hb : allL l
    · rfl
    · exact absurd (fold_self hb) h

theorem one_len (a : UInt8) : (one a).length ≤ 1 := by
  rcases one_cases a with h | ⟨c, h, _⟩ <;> rw [h] <;> simp

theorem fold_len : ∀ l : List UInt8, (fold l).length ≤ l.length
  | [] => Nat.le_refl _
  | [a] => by simpa [fold] using one_len a
  | a :: b :: l => by
    rw [fold]
    cases hp : pair a b with
    | none =>
      have h1 := one_len a
      have h2 := fold_len (b :: l)
      simp only [List.length_append, List.length_cons] at *
      omega
    | some p =>
      have h2 := fold_len l
      simp only [List.length_cons]
      omega

theorem first_append {a : List UInt8} (b : List UInt8) (h : a ≠ []) : first (a ++ b) = first a := by
  cases a with
  | nil => exact absurd rfl h
  | cons x l => rfl

theorem may_parts {l : List UInt8} (h : may l = true) : 1 ≤ l.length ∧ l.length ≤ 24 ∧ first l = true ∧ allL l = true := by
  simp only [may, Bool.and_eq_true, decide_eq_true_eq] at h
  exact ⟨h.1.1, h.1.2, h.2.1, h.2.2⟩

theorem may_of {l : List UInt8} (h1 : 1 ≤ l.length) (h2 : l.length ≤ 24) (h3 : first l = true) (h4 : allL l = true) : may l = true := by
  simp [may, h1, h2, h3, h4]

/-! ### Read rune by rune -/

def dec (t : List UInt8) : Nat × Nat := Lib.decodeN t.length (t.getD 0 0).toNat (t.getD 1 0).toNat (t.getD 2 0).toNat (t.getD 3 0).toNat

theorem getD_drop (l : List UInt8) (p i : Nat) : (l.drop p).getD i 0 = l.getD (p + i) 0 := by
  simp [List.getD]

theorem dec_at (s : ByteArray) (pos : Nat) : Utf8.decode s pos = dec (s.data.toList.drop pos) := by
  rw [Lib.decode_N s pos]
  unfold dec
  rw [getD_drop, getD_drop, getD_drop, getD_drop, List.length_drop]
  rfl

theorem dec_low {a : UInt8} (l : List UInt8) (h : a.toNat < 128) : dec (a :: l) = (a.toNat, 1) := by
  unfold dec Lib.decodeN
  simp only [List.getD_cons_zero]
  rw [if_pos h]

/-- A byte from 128 on begins a rune of two bytes, or what is no letter and is folded to nothing. -/
theorem dec_high {a : UInt8} (l : List UInt8) (h : 128 ≤ a.toNat) :
    (∃ b l', l = b :: l' ∧ dec (a :: l) = (a.toNat % 32 * 64 + b.toNat % 64, 2) ∧ a.toNat / 32 = 6 ∧ b.toNat / 64 = 2 ∧ 128 ≤ a.toNat % 32 * 64 + b.toNat % 64) ∨
    (2048 ≤ (dec (a :: l)).1 ∧ 1 ≤ (dec (a :: l)).2 ∧ fold (a :: l) = fold ((a :: l).drop (dec (a :: l)).2) ∧ allL (a :: l) = false) := by
  have la := UInt8.toNat_lt a
  have hlow := low_high h
  by_cases h2 : ∃ b l', l = b :: l' ∧ a.toNat / 32 = 6 ∧ b.toNat / 64 = 2 ∧ 128 ≤ a.toNat % 32 * 64 + b.toNat % 64
  · obtain ⟨b, l', rfl, e1, e2, e3⟩ := h2
    refine .inl ⟨b, l', rfl, ?_, e1, e2, e3⟩
    unfold dec Lib.decodeN
    simp only [List.getD_cons_zero, List.getD_cons_succ, List.length_cons]
    rw [if_neg (by omega), if_pos ⟨e1, by omega, e2⟩, if_pos e3]
  · right
    have hno : ∀ b l', l = b :: l' → ¬ (a.toNat / 32 = 6 ∧ b.toNat / 64 = 2 ∧ 128 ≤ a.toNat % 32 * 64 + b.toNat % 64) := fun b l' e hh => h2 ⟨b, l', e, hh⟩
    have hall : allL (a :: l) = false := by
      cases l with
      | nil => simpa [allL] using hlow
      | cons b l' =>
        have hn := hno b l' rfl
        have ht : two a b = false := by
          simp only [two, decide_eq_false_iff_not]
          omega
        rw [allL, hlow, ht]; rfl
    have hf1 : fold (a :: l) = fold l := by
      cases l with
      | nil => simp [fold, one_high h]
      | cons b l' =>
        have hn := hno b l' rfl
        have hp : pair a b = none := by
          unfold pair
          by_cases c1 : a.toNat = 195
          · rw [if_pos c1, if_neg (by omega), if_neg (by omega), if_neg (by omega)]
          · rw [if_neg c1]
            by_cases c2 : a.toNat = 206
            · rw [if_pos c2, if_neg (by omega)]
            · rw [if_neg c2]
        rw [fold, hp, one_high h]; rfl
    have hw1 : ∀ q : Nat × Nat, dec (a :: l) = q → q = (65533, 1) → (2048 ≤ q.1 ∧ 1 ≤ q.2 ∧ fold (a :: l) = fold ((a :: l).drop q.2) ∧ allL (a :: l) = false) := by
      rintro q _ rfl
      exact ⟨by decide, by decide, hf1, hall⟩
    generalize hd : dec (a :: l) = q
    have hd' := hd
    unfold dec Lib.decodeN at hd'
    simp only [List.getD_cons_zero] at hd'
    rw [if_neg (by omega)] at hd'
    split at hd'
    · rename_i hc
      rw [if_neg ?_] at hd'
      · exact hw1 q hd hd'.symm
      · intro hge
        cases l with
        | nil => simp at hc
        | cons b l' =>
          simp only [List.getD_cons_succ, List.getD_cons_zero] at hc hge
          exact hno b l' rfl ⟨hc.1, hc.2.2, hge⟩
    · split at hd'
      · rename_i _ hc
        split at hd'
        · rename_i hv
          subst hd'
          refine ⟨hv.1, by show 1 ≤ 3; decide, ?_, hall⟩
          clear hv hw1 hd h2
          rcases l with _ | ⟨b, _ | ⟨c, l'⟩⟩
          · simp at hc
          · simp at hc
          · simp only [List.getD_cons_succ, List.getD_cons_zero] at hc
            show fold (a :: b :: c :: l') = fold l'
            rw [hf1, fold_skip _ (by omega) (by omega) (by omega), fold_skip _ (by omega) (by omega) (by omega)]
        · exact hw1 q hd hd'.symm
      · split at hd'
        · rename_i _ _ hc
          split at hd'
          · rename_i hv
            subst hd'
            refine ⟨by have := hv.1; simp only; omega, by show 1 ≤ 4; decide, ?_, hall⟩
            clear hv hw1 hd h2
            rcases l with _ | ⟨b, _ | ⟨c, _ | ⟨d, l'⟩⟩⟩
            · simp at hc
            · simp at hc
            · simp at hc
            · simp only [List.getD_cons_succ, List.getD_cons_zero] at hc
              show fold (a :: b :: c :: d :: l') = fold l'
              rw [hf1, fold_skip _ (by omega) (by omega) (by omega), fold_skip _ (by omega) (by omega) (by omega), fold_skip _ (by omega) (by omega) (by omega)]
          · exact hw1 q hd hd'.symm
        · exact hw1 q hd hd'.symm

/-- A rune that is a letter. -/
theorem rune_letter {t : List UInt8} (h0 : t ≠ []) (h : isL (dec t).1 = true) : allL t = allL (t.drop (dec t).2) ∧ begR (dec t).1 = first t := by
  cases t with
  | nil => exact absurd rfl h0
  | cons a l =>
    by_cases ha : a.toNat < 128
    · rw [dec_low l ha] at h ⊢
      simp only [isL, decide_eq_true_eq] at h
      have hl : low a = true := by simp only [low, decide_eq_true_eq]; omega
      refine ⟨allL_low l hl, ?_⟩
      simp [begR, first]
    · rcases dec_high (a := a) l (by omega) with ⟨b, l', rfl, e, e1, e2, e3⟩ | ⟨h1, _⟩
      · rw [e] at h ⊢
        simp only [isL, decide_eq_true_eq] at h
        have ht : two a b = true := by simp only [two, decide_eq_true_eq]; omega
        refine ⟨allL_two l' ht, ?_⟩
        simp only [begR, first]
        rw [decide_eq_true (by omega), decide_eq_true (by omega)]
      · simp only [isL, decide_eq_true_eq] at h
        omega

theorem rune_other {t : List UInt8} (h0 : t ≠ []) (h : isL (dec t).1 = false) : allL t = false := by
  cases t with
  | nil => exact absurd rfl h0
  | cons a l =>
    by_cases ha : a.toNat < 128
    · rw [dec_low l ha] at h
      simp only [isL, decide_eq_false_iff_not] at h
      have hl : low a = false := by simp only [low, decide_eq_false_iff_not]; omega
      cases l with
      | nil => simpa [allL] using hl
      | cons b l =>
        have ht : two a b = false := by simp only [two, decide_eq_false_iff_not]; omega
        rw [allL, hl, ht]; rfl
    · rcases dec_high (a := a) l (by omega) with ⟨b, l', rfl, e, e1, e2, e3⟩ | ⟨_, _, _, h1⟩
      · rw [e] at h
        simp only [isL, decide_eq_false_iff_not] at h
        have ht : two a b = false := by simp only [two, decide_eq_false_iff_not]; omega
        have hl := low_high (a := a) (by omega)
        rw [allL, hl, ht]; rfl
      · exact h1

theorem enc_small {r : Nat} (h : r < 128) : enc r = [UInt8.ofNat r] := by unfold enc; rw [if_pos h]

theorem foldR_lt (r : Nat) : foldR r < 2048 := by
  unfold foldR isL
  repeat' split
  all_goals (try simp only [decide_eq_true_eq] at *)
  all_goals omega

/-- What a rune is folded to, byte by byte. -/
theorem rune_fold {t : List UInt8} (h0 : t ≠ []) : fold t = (if foldR (dec t).1 = 0 then [] else enc (foldR (dec t).1)) ++ fold (t.drop (dec t).2) := by
  cases t with
  | nil => exact absurd rfl h0
  | cons a l =>
    by_cases ha : a.toNat < 128
    · rw [dec_low l ha, fold_one l (by omega) (by omega)]
      simp only [List.drop_succ_cons, List.drop_zero]
      congr 1
      have hcast : UInt8.ofNat a.toNat = a := by simp
      have hL : low a = isL a.toNat := by simp only [low, isL]; exact decide_eq_decide.2 ⟨fun h => by omega, fun h => by omega⟩
      by_cases c1 : a.toNat = 32 ∨ a.toNat = 46 ∨ a.toNat = 47
      · have hl : low a = false := by simp only [low, decide_eq_false_iff_not]; omega
        have hf : foldR a.toNat = 45 := by unfold foldR; rw [if_neg (by omega), if_neg (by omega), if_neg (by omega), if_pos c1]
        have ho : one a = [45] := by unfold one; rw [hl, if_neg (by decide), if_neg (by omega), if_pos c1]
        rw [hf, ho]; rfl
      · by_cases c2 : 65 ≤ a.toNat ∧ a.toNat ≤ 90
        · have hl : low a = false := by simp only [low, decide_eq_false_iff_not]; omega
          have hf : foldR a.toNat = a.toNat + 32 := by unfold foldR; rw [if_neg (by omega), if_neg (by omega), if_neg (by omega), if_neg c1, if_pos c2]
          have ho : one a = [UInt8.ofNat (a.toNat + 32)] := by unfold one; rw [hl, if_neg (by decide), if_pos c2]
          rw [hf, ho, if_neg (by omega), enc_small (by omega)]
        · by_cases c3 : isL a.toNat = true
          · have hf : foldR a.toNat = a.toNat := by unfold foldR; rw [if_neg (by omega), if_neg (by omega), if_neg (by omega), if_neg c1, if_neg c2, if_pos c3]
            have ho : one a = [a] := one_low (hL.trans c3)
            have h00 : a.toNat ≠ 0 := by simp only [isL, decide_eq_true_eq] at c3; omega
            rw [hf, ho, if_neg h00, enc_small ha, hcast]
          · have hf : foldR a.toNat = 0 := by unfold foldR; rw [if_neg (by omega), if_neg (by omega), if_neg (by omega), if_neg c1, if_neg c2, if_neg c3]
            have ho : one a = [] := by unfold one; rw [hL, if_neg c3, if_neg c2, if_neg c1]
            rw [hf, ho, if_pos rfl]
    · rcases dec_high (a := a) l (by omega) with ⟨b, l', rfl, e, e1, e2, e3⟩ | ⟨h1, _, h3, _⟩
      · rw [e, fold]
        simp only [List.drop_succ_cons, List.drop_zero]
        have lb := UInt8.toNat_lt b
        have hbs : fold (b :: l') = fold l' := fold_skip l' (by omega) (by omega) (by omega)
        have hab : a.toNat = 192 + (a.toNat % 32 * 64 + b.toNat % 64) / 64 := by omega
        have hbb : b.toNat = 128 + (a.toNat % 32 * 64 + b.toNat % 64) % 64 := by omega
        generalize hr : a.toNat % 32 * 64 + b.toNat % 64 = r at *
        have hr2 : r < 2048 := by omega
        by_cases c1 : r = 201
        · subst c1
          rw [show foldR 201 = 233 from rfl, u8ext (a := a) (b := 195) hab, u8ext (a := b) (b := 137) hbb]; rfl
        by_cases c2 : r = 216
        · subst c2
          rw [show foldR 216 = 248 from rfl, u8ext (a := a) (b := 195) hab, u8ext (a := b) (b := 152) hbb]; rfl
        by_cases c3 : r = 923
        · subst c3
          rw [show foldR 923 = 955 from rfl, u8ext (a := a) (b := 206) hab, u8ext (a := b) (b := 155) hbb]; rfl
        by_cases c4 : isL r = true
        · simp only [isL, decide_eq_true_eq] at c4
          have c5 : r = 233 ∨ r = 248 ∨ r = 223 ∨ r = 955 := by omega
          rcases c5 with rfl | rfl | rfl | rfl
          · rw [show foldR 233 = 233 from rfl, u8ext (a := a) (b := 195) hab, u8ext (a := b) (b := 169) hbb]; rfl
          · rw [show foldR 248 = 248 from rfl, u8ext (a := a) (b := 195) hab, u8ext (a := b) (b := 184) hbb]; rfl
          · rw [show foldR 223 = 223 from rfl, u8ext (a := a) (b := 195) hab, u8ext (a := b) (b := 159) hbb]; rfl
          · rw [show foldR 955 = 955 from rfl, u8ext (a := a) (b := 206) hab, u8ext (a := b) (b := 187) hbb]; rfl
        · have hz : foldR r = 0 := by
            unfold foldR
            rw [if_neg c1, if_neg c2, if_neg c3, if_neg (by omega), if_neg (by omega), if_neg c4]
          simp only [isL, decide_eq_true_eq] at c4
          have hp : pair a b = none := by
            unfold pair
            by_cases d1 : a.toNat = 195
            · rw [if_pos d1, if_neg (by omega), if_neg (by omega), if_neg (by omega)]
            · rw [if_neg d1]
              by_cases d2 : a.toNat = 206
              · rw [if_pos d2, if_neg (by omega)]
              · rw [if_neg d2]
          rw [hp, hz, if_pos rfl, List.nil_append]
          show one a ++ fold (b :: l') = fold l'
          rw [one_high (by omega), List.nil_append, hbs]
      · have hz : foldR (dec (a :: l)).1 = 0 := by
          generalize (dec (a :: l)).1 = r at *
          unfold foldR
          rw [if_neg (by omega), if_neg (by omega), if_neg (by omega), if_neg (by omega), if_neg (by omega), if_neg (by simp only [isL, decide_eq_true_eq]; omega)]
        rw [hz, if_pos rfl, List.nil_append]
        exact h3

theorem dec_pos {t : List UInt8} (h0 : t ≠ []) : 1 ≤ (dec t).2 := by
  cases t with
  | nil => exact absurd rfl h0
  | cons a l =>
    by_cases ha : a.toNat < 128
    · rw [dec_low l ha]; exact Nat.le_refl _
    · rcases dec_high (a := a) l (by omega) with ⟨b, l', rfl, e, _⟩ | ⟨_, h1, _⟩
      · rw [e]; show 1 ≤ 2; decide
      · exact h1

end Go.Proofs.Ytfbooapgjhhjmaa.NameMath
