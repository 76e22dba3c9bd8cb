/-
  Plain mathematics of layer 2 (crc): the register stepB by stepB is linear and loses nothing; so four turned bytes side by side are told. No Go text and no model here.
-/
namespace Go.Proofs.Ytfencoklpnifaaa.CrcMath

def poly : Nat := 3988292384

def stepB (x : Nat) : Nat := x / 2 ^^^ (if x % 2 = 1 then poly else 0)

theorem xor_half (a b : Nat) : (a ^^^ b) / 2 = a / 2 ^^^ b / 2 := Nat.xor_div_two

theorem xor_par (a b : Nat) : (a ^^^ b) % 2 = (a + b) % 2 := by
  have h := @Nat.xor_mod_two_eq_one a b
  rcases Nat.mod_two_eq_zero_or_one a with ha | ha <;> rcases Nat.mod_two_eq_zero_or_one b with hb | hb <;> rcases Nat.mod_two_eq_zero_or_one (a ^^^ b) with hc | hc <;> simp [ha, hb, hc] at h <;> omega

theorem xor4 (a b c d : Nat) : (a ^^^ b) ^^^ (c ^^^ d) = (a ^^^ c) ^^^ (b ^^^ d) := by
  rw [Nat.xor_assoc, Nat.xor_assoc, ← Nat.xor_assoc b c d, Nat.xor_comm b c, Nat.xor_assoc]

theorem step_xor (a b : Nat) : stepB (a ^^^ b) = stepB a ^^^ stepB b := by
  unfold stepB
  rw [xor_half, xor_par, xor4]
  congr 1
  rcases Nat.mod_two_eq_zero_or_one a with ha | ha <;> rcases Nat.mod_two_eq_zero_or_one b with hb | hb
  · rw [if_neg (by omega), if_neg (by omega), if_neg (by omega)]; rfl
  · rw [if_pos (by omega), if_neg (by omega), if_pos (by omega)]; simp
  · rw [if_pos (by omega), if_pos (by omega), if_neg (by omega)]; simp
  · rw [if_neg (by omega), if_pos (by omega), if_pos (by omega)]; simp

theorem step_lt (x : Nat) (h : x < 4294967296) : stepB x < 4294967296 := by
  unfold stepB
  refine Nat.xor_lt_two_pow (n := 32) (by omega) ?_
  split
  · decide
  · decide

theorem step_zero : stepB 0 = 0 := rfl

theorem xor_self_eq {a b : Nat} (h : a ^^^ b = 0) : a = b := by
  have h1 : a ^^^ b ^^^ b = b := by rw [h]; simp
  rwa [Nat.xor_assoc, Nat.xor_self, Nat.xor_zero] at h1

theorem step_eq_zero {x : Nat} (hx : x < 4294967296) (h : stepB x = 0) : x = 0 := by
  unfold stepB at h
  by_cases hp : x % 2 = 1
  · rw [if_pos hp] at h
    have := xor_self_eq h
    unfold poly at this
    omega
  · rw [if_neg hp, Nat.xor_zero] at h
    omega

/-- Eight steps: one byte. -/
def step8 (x : Nat) : Nat := stepB (stepB (stepB (stepB (stepB (stepB (stepB (stepB x)))))))

theorem step8_xor (a b : Nat) : step8 (a ^^^ b) = step8 a ^^^ step8 b := by
  unfold step8
  simp only [step_xor]
theorem step8_lt (x : Nat) (h : x < 4294967296) : step8 x < 4294967296 := by
  unfold step8
  exact step_lt _ (step_lt _ (step_lt _ (step_lt _ (step_lt _ (step_lt _ (step_lt _ (step_lt _ h)))))))
theorem step8_zero : step8 0 = 0 := rfl
theorem step8_eq_zero {x : Nat} (hx : x < 4294967296) (h : step8 x = 0) : x = 0 := by
  unfold step8 at h
  have h1 := step_lt _ hx
  have h2 := step_lt _ h1
  have h3 := step_lt _ h2
  have h4 := step_lt _ h3
  have h5 := step_lt _ h4
  have h6 := step_lt _ h5
  have h7 := step_lt _ h6
  exact step_eq_zero hx (step_eq_zero h1 (step_eq_zero h2 (step_eq_zero h3 (step_eq_zero h4 (step_eq_zero h5 (step_eq_zero h6 (step_eq_zero h7 h)))))))
theorem step8_inj {a b : Nat} (ha : a < 4294967296) (hb : b < 4294967296) (h : step8 a = step8 b) : a = b := by
  apply xor_self_eq
  apply step8_eq_zero (Nat.xor_lt_two_pow (n := 32) ha hb)
  rw [step8_xor, h, Nat.xor_self]

theorem step_even (q : Nat) : stepB (2 * q) = q := by
  unfold stepB
  rw [if_neg (by omega), Nat.xor_zero]
  omega
theorem step8_shift (q : Nat) : step8 (256 * q) = q := by
  unfold step8
  rw [show 256 * q = 2 * (128 * q) from by omega, step_even, show 128 * q = 2 * (64 * q) from by omega, step_even, show 64 * q = 2 * (32 * q) from by omega, step_even, show 32 * q = 2 * (16 * q) from by omega, step_even,
    show 16 * q = 2 * (8 * q) from by omega, step_even, show 8 * q = 2 * (4 * q) from by omega, step_even, show 4 * q = 2 * (2 * q) from by omega, step_even, step_even]

theorem split256 (x : Nat) : x = 256 * (x / 256) ^^^ x % 256 := by
  have h : 2 ^ 8 * (x / 2 ^ 8) ^^^ x % 2 ^ 8 = x := by
    apply Nat.eq_of_testBit_eq
    intro i
    rw [Nat.testBit_xor, Nat.testBit_two_pow_mul, Nat.testBit_mod_two_pow, Nat.testBit_div_two_pow]
    by_cases hi : i < 8
    · simp [hi, show ¬ 8 ≤ i from by omega]
    · simp [hi, show 8 ≤ i from by omega, show i - 8 + 8 = i from by omega]
  exact h.symm

/-- The table's way: the register's byte looked up, the rest moved down. -/
theorem step8_split (x : Nat) : step8 x = x / 256 ^^^ step8 (x % 256) := by
  conv => lhs; rw [split256 x]
  rw [step8_xor, step8_shift]

theorem xor_low (r c : Nat) (hc : c < 256) : (r ^^^ c) / 256 = r / 256 := by
  have e : (r ^^^ c) / 2 ^ 8 = r / 2 ^ 8 ^^^ c / 2 ^ 8 := Nat.xor_div_two_pow
  have : c / 2 ^ 8 = 0 := by omega
  rw [this, Nat.xor_zero] at e
  simpa using e

/-- One byte c into the register r. -/
def upd (r c : Nat) : Nat := step8 (r ^^^ c)

theorem upd_table (r c : Nat) (hc : c < 256) : upd r c = r / 256 ^^^ step8 ((r ^^^ c) % 256) := by
  unfold upd
  rw [step8_split, xor_low r c hc]

theorem xor_byte_lt {r c : Nat} (hr : r < 4294967296) (hc : c < 256) : r ^^^ c < 4294967296 := Nat.xor_lt_two_pow (n := 32) hr (by omega)
theorem upd_lt {r c : Nat} (hr : r < 4294967296) (hc : c < 256) : upd r c < 4294967296 := step8_lt _ (xor_byte_lt hr hc)
theorem upd_xor (r s c d : Nat) : upd (r ^^^ s) (c ^^^ d) = upd r c ^^^ upd s d := by
  unfold upd
  rw [xor4, step8_xor]

/-- Bytes into the register. -/
def reg (r : Nat) : List UInt8 → Nat
  | [] => r
  | c :: l => reg (upd r c.toNat) l

theorem reg_append (r : Nat) (a b : List UInt8) : reg r (a ++ b) = reg (reg r a) b := by
  induction a generalizing r with
  | nil => rfl
  | cons c a ih => exact ih _
theorem reg_lt {r : Nat} (hr : r < 4294967296) (l : List UInt8) : reg r l < 4294967296 := by
  induction l generalizing r with
  | nil => exact hr
  | cons c l ih => exact ih (upd_lt hr (UInt8.toNat_lt c))

theorem toNat_xor (a b : UInt8) : (a ^^^ b).toNat = a.toNat ^^^ b.toNat := UInt8.toNat_xor a b

/-- Linear. -/
theorem reg_xor (a b : List UInt8) (h : a.length = b.length) (r s : Nat) : reg (r ^^^ s) (List.zipWith (· ^^^ ·) a b) = reg r a ^^^ reg s b := by
  induction a generalizing r s b with
  | nil =>
    have : b = [] := List.eq_nil_of_length_eq_zero (by simpa using h.symm)
    subst this
    rfl
  | cons c a ih =>
    cases b with
    | nil => simp at h
    | cons d b =>
      simp only [List.zipWith_cons_cons, reg]
      rw [toNat_xor, upd_xor]
      exact ih b (by simpa using h) _ _

theorem reg_zeros_zero (n : Nat) : reg 0 (List.replicate n 0) = 0 := by
  induction n with
  | zero => rfl
  | succ n ih => rw [List.replicate_succ]; exact ih
theorem reg_zeros_inj {r : Nat} (hr : r < 4294967296) (n : Nat) (h : reg r (List.replicate n 0) = 0) : r = 0 := by
  induction n generalizing r with
  | zero => exact h
  | succ n ih =>
    rw [List.replicate_succ] at h
    have h1 := ih (upd_lt hr (by decide)) h
    unfold upd at h1
    have h2 := step8_eq_zero (xor_byte_lt hr (by decide)) h1
    simpa using h2

/-- No register is lost: the same bytes take unlike registers to unlike ones. -/
theorem reg_inj {r s : Nat} (hr : r < 4294967296) (hs : s < 4294967296) (l : List UInt8) (h : reg r l = reg s l) : r = s := by
  induction l generalizing r s with
  | nil => exact h
  | cons c l ih =>
    have h1 := ih (upd_lt hr (UInt8.toNat_lt c)) (upd_lt hs (UInt8.toNat_lt c)) h
    have h2 := step8_inj (xor_byte_lt hr (UInt8.toNat_lt c)) (xor_byte_lt hs (UInt8.toNat_lt c)) h1
    have h3 : r ^^^ c.toNat ^^^ c.toNat = s ^^^ c.toNat ^^^ c.toNat := by rw [h2]
    simpa [Nat.xor_assoc] using h3

/-- The word of bytes, the least first. -/
def word : List UInt8 → Nat
  | [] => 0
  | c :: l => c.toNat + 256 * word l

theorem word_lt (l : List UInt8) : word l < 256 ^ l.length := by
  induction l with
  | nil => simp [word]
  | cons c l ih =>
    have := UInt8.toNat_lt c
    simp only [word, List.length_cons, Nat.pow_succ]
    omega

theorem word_xor (c : UInt8) (m : Nat) : c.toNat + 256 * m = 256 * m ^^^ c.toNat := by
  have h := split256 (c.toNat + 256 * m)
  have hc := UInt8.toNat_lt c
  have e1 : (c.toNat + 256 * m) / 256 = m := by omega
  have e2 : (c.toNat + 256 * m) % 256 = c.toNat := by omega
  rw [e1, e2] at h
  exact h

/-- Bytes into a register are their word in it, and as many bytes 0. -/
theorem reg_word (l : List UInt8) (r : Nat) : reg r l = reg (r ^^^ word l) (List.replicate l.length 0) := by
  induction l generalizing r with
  | nil => simp [reg, word]
  | cons c l ih =>
    simp only [reg, word, List.length_cons, List.replicate_succ]
    rw [ih]
    congr 1
    unfold upd
    rw [word_xor]
    have e : (r ^^^ (256 * word l ^^^ c.toNat)) ^^^ (0 : UInt8).toNat = (r ^^^ c.toNat) ^^^ 256 * word l := by
      show (r ^^^ (256 * word l ^^^ c.toNat)) ^^^ 0 = _
      rw [Nat.xor_zero, Nat.xor_comm (256 * word l), Nat.xor_assoc]
    rw [e, step8_xor (r ^^^ c.toNat), step8_shift]

/-- The four bytes of a sum, the least first. -/
def le4 (v : Nat) : List UInt8 := [v.toUInt8, (v / 256).toUInt8, (v / 65536).toUInt8, (v / 16777216).toUInt8]

theorem u8 (x : Nat) : (x.toUInt8).toNat = x % 256 := by simp [Nat.toUInt8, UInt8.toNat_ofNat']

theorem word_le4 {v : Nat} (hv : v < 4294967296) : word (le4 v) = v := by
  simp only [word, le4, u8]
  omega

def ones : Nat := 4294967295

/-- The checksum. -/
def sum (b : List UInt8) : Nat := reg ones b ^^^ ones

theorem ones_lt : ones < 4294967296 := by decide
theorem sum_lt (b : List UInt8) : sum b < 4294967296 := Nat.xor_lt_two_pow (n := 32) (reg_lt ones_lt b) ones_lt

/-- The seal. -/
def closedB (b : List UInt8) : List UInt8 := b ++ le4 (sum b)

theorem le4_length (v : Nat) : (le4 v).length = 4 := rfl
theorem closedB_length (b : List UInt8) : (closedB b).length = b.length + 4 := by simp [closedB, le4_length]

/-- What is left in the register behind a seal, whatever was closedB. -/
def rest : Nat := reg ones (List.replicate 4 0)

theorem reg_closedB (b : List UInt8) : reg ones (closedB b) = rest := by
  unfold closedB rest
  rw [reg_append, reg_word, word_le4 (sum_lt b), le4_length]
  congr 1
  unfold sum
  rw [← Nat.xor_assoc, Nat.xor_self, Nat.zero_xor]

theorem four (l : List UInt8) (h : l.length = 4) : ∃ a b c d, l = [a, b, c, d] := by
  match l, h with
  | [a, b, c, d], _ => exact ⟨a, b, c, d, rfl⟩

theorem le4_word (l : List UInt8) (h : l.length = 4) : le4 (word l) = l := by
  obtain ⟨a, b, c, d, rfl⟩ := four l h
  have ha := UInt8.toNat_lt a
  have hb := UInt8.toNat_lt b
  have hc := UInt8.toNat_lt c
  have hd := UInt8.toNat_lt d
  simp only [le4, word]
  have e : ∀ (x : Nat) (y : UInt8), x % 256 = y.toNat → x.toUInt8 = y := fun x y h => by
    apply UInt8.toNat_inj.1
    rw [u8, h]
  rw [e _ a (by omega), e _ b (by omega), e _ c (by omega), e _ d (by omega)]

/-- Just the seals leave that. -/
theorem closedB_of_reg (x t : List UInt8) (ht : t.length = 4) (h : reg ones (x ++ t) = rest) : x ++ t = closedB x := by
  unfold closedB
  congr 1
  unfold rest at h
  rw [reg_append, reg_word, ht] at h
  have hw : word t < 4294967296 := by have := word_lt t; rw [ht] at this; exact this
  have h1 := reg_inj (Nat.xor_lt_two_pow (n := 32) (reg_lt ones_lt x) hw) ones_lt _ h
  have h2 : word t = sum x := by
    have h3 : sum x = reg ones x ^^^ (reg ones x ^^^ word t) := by unfold sum; rw [h1]
    rw [h3, ← Nat.xor_assoc, Nat.xor_self, Nat.zero_xor]
  rw [← h2, le4_word t ht]

/-- Is s a seal? Of what stands ahead of its last four bytes. -/
theorem is_closedB (s : List UInt8) (h4 : 4 ≤ s.length) : closedB (s.take (s.length - 4)) = s ↔ reg ones s = rest := by
  constructor
  · intro h
    rw [← h]
    exact reg_closedB _
  · intro h
    have hs : s.take (s.length - 4) ++ s.drop (s.length - 4) = s := List.take_append_drop _ _
    have := closedB_of_reg (s.take (s.length - 4)) (s.drop (s.length - 4)) (by simp; omega) (by rw [hs]; exact h)
    rw [hs] at this
    exact this.symm

theorem closedB_inj {a b : List UInt8} (h : closedB a = closedB b) : a = b := by
  have hl : a.length = b.length := by
    have := congrArg List.length h
    rw [closedB_length, closedB_length] at this
    omega
  exact (List.append_inj h hl).1

/-- Bytes that are turned within four side by side: ahead of them and behind them nothing is. -/
theorem turned_reg (s e : List UInt8) (hl : e.length = s.length) (k m : Nat) (t : List UInt8) (ht : t.length ≤ 4) (he : e = List.replicate k 0 ++ (t ++ List.replicate m 0)) (hne : ∃ c ∈ t, c ≠ 0) (r : Nat) :
    reg r (List.zipWith (· ^^^ ·) s e) ≠ reg r s := by
  intro h
  have h1 := reg_xor s e hl.symm r 0
  rw [Nat.xor_zero, h] at h1
  have h2 : reg 0 e = 0 := by
    have h3 : reg r s ^^^ reg r s = reg r s ^^^ (reg r s ^^^ reg 0 e) := by rw [← h1]
    rw [Nat.xor_self, ← Nat.xor_assoc, Nat.xor_self, Nat.zero_xor] at h3
    exact h3.symm
  rw [he, reg_append, reg_zeros_zero, reg_append, reg_word t, Nat.zero_xor] at h2
  have hw : word t < 4294967296 := by
    have h3 := word_lt t
    have h4 : 256 ^ t.length ≤ 256 ^ 4 := Nat.pow_le_pow_right (by omega) ht
    omega
  have h5 := reg_zeros_inj (reg_lt hw _) _ h2
  have h6 := reg_zeros_inj hw _ h5
  have key : ∀ l : List UInt8, word l = 0 → ∀ c ∈ l, c = 0 := by
    intro l
    induction l with
    | nil => intro _ c hc; cases hc
    | cons d l ih =>
      intro hz c hc
      simp only [word] at hz
      have hd : d.toNat = 0 := by omega
      have hw0 : word l = 0 := by omega
      rcases List.mem_cons.1 hc with rfl | hc
      · exact UInt8.toNat_inj.1 hd
      · exact ih hw0 c hc
  obtain ⟨c, hc, hc0⟩ := hne
  exact hc0 (key t h6 c hc)

/-- Unlike bytes have unlike entries. -/
theorem entry_inj {a b : Nat} (ha : a < 256) (hb : b < 256) (h : step8 a = step8 b) : a = b := step8_inj (by omega) (by omega) h

/-- The same change of bytes makes the same change of the sum. -/
theorem sum_change (a e : List UInt8) (h : a.length = e.length) : sum a ^^^ sum (List.zipWith (· ^^^ ·) a e) = reg 0 e := by
  unfold sum
  have := reg_xor a e h ones 0
  rw [Nat.xor_zero] at this
  rw [this, xor4, Nat.xor_self, Nat.xor_zero, ← Nat.xor_assoc, Nat.xor_self, Nat.zero_xor]

end Go.Proofs.Ytfencoklpnifaaa.CrcMath
