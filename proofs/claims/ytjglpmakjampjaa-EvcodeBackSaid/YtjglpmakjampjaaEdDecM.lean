/-
  Mathematics of layer 5: what decode takes, against what the document's answer takes.
-/
import Derived.Test.YtjglpmakjampjaaEdListF
namespace Go.Proofs.Ytjglpmakjampjaa.EdWalk
open Go.RowKit Go.Proofs.Ytjglpmakjampjaa.MemRow Go.Proofs.Ytjglpmakjampjaa.Ev Go.Proofs.Ytjglpmakjampjaa.NameMath Go.Proofs.Ytjglpmakjampjaa.NameWalk Go.Proofs.Ytjglpmakjampjaa.EvWalk Go.Proofs.Ytjglpmakjampjaa.NumMath Go.Proofs.Ytjglpmakjampjaa.NumMem Go.Proofs.Ytjglpmakjampjaa.NumWalk Go.Proofs.Ytjglpmakjampjaa.EcWalk

/-- What decode takes: of more tags than may be one too many. -/
def decC (l : List UInt8) : Option (Ev × List UInt8) :=
  let l2 := textL (textL l)
  let tg := takeTags (numV l2).toNat (numL l2) (numB l2 (textB (textL l) (textB l false)))
  let l4 := tg.2.1
  let fl := takeFlds (numV l4).toNat (numL l4) (numB l4 tg.2.2)
  if numV l2 < 0 ∨ tg.2.2 = true then none
  else if numV l4 < 0 ∨ fl.2.2 = true then none
  else some (⟨tx l, tx (textL l), tg.1.take 7, fl.1.take 5⟩, fl.2.1)

theorem takeTags_len : ∀ (k : Nat) (l : List UInt8) (b : Bool), (takeTags k l b).2.2 = false → (takeTags k l b).1.length = k
  | 0, l, b, _ => rfl
  | k + 1, l, b, h => by
    unfold takeTags at h ⊢
    split
    · next hb => rw [if_pos hb] at h; rw [hb] at h; cases h
    · next hb =>
      rw [if_neg hb] at h
      simp only [List.length_cons]
      rw [takeTags_len k _ _ h]
theorem takeFlds_len : ∀ (k : Nat) (l : List UInt8) (b : Bool), (takeFlds k l b).2.2 = false → (takeFlds k l b).1.length = k
  | 0, l, b, _ => rfl
  | k + 1, l, b, h => by
    unfold takeFlds at h ⊢
    split
    · next hb => rw [if_pos hb] at h; rw [hb] at h; cases h
    · next hb =>
      rw [if_neg hb] at h
      simp only [List.length_cons]
      rw [takeFlds_len k _ _ h]
theorem numB_true (l : List UInt8) : numB l true = true := by unfold numB; split <;> rfl

/-- Of what decode takes the document's answer is what may be. -/
theorem takeE_decC (l : List UInt8) : takeE l false = (decC l).bind fun p => if mayE p.1 = 0 then some p else none := by
  unfold takeE decC
  simp only
  generalize hl2 : textL (textL l) = l2
  generalize numB l2 (textB (textL l) (textB l false)) = b3
  by_cases hn0 : numV l2 < 0
  · rw [if_pos (.inl hn0), if_pos (.inl hn0)]
    rfl
  by_cases hn6 : 6 < numV l2
  · rw [if_pos (.inr hn6)]
    cases hb : (takeTags (numV l2).toNat (numL l2) b3).2.2 with
    | true => rw [if_pos (.inr rfl)]; rfl
    | false =>
      have hlen := takeTags_len _ _ _ hb
      have c1 : ¬ (numV l2 < 0 ∨ false = true) := by rintro (h | h); exact hn0 h; cases h
      rw [if_neg c1]
      split
      · rfl
      · simp only [Option.bind_some]
        rw [if_neg]
        intro hm
        have := (may_smallE hm).nt
        simp only [List.length_take] at this
        omega
  · rw [if_neg (by omega)]
    have hk : (min (numV l2) 7).toNat = (numV l2).toNat := by omega
    rw [hk]
    have hle : (numV l2).toNat ≤ 6 := by omega
    generalize (numV l2).toNat = K at *
    cases hb : (takeTags K (numL l2) b3).2.2 with
    | true =>
      have c1 : numV l2 < 0 ∨ true = true := .inr rfl
      rw [if_pos c1, numB_true, takeFlds_stop (.inr rfl)]
      have c2 : ∀ P : Prop, numV (takeTags K (numL l2) b3).2.1 < 0 ∨ true = true ∨ P := fun P => .inr (.inl rfl)
      rw [if_pos (c2 _)]
      rfl
    | false =>
      have hlen := takeTags_len _ _ _ hb
      have c1 : ¬ (numV l2 < 0 ∨ false = true) := by rintro (h | h); exact hn0 h; cases h
      rw [if_neg c1, List.take_of_length_le (by omega)]
      generalize (takeTags K (numL l2) b3).1 = ts
      generalize (takeTags K (numL l2) b3).2.1 = l4
      by_cases hm0 : numV l4 < 0
      · have c1 : ∀ P : Prop, numV l4 < 0 ∨ P := fun P => .inl hm0
        rw [if_pos (c1 _), if_pos (c1 _)]
        rfl
      by_cases hm4 : 4 < numV l4
      · have hk5 : (min (numV l4) 5).toNat = 5 := by omega
        rw [hk5]
        have h1 : (if numV l4 < 0 ∨ (takeFlds 5 (numL l4) (numB l4 false)).2.2 = true ∨ mayE ⟨tx l, tx (textL l), ts, (takeFlds 5 (numL l4) (numB l4 false)).1⟩ ≠ 0 then none else some (⟨tx l, tx (textL l), ts, (takeFlds 5 (numL l4) (numB l4 false)).1⟩, (takeFlds 5 (numL l4) (numB l4 false)).2.1)) = (none : Option (Ev × List UInt8)) := by
          cases hb5 : (takeFlds 5 (numL l4) (numB l4 false)).2.2 with
          | true =>
            have c1 : ∀ P : Prop, numV l4 < 0 ∨ true = true ∨ P := fun P => .inr (.inl rfl)
            rw [if_pos (c1 _)]
          | false =>
            have hl5 := takeFlds_len _ _ _ hb5
            rw [if_pos]
            refine .inr (.inr fun hm => ?_)
            have := (may_smallE hm).nf
            simp only at this
            omega
        rw [h1]
        cases hbm : (takeFlds (numV l4).toNat (numL l4) (numB l4 false)).2.2 with
        | true =>
          have c1 : numV l4 < 0 ∨ true = true := .inr rfl
          rw [if_pos c1]
          rfl
        | false =>
          have hlm := takeFlds_len _ _ _ hbm
          have c1 : ¬ (numV l4 < 0 ∨ false = true) := by rintro (h | h); exact hm0 h; cases h
          rw [if_neg c1]
          simp only [Option.bind_some]
          rw [if_neg]
          intro hm
          have := (may_smallE hm).nf
          simp only [List.length_take] at this
          omega
      · have hk5 : (min (numV l4) 5).toNat = (numV l4).toNat := by omega
        rw [hk5]
        cases hbm : (takeFlds (numV l4).toNat (numL l4) (numB l4 false)).2.2 with
        | true =>
          have c1 : ∀ P : Prop, numV l4 < 0 ∨ true = true ∨ P := fun P => .inr (.inl rfl)
          have c2 : numV l4 < 0 ∨ true = true := .inr rfl
          rw [if_pos (c1 _), if_pos c2]
          rfl
        | false =>
          have hlm := takeFlds_len _ _ _ hbm
          have c1 : ¬ (numV l4 < 0 ∨ false = true) := by rintro (h | h); exact hm0 h; cases h
          rw [if_neg c1, List.take_of_length_le (by omega)]
          simp only [Option.bind_some]
          by_cases h0 : mayE ⟨tx l, tx (textL l), ts, (takeFlds (numV l4).toNat (numL l4) (numB l4 false)).1⟩ = 0
          · rw [if_pos h0, if_neg]
            rintro (h | h | h)
            · exact hm0 h
            · cases h
            · exact h h0
          · rw [if_neg h0, if_pos (.inr (.inr h0))]

end Go.Proofs.Ytjglpmakjampjaa.EdWalk
