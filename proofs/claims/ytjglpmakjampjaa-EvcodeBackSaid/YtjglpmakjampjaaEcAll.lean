/-
  Mathematics of layer 5: all events of some bytes.
-/
import Derived.Test.YtjglpmakjampjaaEcBack
namespace Go.Proofs.Ytjglpmakjampjaa.EcWalk
open Go.RowKit Go.Proofs.Ytjglpmakjampjaa.MemRow Go.Proofs.Ytjglpmakjampjaa.Ev Go.Proofs.Ytjglpmakjampjaa.NameMath Go.Proofs.Ytjglpmakjampjaa.NameWalk Go.Proofs.Ytjglpmakjampjaa.EvWalk Go.Proofs.Ytjglpmakjampjaa.NumMath Go.Proofs.Ytjglpmakjampjaa.NumMem Go.Proofs.Ytjglpmakjampjaa.NumWalk

theorem numL_le (l : List UInt8) : (numL l).length ≤ l.length := by
  unfold numL
  split
  · simp
  · rw [List.length_drop]; omega
theorem numB_good {l : List UInt8} {b : Bool} (h : numB l b = false) : b = false ∧ (numL l).length < l.length := by
  unfold numB at h
  split at h
  · cases h
  · next hl =>
    refine ⟨h, ?_⟩
    have := lenV_le l
    unfold numL
    rw [if_neg hl, List.length_drop]
    omega
theorem textL_le (l : List UInt8) : (textL l).length ≤ l.length := by
  unfold textL
  split
  · rw [List.length_drop]
    have := numL_le l
    omega
  · simp
theorem textB_good {l : List UInt8} {b : Bool} (h : textB l b = false) : b = false ∧ (textL l).length < l.length := by
  unfold textB at h
  split at h
  · next hok =>
    obtain ⟨h1, h2⟩ := numB_good h
    refine ⟨h1, ?_⟩
    unfold textL
    rw [if_pos hok, List.length_drop]
    omega
  · cases h
theorem takeTags_le (k : Nat) : ∀ (l : List UInt8) (b : Bool), (takeTags k l b).2.1.length ≤ l.length ∧ ((takeTags k l b).2.2 = false → b = false) := by
  induction k with
  | zero => intro l b; exact ⟨Nat.le_refl _, fun h => h⟩
  | succ k ih =>
    intro l b
    unfold takeTags
    split
    · next hb => exact ⟨Nat.le_refl _, fun h => h⟩
    · obtain ⟨h1, h2⟩ := ih (textL l) (textB l b)
      have h3 := textL_le l
      exact ⟨by simp only; omega, fun h => (textB_good (h2 h)).1⟩
theorem takeFlds_le (k : Nat) : ∀ (l : List UInt8) (b : Bool), (takeFlds k l b).2.1.length ≤ l.length ∧ ((takeFlds k l b).2.2 = false → b = false) := by
  induction k with
  | zero => intro l b; exact ⟨Nat.le_refl _, fun h => h⟩
  | succ k ih =>
    intro l b
    unfold takeFlds
    split
    · next hb => exact ⟨Nat.le_refl _, fun h => h⟩
    · obtain ⟨h1, h2⟩ := ih (numL (textL l)) (numB (textL l) (textB l b))
      have h3 := textL_le l
      have h4 := numL_le (textL l)
      exact ⟨by simp only; omega, fun h => (textB_good (numB_good (h2 h)).1).1⟩

/-- An event takes at least one byte. -/
theorem takeE_lt {l l' : List UInt8} {b : Bool} {e : Ev} (h : takeE l b = some (e, l')) : l'.length < l.length := by
  unfold takeE at h
  simp only at h
  split at h
  · cases h
  · split at h
    · cases h
    · next hx =>
      simp only [Option.some.injEq, Prod.mk.injEq] at h
      obtain ⟨_, h⟩ := h
      rw [← h]
      have hb : (takeFlds (min (numV (takeTags (min (numV (textL (textL l))) 7).toNat (numL (textL (textL l))) (numB (textL (textL l)) (textB (textL l) (textB l b)))).2.1) 5).toNat (numL (takeTags (min (numV (textL (textL l))) 7).toNat (numL (textL (textL l))) (numB (textL (textL l)) (textB (textL l) (textB l b)))).2.1) (numB (takeTags (min (numV (textL (textL l))) 7).toNat (numL (textL (textL l))) (numB (textL (textL l)) (textB (textL l) (textB l b)))).2.1 (takeTags (min (numV (textL (textL l))) 7).toNat (numL (textL (textL l))) (numB (textL (textL l)) (textB (textL l) (textB l b)))).2.2)).2.2 = false := by
        cases hc : (takeFlds _ _ _).2.2 with
        | false => rfl
        | true => exact absurd (.inr (.inl hc)) hx
      obtain ⟨f1, f2⟩ := takeFlds_le (min (numV (takeTags (min (numV (textL (textL l))) 7).toNat (numL (textL (textL l))) (numB (textL (textL l)) (textB (textL l) (textB l b)))).2.1) 5).toNat (numL (takeTags (min (numV (textL (textL l))) 7).toNat (numL (textL (textL l))) (numB (textL (textL l)) (textB (textL l) (textB l b)))).2.1) (numB (takeTags (min (numV (textL (textL l))) 7).toNat (numL (textL (textL l))) (numB (textL (textL l)) (textB (textL l) (textB l b)))).2.1 (takeTags (min (numV (textL (textL l))) 7).toNat (numL (textL (textL l))) (numB (textL (textL l)) (textB (textL l) (textB l b)))).2.2)
      have g1 := numB_good (f2 hb)
      obtain ⟨t1, t2⟩ := takeTags_le (min (numV (textL (textL l))) 7).toNat (numL (textL (textL l))) (numB (textL (textL l)) (textB (textL l) (textB l b)))
      have g2 := numB_good (t2 g1.1)
      have g3 := textB_good g2.1
      have g4 := textB_good g3.1
      omega

/-- All events of some bytes; none, if one of them cannot be taken. -/
def allE : Nat → List UInt8 → Option (List Ev)
  | 0, l => if l = [] then some [] else none
  | k + 1, l => if l = [] then some [] else match takeE l false with
    | none => none
    | some p => (allE k p.2).map (p.1 :: ·)
theorem allE_nil (k : Nat) : allE k [] = some [] := by cases k <;> simp [allE]
/-- How much is tried does not tell, if it is enough. -/
theorem allE_more : ∀ (k : Nat) (l : List UInt8), l.length ≤ k → allE (k + 1) l = allE k l
  | 0, l, h => by
    obtain rfl : l = [] := List.length_eq_zero_iff.1 (by omega)
    rw [allE_nil, allE_nil]
  | k + 1, l, h => by
    by_cases hl : l = []
    · rw [hl, allE_nil, allE_nil]
    · rw [allE, if_neg hl]
      conv => rhs; rw [allE, if_neg hl]
      cases ht : takeE l false with
      | none => rfl
      | some p =>
        have := takeE_lt (l' := p.2) (e := p.1) ht
        simp only
        rw [allE_more k p.2 (by omega)]
theorem enc_pos' (e : Ev) : 1 ≤ (encE e).length := by
  have h := enc_pos (e.s.size : Int)
  unfold encE txt
  simp only [List.length_append]
  omega
/-- Events that were laid down one behind the other are all of them. -/
theorem allE_encs : ∀ (es : List Ev) (k : Nat), (∀ e ∈ es, mayE e = 0) → (es.flatMap encE).length ≤ k → allE k (es.flatMap encE) = some es
  | [], k, _, _ => by simp [allE_nil]
  | e :: es, 0, h, hk => by
    have := enc_pos' e
    rw [List.flatMap_cons, List.length_append] at hk
    omega
  | e :: es, k + 1, h, hk => by
    have hp := enc_pos' e
    rw [List.flatMap_cons, List.length_append] at hk
    have hne : encE e ++ es.flatMap encE ≠ [] := by
      intro h0
      have := congrArg List.length h0
      rw [List.length_append, List.length_nil] at this
      omega
    rw [List.flatMap_cons, allE, if_neg hne, takeE_encE (h e (by simp))]
    simp only
    rw [allE_encs es k (fun x hx => h x (by simp [hx])) (by omega)]
    rfl

end Go.Proofs.Ytjglpmakjampjaa.EcWalk
