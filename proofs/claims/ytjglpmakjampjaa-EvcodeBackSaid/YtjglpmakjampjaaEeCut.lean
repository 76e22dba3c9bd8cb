/-
  Mathematics of layer 5: events that are cut.
-/
import Derived.Test.YtjglpmakjampjaaEdRows
namespace Go.Proofs.Ytjglpmakjampjaa.EeLaw
open Go.RowKit Go.Proofs.Ytjglpmakjampjaa.MemRow Go.Proofs.Ytjglpmakjampjaa.Ev Go.Proofs.Ytjglpmakjampjaa.NameMath Go.Proofs.Ytjglpmakjampjaa.NameWalk Go.Proofs.Ytjglpmakjampjaa.EvWalk Go.Proofs.Ytjglpmakjampjaa.NumMath Go.Proofs.Ytjglpmakjampjaa.NumMem Go.Proofs.Ytjglpmakjampjaa.NumWalk Go.Proofs.Ytjglpmakjampjaa.EcWalk Go.Proofs.Ytjglpmakjampjaa.EdWalk

theorem lenFrom_more (r : List UInt8) : ∀ (l : List UInt8) (i : Nat), lenFrom i l ≠ 0 → lenFrom i (l ++ r) = lenFrom i l
  | [], i, h => absurd rfl h
  | c :: l, i, h => by
    rw [List.cons_append]
    simp only [lenFrom] at h ⊢
    by_cases h1 : 10 ≤ i
    · rw [if_pos h1, if_pos h1]
    · rw [if_neg h1] at h ⊢
      rw [if_neg h1]
      by_cases h2 : 128 ≤ c.toNat
      · rw [if_pos h2] at h ⊢
        rw [if_pos h2]
        exact lenFrom_more r l (i + 1) h
      · rw [if_neg h2, if_neg h2]
theorem num_more {l : List UInt8} {b : Bool} (h : numB l b = false) (r : List UInt8) : numV (l ++ r) = numV l ∧ numL (l ++ r) = numL l ++ r ∧ numB (l ++ r) b = false := by
  have hl : lenV l ≠ 0 := by
    intro h0
    unfold numB at h
    rw [if_pos h0] at h
    cases h
  have hb : b = false := by
    unfold numB at h
    rwa [if_neg hl] at h
  have e : lenV (l ++ r) = lenV l := lenFrom_more r l 0 hl
  have hle := lenV_le l
  refine ⟨?_, ?_, ?_⟩
  · unfold numV
    rw [e, if_neg hl, if_neg hl, List.take_append_of_le_length hle]
  · unfold numL
    rw [e, if_neg hl, if_neg hl, List.drop_append_of_le_length hle]
  · unfold numB
    rw [e, if_neg hl, hb]
theorem text_more {l : List UInt8} {b : Bool} (h : textB l b = false) (r : List UInt8) : tx (l ++ r) = tx l ∧ textL (l ++ r) = textL l ++ r ∧ textB (l ++ r) b = false := by
  have hok : textOk l := by
    by_cases h0 : textOk l
    · exact h0
    · unfold textB at h
      rw [if_neg h0] at h
      cases h
  have hn : numB l b = false := by
    unfold textB at h
    rwa [if_pos hok] at h
  obtain ⟨n1, n2, n3⟩ := num_more hn r
  have hk := hok
  unfold textOk at hk
  have hok' : textOk (l ++ r) := by
    unfold textOk
    rw [n1, n2, List.length_append]
    omega
  have hle : (numV l).toNat ≤ (numL l).length := by omega
  refine ⟨?_, ?_, ?_⟩
  · unfold tx textV
    rw [if_pos hok', if_pos hok, n1, n2, List.take_append_of_le_length hle]
  · unfold textL
    rw [if_pos hok', if_pos hok, n1, n2, List.drop_append_of_le_length hle]
  · unfold textB
    rw [if_pos hok', n3]
theorem takeTags_more (r : List UInt8) : ∀ (k : Nat) (l : List UInt8) (b : Bool), (takeTags k l b).2.2 = false → takeTags k (l ++ r) b = ((takeTags k l b).1, (takeTags k l b).2.1 ++ r, false)
  | 0, l, b, h => by
    have hb : b = false := h
    rw [hb]
    rfl
  | k + 1, l, b, h => by
    have hb : b = false := (takeTags_le (k + 1) l b).2 h
    subst hb
    rw [takeTags_go] at h
    have ht := (takeTags_le k (textL l) (textB l false)).2 h
    obtain ⟨t1, t2, t3⟩ := text_more ht r
    rw [takeTags_go, takeTags_go, t1, t2, t3]
    rw [ht] at h ⊢
    rw [takeTags_more r k (textL l) false h]
theorem takeFlds_more (r : List UInt8) : ∀ (k : Nat) (l : List UInt8) (b : Bool), (takeFlds k l b).2.2 = false → takeFlds k (l ++ r) b = ((takeFlds k l b).1, (takeFlds k l b).2.1 ++ r, false)
  | 0, l, b, h => by
    have hb : b = false := h
    rw [hb]
    rfl
  | k + 1, l, b, h => by
    have hb : b = false := (takeFlds_le (k + 1) l b).2 h
    subst hb
    rw [takeFlds_go] at h
    have hn := (takeFlds_le k (numL (textL l)) (numB (textL l) (textB l false))).2 h
    have ht := (numB_good hn).1
    obtain ⟨t1, t2, t3⟩ := text_more ht r
    rw [ht] at hn
    obtain ⟨n1, n2, n3⟩ := num_more hn r
    rw [takeFlds_go, takeFlds_go, t1, t2, t3, n1, n2, n3]
    rw [ht, hn] at h ⊢
    rw [takeFlds_more r k (numL (textL l)) false h]

/-- What follows behind an event does not change it. -/
theorem takeE_more {l l' : List UInt8} {e : Ev} (h : takeE l false = some (e, l')) (r : List UInt8) : takeE (l ++ r) false = some (e, l' ++ r) := by
  unfold takeE at h ⊢
  simp only at h ⊢
  split at h
  · cases h
  · next c1 =>
    split at h
    · cases h
    · next c2 =>
      simp only [Option.some.injEq, Prod.mk.injEq] at h
      obtain ⟨h1, h2⟩ := h
      have f2 : (takeFlds (min (numV (takeTags (min (numV (textL (textL l))) 7).toNat (numL (textL (textL l))) (numB (textL (textL l)) (textB (textL l) (textB l false)))).2.1) 5).toNat (numL (takeTags (min (numV (textL (textL l))) 7).toNat (numL (textL (textL l))) (numB (textL (textL l)) (textB (textL l) (textB l false)))).2.1) (numB (takeTags (min (numV (textL (textL l))) 7).toNat (numL (textL (textL l))) (numB (textL (textL l)) (textB (textL l) (textB l false)))).2.1 (takeTags (min (numV (textL (textL l))) 7).toNat (numL (textL (textL l))) (numB (textL (textL l)) (textB (textL l) (textB l false)))).2.2)).2.2 = false := by
        cases hc : (takeFlds _ _ _).2.2 with
        | false => rfl
        | true => exact absurd (.inr (.inl hc)) c2
      have g4 := (takeFlds_le _ _ _).2 f2
      have g3 := (numB_good g4).1
      have g2 := (takeTags_le _ _ _).2 g3
      have g1 := (numB_good g2).1
      have g0 := (textB_good g1).1
      obtain ⟨a1, a2, a3⟩ := text_more g0 r
      rw [g0] at g1 g2 g3 g4 f2 c2 h1 h2
      obtain ⟨b1, b2, b3⟩ := text_more g1 r
      rw [g1] at g2 g3 g4 f2 c2 h1 h2
      obtain ⟨n1, n2, n3⟩ := num_more g2 r
      rw [g2] at g3 g4 f2 c2 h1 h2
      have tt := takeTags_more r _ _ _ g3
      rw [g3] at g4 f2 c2 h2
      obtain ⟨m1, m2, m3⟩ := num_more g4 r
      rw [g3] at h1
      rw [g4] at f2 c2 h1 h2
      have ff := takeFlds_more r _ _ _ f2
      rw [a1, a2, a3, b1, b2, b3, n1, n2, n3, tt]
      simp only
      rw [m1, m2, m3, ff]
      simp only
      rw [if_neg c1, if_neg (by rw [f2] at c2; exact c2), h1, h2]

theorem takeE_cut {e : Ev} {p r : List UInt8} (h : mayE e = 0) (hp : p ++ r = encE e) (hr : r ≠ []) : takeE p false = none := by
  cases ht : takeE p false with
  | none => rfl
  | some q =>
    exfalso
    obtain ⟨e', l'⟩ := q
    have h1 := takeE_more ht r
    have h2 := takeE_encE h []
    rw [List.append_nil, ← hp, h1] at h2
    simp only [Option.some.injEq, Prod.mk.injEq] at h2
    have := congrArg List.length h2.2
    simp only [List.length_append, List.length_nil] at this
    exact hr (List.length_eq_zero_iff.1 (by omega))

/-- Where the first k events end. -/
def endAt (ys : List Ev) (k : Nat) : Nat := ((ys.take k).flatMap encE).length
theorem endAt_zero (ys : List Ev) : endAt ys 0 = 0 := rfl
theorem endAt_cons (y : Ev) (ys : List Ev) (k : Nat) : endAt (y :: ys) (k + 1) = (encE y).length + endAt ys k := by simp [endAt]
theorem endAt_snoc (ys : List Ev) (y : Ev) {k : Nat} (h : k ≤ ys.length) : endAt (ys ++ [y]) k = endAt ys k := by
  unfold endAt
  rw [List.take_append_of_le_length h]
theorem endAt_all (ys : List Ev) {k : Nat} (h : ys.length ≤ k) : endAt ys k = (ys.flatMap encE).length := by
  unfold endAt
  rw [List.take_of_length_le h]
theorem take_endAt : ∀ (ys : List Ev) (k : Nat), (ys.flatMap encE).take (endAt ys k) = (ys.take k).flatMap encE
  | [], k => by simp
  | y :: ys, 0 => by simp [endAt_zero]
  | y :: ys, k + 1 => by
    rw [endAt_cons, List.flatMap_cons, List.take_succ_cons, List.flatMap_cons, List.take_length_add_append, take_endAt ys k]
/-- Cut within an event there is none. -/
theorem allF_cut : ∀ (ys : List Ev) (i : Nat), (∀ e ∈ ys, mayE e = 0) → (∀ k, k ≤ ys.length → endAt ys k ≠ i) → i ≤ (ys.flatMap encE).length → allF ((ys.flatMap encE).take i) = none
  | [], i, _, h, hi => by
    have := h 0 (Nat.le_refl _)
    rw [endAt_zero] at this
    simp only [List.flatMap_nil, List.length_nil] at hi
    omega
  | y :: ys, i, hm, h, hi => by
    have hp := enc_pos' y
    have h0 := h 0 (Nat.zero_le _)
    rw [endAt_zero] at h0
    rw [List.flatMap_cons] at hi ⊢
    by_cases hlt : i < (encE y).length
    · rw [List.take_append_of_le_length (by omega)]
      have hne : (encE y).take i ≠ [] := by
        intro e
        have := congrArg List.length e
        rw [List.length_take, List.length_nil] at this
        omega
      refine allF_none hne (takeE_cut (hm y (by simp)) (List.take_append_drop i (encE y)) ?_)
      intro e
      have := congrArg List.length e
      rw [List.length_drop, List.length_nil] at this
      omega
    · obtain ⟨d, rfl⟩ := Nat.exists_eq_add_of_le (Nat.le_of_not_lt hlt)
      rw [List.take_length_add_append]
      have hne : encE y ++ (ys.flatMap encE).take d ≠ [] := by
        intro e
        have := congrArg List.length e
        rw [List.length_append, List.length_nil] at this
        omega
      rw [allF_some hne (takeE_encE (hm y (by simp)) _), allF_cut ys d (fun e he => hm e (by simp [he])) (fun k hk hd => h (k + 1) (by simp; omega) (by rw [endAt_cons, hd])) (by rw [List.length_append] at hi; omega)]
      rfl

end Go.Proofs.Ytjglpmakjampjaa.EeLaw
