/-
  The mathematics of layer 6: what may be, what is in order, what is asked for.
-/
import Derived.Test.YtfbooapgjhhjmaaQuRefY
import Derived.Test.YtfbooapgjhhjmaaQuRefN
import Derived.Test.YtfbooapgjhhjmaaEvMath
namespace Go.Proofs.Ytfbooapgjhhjmaa.QlLaw
open Go.RowKit Go.WideShapes Go.ChangeShapes Go.Proofs.Ytfbooapgjhhjmaa.MemRow Go.Proofs.Ytfbooapgjhhjmaa.Ev Go.Proofs.Ytfbooapgjhhjmaa.NameMath Go.Proofs.Ytfbooapgjhhjmaa.NameWalk Go.Proofs.Ytfbooapgjhhjmaa.EvWalk Go.Proofs.Ytfbooapgjhhjmaa.Qu Go.Proofs.Ytfbooapgjhhjmaa.QuWalk Go.Proofs.Ytfbooapgjhhjmaa.Open

theorem mayQ_zero (q : List Cl) : mayQ q = 0 ↔ q.length ≤ 4 ∧ q.any bigC = false ∧ q.all namesC = true ∧ q.all riseC = true := by
  unfold mayQ
  by_cases h1 : 4 < q.length ∨ q.any bigC = true
  · rw [if_pos h1]
    constructor
    · intro h; omega
    · rintro ⟨a, b, _⟩
      rcases h1 with h1 | h1
      · omega
      · rw [b] at h1; cases h1
  · rw [if_neg h1]
    have a : q.length ≤ 4 := by omega
    have b : q.any bigC = false := by
      cases hq : q.any bigC with
      | false => rfl
      | true => exact absurd (.inr hq) h1
    by_cases h2 : q.all namesC = false
    · rw [if_pos h2, h2]
      simp
    · rw [if_neg h2]
      have c : q.all namesC = true := by
        cases hq : q.all namesC with
        | false => exact absurd hq h2
        | true => rfl
      by_cases h3 : q.all riseC = false
      · rw [if_pos h3, h3]
        simp
      · rw [if_neg h3]
        have d : q.all riseC = true := by
          cases hq : q.all riseC with
          | false => exact absurd hq h3
          | true => rfl
        simp [a, b, c, d]

theorem normC_self {c : Cl} (h : riseC c = true) : normC c = c := by
  unfold riseC at h
  rw [Bool.and_eq_true] at h
  obtain ⟨t, y⟩ := c
  unfold normC
  rw [normTags_self ((rise_up _).1 h.1), normTags_self ((rise_up _).1 h.2)]
theorem normC_rise (c : Cl) : riseC (normC c) = true := by
  unfold riseC
  rw [Bool.and_eq_true]
  exact ⟨(rise_up _).2 (normTags_up _), (rise_up _).2 (normTags_up _)⟩
theorem normQ_self {q : List Cl} (h : q.all riseC = true) : normQ q = q := by
  unfold normQ
  rw [List.all_eq_true] at h
  conv => rhs; rw [← List.map_id q]
  exact List.map_congr_left fun c hc => normC_self (h c hc)
theorem normQ_rise (q : List Cl) : (normQ q).all riseC = true := by
  unfold normQ
  rw [List.all_map, List.all_eq_true]
  exact fun c _ => normC_rise c
/-- Bringing in order twice is the same. -/
theorem normQ_norm (q : List Cl) : normQ (normQ q) = normQ q := normQ_self (normQ_rise q)
/-- A query that may be is in order. -/
theorem normQ_may {q : List Cl} (h : mayQ q = 0) : normQ q = q := normQ_self ((mayQ_zero q).1 h).2.2.2

theorem normC_names (c : Cl) : namesC (normC c) = namesC c := by
  have key : ∀ (p : ByteArray → Bool) (l : List ByteArray), (normTags l).all p = l.all p := by
    intro p l
    rw [Bool.eq_iff_iff, List.all_eq_true, List.all_eq_true]
    exact ⟨fun h x hx => h x ((normTags_mem l x).2 hx), fun h x hx => h x ((normTags_mem l x).1 hx)⟩
  unfold namesC normC
  rw [key, key]
theorem normQ_names (q : List Cl) : (normQ q).all namesC = q.all namesC := by
  unfold normQ
  rw [List.all_map]
  exact congrArg (fun f => q.all f) (funext normC_names)
theorem normQ_big {q : List Cl} (h : q.any bigC = false) : (normQ q).any bigC = false := by
  unfold normQ
  rw [List.any_map]
  rw [List.any_eq_false] at h ⊢
  intro c hc
  have h3 := h c hc
  have h1 := normTags_len c.tags
  have h2 := normTags_len c.types
  intro hb
  have hb' : bigC (normC c) = true := hb
  unfold bigC normC at hb'
  unfold bigC at h3
  rw [decide_eq_true_eq] at hb' h3
  simp only at hb'
  omega
/-- What is not refused for what it names, or how much, may be once in order. -/
theorem mayQ_norm {q : List Cl} (h : mayQ q = 1) : mayQ (normQ q) = 0 := by
  unfold mayQ at h
  by_cases h1 : 4 < q.length ∨ q.any bigC = true
  · rw [if_pos h1] at h; omega
  rw [if_neg h1] at h
  by_cases h2 : q.all namesC = false
  · rw [if_pos h2] at h; omega
  have c : q.all namesC = true := by
    cases hq : q.all namesC with
    | false => exact absurd hq h2
    | true => rfl
  have b : q.any bigC = false := by
    cases hq : q.any bigC with
    | false => rfl
    | true => exact absurd (.inr hq) h1
  refine (mayQ_zero _).2 ⟨?_, normQ_big b, (normQ_names q).trans c, normQ_rise q⟩
  unfold normQ
  rw [List.length_map]
  omega
/-- Without one of its clauses. -/
theorem mayQ_less {q : List Cl} (h : mayQ q = 0) (i : Nat) : mayQ (q.take i ++ q.drop (i + 1)) = 0 := by
  obtain ⟨h1, h2, h3, h4⟩ := (mayQ_zero q).1 h
  refine (mayQ_zero _).2 ⟨?_, ?_, ?_, ?_⟩
  · simp only [List.length_append, List.length_take, List.length_drop]; omega
  · rw [List.any_eq_false] at h2 ⊢
    exact fun c hc => h2 c (mem_without hc)
  · rw [List.all_eq_true] at h3 ⊢
    exact fun c hc => h3 c (mem_without hc)
  · rw [List.all_eq_true] at h4 ⊢
    exact fun c hc => h4 c (mem_without hc)
theorem less_ne_q {q : List Cl} {i : Nat} (h : i < q.length) : q.take i ++ q.drop (i + 1) ≠ q := by
  intro e
  have := congrArg List.length e
  simp only [List.length_append, List.length_take, List.length_drop] at this
  omega

theorem hasB_mem (l : List ByteArray) (x : ByteArray) : hasB (normTags l) x = hasB l x := by
  have := hasB_norm (⟨ByteArray.empty, ByteArray.empty, l, []⟩ : Ev) x
  exact this
theorem normTags_nil (l : List ByteArray) : normTags l = [] ↔ l = [] := by
  constructor
  · intro h
    cases l with
    | nil => rfl
    | cons a l =>
      have := (normTags_mem (a :: l) a).2 (by simp)
      rw [h] at this
      cases this
  · rintro rfl; rfl
theorem clauseB_norm (c : Cl) (e : Ev) : clauseB (normC c) e = clauseB c e := by
  unfold clauseB normC
  have k1 : (normTags c.tags).all (fun x => hasB e.tags x) = c.tags.all (fun x => hasB e.tags x) := by
    rw [Bool.eq_iff_iff, List.all_eq_true, List.all_eq_true]
    exact ⟨fun h x hx => h x ((normTags_mem _ x).2 hx), fun h x hx => h x ((normTags_mem _ x).1 hx)⟩
  have k2 : decide (normTags c.types = []) = decide (c.types = []) := by
    rw [decide_eq_decide]; exact normTags_nil _
  simp only [k1, k2, hasB_mem]
/-- Bringing in order changes nothing of what is asked for. -/
theorem matchQ_norm (q : List Cl) (e : Ev) : matchQ (normQ q) e = matchQ q e := by
  unfold matchQ normQ
  rw [List.any_map]
  exact congrArg (fun f => q.any f) (funext fun c => clauseB_norm c e)
theorem matchQ_reverse (q : List Cl) (e : Ev) : matchQ q.reverse e = matchQ q e := by
  unfold matchQ; rw [List.any_reverse]
theorem matchQ_append (q r : List Cl) (e : Ev) : matchQ (q ++ r) e = (matchQ q e || matchQ r e) := by
  unfold matchQ; rw [List.any_append]
/-- With a tag more in every clause. -/
def tagged (s : ByteArray) (c : Cl) : Cl := ⟨c.tags ++ [s], c.types⟩
theorem clause_tagged {s : ByteArray} {c : Cl} {e : Ev} (h : clauseB (tagged s c) e = true) : clauseB c e = true := by
  unfold clauseB tagged at h
  unfold clauseB
  rw [Bool.and_eq_true] at h ⊢
  refine ⟨?_, h.2⟩
  have := h.1
  rw [List.all_append, Bool.and_eq_true] at this
  exact this.1
theorem matchQ_tagged {s : ByteArray} {q : List Cl} {e : Ev} : (!matchQ (q.map (tagged s)) e || matchQ q e) = true := by
  cases hm : matchQ (q.map (tagged s)) e with
  | false => rfl
  | true =>
    unfold matchQ at hm ⊢
    rw [List.any_map, List.any_eq_true] at hm
    obtain ⟨c, hc, h⟩ := hm
    simp only [Bool.not_true, Bool.false_or]
    rw [List.any_eq_true]
    exact ⟨c, hc, clause_tagged h⟩

end Go.Proofs.Ytfbooapgjhhjmaa.QlLaw
