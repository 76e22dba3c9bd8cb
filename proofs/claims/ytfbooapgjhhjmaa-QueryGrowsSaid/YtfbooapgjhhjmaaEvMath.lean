/-
  Mathematics of layer 4: the order of texts, what is put in order, events that may be. No walk here.
-/
import Derived.Test.YtfbooapgjhhjmaaEvRefE
import Derived.Sort.Walk0
namespace Go.Proofs.Ytfbooapgjhhjmaa.EvWalk
open Go.RowKit Go.Proofs.Ytfbooapgjhhjmaa.MemRow Go.Proofs.Ytfbooapgjhhjmaa.Ev Go.Proofs.Ytfbooapgjhhjmaa.NameMath Go.Proofs.Ytfbooapgjhhjmaa.NameWalk

theorem less_eq (a b : ByteArray) : less a b = decide (a.data.toList < b.data.toList) := by
  unfold less
  rw [Go.Proofs.bytesLess_eq, ByteArray.toList_eq, ByteArray.toList_eq]
theorem less_irrefl (a : ByteArray) : less a a = false := by
  rw [less_eq]
  exact decide_eq_false (List.lt_irrefl _)
theorem less_trans {a b c : ByteArray} (h1 : less a b = true) (h2 : less b c = true) : less a c = true := by
  rw [less_eq] at *
  exact decide_eq_true (List.lt_trans (of_decide_eq_true h1) (of_decide_eq_true h2))
theorem less_tri {a b : ByteArray} (h1 : less a b = false) (h2 : a ≠ b) : less b a = true := by
  rw [less_eq] at *
  refine decide_eq_true ?_
  have h3 : ¬ a.data.toList < b.data.toList := of_decide_eq_false h1
  rcases List.le_iff_lt_or_eq.1 (List.not_lt.1 h3) with h | h
  · exact h
  · exact absurd (ba_ext h.symm) h2
theorem less_ne {a b : ByteArray} (h : less a b = true) : a ≠ b := by
  rintro rfl
  rw [less_irrefl] at h
  cases h

/-- Each text is ahead of all behind it. -/
def Up (l : List ByteArray) : Prop := l.Pairwise fun a b => less a b = true

theorem rise_up : ∀ (l : List ByteArray), riseB l = true ↔ Up l
  | [] => by simp [riseB, Up]
  | [a] => by simp [riseB, Up]
  | a :: b :: l => by
    have ih := rise_up (b :: l)
    unfold Up at ih ⊢
    rw [riseB, Bool.and_eq_true, ih]
    constructor
    · rintro ⟨h1, h2⟩
      refine List.pairwise_cons.2 ⟨fun x hx => ?_, h2⟩
      rcases List.mem_cons.1 hx with rfl | hx
      · exact h1
      · exact less_trans h1 ((List.pairwise_cons.1 h2).1 x hx)
    · intro h
      have h3 := List.pairwise_cons.1 h
      exact ⟨h3.1 b (by simp), h3.2⟩

theorem putL_mem (l : List ByteArray) (s x : ByteArray) : x ∈ putL l s ↔ x = s ∨ x ∈ l := by
  induction l with
  | nil => simp [putL]
  | cons a l ih =>
    rw [putL]
    split
    · rw [List.mem_cons, ih, List.mem_cons]
      constructor
      · rintro (h | h | h) <;> simp [h]
      · rintro (h | h | h) <;> simp [h]
    · split
      · next h => subst h; simp
      · simp

theorem putL_up {l : List ByteArray} (h : Up l) (s : ByteArray) : Up (putL l s) := by
  induction l with
  | nil => simp [putL, Up]
  | cons a l ih =>
    have h1 := List.pairwise_cons.1 h
    rw [putL]
    split
    · next hl =>
      refine List.pairwise_cons.2 ⟨fun x hx => ?_, ih h1.2⟩
      rcases (putL_mem l s x).1 hx with rfl | hx
      · exact hl
      · exact h1.1 x hx
    · next hl =>
      split
      · exact h
      · next hne =>
        have hs : less s a = true := less_tri (by simpa using hl) hne
        refine List.pairwise_cons.2 ⟨fun x hx => ?_, h⟩
        rcases List.mem_cons.1 hx with rfl | hx
        · exact hs
        · exact less_trans hs (h1.1 x hx)

theorem foldl_up (l m : List ByteArray) (h : Up m) : Up (l.foldl putL m) := by
  induction l generalizing m with
  | nil => exact h
  | cons a l ih => exact ih _ (putL_up h a)
theorem normTags_up (l : List ByteArray) : Up (normTags l) := foldl_up l [] (by simp [Up])
theorem foldl_mem (l m : List ByteArray) (x : ByteArray) : x ∈ l.foldl putL m ↔ x ∈ l ∨ x ∈ m := by
  induction l generalizing m with
  | nil => simp
  | cons a l ih =>
    rw [List.foldl_cons, ih, putL_mem, List.mem_cons]
    constructor
    · rintro (h | h | h) <;> simp [h]
    · rintro ((h | h) | h) <;> simp [h]
theorem normTags_mem (l : List ByteArray) (x : ByteArray) : x ∈ normTags l ↔ x ∈ l := by
  unfold normTags
  rw [foldl_mem]
  simp

/-- Texts in order that have the same elements are the same. -/
theorem up_ext : ∀ {l m : List ByteArray}, Up l → Up m → (∀ x, x ∈ l ↔ x ∈ m) → l = m
  | [], [], _, _, _ => rfl
  | [], b :: m, _, _, h => by have := (h b).2 (by simp); simp at this
  | a :: l, [], _, _, h => by have := (h a).1 (by simp); simp at this
  | a :: l, b :: m, hl, hm, h => by
    have hl1 := List.pairwise_cons.1 hl
    have hm1 := List.pairwise_cons.1 hm
    have hab : a = b := by
      by_cases e : a = b
      · exact e
      · have h1 : b ∈ l := by
          rcases List.mem_cons.1 ((h b).2 (by simp)) with e2 | h2
          · exact absurd e2.symm e
          · exact h2
        have h2 : a ∈ m := by
          rcases List.mem_cons.1 ((h a).1 (by simp)) with e2 | h2
          · exact absurd e2 e
          · exact h2
        have h3 := less_trans (hl1.1 b h1) (hm1.1 a h2)
        rw [less_irrefl] at h3
        cases h3
    subst hab
    congr 1
    refine up_ext hl1.2 hm1.2 fun x => ?_
    have hx := h x
    simp only [List.mem_cons] at hx
    constructor
    · intro hxl
      rcases hx.1 (.inr hxl) with e | h4
      · subst e
        have := hl1.1 x hxl
        rw [less_irrefl] at this
        cases this
      · exact h4
    · intro hxm
      rcases hx.2 (.inr hxm) with e | h4
      · subst e
        have := hm1.1 x hxm
        rw [less_irrefl] at this
        cases this
      · exact h4

/-- What is in order stays so. -/
theorem normTags_self {l : List ByteArray} (h : Up l) : normTags l = l := up_ext (normTags_up l) h (normTags_mem l)
theorem normTags_same {l m : List ByteArray} (h : ∀ x, x ∈ l ↔ x ∈ m) : normTags l = normTags m :=
  up_ext (normTags_up l) (normTags_up m) fun x => by rw [normTags_mem, normTags_mem, h]

theorem up_sub {l m : List ByteArray} (h : Up m) (hs : l.Sublist m) : Up l := List.Pairwise.sublist hs h

/-! ### Fields -/
theorem lastF_name (fs : List (ByteArray × Int)) (x : ByteArray) (h : x ∈ fs.map (·.1)) : (lastF fs x).1 = x := by
  suffices g : ∀ (fs : List (ByteArray × Int)) (a : ByteArray × Int), (a.1 = x ∨ x ∈ fs.map (·.1)) → (fs.foldl (fun a f => if f.1 = x then f else a) a).1 = x from g fs _ (.inr h)
  intro fs
  induction fs with
  | nil =>
    rintro a (h | h)
    · exact h
    · simp at h
  | cons f fs ih =>
    intro a h
    rw [List.foldl_cons]
    by_cases e : f.1 = x
    · rw [if_pos e]
      exact ih f (.inl e)
    · rw [if_neg e]
      refine ih a ?_
      rcases h with h | h
      · exact .inl h
      · right
        simp only [List.map_cons, List.mem_cons] at h
        rcases h with h | h
        · exact absurd h.symm e
        · exact h
theorem normFs_names (fs : List (ByteArray × Int)) : (normFs fs).map (·.1) = normTags (fs.map (·.1)) := by
  unfold normFs
  rw [List.map_map]
  conv => rhs; rw [← List.map_id (normTags (fs.map (·.1)))]
  refine List.map_congr_left fun x hx => ?_
  exact lastF_name fs x ((normTags_mem _ x).1 hx)

/-- With names in order each field is the last one with its name. -/
theorem lastF_self {fs : List (ByteArray × Int)} (h : Up (fs.map (·.1))) : (fs.map (·.1)).map (lastF fs) = fs := by
  suffices g : ∀ (pre fs : List (ByteArray × Int)), Up ((pre ++ fs).map (·.1)) → (fs.map (·.1)).map (lastF (pre ++ fs)) = fs by simpa using g [] fs (by simpa using h)
  intro pre fs
  induction fs generalizing pre with
  | nil => intro _; rfl
  | cons f fs ih =>
    intro hu
    have e : pre ++ f :: fs = (pre ++ [f]) ++ fs := by simp
    have h1 := ih (pre ++ [f]) (by rw [← e]; exact hu)
    rw [← e] at h1
    rw [List.map_cons, List.map_cons, h1]
    congr 1
    have hn : ∀ g ∈ fs, g.1 ≠ f.1 := by
      intro g hg
      have h2 : Up ((f :: fs).map (·.1)) := up_sub hu (by simp)
      have h3 := (List.pairwise_cons.1 h2).1 g.1 (List.mem_map_of_mem hg)
      exact fun e => less_ne h3 e.symm
    have hk : ∀ (l : List (ByteArray × Int)) (a : ByteArray × Int), (∀ g ∈ l, g.1 ≠ f.1) → l.foldl (fun a g => if g.1 = f.1 then g else a) a = a := by
      intro l
      induction l with
      | nil => intro a _; rfl
      | cons g l ih2 =>
        intro a hl
        rw [List.foldl_cons, if_neg (hl g (by simp))]
        exact ih2 a fun g hg => hl g (by simp [hg])
    unfold lastF
    rw [List.foldl_append, List.foldl_cons, if_pos rfl]
    exact hk fs f hn
theorem normFs_self {fs : List (ByteArray × Int)} (h : Up (fs.map (·.1))) : normFs fs = fs := by
  unfold normFs
  rw [normTags_self h, lastF_self h]
theorem normFs_up (fs : List (ByteArray × Int)) : Up ((normFs fs).map (·.1)) := by
  rw [normFs_names]
  exact normTags_up _

theorem normE_norm (e : Ev) : normE (normE e) = normE e := by
  unfold normE
  simp only
  rw [normTags_self (normTags_up _), normFs_self (normFs_up _)]
theorem normE_tags {e : Ev} {ts : List ByteArray} (h : ∀ x, x ∈ ts ↔ x ∈ e.tags) : normE ⟨e.s, e.t, ts, e.fs⟩ = normE e := by
  unfold normE
  simp only
  rw [normTags_same h]

/-- What it is for an event to be one that may be. -/
theorem mayE_zero (e : Ev) : mayE e = 0 ↔ nameB e.s = true ∧ nameB e.t = true ∧ e.tags.length ≤ 6 ∧ e.fs.length ≤ 4 ∧ (e.fs.all fun f => nameB f.1) = true ∧ e.tags.all tagB = true ∧ e.fs.all fitB = true ∧ Up e.tags ∧ Up (e.fs.map (·.1)) := by
  rw [← rise_up, ← rise_up]
  unfold mayE
  by_cases h1 : (nameB e.s && nameB e.t) = false
  · rw [if_pos h1]
    simp only [Bool.and_eq_false_iff] at h1
    constructor
    · intro h; omega
    · rintro ⟨a, b, _⟩
      rcases h1 with h1 | h1
      · rw [a] at h1; cases h1
      · rw [b] at h1; cases h1
  · rw [if_neg h1]
    simp only [Bool.not_eq_false, Bool.and_eq_true] at h1
    by_cases h2 : 6 < e.tags.length ∨ 4 < e.fs.length
    · rw [if_pos h2]
      constructor
      · intro h; omega
      · rintro ⟨_, _, a, b, _⟩; omega
    · rw [if_neg h2]
      by_cases h3 : ((e.fs.all fun f => nameB f.1) && e.tags.all tagB) = false
      · rw [if_pos h3]
        constructor
        · intro h; omega
        · rintro ⟨_, _, _, _, a, b, _⟩
          rw [a, b] at h3
          cases h3
      · rw [if_neg h3]
        simp only [Bool.not_eq_false, Bool.and_eq_true] at h3
        by_cases h4 : (e.fs.all fitB && (riseB e.tags && riseB (e.fs.map (·.1)))) = false
        · rw [if_pos h4]
          constructor
          · intro h; omega
          · rintro ⟨_, _, _, _, _, _, a, b, c⟩
            rw [a, b, c] at h4
            cases h4
        · rw [if_neg h4]
          simp only [Bool.not_eq_false, Bool.and_eq_true] at h4
          refine ⟨fun _ => ⟨h1.1, h1.2, by omega, by omega, h3.1, h3.2, h4.1, h4.2.1, h4.2.2⟩, fun _ => rfl⟩

/-- An event that may be is in order. -/
theorem normE_may {e : Ev} (h : mayE e = 0) : normE e = e := by
  obtain ⟨_, _, _, _, _, _, _, h1, h2⟩ := (mayE_zero e).1 h
  unfold normE
  rw [normTags_self h1, normFs_self h2]

/-- The value of a field whose name stands once. -/
theorem value_up {fs : List (ByteArray × Int)} (h : Up (fs.map (·.1))) {f : ByteArray × Int} (hf : f ∈ fs) : valueF fs f.1 = (f.2, true) := by
  induction fs with
  | nil => simp at hf
  | cons g fs ih =>
    have h1 := List.pairwise_cons.1 h
    rw [valueF]
    rcases List.mem_cons.1 hf with rfl | hf
    · rw [if_pos rfl]
    · have h2 := less_ne (h1.1 f.1 (List.mem_map_of_mem hf))
      rw [if_neg h2]
      exact ih h1.2 hf
theorem value_none {fs : List (ByteArray × Int)} {x : ByteArray} (h : x ∉ fs.map (·.1)) : valueF fs x = (0, false) := by
  induction fs with
  | nil => rfl
  | cons g fs ih =>
    simp only [List.map_cons, List.mem_cons, not_or] at h
    rw [valueF, if_neg (fun e => h.1 e.symm)]
    exact ih h.2

theorem hasB_norm (e : Ev) (x : ByteArray) : hasB (normE e).tags x = hasB e.tags x := by
  rw [Bool.eq_iff_iff, hasB_mem, hasB_mem]
  exact normTags_mem _ _

theorem lastF_mem (fs : List (ByteArray × Int)) (x : ByteArray) (h : x ∈ fs.map (·.1)) : lastF fs x ∈ fs := by
  suffices g : ∀ (fs : List (ByteArray × Int)) (a : ByteArray × Int), (x ∈ fs.map (·.1)) → (fs.foldl (fun a f => if f.1 = x then f else a) a) ∈ fs from g fs _ h
  intro fs
  induction fs with
  | nil => intro a h; simp at h
  | cons f fs ih =>
    intro a h
    rw [List.foldl_cons]
    by_cases hx : x ∈ fs.map (·.1)
    · exact List.mem_cons_of_mem _ (ih _ hx)
    · have hk : ∀ (l : List (ByteArray × Int)) (b : ByteArray × Int), x ∉ l.map (·.1) → l.foldl (fun a g => if g.1 = x then g else a) b = b := by
        intro l
        induction l with
        | nil => intro b _; rfl
        | cons g l ih2 =>
          intro b hl
          simp only [List.map_cons, List.mem_cons, not_or] at hl
          rw [List.foldl_cons, if_neg (fun e => hl.1 e.symm)]
          exact ih2 b hl.2
      rw [hk fs _ hx]
      simp only [List.map_cons, List.mem_cons] at h
      rcases h with h | h
      · rw [if_pos h.symm]; simp
      · exact absurd h hx
theorem normFs_mem {fs : List (ByteArray × Int)} {f : ByteArray × Int} (h : f ∈ normFs fs) : f ∈ fs := by
  unfold normFs at h
  obtain ⟨x, hx, rfl⟩ := List.mem_map.1 h
  exact lastF_mem fs x ((normTags_mem _ x).1 hx)
theorem normFs_len (fs : List (ByteArray × Int)) : (normFs fs).length ≤ fs.length := by
  unfold normFs
  rw [List.length_map]
  have := normTags_len (fs.map (·.1))
  rwa [List.length_map] at this

/-- What comes of an event whose order alone, or whose numbers, are not as they should be. -/
theorem mayE_norm {e : Ev} (h : mayE e = 1) : mayE (normE e) = 0 ∨ mayE (normE e) = 1 := by
  have hl1 := normTags_len e.tags
  have hl2 := normFs_len e.fs
  show mayE ⟨e.s, e.t, normTags e.tags, normFs e.fs⟩ = 0 ∨ mayE ⟨e.s, e.t, normTags e.tags, normFs e.fs⟩ = 1
  unfold mayE at h ⊢
  simp only at h ⊢
  by_cases h1 : (nameB e.s && nameB e.t) = false
  · rw [if_pos h1] at h; omega
  rw [if_neg h1] at h ⊢
  by_cases h2 : 6 < e.tags.length ∨ 4 < e.fs.length
  · rw [if_pos h2] at h; omega
  rw [if_neg h2] at h
  rw [if_neg (by omega)]
  by_cases h3 : ((e.fs.all fun f => nameB f.1) && e.tags.all tagB) = false
  · rw [if_pos h3] at h; omega
  simp only [Bool.not_eq_false, Bool.and_eq_true, List.all_eq_true] at h3
  have h4 : (((normFs e.fs).all fun f => nameB f.1) && (normTags e.tags).all tagB) = true := by
    rw [Bool.and_eq_true, List.all_eq_true, List.all_eq_true]
    exact ⟨fun f hf => h3.1 f (normFs_mem hf), fun x hx => h3.2 x ((normTags_mem _ x).1 hx)⟩
  rw [h4, if_neg (by decide)]
  split
  · exact .inr rfl
  · exact .inl rfl

/-! ### Without one, with one twice -/
theorem up_without {l : List ByteArray} (h : Up l) (i : Nat) : Up (l.take i ++ l.drop (i + 1)) := by
  refine up_sub h ?_
  conv => rhs; rw [← List.take_append_drop i l]
  exact List.Sublist.append (List.Sublist.refl _) (by rw [show l.drop (i + 1) = (l.drop i).drop 1 by rw [List.drop_drop]]; exact List.drop_sublist _ _)
theorem mem_without {α : Type} {l : List α} {i : Nat} {x : α} (h : x ∈ l.take i ++ l.drop (i + 1)) : x ∈ l := by
  rcases List.mem_append.1 h with h | h
  · exact List.mem_of_mem_take h
  · exact List.mem_of_mem_drop h
theorem up_not {l : List ByteArray} (h : Up l) {i : Nat} (hi : i < l.length) : l.getD i ByteArray.empty ∉ l.take i ++ l.drop (i + 1) := by
  have e : l = l.take i ++ l.getD i ByteArray.empty :: l.drop (i + 1) := by
    conv => lhs; rw [← List.take_append_drop i l, List.drop_eq_getElem_cons hi]
    simp [List.getD, List.getElem?_eq_getElem hi]
  rw [e] at h
  have h1 := List.pairwise_append.1 h
  have h2 := List.pairwise_cons.1 h1.2.1
  intro hm
  rcases List.mem_append.1 hm with hm | hm
  · exact less_ne (h1.2.2 _ hm _ (by simp)) rfl
  · exact less_ne (h2.1 _ hm) rfl
theorem up_twice {l : List ByteArray} {i : Nat} (hi : i < l.length) : ¬ Up (l.take (i + 1) ++ l.drop i) := by
  intro h
  have h1 := List.pairwise_append.1 h
  have ha : l[i] ∈ l.take (i + 1) := by rw [List.take_succ_eq_append_getElem hi]; exact List.mem_append.2 (.inr (List.mem_singleton.2 rfl))
  have hb : l[i] ∈ l.drop i := by rw [List.drop_eq_getElem_cons hi]; exact List.mem_cons_self
  exact less_ne (h1.2.2 _ ha _ hb) rfl

/-- Without one of its tags. -/
theorem mayE_less {e : Ev} (h : mayE e = 0) (i : Nat) : mayE ⟨e.s, e.t, e.tags.take i ++ e.tags.drop (i + 1), e.fs⟩ = 0 := by
  obtain ⟨h1, h2, h3, h4, h5, h6, h7, h8, h9⟩ := (mayE_zero e).1 h
  refine (mayE_zero _).2 ⟨h1, h2, ?_, h4, h5, ?_, h7, up_without h8 i, h9⟩
  · simp only [List.length_append, List.length_take, List.length_drop]; omega
  · rw [List.all_eq_true] at h6 ⊢
    exact fun x hx => h6 x (mem_without hx)
/-- With one of its tags twice. -/
theorem mayE_more {e : Ev} {i : Nat} (hi : i < e.tags.length) : mayE ⟨e.s, e.t, e.tags.take (i + 1) ++ e.tags.drop i, e.fs⟩ ≠ 0 :=
  fun h => up_twice hi ((mayE_zero _).1 h).2.2.2.2.2.2.2.1
/-- Without one of its fields. -/
theorem mayE_lessF {e : Ev} (h : mayE e = 0) (k : Nat) : mayE ⟨e.s, e.t, e.tags, e.fs.take k ++ e.fs.drop (k + 1)⟩ = 0 := by
  obtain ⟨h1, h2, h3, h4, h5, h6, h7, h8, h9⟩ := (mayE_zero e).1 h
  refine (mayE_zero _).2 ⟨h1, h2, h3, ?_, ?_, h6, ?_, h8, ?_⟩
  · simp only [List.length_append, List.length_take, List.length_drop]; omega
  · rw [List.all_eq_true] at h5 ⊢
    exact fun x hx => h5 x (mem_without hx)
  · rw [List.all_eq_true] at h7 ⊢
    exact fun x hx => h7 x (mem_without hx)
  · simp only [List.map_append, List.map_take, List.map_drop]
    exact up_without h9 k

end Go.Proofs.Ytfbooapgjhhjmaa.EvWalk
