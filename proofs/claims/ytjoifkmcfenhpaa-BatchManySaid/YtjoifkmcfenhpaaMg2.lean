/-
  Mathematics of layer 4: the order of texts, what is put in order, events that may be. No walk here.
-/
import Derived.Sort.Walk0
import Derived.Lib.Varint
import Derived.Lib.Zigzag
import Derived.Laws.MathBits
import Derived.Test.YtjoifkmcfenhpaaProg
import Derived.WalkKit
import Derived.KernelRfl
import Derived.Lib.BitFns
import Derived.Lib.Walk
import Derived.Lib.Hide
import Derived.WalkSpells
import Derived.Laws.CopyOwn
import Derived.Maps.AppendAt
import Derived.OwnWalk
import Derived.Laws.IdiomStrings
import Derived.Deep.DeepCutAuto
import Derived.Deep.RegionHeld
import Derived.Deep.Slices
import Derived.Lib.SmallJoins
import Derived.BigQuiet
import Derived.Deep.RegionLaw
import Derived.Test.YtjoifkmcfenhpaaMg1
namespace Go.Proofs.Ytjoifkmcfenhpaa.EvWalk
open Go.RowKit Go.Proofs.Ytjoifkmcfenhpaa.MemRow Go.Proofs.Ytjoifkmcfenhpaa.Ev Go.Proofs.Ytjoifkmcfenhpaa.NameMath Go.Proofs.Ytjoifkmcfenhpaa.NameWalk

theorem less_eq (a b : ByteArray) : less a b = decide (a.data.toList < b.data.toList) := by
  unfold less
  rw [Go.Proofs.bytesLess_eq, ByteArray.toList_eq, ByteArray.toList_eq]
theorem less_irrefl (a : ByteArray) : less a a = false := by
  rw [less_eq]
  exact decide_eq_false (List.lt_irrefl _)
theorem less_trans {a b c : ByteArray} (h1 : less a b = true) (h2 : less b c = true) : less a c = true := by
  rw [less_eq] at *
  exact decide_eq_true (List.lt_trans (of_decide_eq_true h1) (of_decide_eq_true h2))
theorem less_tri {a b : ByteArray} (h1 : less a b = false) (h2 : a ≠ b) : less b a = true := by
  rw [less_eq] at *
  refine decide_eq_true ?_
  have h3 : ¬ a.data.toList < b.data.toList := of_decide_eq_false h1
  rcases List.le_iff_lt_or_eq.1 (List.not_lt.1 h3) with h | h
  · exact h
  · exact absurd (ba_ext h.symm) h2
theorem less_ne {a b : ByteArray} (h : less a b = true) : a ≠ b := by
  rintro rfl
  rw [less_irrefl] at h
  cases h

/-- Each text is ahead of all behind it. -/
def Up (l : List ByteArray) : Prop := l.Pairwise fun a b => less a b = true

theorem rise_up : ∀ (l : List ByteArray), riseB l = true ↔ Up l
  | [] => by simp [riseB, Up]
  | [a] => by simp [riseB, Up]
  | a :: b :: l => by
    have ih := rise_up (b :: l)
    unfold Up at ih ⊢
    rw [riseB, Bool.and_eq_true, ih]
    constructor
    · rintro ⟨h1, h2⟩
      refine List.pairwise_cons.2 ⟨fun x hx => ?_, h2⟩
      rcases List.mem_cons.1 hx with rfl | hx
      · exact h1
      · exact less_trans h1 ((List.pairwise_cons.1 h2).1 x hx)
    · intro h
      have h3 := List.pairwise_cons.1 h
      exact ⟨h3.1 b (by simp), h3.2⟩

theorem putL_mem (l : List ByteArray) (s x : ByteArray) : x ∈ putL l s ↔ x = s ∨ x ∈ l := by
  induction l with
  | nil => simp [putL]
  | cons a l ih =>
    rw [putL]
    split
    · rw [List.mem_cons, ih, List.mem_cons]
      constructor
      · rintro (h | h | h) <;> simp [h]
      · rintro (h | h | h) <;> simp [h]
    · split
      · next h => subst h; simp
      · simp

theorem putL_up {l : List ByteArray} (h : Up l) (s : ByteArray) : Up (putL l s) := by
  induction l with
  | nil => simp [putL, Up]
  | cons a l ih =>
    have h1 := List.pairwise_cons.1 h
    rw [putL]
    split
    · next hl =>
      refine List.pairwise_cons.2 ⟨fun x hx => ?_, ih h1.2⟩
      rcases (putL_mem l s x).1 hx with rfl | hx
      · exact hl
      · exact h1.1 x hx
    · next hl =>
      split
      · exact h
      · next hne =>
        have hs : less s a = true := less_tri (by simpa using hl) hne
        refine List.pairwise_cons.2 ⟨fun x hx => ?_, h⟩
        rcases List.mem_cons.1 hx with rfl | hx
        · exact hs
        · exact less_trans hs (h1.1 x hx)

theorem foldl_up (l m : List ByteArray) (h : Up m) : Up (l.foldl putL m) := by
  induction l generalizing m with
  | nil => exact h
  | cons a l ih => exact ih _ (putL_up h a)
theorem normTags_up (l : List ByteArray) : Up (normTags l) := foldl_up l [] (by simp [Up])
theorem foldl_mem (l m : List ByteArray) (x : ByteArray) : x ∈ l.foldl putL m ↔ x ∈ l ∨ x ∈ m := by
  induction l generalizing m with
  | nil => simp
  | cons a l ih =>
    rw [List.foldl_cons, ih, putL_mem, List.mem_cons]
    constructor
    · rintro (h | h | h) <;> simp [h]
    · rintro ((h | h) | h) <;> simp [h]
theorem normTags_mem (l : List ByteArray) (x : ByteArray) : x ∈ normTags l ↔ x ∈ l := by
  unfold normTags
  rw [foldl_mem]
  simp

/-- Texts in order that have the same elements are the same. -/
theorem up_ext : ∀ {l m : List ByteArray}, Up l → Up m → (∀ x, x ∈ l ↔ x ∈ m) → l = m
  | [], [], _, _, _ => rfl
  | [], b :: m, _, _, h => by have := (h b).2 (by simp); simp at this
  | a :: l, [], _, _, h => by have := (h a).1 (by simp); simp at this
  | a :: l, b :: m, hl, hm, h => by
    have hl1 := List.pairwise_cons.1 hl
    have hm1 := List.pairwise_cons.1 hm
    have hab : a = b := by
      by_cases e : a = b
      · exact e
      · have h1 : b ∈ l := by
          rcases List.mem_cons.1 ((h b).2 (by simp)) with e2 | h2
          · exact absurd e2.symm e
          · exact h2
        have h2 : a ∈ m := by
          rcases List.mem_cons.1 ((h a).1 (by simp)) with e2 | h2
          · exact absurd e2 e
          · exact h2
        have h3 := less_trans (hl1.1 b h1) (hm1.1 a h2)
        rw [less_irrefl] at h3
        cases h3
    subst hab
    congr 1
    refine up_ext hl1.2 hm1.2 fun x => ?_
    have hx := h x
    simp only [List.mem_cons] at hx
    constructor
    · intro hxl
      rcases hx.1 (.inr hxl) with e | h4
      · subst e
        have := hl1.1 x hxl
        rw [less_irrefl] at this
        cases this
      · exact h4
    · intro hxm
      rcases hx.2 (.inr hxm) with e | h4
      · subst e
        have := hm1.1 x hxm
        rw [less_irrefl] at this
        cases this
      · exact h4

/-- What is in order stays so. -/
theorem normTags_self {l : List ByteArray} (h : Up l) : normTags l = l := up_ext (normTags_up l) h (normTags_mem l)
theorem normTags_same {l m : List ByteArray} (h : ∀ x, x ∈ l ↔ x ∈ m) : normTags l = normTags m :=
  up_ext (normTags_up l) (normTags_up m) fun x => by rw [normTags_mem, normTags_mem, h]

theorem up_sub {l m : List ByteArray} (h : Up m) (hs : l.Sublist m) : Up l := List.Pairwise.sublist hs h

/-! ### Fields -/
theorem lastF_name (fs : List (ByteArray × Int)) (x : ByteArray) (h : x ∈ fs.map (·.1)) : (lastF fs x).1 = x := by
  suffices g : ∀ (fs : List (ByteArray × Int)) (a : ByteArray × Int), (a.1 = x ∨ x ∈ fs.map (·.1)) → (fs.foldl (fun a f => if f.1 = x then f else a) a).1 = x from g fs _ (.inr h)
  intro fs
  induction fs with
  | nil =>
    rintro a (h | h)
    · exact h
    · simp at h
  | cons f fs ih =>
    intro a h
    rw [List.foldl_cons]
    by_cases e : f.1 = x
    · rw [if_pos e]
      exact ih f (.inl e)
    · rw [if_neg e]
      refine ih a ?_
      rcases h with h | h
      · exact .inl h
      · right
        simp only [List.map_cons, List.mem_cons] at h
        rcases h with h | h
        · exact absurd h.symm e
        · exact h
theorem normFs_names (fs : List (ByteArray × Int)) : (normFs fs).map (·.1) = normTags (fs.map (·.1)) := by
  unfold normFs
  rw [List.map_map]
  conv => rhs; rw [← List.map_id (normTags (fs.map (·.1)))]
  refine List.map_congr_left fun x hx => ?_
  exact lastF_name fs x ((normTags_mem _ x).1 hx)

/-- With names in order each field is the last one with its name. -/
theorem lastF_self {fs : List (ByteArray × Int)} (h : Up (fs.map (·.1))) : (fs.map (·.1)).map (lastF fs) = fs := by
  suffices g : ∀ (pre fs : List (ByteArray × Int)), Up ((pre ++ fs).map (·.1)) → (fs.map (·.1)).map (lastF (pre ++ fs)) = fs by simpa using g [] fs (by simpa using h)
  intro pre fs
  induction fs generalizing pre with
  | nil => intro _; rfl
  | cons f fs ih =>
    intro hu
    have e : pre ++ f :: fs = (pre ++ [f]) ++ fs := by simp
    have h1 := ih (pre ++ [f]) (by rw [← e]; exact hu)
    rw [← e] at h1
    rw [List.map_cons, List.map_cons, h1]
    congr 1
    have hn : ∀ g ∈ fs, g.1 ≠ f.1 := by
      intro g hg
      have h2 : Up ((f :: fs).map (·.1)) := up_sub hu (by simp)
      have h3 := (List.pairwise_cons.1 h2).1 g.1 (List.mem_map_of_mem hg)
      exact fun e => less_ne h3 e.symm
    have hk : ∀ (l : List (ByteArray × Int)) (a : ByteArray × Int), (∀ g ∈ l, g.1 ≠ f.1) → l.foldl (fun a g => if g.1 = f.1 then g else a) a = a := by
      intro l
      induction l with
      | nil => intro a _; rfl
      | cons g l ih2 =>
        intro a hl
        rw [List.foldl_cons, if_neg (hl g (by simp))]
        exact ih2 a fun g hg => hl g (by simp [hg])
    unfold lastF
    rw [List.foldl_append, List.foldl_cons, if_pos rfl]
    exact hk fs f hn
theorem normFs_self {fs : List (ByteArray × Int)} (h : Up (fs.map (·.1))) : normFs fs = fs := by
  unfold normFs
  rw [normTags_self h, lastF_self h]
theorem normFs_up (fs : List (ByteArray × Int)) : Up ((normFs fs).map (·.1)) := by
  rw [normFs_names]
  exact normTags_up _

theorem normE_norm (e : Ev) : normE (normE e) = normE e := by
  unfold normE
  simp only
  rw [normTags_self (normTags_up _), normFs_self (normFs_up _)]
theorem normE_tags {e : Ev} {ts : List ByteArray} (h : ∀ x, x ∈ ts ↔ x ∈ e.tags) : normE ⟨e.s, e.t, ts, e.fs⟩ = normE e := by
  unfold normE
  simp only
  rw [normTags_same h]

/-- What it is for an event to be one that may be. -/
theorem mayE_zero (e : Ev) : mayE e = 0 ↔ nameB e.s = true ∧ nameB e.t = true ∧ e.tags.length ≤ 6 ∧ e.fs.length ≤ 4 ∧ (e.fs.all fun f => nameB f.1) = true ∧ e.tags.all tagB = true ∧ e.fs.all fitB = true ∧ Up e.tags ∧ Up (e.fs.map (·.1)) := by
  rw [← rise_up, ← rise_up]
  unfold mayE
  by_cases h1 : (nameB e.s && nameB e.t) = false
  · rw [if_pos h1]
    simp only [Bool.and_eq_false_iff] at h1
    constructor
    · intro h; omega
    · rintro ⟨a, b, _⟩
      rcases h1 with h1 | h1
      · rw [a] at h1; cases h1
      · rw [b] at h1; cases h1
  · rw [if_neg h1]
    simp only [Bool.not_eq_false, Bool.and_eq_true] at h1
    by_cases h2 : 6 < e.tags.length ∨ 4 < e.fs.length
    · rw [if_pos h2]
      constructor
      · intro h; omega
      · rintro ⟨_, _, a, b, _⟩; omega
    · rw [if_neg h2]
      by_cases h3 : ((e.fs.all fun f => nameB f.1) && e.tags.all tagB) = false
      · rw [if_pos h3]
        constructor
        · intro h; omega
        · rintro ⟨_, _, _, _, a, b, _⟩
          rw [a, b] at h3
          cases h3
      · rw [if_neg h3]
        simp only [Bool.not_eq_false, Bool.and_eq_true] at h3
        by_cases h4 : (e.fs.all fitB && (riseB e.tags && riseB (e.fs.map (·.1)))) = false
        · rw [if_pos h4]
          constructor
          · intro h; omega
          · rintro ⟨_, _, _, _, _, _, a, b, c⟩
            rw [a, b, c] at h4
            cases h4
        · rw [if_neg h4]
          simp only [Bool.not_eq_false, Bool.and_eq_true] at h4
          refine ⟨fun _ => ⟨h1.1, h1.2, by omega, by omega, h3.1, h3.2, h4.1, h4.2.1, h4.2.2⟩, fun _ => rfl⟩

/-- An event that may be is in order. -/
theorem normE_may {e : Ev} (h : mayE e = 0) : normE e = e := by
  obtain ⟨_, _, _, _, _, _, _, h1, h2⟩ := (mayE_zero e).1 h
  unfold normE
  rw [normTags_self h1, normFs_self h2]

/-- The value of a field whose name stands once. -/
theorem value_up {fs : List (ByteArray × Int)} (h : Up (fs.map (·.1))) {f : ByteArray × Int} (hf : f ∈ fs) : valueF fs f.1 = (f.2, true) := by
  induction fs with
  | nil => simp at hf
  | cons g fs ih =>
    have h1 := List.pairwise_cons.1 h
    rw [valueF]
    rcases List.mem_cons.1 hf with rfl | hf
    · rw [if_pos rfl]
    · have h2 := less_ne (h1.1 f.1 (List.mem_map_of_mem hf))
      rw [if_neg h2]
      exact ih h1.2 hf
theorem value_none {fs : List (ByteArray × Int)} {x : ByteArray} (h : x ∉ fs.map (·.1)) : valueF fs x = (0, false) := by
  induction fs with
  | nil => rfl
  | cons g fs ih =>
    simp only [List.map_cons, List.mem_cons, not_or] at h
    rw [valueF, if_neg (fun e => h.1 e.symm)]
    exact ih h.2

theorem hasB_norm (e : Ev) (x : ByteArray) : hasB (normE e).tags x = hasB e.tags x := by
  rw [Bool.eq_iff_iff, hasB_mem, hasB_mem]
  exact normTags_mem _ _

theorem lastF_mem (fs : List (ByteArray × Int)) (x : ByteArray) (h : x ∈ fs.map (·.1)) : lastF fs x ∈ fs := by
  suffices g : ∀ (fs : List (ByteArray × Int)) (a : ByteArray × Int), (x ∈ fs.map (·.1)) → (fs.foldl (fun a f => if f.1 = x then f else a) a) ∈ fs from g fs _ h
  intro fs
  induction fs with
  | nil => intro a h; simp at h
  | cons f fs ih =>
    intro a h
    rw [List.foldl_cons]
    by_cases hx : x ∈ fs.map (·.1)
    · exact List.mem_cons_of_mem _ (ih _ hx)
    · have hk : ∀ (l : List (ByteArray × Int)) (b : ByteArray × Int), x ∉ l.map (·.1) → l.foldl (fun a g => if g.1 = x then g else a) b = b := by
        intro l
        induction l with
        | nil => intro b _; rfl
        | cons g l ih2 =>
          intro b hl
          simp only [List.map_cons, List.mem_cons, not_or] at hl
          rw [List.foldl_cons, if_neg (fun e => hl.1 e.symm)]
          exact ih2 b hl.2
      rw [hk fs _ hx]
      simp only [List.map_cons, List.mem_cons] at h
      rcases h with h | h
      · rw [if_pos h.symm]; simp
      · exact absurd h hx
theorem normFs_mem {fs : List (ByteArray × Int)} {f : ByteArray × Int} (h : f ∈ normFs fs) : f ∈ fs := by
  unfold normFs at h
  obtain ⟨x, hx, rfl⟩ := List.mem_map.1 h
  exact lastF_mem fs x ((normTags_mem _ x).1 hx)
theorem normFs_len (fs : List (ByteArray × Int)) : (normFs fs).length ≤ fs.length := by
  unfold normFs
  rw [List.length_map]
  have := normTags_len (fs.map (·.1))
  rwa [List.length_map] at this

/-- What comes of an event whose order alone, or whose numbers, are not as they should be. -/
theorem mayE_norm {e : Ev} (h : mayE e = 1) : mayE (normE e) = 0 ∨ mayE (normE e) = 1 := by
  have hl1 := normTags_len e.tags
  have hl2 := normFs_len e.fs
  show mayE ⟨e.s, e.t, normTags e.tags, normFs e.fs⟩ = 0 ∨ mayE ⟨e.s, e.t, normTags e.tags, normFs e.fs⟩ = 1
  unfold mayE at h ⊢
  simp only at h ⊢
  by_cases h1 : (nameB e.s && nameB e.t) = false
  · rw [if_pos h1] at h; omega
  rw [if_neg h1] at h ⊢
  by_cases h2 : 6 < e.tags.length ∨ 4 < e.fs.length
  · rw [if_pos h2] at h; omega
  rw [if_neg h2] at h
  rw [if_neg (by omega)]
  by_cases h3 : ((e.fs.all fun f => nameB f.1) && e.tags.all tagB) = false
  · rw [if_pos h3] at h; omega
  simp only [Bool.not_eq_false, Bool.and_eq_true, List.all_eq_true] at h3
  have h4 : (((normFs e.fs).all fun f => nameB f.1) && (normTags e.tags).all tagB) = true := by
    rw [Bool.and_eq_true, List.all_eq_true, List.all_eq_true]
    exact ⟨fun f hf => h3.1 f (normFs_mem hf), fun x hx => h3.2 x ((normTags_mem _ x).1 hx)⟩
  rw [h4, if_neg (by decide)]
  split
  · exact .inr rfl
  · exact .inl rfl

/-! ### Without one, with one twice -/
theorem up_without {l : List ByteArray} (h : Up l) (i : Nat) : Up (l.take i ++ l.drop (i + 1)) := by
  refine up_sub h ?_
  conv => rhs; rw [← List.take_append_drop i l]
  exact List.Sublist.append (List.Sublist.refl _) (by rw [show l.drop (i + 1) = (l.drop i).drop 1 by rw [List.drop_drop]]; exact List.drop_sublist _ _)
theorem mem_without {α : Type} {l : List α} {i : Nat} {x : α} (h : x ∈ l.take i ++ l.drop (i + 1)) : x ∈ l := by
  rcases List.mem_append.1 h with h | h
  · exact List.mem_of_mem_take h
  · exact List.mem_of_mem_drop h
theorem up_not {l : List ByteArray} (h : Up l) {i : Nat} (hi : i < l.length) : l.getD i ByteArray.empty ∉ l.take i ++ l.drop (i + 1) := by
  have e : l = l.take i ++ l.getD i ByteArray.empty :: l.drop (i + 1) := by
    conv => lhs; rw [← List.take_append_drop i l, List.drop_eq_getElem_cons hi]
    simp [List.getD, List.getElem?_eq_getElem hi]
  rw [e] at h
  have h1 := List.pairwise_append.1 h
  have h2 := List.pairwise_cons.1 h1.2.1
  intro hm
  rcases List.mem_append.1 hm with hm | hm
  · exact less_ne (h1.2.2 _ hm _ (by simp)) rfl
  · exact less_ne (h2.1 _ hm) rfl
theorem up_twice {l : List ByteArray} {i : Nat} (hi : i < l.length) : ¬ Up (l.take (i + 1) ++ l.drop i) := by
  intro h
  have h1 := List.pairwise_append.1 h
  have ha : l[i] ∈ l.take (i + 1) := by rw [List.take_succ_eq_append_getElem hi]; exact List.mem_append.2 (.inr (List.mem_singleton.2 rfl))
  have hb : l[i] ∈ l.drop i := by rw [List.drop_eq_getElem_cons hi]; exact List.mem_cons_self
  exact less_ne (h1.2.2 _ ha _ hb) rfl

/-- Without one of its tags. -/
theorem mayE_less {e : Ev} (h : mayE e = 0) (i : Nat) : mayE ⟨e.s, e.t, e.tags.take i ++ e.tags.drop (i + 1), e.fs⟩ = 0 := by
  obtain ⟨h1, h2, h3, h4, h5, h6, h7, h8, h9⟩ := (mayE_zero e).1 h
  refine (mayE_zero _).2 ⟨h1, h2, ?_, h4, h5, ?_, h7, up_without h8 i, h9⟩
  · simp only [List.length_append, List.length_take, List.length_drop]; omega
  · rw [List.all_eq_true] at h6 ⊢
    exact fun x hx => h6 x (mem_without hx)
/-- With one of its tags twice. -/
theorem mayE_more {e : Ev} {i : Nat} (hi : i < e.tags.length) : mayE ⟨e.s, e.t, e.tags.take (i + 1) ++ e.tags.drop i, e.fs⟩ ≠ 0 :=
  fun h => up_twice hi ((mayE_zero _).1 h).2.2.2.2.2.2.2.1
/-- Without one of its fields. -/
theorem mayE_lessF {e : Ev} (h : mayE e = 0) (k : Nat) : mayE ⟨e.s, e.t, e.tags, e.fs.take k ++ e.fs.drop (k + 1)⟩ = 0 := by
  obtain ⟨h1, h2, h3, h4, h5, h6, h7, h8, h9⟩ := (mayE_zero e).1 h
  refine (mayE_zero _).2 ⟨h1, h2, h3, ?_, ?_, h6, ?_, h8, ?_⟩
  · simp only [List.length_append, List.length_take, List.length_drop]; omega
  · rw [List.all_eq_true] at h5 ⊢
    exact fun x hx => h5 x (mem_without hx)
  · rw [List.all_eq_true] at h7 ⊢
    exact fun x hx => h7 x (mem_without hx)
  · simp only [List.map_append, List.map_take, List.map_drop]
    exact up_without h9 k

end Go.Proofs.Ytjoifkmcfenhpaa.EvWalk

/-
  Plain mathematics of layer 1 (num): how many bytes a varint has, what its bytes come to, and that decoding undoes encoding. No Go text and no model here.
-/
namespace Go.Proofs.Ytjoifkmcfenhpaa.NumMath
open Go.Lib (uvarint uvarint_small uvarint_big uvarint_pos uvarint_length64 zigzag)

/-- The number of bytes of u by its bits: (bits of (u or 1) + 6) / 7. -/
def sizeV (u : Nat) : Nat := (bitLen (u ||| 1) + 6) / 7

theorem or_one (u : Nat) : u ||| 1 = u / 2 * 2 + 1 := by
  apply Nat.eq_of_testBit_eq
  intro i
  cases i with
  | zero => simp [Nat.testBit_zero]
  | succ i =>
    have h : (u / 2 * 2 + 1) / 2 = u / 2 := by omega
    have h1 : (1 : Nat) / 2 = 0 := by decide
    rw [Nat.testBit_or, Nat.testBit_succ, Nat.testBit_succ, Nat.testBit_succ, h, h1]
    simp

theorem bitLen_of {n k : Nat} (hlo : 2 ^ k ≤ n) (hhi : n < 2 ^ (k + 1)) : bitLen n = k + 1 := by
  have h0 : n ≠ 0 := by have := Nat.two_pow_pos k; omega
  unfold bitLen
  rw [if_neg h0, (Nat.log2_eq_iff h0).2 ⟨hlo, hhi⟩]

theorem bitLen_le {n k : Nat} (h : n < 2 ^ k) : bitLen n ≤ k := by
  unfold bitLen
  split
  · omega
  · rename_i h0
    have := (Nat.log2_lt h0).2 h
    omega

theorem sizeV_small {u : Nat} (h : u < 128) : sizeV u = 1 := by
  unfold sizeV
  have e := or_one u
  have h1 : bitLen (u ||| 1) ≤ 7 := bitLen_le (by omega)
  have h2 : 1 ≤ bitLen (u ||| 1) := by
    unfold bitLen
    rw [if_neg (by omega)]
    omega
  omega

theorem sizeV_big {u : Nat} (h : 128 ≤ u) : sizeV u = sizeV (u / 128) + 1 := by
  unfold sizeV
  have e := or_one u
  have e' := or_one (u / 128)
  have h1 : (u ||| 1) / 2 ^ 7 = u / 128 := by omega
  have h2 : bitLen (u ||| 1) = 7 + bitLen (u / 128) := by
    rw [bitLen_shift (u ||| 1) 7 (by omega), h1]
  have h3 : bitLen (u / 128 ||| 1) = bitLen (u / 128) := by
    have h0 : u / 128 ≠ 0 := by omega
    generalize u / 128 = q at *
    unfold bitLen
    rw [if_neg h0, if_neg (by omega)]
    have ha := Nat.log2_self_le h0
    have hb : q < 2 ^ (q.log2 + 1) := Nat.lt_log2_self
    have hc : (q ||| 1).log2 = q.log2 := by
      refine (Nat.log2_eq_iff (by omega)).2 ⟨by omega, ?_⟩
      have : 2 ^ (q.log2 + 1) = 2 ^ q.log2 * 2 := Nat.pow_succ ..
      omega
    rw [hc]
  rw [h2, h3]
  omega

theorem sizeV_eq (u : Nat) : sizeV u = (uvarint u).length := by
  induction u using Nat.strongRecOn with
  | ind u ih =>
    by_cases h : u < 128
    · rw [sizeV_small h, uvarint_small h]; rfl
    · rw [sizeV_big (by omega), uvarint_big (by omega), List.length_cons, ih (u / 128) (by omega)]

/-- The length of the number at the head of l (0: none), from the i-th byte on. -/
def lenFrom : Nat → List UInt8 → Nat
  | _, [] => 0
  | i, c :: r => if 10 ≤ i then 0 else if 128 ≤ c.toNat then lenFrom (i + 1) r else if (0 < i ∧ c.toNat = 0) ∨ (i = 9 ∧ 1 < c.toNat) then 0 else i + 1

def lenV (l : List UInt8) : Nat := lenFrom 0 l

/-- What bytes come to: seven bits each, the least first. -/
def valV : List UInt8 → Nat
  | [] => 0
  | c :: r => c.toNat % 128 + 128 * valV r

theorem lenFrom_le (l : List UInt8) : ∀ i, lenFrom i l ≤ i + l.length := by
  induction l with
  | nil => intro i; simp [lenFrom]
  | cons c r ih =>
    intro i
    simp only [lenFrom, List.length_cons]
    have := ih (i + 1)
    repeat' split
    all_goals omega

theorem lenV_le (l : List UInt8) : lenV l ≤ l.length := by have := lenFrom_le l 0; unfold lenV; omega

theorem lenFrom_le10 (l : List UInt8) : ∀ i, i ≤ 10 → lenFrom i l ≤ 10 := by
  induction l with
  | nil => intro i _; simp [lenFrom]
  | cons c r ih =>
    intro i hi
    simp only [lenFrom]
    by_cases h : 10 ≤ i
    · rw [if_pos h]; omega
    · rw [if_neg h]
      have := ih (i + 1) (by omega)
      repeat' split
      all_goals omega

theorem lenFrom_gt (l : List UInt8) : ∀ i, lenFrom i l ≠ 0 → i < lenFrom i l := by
  induction l with
  | nil => intro i h; simp [lenFrom] at h
  | cons c r ih =>
    intro i h
    have := ih (i + 1)
    simp only [lenFrom] at h ⊢
    by_cases h1 : 10 ≤ i
    · rw [if_pos h1] at h; exact absurd rfl h
    · rw [if_neg h1] at h ⊢
      by_cases h2 : 128 ≤ c.toNat
      · rw [if_pos h2] at h ⊢
        have := this h
        omega
      · rw [if_neg h2] at h ⊢
        by_cases h3 : (0 < i ∧ c.toNat = 0) ∨ (i = 9 ∧ 1 < c.toNat)
        · rw [if_pos h3] at h; exact absurd rfl h
        · rw [if_neg h3]; omega

theorem lenV_le10 (l : List UInt8) : lenV l ≤ 10 := lenFrom_le10 l 0 (by omega)

/-- One step of the loop that looks for a number's last byte, behind i bytes that bear the bit 128. -/
theorem lenV_end {l : List UInt8} {i : Nat} (hall : ∀ j, j < i → 128 ≤ (l.getD j 0).toNat) (hi : i < l.length) (h10 : i < 10) (hc : (l.getD i 0).toNat < 128) :
    lenV l = if (0 < i ∧ (l.getD i 0).toNat = 0) ∨ (i = 9 ∧ 1 < (l.getD i 0).toNat) then 0 else i + 1 := by
  have key : ∀ (m : List UInt8) (k : Nat), (∀ j, j < i - k → 128 ≤ (m.getD j 0).toNat) → k ≤ i → i - k < m.length → (m.getD (i - k) 0).toNat < 128 →
      lenFrom k m = if (0 < i ∧ (m.getD (i - k) 0).toNat = 0) ∨ (i = 9 ∧ 1 < (m.getD (i - k) 0).toNat) then 0 else i + 1 := by
    intro m
    induction m with
    | nil => intro k _ _ hl _; simp at hl
    | cons c r ih =>
      intro k ha hk hl hlt
      simp only [lenFrom]
      rw [if_neg (by omega)]
      by_cases hik : i = k
      · subst hik
        simp only [Nat.sub_self, List.getD_cons_zero] at hlt ⊢
        rw [if_neg (by omega)]
      · have h0 := ha 0 (by omega)
        simp only [List.getD_cons_zero] at h0
        rw [if_pos h0]
        have e : i - k = (i - (k + 1)) + 1 := by omega
        rw [e] at hlt hl ⊢
        simp only [List.getD_cons_succ, List.length_cons] at hlt hl ⊢
        exact ih (k + 1) (fun j hj => by have := ha (j + 1) (by omega); simpa using this) (by omega) (by omega) hlt
  have := key l 0 (by simpa using hall) (Nat.zero_le _) (by simpa using hi) (by simpa using hc)
  simpa [lenV] using this

/-- No last byte among the first ten, or among all. -/
theorem lenV_none {l : List UInt8} (hall : ∀ j, j < min l.length 10 → 128 ≤ (l.getD j 0).toNat) : lenV l = 0 := by
  have key : ∀ (m : List UInt8) (k : Nat), k ≤ 10 → (∀ j, j < min m.length (10 - k) → 128 ≤ (m.getD j 0).toNat) → lenFrom k m = 0 := by
    intro m
    induction m with
    | nil => intro k _ _; rfl
    | cons c r ih =>
      intro k hk ha
      simp only [lenFrom]
      by_cases h : 10 ≤ k
      · rw [if_pos h]
      · rw [if_neg h]
        have h0 := ha 0 (by simp; omega)
        simp only [List.getD_cons_zero] at h0
        rw [if_pos h0]
        refine ih (k + 1) (by omega) fun j hj => ?_
        have := ha (j + 1) (by simp at hj ⊢; omega)
        simpa using this
  exact key l 0 (by omega) (by simpa using hall)

theorem valV_lt (l : List UInt8) : valV l < 128 ^ l.length := by
  induction l with
  | nil => simp [valV]
  | cons c r ih =>
    simp only [valV, List.length_cons, Nat.pow_succ]
    have : c.toNat % 128 < 128 := Nat.mod_lt _ (by omega)
    omega

theorem valV_append (a b : List UInt8) : valV (a ++ b) = valV a + 128 ^ a.length * valV b := by
  induction a with
  | nil => simp [valV]
  | cons c r ih =>
    simp only [List.cons_append, valV, ih, List.length_cons, Nat.pow_succ]
    rw [Nat.mul_add, Nat.add_assoc, Nat.mul_comm (128 ^ r.length) 128, Nat.mul_assoc]

theorem toU8 {x : Nat} (h : x < 256) : (x.toUInt8).toNat = x := by
  simp [Nat.toUInt8, UInt8.toNat_ofNat', Nat.mod_eq_of_lt h]

/-- Encoding, then decoding. -/
theorem valV_uvarint (u : Nat) : valV (uvarint u) = u := by
  induction u using Nat.strongRecOn with
  | ind u ih =>
    by_cases h : u < 128
    · rw [uvarint_small h]
      simp only [valV]
      rw [toU8 (by omega)]
      omega
    · rw [uvarint_big (by omega)]
      simp only [valV]
      rw [toU8 (by omega), ih (u / 128) (by omega)]
      omega

/-- The head of a number below 128^(10-i)/.. is read whole, whatever stands behind it. -/
theorem lenFrom_uvarint (u : Nat) : ∀ (i : Nat) (rest : List UInt8), i ≤ 9 → u < 2 ^ (64 - 7 * i) → (0 < i → 0 < u) → lenFrom i (uvarint u ++ rest) = i + (uvarint u).length := by
  induction u using Nat.strongRecOn with
  | ind u ih =>
    intro i rest hi hu h0
    by_cases h : u < 128
    · rw [uvarint_small h]
      simp only [List.cons_append, List.nil_append, lenFrom, List.length_cons, List.length_nil]
      rw [toU8 (by omega), if_neg (by omega), if_neg (by omega), if_neg]
      intro hh
      rcases hh with ⟨a, b⟩ | ⟨a, b⟩
      · have := h0 a; omega
      · subst a; simp at hu; omega
    · rw [uvarint_big (by omega)]
      simp only [List.cons_append, lenFrom, List.length_cons]
      have hi8 : i ≤ 8 := by
        rcases Nat.lt_or_ge i 9 with h9 | h9
        · omega
        · have : i = 9 := by omega
          subst this
          simp at hu
          omega
      rw [toU8 (by omega), if_neg (by omega), if_pos (by omega)]
      rw [ih (u / 128) (by omega) (i + 1) rest (by omega) ?_ (by omega)]
      · omega
      · have e : 64 - 7 * i = (64 - 7 * (i + 1)) + 7 := by omega
        rw [e, Nat.pow_add] at hu
        have : (2 : Nat) ^ 7 = 128 := by decide
        rw [this] at hu
        exact Nat.div_lt_of_lt_mul (by rw [Nat.mul_comm]; exact hu)

theorem lenV_uvarint {u : Nat} (hu : u < 18446744073709551616) (rest : List UInt8) : lenV (uvarint u ++ rest) = (uvarint u).length := by
  have := lenFrom_uvarint u 0 rest (by omega) (by simpa using hu) (by omega)
  simpa [lenV] using this

/-- A number of which bytes are missing is none. -/
theorem lenFrom_cut (u : Nat) : ∀ (i k : Nat), k < (uvarint u).length → lenFrom i ((uvarint u).take k) = 0 := by
  induction u using Nat.strongRecOn with
  | ind u ih =>
    intro i k hk
    cases k with
    | zero => simp [lenFrom]
    | succ k =>
      by_cases h : u < 128
      · rw [uvarint_small h] at hk; simp at hk
      · rw [uvarint_big (by omega)] at hk ⊢
        simp only [List.take_succ_cons, lenFrom]
        rw [toU8 (by omega)]
        by_cases h10 : 10 ≤ i
        · rw [if_pos h10]
        · rw [if_neg h10, if_pos (by omega)]
          exact ih (u / 128) (by omega) (i + 1) k (by simpa using hk)

theorem lenV_cut (u k : Nat) (hk : k < (uvarint u).length) : lenV ((uvarint u).take k) = 0 := lenFrom_cut u 0 k hk

/-- A lesser number has no more bytes. -/
theorem uvarint_mono : ∀ (v u : Nat), u ≤ v → (uvarint u).length ≤ (uvarint v).length := by
  intro v
  induction v using Nat.strongRecOn with
  | ind v ih =>
    intro u huv
    by_cases h : u < 128
    · rw [uvarint_small h]
      have := uvarint_pos v
      simpa using this
    · rw [uvarint_big (x := u) (by omega), uvarint_big (x := v) (by omega), List.length_cons, List.length_cons]
      have := ih (v / 128) (by omega) (u / 128) (Nat.div_le_div_right huv)
      omega

/-- The signed number of u. -/
def unzig (u : Nat) : Int := if u % 2 = 1 then -((u / 2 : Nat) : Int) - 1 else ((u / 2 : Nat) : Int)

theorem unzig_zigzag (x : Int) : unzig (zigzag x) = x := by
  unfold unzig zigzag
  split <;> split <;> omega

theorem zigzag_unzig (u : Nat) : zigzag (unzig u) = u := by
  unfold unzig zigzag
  split <;> split <;> omega

/-- The bytes of x, as Put lays them down. -/
def enc (x : Int) : List UInt8 := uvarint (zigzag x)

theorem enc_pos (x : Int) : 1 ≤ (enc x).length := uvarint_pos _
theorem enc_le (x : Int) (h0 : -9223372036854775808 ≤ x) (h1 : x ≤ 9223372036854775807) : (enc x).length ≤ 10 := uvarint_length64 (Go.Lib.zigzag_lt h0 h1)
theorem enc_inj {x y : Int} (h : enc x = enc y) : x = y := by
  have h1 := congrArg valV h
  simp only [enc, valV_uvarint] at h1
  have h2 := congrArg unzig h1
  simpa [unzig_zigzag] using h2
theorem enc_mono {x y : Int} (h0 : 0 ≤ x) (h : x ≤ y) : (enc x).length ≤ (enc y).length := by
  refine uvarint_mono _ _ ?_
  unfold zigzag
  rw [if_pos h0, if_pos (by omega)]
  omega

/-- What the next number of l is: 0 if there is none. -/
def numV (l : List UInt8) : Int := if lenV l = 0 then 0 else unzig (valV (l.take (lenV l)))

theorem numV_enc (x : Int) (h0 : -9223372036854775808 ≤ x) (h1 : x ≤ 9223372036854775807) (rest : List UInt8) :
    lenV (enc x ++ rest) = (enc x).length ∧ numV (enc x ++ rest) = x := by
  have hl : lenV (enc x ++ rest) = (enc x).length := lenV_uvarint (Go.Lib.zigzag_lt h0 h1) rest
  refine ⟨hl, ?_⟩
  unfold numV
  have := enc_pos x
  rw [hl, if_neg (by omega), List.take_left]
  simp [enc, valV_uvarint, unzig_zigzag]

end Go.Proofs.Ytjoifkmcfenhpaa.NumMath

/-
  Mathematics of layer 5: what an event is laid down as. No walk here.
-/
namespace Go.Proofs.Ytjoifkmcfenhpaa.EcWalk
open Go.RowKit Go.Proofs.Ytjoifkmcfenhpaa.MemRow Go.Proofs.Ytjoifkmcfenhpaa.Ev Go.Proofs.Ytjoifkmcfenhpaa.NameMath Go.Proofs.Ytjoifkmcfenhpaa.NameWalk Go.Proofs.Ytjoifkmcfenhpaa.EvWalk Go.Proofs.Ytjoifkmcfenhpaa.NumMath

/-- A text, laid down. -/
def txt (s : ByteArray) : List UInt8 := enc (s.size : Int) ++ s.data.toList
def txts (ss : List ByteArray) : List UInt8 := ss.flatMap txt
def fldE (f : ByteArray × Int) : List UInt8 := txt f.1 ++ enc f.2
def fldsE (fs : List (ByteArray × Int)) : List UInt8 := fs.flatMap fldE
/-- An event, laid down. -/
def encE (e : Ev) : List UInt8 := txt e.s ++ txt e.t ++ enc (e.tags.length : Int) ++ txts e.tags ++ enc (e.fs.length : Int) ++ fldsE e.fs

theorem txt_len (s : ByteArray) : (txt s).length = (enc (s.size : Int)).length + s.size := by
  unfold txt
  rw [List.length_append, size_list]
theorem txts_snoc (ss : List ByteArray) (s : ByteArray) : txts (ss ++ [s]) = txts ss ++ txt s := by simp [txts]
theorem fldsE_snoc (fs : List (ByteArray × Int)) (f : ByteArray × Int) : fldsE (fs ++ [f]) = fldsE fs ++ fldE f := by simp [fldsE]

theorem name_small {s : ByteArray} (h : nameB s = true) : s.size ≤ 24 := by
  rw [size_list]
  exact (may_parts h).2.1
theorem txt_le {s : ByteArray} (h : s.size ≤ 1000) : (txt s).length ≤ 1010 := by
  have := enc_le (s.size : Int) (by omega) (by omega)
  rw [txt_len]
  omega
theorem txts_le {ss : List ByteArray} (h : ∀ s ∈ ss, s.size ≤ 1000) : (txts ss).length ≤ 1010 * ss.length := by
  induction ss with
  | nil => simp [txts]
  | cons s ss ih =>
    have h1 := txt_le (h s (by simp))
    have h2 := ih fun x hx => h x (by simp [hx])
    have e : txts (s :: ss) = txt s ++ txts ss := by simp [txts]
    rw [e, List.length_append, List.length_cons]
    omega
theorem fldsE_le {fs : List (ByteArray × Int)} (h : ∀ f ∈ fs, f.1.size ≤ 1000) (hz : ∀ f ∈ fs, -9223372036854775808 ≤ f.2 ∧ f.2 ≤ 9223372036854775807) : (fldsE fs).length ≤ 1020 * fs.length := by
  induction fs with
  | nil => simp [fldsE]
  | cons f fs ih =>
    have h1 := txt_le (h f (by simp))
    have h2 := ih (fun x hx => h x (by simp [hx])) (fun x hx => hz x (by simp [hx]))
    have h3 := hz f (by simp)
    have h4 := enc_le f.2 h3.1 h3.2
    have e : fldsE (f :: fs) = fldE f ++ fldsE fs := by simp [fldsE]
    rw [e, fldE, List.length_append, List.length_append, List.length_cons]
    omega

theorem tag_small {s : ByteArray} (h : tagB s = true) : s.size ≤ 49 := by
  unfold tagB parts at h
  rcases cut_index s.data.toList with ⟨_, h2⟩ | ⟨i, h0, _, h2⟩
  · rw [h2] at h
    simp at h
  · rw [h2] at h
    simp only at h
    split at h
    next hm =>
      rw [Bool.and_eq_true] at hm
      have h3 := (may_parts hm.1).2.1
      have h4 := (may_parts hm.2).2.1
      rw [List.length_take] at h3
      rw [List.length_drop] at h4
      rw [size_list]
      omega
    next => simp at h
/-- An event that may be is laid down in few bytes. -/
structure Small (e : Ev) : Prop where
  s : e.s.size ≤ 24
  t : e.t.size ≤ 24
  tags : ∀ x ∈ e.tags, x.size ≤ 49
  names : ∀ f ∈ e.fs, f.1.size ≤ 24
  nums : ∀ f ∈ e.fs, -1099511627776 ≤ f.2 ∧ f.2 ≤ 1099511627776
  nt : e.tags.length ≤ 6
  nf : e.fs.length ≤ 4
theorem may_smallE {e : Ev} (h : mayE e = 0) : Small e := by
  obtain ⟨h1, h2, h3, h4, h5, h6, h7, _, _⟩ := (mayE_zero e).1 h
  rw [List.all_eq_true] at h5 h6 h7
  exact ⟨name_small h1, name_small h2, fun x hx => tag_small (h6 x hx), fun f hf => name_small (h5 f hf), fun f hf => of_decide_eq_true (h7 f hf), h3, h4⟩

end Go.Proofs.Ytjoifkmcfenhpaa.EcWalk

/-
  Contracts of the leaves of layer 1 (num): unsigned, signed, mayEnd, size (and math/bits.Len64). Each leaves the world as it was.
-/
namespace Go.Proofs.Ytjoifkmcfenhpaa.NumWalk
open Go.RowKit Go.Proofs.Ytjoifkmcfenhpaa.NumMath
open Go.Lib (uvarint zigzag)

theorem ret_int {k : IntKind} {a b : Int} (h : a = b) : Ending.returned (.int k a) = .returned (.int k b) := by rw [h]
theorem ret_bool {a b : Bool} (h : a = b) : Ending.returned (.bool a) = .returned (.bool b) := by rw [h]

theorem not_i64 (x : Int) (h0 : -9223372036854775808 ≤ x) (h1 : x ≤ 9223372036854775807) : bits .xor .i64 (-1) x = -x - 1 := by
  show IntKind.i64.wrap ((BitVec.ofInt 64 (-1) ^^^ BitVec.ofInt 64 x).toNat : Int) = _
  have e1 : (BitVec.ofInt 64 (-1)).toNat = 2 ^ 64 - 1 := by decide
  have e2 : (BitVec.ofInt 64 x).toNat = (x % 18446744073709551616).toNat := by simp [BitVec.toNat_ofInt]
  have e3 : (x % 18446744073709551616).toNat < 2 ^ 64 := by omega
  rw [BitVec.toNat_xor, e1, e2, Go.Lib.xor_ones64 _ e3, IntKind.wrap_i64]
  omega

theorem or_one_u64 (a : Nat) (ha : a < 18446744073709551616) : bits .or .u64 (a : Int) 1 = ((a / 2 * 2 + 1 : Nat) : Int) := by
  have h := bits_or_u64_nat a 1 ha (by decide)
  rw [or_one] at h
  exact h

theorem zig_neg (x : Int) (h0 : -9223372036854775808 ≤ x) (h1 : x < 0) :
    bits BinOp.or IntKind.u64 (IntKind.u64.wrap (IntKind.u64.wrap (bits BinOp.xor IntKind.i64 (-1) x) * 2)) 1 = ((zigzag x : Nat) : Int) := by
  rw [not_i64 x h0 (by omega)]
  have e : IntKind.u64.wrap (IntKind.u64.wrap (-x - 1) * 2) = (((-2 * x - 2).toNat : Nat) : Int) := by
    rw [IntKind.wrap_u64, IntKind.wrap_u64]
    omega
  rw [e, or_one_u64 _ (by omega)]
  unfold zigzag
  rw [if_neg (by omega)]
  omega

set_option maxRecDepth 100000 in
theorem unsigned_any (x : Int) (w : World) (h0 : -9223372036854775808 ≤ x) (h1 : x ≤ 9223372036854775807) :
    Calls Try.prog 33 #[.int .i64 x] w fun e w' => e = .returned (.int .u64 (zigzag x : Nat)) ∧ w = w' := by
  by_cases hx : x < 0
  · go_enter Try.func33, Try.ntmps33
    go_wp2
    go_ret
    exact ⟨ret_int (zig_neg x h0 hx), rfl⟩
  · go_enter Try.func33, Try.ntmps33
    go_wp2
    go_ret
    exact ⟨ret_int (Go.Lib.zigzag_nonneg (by omega)).symm, rfl⟩

theorem unzig_odd (u : Nat) (h : u < 18446744073709551616) (ho : (bits BinOp.and IntKind.u64 (u : Int) 1 != 0) = true) : bits BinOp.xor IntKind.i64 (-1) ((u : Int) / 2) = unzig u := by
  rw [Go.Lib.u64_and1 (u : Int) (by omega) (by omega)] at ho
  simp at ho
  rw [not_i64 _ (by omega) (by omega)]
  unfold unzig
  rw [if_pos (by omega)]
  omega

theorem unzig_even (u : Nat) (h : u < 18446744073709551616) (ho : (bits BinOp.and IntKind.u64 (u : Int) 1 != 0) = false) : (u : Int) / 2 = unzig u := by
  rw [Go.Lib.u64_and1 (u : Int) (by omega) (by omega)] at ho
  simp at ho
  unfold unzig
  rw [if_neg (by omega)]
  omega

set_option maxRecDepth 100000 in
theorem signed_any (u : Nat) (w : World) (h : u < 18446744073709551616) :
    Calls Try.prog 49 #[.int .u64 u] w fun e w' => e = .returned (.int .i64 (unzig u)) ∧ w = w' := by
  have hu := h
  go_enter Try.func49, Try.ntmps49
  go_wp2
  · go_ret
    exact ⟨ret_int (unzig_odd u hu (by assumption)), rfl⟩
  · go_ret
    exact ⟨ret_int (unzig_even u hu (by assumption)), rfl⟩

/-- May c be the last byte, at the index i? -/
def endB (c i : Nat) : Bool := decide (¬ ((0 < i ∧ c = 0) ∨ (i = 9 ∧ 1 < c)))

set_option maxRecDepth 100000 in
theorem mayEnd_any (c i : Nat) (w : World) (h : i < 10) :
    Calls Try.prog 73 #[.int .u8 (c : Int), .int .i64 (i : Int)] w fun e w' => e = .returned (.bool (endB c i)) ∧ w = w' := by
  go_enter Try.func73, Try.ntmps73
  go_wp2
  all_goals go_ret
  all_goals (refine ⟨ret_bool ?_, rfl⟩; unfold endB; rw [Bool.eq_iff_iff]; simp at *; omega)

theorem lib_bitLen (x : Nat) (h : x < 18446744073709551616) : Go.Lib.bitLen x = bitLen x := by
  induction x using Nat.strongRecOn with
  | ind x ih =>
    by_cases h0 : x = 0
    · subst h0; rfl
    · by_cases h1 : x = 1
      · subst h1; decide
      · rw [Go.Lib.bitLen_half x h0 (by omega), ih (x / 2) (by omega) (by omega), bitLen_shift x 1 (by omega)]

set_option maxRecDepth 100000 in
theorem len8tab_size : (Go.Lib.len8tab.size : Int) = 256 := by
  have : Go.Lib.len8tab.size = 256 := by decide
  omega
theorem len8_at (y : Int) (h : y.toNat < Go.Lib.len8tab.size) (h0 : 0 ≤ y) (h1 : y ≤ 255) : ((Go.Lib.len8tab[y.toNat]'h).toNat : Int) = Go.Lib.bitLen y.toNat := by
  have e : ((Go.Lib.len8tab[y.toNat]'h).toNat : Int) = Go.Lib.len8 y := by
    unfold Go.Lib.len8
    rw [getElem?_pos Go.Lib.len8tab y.toNat h]
    rfl
  rw [e, Go.Lib.len8_of y h0 h1]

theorem len_close (k : Nat) (x y : Int) (h : y.toNat < Go.Lib.len8tab.size) (hk : k ≤ 56) (h0 : 0 ≤ y) (h1 : y ≤ 255) (hx : x.toNat < 2 ^ 64) (e : y.toNat = x.toNat / 2 ^ k) (hp : 2 ^ k ≤ x.toNat) :
    wrap64 ((k : Int) + wrap64 ((Go.Lib.len8tab[y.toNat]'h).toNat : Int)) = (Go.Lib.bitLen x.toNat : Int) := by
  rw [len8_at y h h0 h1, Go.Lib.bitLen_shift k x.toNat hp hx, ← e]
  have := Go.Lib.bitLen_le8' y h0 h1
  unfold wrap64
  omega
theorem len_close0 (x : Int) (h : x.toNat < Go.Lib.len8tab.size) (h0 : 0 ≤ x) (h1 : x ≤ 255) :
    wrap64 (wrap64 ((Go.Lib.len8tab[x.toNat]'h).toNat : Int)) = (Go.Lib.bitLen x.toNat : Int) := by
  rw [len8_at x h h0 h1]
  have := Go.Lib.bitLen_le8' x h0 h1
  unfold wrap64
  omega
theorem way56 (x : Int) (h0 : 72057594037927936 ≤ x) (h1 : x ≤ 18446744073709551615) (h : (x / 4294967296 / 65536 / 256).toNat < Go.Lib.len8tab.size) : wrap64 (56 + wrap64 ((Go.Lib.len8tab[(x / 4294967296 / 65536 / 256).toNat]'h).toNat : Int)) = (Go.Lib.bitLen x.toNat : Int) :=
  len_close 56 x _ h (by omega) (by omega) (by omega) (by omega) (by omega) (by omega)
theorem way48 (x : Int) (h0 : 281474976710656 ≤ x) (h1 : x ≤ 72057594037927935) (h : (x / 4294967296 / 65536).toNat < Go.Lib.len8tab.size) : wrap64 (48 + wrap64 ((Go.Lib.len8tab[(x / 4294967296 / 65536).toNat]'h).toNat : Int)) = (Go.Lib.bitLen x.toNat : Int) :=
  len_close 48 x _ h (by omega) (by omega) (by omega) (by omega) (by omega) (by omega)
theorem way40 (x : Int) (h0 : 1099511627776 ≤ x) (h1 : x ≤ 281474976710655) (h : (x / 4294967296 / 256).toNat < Go.Lib.len8tab.size) : wrap64 (40 + wrap64 ((Go.Lib.len8tab[(x / 4294967296 / 256).toNat]'h).toNat : Int)) = (Go.Lib.bitLen x.toNat : Int) :=
  len_close 40 x _ h (by omega) (by omega) (by omega) (by omega) (by omega) (by omega)
theorem way32 (x : Int) (h0 : 4294967296 ≤ x) (h1 : x ≤ 1099511627775) (h : (x / 4294967296).toNat < Go.Lib.len8tab.size) : wrap64 (32 + wrap64 ((Go.Lib.len8tab[(x / 4294967296).toNat]'h).toNat : Int)) = (Go.Lib.bitLen x.toNat : Int) :=
  len_close 32 x _ h (by omega) (by omega) (by omega) (by omega) (by omega) (by omega)
theorem way24 (x : Int) (h0 : 16777216 ≤ x) (h1 : x ≤ 4294967295) (h : (x / 65536 / 256).toNat < Go.Lib.len8tab.size) : wrap64 (24 + wrap64 ((Go.Lib.len8tab[(x / 65536 / 256).toNat]'h).toNat : Int)) = (Go.Lib.bitLen x.toNat : Int) :=
  len_close 24 x _ h (by omega) (by omega) (by omega) (by omega) (by omega) (by omega)
theorem way16 (x : Int) (h0 : 65536 ≤ x) (h1 : x ≤ 16777215) (h : (x / 65536).toNat < Go.Lib.len8tab.size) : wrap64 (16 + wrap64 ((Go.Lib.len8tab[(x / 65536).toNat]'h).toNat : Int)) = (Go.Lib.bitLen x.toNat : Int) :=
  len_close 16 x _ h (by omega) (by omega) (by omega) (by omega) (by omega) (by omega)
theorem way8 (x : Int) (h0 : 256 ≤ x) (h1 : x ≤ 65535) (h : (x / 256).toNat < Go.Lib.len8tab.size) : wrap64 (8 + wrap64 ((Go.Lib.len8tab[(x / 256).toNat]'h).toNat : Int)) = (Go.Lib.bitLen x.toNat : Int) :=
  len_close 8 x _ h (by omega) (by omega) (by omega) (by omega) (by omega) (by omega)

set_option maxHeartbeats 4000000 in
set_option maxRecDepth 100000 in
theorem len64_any (x : Int) (w : World) (h0 : 0 ≤ x) (h1 : x ≤ 18446744073709551615) :
    Calls Try.prog 59 #[.int .u64 x] w fun e w' => e = .returned (.int .i64 (Go.Lib.bitLen x.toNat)) ∧ w = w' := by
  have hs := len8tab_size
  go_enter Try.func59, Try.ntmps59
  go_wp2
  all_goals (go_ret; refine ⟨ret_int ?_, rfl⟩)
  · exact way56 x (by omega) (by omega) _
  · exact way48 x (by omega) (by omega) _
  · exact way40 x (by omega) (by omega) _
  · exact way32 x (by omega) (by omega) _
  · exact way24 x (by omega) (by omega) _
  · exact way16 x (by omega) (by omega) _
  · exact way8 x (by omega) (by omega) _
  · exact len_close0 x _ (by omega) (by omega)

set_option maxRecDepth 100000 in
theorem size_any (u : Nat) (w : World) (h : u < 18446744073709551616) :
    Calls Try.prog 35 #[.int .u64 u] w fun e w' => e = .returned (.int .i64 ((uvarint u).length : Nat)) ∧ w = w' := by
  have e1 := or_one_u64 u h
  have e2 : Go.Lib.bitLen (u / 2 * 2 + 1) = bitLen (u / 2 * 2 + 1) := lib_bitLen _ (by omega)
  have e3 : sizeV u = (bitLen (u / 2 * 2 + 1) + 6) / 7 := by unfold sizeV; rw [or_one]
  have e4 := sizeV_eq u
  have e5 : bitLen (u / 2 * 2 + 1) ≤ 64 := bitLen_le (by omega)
  generalize hb : u / 2 * 2 + 1 = b at *
  have hb1 : b < 18446744073709551616 := by omega
  have E : (Go.Lib.bitLen b + 6) / 7 = (uvarint u).length := by omega
  have e6 : Go.Lib.bitLen b ≤ 64 := by omega
  have HE := Go.Lib.hid E
  clear e2 e3 e4 e5 hb E
  go_enter Try.func35, Try.ntmps35
  go_wp2_with (go_at_call 59; refine (len64_any _ _ (by omega) (by omega)).mono ?_; rintro e w' ⟨rfl, rfl⟩)
  go_ret
  refine ⟨ret_int ?_, rfl⟩
  have := HE.out
  omega

end Go.Proofs.Ytjoifkmcfenhpaa.NumWalk

/-
  Contracts of layer 1 (num), encoding: extend, fill, Put, PutText. What they answer lies in new memory; what was there stays.
-/
namespace Go.Proofs.Ytjoifkmcfenhpaa.NumWalk
open Go.RowKit Go.Proofs.Ytjoifkmcfenhpaa.NumMath Go.Proofs.Ytjoifkmcfenhpaa.NumMem
open Go.Lib (uvarint zigzag)

theorem u8_info : (Try.prog.info? 5).map (fun i => (i.zero, i.size, i.bytes)) = some (some (.int .u8 0), 1, 1) := by kernel_rfl
theorem u8_size : (Try.prog.info? 5).map (·.size) = some 1 := by kernel_rfl

theorem splice_zeros (l : List UInt8) (room : Nat) : splice (cellsOf (List.replicate (l.length + room) 0)) 0 (cellsOf l) = cellsOf (l ++ List.replicate room 0) := by
  unfold splice
  rw [cellsOf_append, cellsOf_length]
  simp [cellsOf]

set_option maxRecDepth 100000 in
theorem extend_any (A : Option Addr) (n cap : Nat) (l : List UInt8) (room : Nat) (w : World) (h : Rd w A n cap l) (hr : n + room ≤ 281474976710656) :
    Calls Try.prog 34 #[.slice A n cap, .int .i64 (room : Int)] w fun e w' => e = .returned (.slice (some ⟨w.heap.size, 0, none⟩) (n + room) (n + room)) ∧ Row w' w.heap.size 5 (l ++ List.replicate room 0) ∧ Below w.heap.size w w' := by
  have hmk := fun W => run_make_bytes (P := Try.prog) 27 5 Try.underlying27 u8_info (n + room) hr ((n : Int) + (room : Int)) (by omega) W
  have hl := h.len
  have H := Go.Lib.hid hl
  clear hl
  go_enter Try.func34, Try.ntmps34
  go_wp2_with (with_reducible refine wpList_copy_splice rfl (.tmp 11) (.tmp 12) 27 27 rfl 5 Try.underlying27 u8_size _ _ _ _ _ _ rfl rfl w.heap.size 0 (cellsOf (List.replicate (n + room) 0)) 5 (heap_alloc_new w _) (cellsOf l) (by rw [cellsOf_length, H.out]; simp [Nat.min_def]) (fun h0 => ⟨rfl, (h.below ((Below.refl _ _).alloc (Nat.le_refl _) _)).src h0⟩) (by simp [cellsOf, H.out]) (cellsOf_one l) w.heap.size w ((Below.refl _ _).alloc (Nat.le_refl _) _) (Nat.le_refl _) ?_; intro w2 HG2 hB2)
  go_ret
  refine ⟨rfl, ?_, hB2⟩
  have h2 := HG2.out
  obtain rfl := H.out
  rw [splice_zeros] at h2
  exact h2

/-- A byte of a number that goes on. -/
theorem or128 (v : Nat) : bits BinOp.or IntKind.u8 (IntKind.u8.wrap (v : Int)) 128 = (((v % 128 + 128).toUInt8.toNat : Nat) : Int) := by
  rw [toU8 (by omega)]
  have e : IntKind.u8.wrap (v : Int) = ((v % 256 : Nat) : Int) := by
    rw [IntKind.wrap_u8]
    omega
  rw [e, Go.Lib.u8_or128_any _ (by omega) (by omega)]
  omega

/-- The state of fill behind k bytes. -/
structure FillAt (w wr : World) (g o : Nat) (t : TypeId) (L : List UInt8) (u k v : Nat) : Prop where
  row : Row wr g t (L.take o ++ ((uvarint u).take k ++ L.drop (o + k)))
  left : uvarint u = (uvarint u).take k ++ uvarint v
  lt : v < 18446744073709551616
  le : k < (uvarint u).length
  grown : w.grownBy wr (some g)
  size : wr.heap.size = w.heap.size

theorem fillAt_start {w : World} {g o : Nat} {t : TypeId} {L : List UInt8} {u : Nat} (h : Row w g t L) (hu : u < 18446744073709551616) : FillAt w w g o t L u 0 u :=
  ⟨by simpa using h, by simp, hu, Go.Lib.uvarint_pos u, ⟨rfl, rfl, rfl, Nat.le_refl _, fun _ _ _ => rfl⟩, rfl⟩

theorem row_set (L X : List UInt8) (o k : Nat) (c : UInt8) (hk : X.length = k) (ho : o + k < L.length) : (L.take o ++ (X ++ L.drop (o + k))).set (o + k) c = L.take o ++ ((X ++ [c]) ++ L.drop (o + (k + 1))) := by
  subst hk
  have h1 : (L.take o).length = o := by simp; omega
  rw [List.set_append_right _ _ (by omega), h1, Nat.add_sub_cancel_left, List.set_append_right _ _ (by omega), Nat.sub_self, List.drop_eq_getElem_cons ho]
  simp [Nat.add_assoc]

theorem take_add_one (a b : List UInt8) (c : UInt8) (r : List UInt8) (k : Nat) (h : a = a.take k ++ b) (hb : b = c :: r) : a.take (k + 1) = a.take k ++ [c] ∧ a = a.take (k + 1) ++ r ∧ (a.take k).length = k := by
  have hl : a.length = (a.take k).length + b.length := by rw [← List.length_append, ← h]
  have hk : (a.take k).length = k := by
    have h2 := List.length_take_le k a
    subst hb
    simp only [List.length_take, List.length_cons] at hl ⊢
    omega
  have e : a.take (k + 1) = a.take k ++ [c] := by
    have h3 := congrArg (List.take (k + 1)) h
    rw [List.take_append, hk, hb] at h3
    simp at h3
    rw [h3, List.take_take, Nat.min_eq_right (by omega)]
  refine ⟨e, ?_, hk⟩
  rw [e, List.append_assoc]
  rw [hb] at h
  exact h

theorem fillAt_step {w wr : World} {g o : Nat} {t : TypeId} {L : List UInt8} {u k v : Nat} (h : FillAt w wr g o t L u k v) (hk : k + 1 < (uvarint u).length) (ho : o + (uvarint u).length ≤ L.length) :
    FillAt w (wr.setCell ⟨g, o + k, none⟩ (.int .u8 (bits BinOp.or IntKind.u8 (IntKind.u8.wrap (v : Int)) 128))) g o t L u (k + 1) (v / 128) := by
  obtain ⟨hr, hl, hv, hle, hg, hs⟩ := h
  have hlen : (uvarint u).length = ((uvarint u).take k).length + (uvarint v).length := by rw [← List.length_append, ← hl]
  have h128 : 128 ≤ v := by
    rcases Nat.lt_or_ge v 128 with hlt | hge
    · rw [Go.Lib.uvarint_small hlt] at hlen
      have := List.length_take_le k (uvarint u)
      simp at hlen
      omega
    · exact hge
  obtain ⟨e1, e2, e3⟩ := take_add_one _ _ _ _ k hl (Go.Lib.uvarint_big h128)
  refine ⟨?_, e2, by omega, hk, grown_setCell hg _ _, by simpa [World.setCell] using hs⟩
  rw [or128, e1, ← row_set L _ o k _ e3 (by omega)]
  exact hr.set_ _ _

theorem fillAt_end {w wr : World} {g o : Nat} {t : TypeId} {L : List UInt8} {u k v : Nat} (h : FillAt w wr g o t L u k v) (hk : k + 1 = (uvarint u).length) (ho : o + (uvarint u).length ≤ L.length) :
    Row (wr.setCell ⟨g, o + k, none⟩ (.int .u8 (IntKind.u8.wrap (v : Int)))) g t (L.take o ++ (uvarint u ++ L.drop (o + (uvarint u).length))) ∧ w.grownBy (wr.setCell ⟨g, o + k, none⟩ (.int .u8 (IntKind.u8.wrap (v : Int)))) (some g) ∧ (wr.setCell ⟨g, o + k, none⟩ (.int .u8 (IntKind.u8.wrap (v : Int)))).heap.size = w.heap.size := by
  obtain ⟨hr, hl, hv, hle, hg, hs⟩ := h
  have hlen : (uvarint u).length = ((uvarint u).take k).length + (uvarint v).length := by rw [← List.length_append, ← hl]
  have h128 : v < 128 := by
    rcases Nat.lt_or_ge v 128 with hlt | hge
    · exact hlt
    · rw [Go.Lib.uvarint_big hge] at hlen
      have := Go.Lib.uvarint_pos (v / 128)
      simp only [List.length_cons, List.length_take] at hlen
      omega
  obtain ⟨e1, e2, e3⟩ := take_add_one _ _ _ _ k hl (Go.Lib.uvarint_small h128)
  refine ⟨?_, grown_setCell hg _ _, by simpa [World.setCell] using hs⟩
  have e4 : IntKind.u8.wrap (v : Int) = ((v.toUInt8.toNat : Nat) : Int) := by
    rw [toU8 (by omega), IntKind.wrap_u8]
    omega
  have e5 : uvarint u = (uvarint u).take k ++ [v.toUInt8] := by
    rw [← e1, hk, List.take_length]
  rw [e4]
  have := hr.set_ (o + k) v.toUInt8
  rw [row_set L _ o k _ e3 (by omega), ← e5, hk] at this
  exact this

theorem fillAt_cell {w wr : World} {g o : Nat} {t : TypeId} {L : List UInt8} {u k v : Nat} (h : FillAt w wr g o t L u k v) (ho : o + (uvarint u).length ≤ L.length) : (∃ x, wr.cell? ⟨g, o + k, none⟩ = some x) ∧ wr.frozen? ⟨g, o + k, none⟩ = false := by
  have hle := h.le
  refine ⟨⟨_, h.row.cell (i := o + k) ?_⟩, h.row.frozen _⟩
  simp only [List.length_append, List.length_take, List.length_drop]
  omega

set_option maxHeartbeats 400000 in
set_option maxRecDepth 100000 in
theorem fill_any (g o c n : Nat) (L : List UInt8) (u : Nat) (w : World) (h : Row w g 5 L) (hu : u < 18446744073709551616) (hn : n = (uvarint u).length) (ho : o + n ≤ L.length) :
    Calls Try.prog 36 #[.slice (some ⟨g, o, none⟩) n c, .int .u64 (u : Int)] w fun e w' => e = .returned (.tuple #[]) ∧ Row w' g 5 (L.take o ++ (uvarint u ++ L.drop (o + n))) ∧ w.grownBy w' (some g) ∧ w'.heap.size = w.heap.size := by
  have h10 := Go.Lib.uvarint_length64 hu
  have h1 := Go.Lib.uvarint_pos u
  have hn10 : n ≤ 10 := by omega
  have hn1 : 1 ≤ n := by omega
  have HN := Go.Lib.hid hn
  clear hn h10 h1
  go_enter Try.func36, Try.ntmps36
  go_wp2
  go_loopw [1, 10] (fun v i wr => ∃ k q : Nat, v = .int .u64 q ∧ i = .int .i64 k ∧ FillAt w wr g o 5 L u k q) (fun _ i _ => n - (intOf i).toNat)
  case atStart => exact ⟨0, u, rfl, rfl, fillAt_start h hu⟩
  case round =>
    obtain ⟨k, q, rfl, rfl, hf⟩ := hrel
    obtain ⟨⟨x, hx⟩, hfr⟩ := fillAt_cell hf (by rw [← HN.out]; exact ho)
    have hq := hf.lt
    have hkn : k < n := by rw [HN.out]; exact hf.le
    by_cases hlt : k + 1 < n
    · have hs := fillAt_step hf (by rw [← HN.out]; exact hlt) (by rw [← HN.out]; exact ho)
      go_wp2
      go_roundw
      case rel => exact ⟨k + 1, q / 128, by go_num, by go_num, hs⟩
      case measure => simp [intOf]; omega
    · obtain rfl : n = k + 1 := by omega
      have hs := fillAt_end hf HN.out (by rw [← HN.out]; exact ho)
      go_wp2
      go_end0
      obtain ⟨r1, r2, r3⟩ := hs
      rw [← HN.out] at r1
      exact ⟨rfl, r1, r2, r3⟩

theorem put_row (l z : List UInt8) (n m : Nat) (hl : l.length = n) : (l ++ List.replicate m 0).take n ++ (z ++ (l ++ List.replicate m 0).drop (n + m)) = l ++ z := by
  subst hl
  have h : (l ++ List.replicate m (0 : UInt8)).drop (l.length + m) = [] := List.drop_eq_nil_of_le (by simp)
  rw [h, List.take_left]
  simp

set_option maxHeartbeats 400000 in
set_option maxRecDepth 100000 in
theorem put_any (A : Option Addr) (n cap : Nat) (l : List UInt8) (x : Int) (w : World) (h : Rd w A n cap l) (h0 : -9223372036854775808 ≤ x) (h1 : x ≤ 9223372036854775807) (hn : n ≤ 140737488355328) :
    Calls Try.prog 20 #[.slice A n cap, .int .i64 x] w fun e w' => e = .returned (.slice (some ⟨w.heap.size, 0, none⟩) (n + (enc x).length) (n + (enc x).length)) ∧ Row w' w.heap.size 5 (l ++ enc x) ∧ Below w.heap.size w w' := by
  have hz := Go.Lib.zigzag_lt h0 h1
  have h10 := Go.Lib.uvarint_length64 hz
  have hp := Go.Lib.uvarint_pos (zigzag x)
  have hl := h.len
  have HL := Go.Lib.hid hl
  obtain ⟨m, hm⟩ : ∃ m, m = (uvarint (zigzag x)).length := ⟨_, rfl⟩
  rw [← hm] at h10 hp
  have HM := Go.Lib.hid hm
  clear hl hm
  go_enter Try.func20, Try.ntmps20
  go_wp2_with fail
  refine (unsigned_any x _ h0 h1).mono ?_
  rintro e w' ⟨rfl, rfl⟩
  go_wp2_with fail
  refine (size_any _ _ hz).mono ?_
  rintro e w' ⟨rfl, rfl⟩
  rw [← HM.out]
  go_wp2_with fail
  refine (extend_any A n cap l m _ h (by omega)).mono ?_
  rintro e w1 ⟨rfl, hr1, hb1⟩
  go_wp2_with fail
  refine (fill_any w.heap.size n m m (l ++ List.replicate m 0) (zigzag x) _ hr1 hz HM.out (by simp [HL.out])).mono ?_
  rintro e w2 ⟨rfl, hr2, hg2, hs2⟩
  have HS2 := Go.Lib.hid hs2
  clear hs2
  go_wp2_with fail
  go_ret
  rw [put_row l _ n m HL.out] at hr2
  have e1 : (enc x).length = m := HM.out.symm
  rw [e1]
  exact ⟨rfl, hr2, hb1.grown hg2 hb1.size (by rintro k ⟨rfl⟩; exact Nat.le_refl _)⟩

theorem text_row (l z x : List UInt8) (n m k : Nat) (hl : l.length = n) (hz : z.length = m) (hx : x.length = k) :
    List.take (n + m) ((l ++ List.replicate (m + k) 0).take n ++ (z ++ (l ++ List.replicate (m + k) 0).drop (n + m))) ++ (x ++ List.drop (n + m + k) ((l ++ List.replicate (m + k) 0).take n ++ (z ++ (l ++ List.replicate (m + k) 0).drop (n + m)))) = l ++ z ++ x := by
  subst hl hz hx
  have h1 : (l ++ List.replicate (z.length + x.length) (0 : UInt8)).drop (l.length + z.length) = List.replicate x.length 0 := by
    rw [List.drop_append, List.drop_eq_nil_of_le (by omega)]
    simp
  rw [List.take_left, h1]
  have h2 : (l ++ (z ++ List.replicate x.length (0 : UInt8))).take (l.length + z.length) = l ++ z := by
    rw [← List.append_assoc, List.take_left' (by simp)]
  have h3 : (l ++ (z ++ List.replicate x.length (0 : UInt8))).drop (l.length + z.length + x.length) = [] := List.drop_eq_nil_of_le (by simp; omega)
  rw [h2, h3]
  simp

theorem text_fit (l z : List UInt8) (n m k : Nat) (hl : l.length = n) (hz : z.length = m) :
    n + m + k ≤ ((l ++ List.replicate (m + k) (0 : UInt8)).take n ++ (z ++ (l ++ List.replicate (m + k) 0).drop (n + m))).length := by
  subst hl hz
  simp only [List.length_append, List.length_take, List.length_drop, List.length_replicate]
  omega

set_option maxHeartbeats 400000 in
set_option maxRecDepth 100000 in
theorem putText_pos (A : Option Addr) (n cap : Nat) (l : List UInt8) (s : ByteArray) (w : World) (h : Rd w A n cap l) (hs : s.size ≤ 70368744177664) (hn : n ≤ 70368744177664) (hs0 : ¬ s = ByteArray.empty) :
    Calls Try.prog 58 #[.slice A n cap, .string s] w fun e w' => e = .returned (.slice (some ⟨w.heap.size, 0, none⟩) (n + ((enc (s.size : Int)).length + s.size)) (n + ((enc (s.size : Int)).length + s.size))) ∧ Row w' w.heap.size 5 (l ++ enc (s.size : Int) ++ s.data.toList) ∧ Below w.heap.size w w' := by
  have hz := Go.Lib.zigzag_lt (x := (s.size : Int)) (by omega) (by omega)
  have h10 := Go.Lib.uvarint_length64 hz
  have hp := Go.Lib.uvarint_pos (zigzag (s.size : Int))
  have hl := h.len
  have HL := Go.Lib.hid hl
  obtain ⟨m, hm⟩ : ∃ m, m = (uvarint (zigzag (s.size : Int))).length := ⟨_, rfl⟩
  rw [← hm] at h10 hp
  have HM := Go.Lib.hid hm
  clear hl hm
  go_enter Try.func58, Try.ntmps58
  go_wp2_with fail
  refine (unsigned_any (s.size : Int) _ (by omega) (by omega)).mono ?_
  rintro e w' ⟨rfl, rfl⟩
  go_wp2_with fail
  refine (size_any _ _ hz).mono ?_
  rintro e w' ⟨rfl, rfl⟩
  rw [← HM.out]
  go_wp2_with fail
  rw [show ((m : Int) + (s.size : Int)) = ((m + s.size : Nat) : Int) from by omega]
  refine (extend_any A n cap l (m + s.size) _ h (by omega)).mono ?_
  rintro e w1 ⟨rfl, hr1, hb1⟩
  go_wp2_with fail
  refine (fill_any w.heap.size n (m + s.size) m (l ++ List.replicate (m + s.size) 0) (zigzag (s.size : Int)) _ hr1 hz HM.out (by simp [HL.out])).mono ?_
  rintro e w2 ⟨rfl, hr2, hg2, hs2⟩
  clear hs2
  have hb2 := hb1.grown hg2 hb1.size (by rintro k ⟨rfl⟩; exact Nat.le_refl _)
  have hfit := text_fit l (uvarint (zigzag (s.size : Int))) n m s.size HL.out HM.out.symm
  obtain ⟨L2, hL2⟩ : ∃ L2, L2 = List.take n (l ++ List.replicate (m + s.size) 0) ++ (uvarint (zigzag (s.size : Int)) ++ List.drop (n + m) (l ++ List.replicate (m + s.size) 0)) := ⟨_, rfl⟩
  rw [← hL2] at hr2 hfit
  have HL2 := Go.Lib.hid hL2
  clear hL2 hr1 hg2 hb1
  go_wp2_with (with_reducible refine wpList_copy_text rfl (.tmp 34) (.tmp 35) 27 9 rfl 5 Try.underlying27 u8_size _ _ _ s rfl rfl w.heap.size (n + m) L2 5 hr2 (by omega) (fun _ => by first | rfl | exact if_neg (by omega)) hfit ?_; intro w3 hr3 hg3)
  go_ret
  have hb3 := hb2.grown hg3 hb2.size (by rintro k ⟨rfl⟩; exact Nat.le_refl _)
  rw [HL2.out, text_row l _ _ n m s.size HL.out HM.out.symm (by simp)] at hr3
  have e1 : (enc (s.size : Int)).length = m := HM.out.symm
  rw [e1]
  exact ⟨rfl, hr3, hb3⟩

set_option maxHeartbeats 400000 in
set_option maxRecDepth 100000 in
theorem putText_empty (A : Option Addr) (n cap : Nat) (l : List UInt8) (w : World) (h : Rd w A n cap l) (hn : n ≤ 70368744177664) :
    Calls Try.prog 58 #[.slice A n cap, .string ByteArray.empty] w fun e w' => e = .returned (.slice (some ⟨w.heap.size, 0, none⟩) (n + 1) (n + 1)) ∧ Row w' w.heap.size 5 (l ++ [0]) ∧ Below w.heap.size w w' := by
  have hl := h.len
  have HL := Go.Lib.hid hl
  clear hl
  have z0 : zigzag 0 = 0 := rfl
  have v0 : uvarint 0 = [0] := by rw [Go.Lib.uvarint_small (by omega)]; rfl
  have V0 := Go.Lib.hid v0
  clear v0
  have hcp : ∀ (W : World) d, (Builtin.copy_ #[27, 9] 3 #[.slice d 0 0, .string ByteArray.empty]).run Try.prog W = .ok (goInt 0) W := fun W d =>
    Go.Lib.run_copy_empty_string W _ _ _ 5 d 0 0 _ Try.underlying27 (by kernel_rfl) rfl
  go_enter Try.func58, Try.ntmps58
  go_wp2_with fail
  refine (unsigned_any 0 _ (by omega) (by omega)).mono ?_
  rintro e w' ⟨rfl, rfl⟩
  rw [z0]
  go_wp2_with fail
  refine (size_any 0 _ (by omega)).mono ?_
  rintro e w' ⟨rfl, rfl⟩
  rw [V0.out]
  go_wp2_with fail
  refine (extend_any A n cap l 1 _ h (by omega)).mono ?_
  rintro e w1 ⟨rfl, hr1, hb1⟩
  go_wp2_with fail
  refine (fill_any w.heap.size n 1 1 (l ++ List.replicate 1 0) 0 _ hr1 (by omega) (by rw [V0.out]; rfl) (by simp [HL.out])).mono ?_
  rintro e w2 ⟨rfl, hr2, hg2, hs2⟩
  clear hs2
  have hb2 := hb1.grown hg2 hb1.size (by rintro k ⟨rfl⟩; exact Nat.le_refl _)
  go_wp2
  go_ret
  rw [put_row l _ n 1 HL.out, V0.out] at hr2
  exact ⟨rfl, hr2, hb2⟩

theorem putText_any (A : Option Addr) (n cap : Nat) (l : List UInt8) (s : ByteArray) (w : World) (h : Rd w A n cap l) (hs : s.size ≤ 70368744177664) (hn : n ≤ 70368744177664) :
    Calls Try.prog 58 #[.slice A n cap, .string s] w fun e w' => e = .returned (.slice (some ⟨w.heap.size, 0, none⟩) (n + ((enc (s.size : Int)).length + s.size)) (n + ((enc (s.size : Int)).length + s.size))) ∧ Row w' w.heap.size 5 (l ++ enc (s.size : Int) ++ s.data.toList) ∧ Below w.heap.size w w' := by
  by_cases h0 : s = ByteArray.empty
  · subst h0
    have e1 : enc ((ByteArray.empty.size : Nat) : Int) = [0] := by
      show uvarint (zigzag 0) = [0]
      have z0 : zigzag 0 = 0 := rfl
      rw [z0, Go.Lib.uvarint_small (by omega)]
      rfl
    refine (putText_empty A n cap l w h hn).mono fun e w' ⟨he, hr, hb⟩ => ?_
    rw [e1]
    exact ⟨he, by simpa using hr, hb⟩
  · exact putText_pos A n cap l s w h hs hn h0

end Go.Proofs.Ytjoifkmcfenhpaa.NumWalk

/-
  append on bytes: onto a row of the call's own, from a slice that reads as bytes (nil and empty let in). No Go text here.
-/
namespace Go.Proofs.Ytjoifkmcfenhpaa.NumMem
open Go.RowKit

/-- A slice of the call's own (its block from 'base' on) that holds the bytes l. -/
def Own (w : World) (base : Nat) (t : TypeId) (A : Option Addr) (n cap : Nat) (l : List UInt8) : Prop := w.ownsRow base t 1 (.slice A n cap) n (cellsOf l)

variable {w w' : World} {base : Nat} {t : TypeId} {A : Option Addr} {n cap : Nat} {l : List UInt8}

theorem Own.len (h : Own w base t A n cap l) : l.length = n := by
  have := h.1
  simpa [cellsOf] using this

theorem Own.rd (h : Own w base t A n cap l) : Rd w A n cap l := by
  have hl := h.len
  rcases h.2 with ⟨hv, hn⟩ | ⟨g, c, cur, hv, hb, hg, hnc, hcm, hcs, htake⟩
  · injection hv with e1 e2 e3
    subst e1 e3
    refine ⟨hl, by omega, Nat.zero_le _, fun h0 => absurd h0 (by omega)⟩
  · injection hv with e1 e2 e3
    subst e1 e3
    refine Rd.of_block hg hl hnc hcm fun i hi => ?_
    have hh : (cellsOf l)[i]? = cur.toList[i]? := by
      rw [← htake, List.getElem?_take_of_lt (by omega)]
    have hi' : i < l.length := by omega
    rw [← Array.getElem?_toList, ← hh]
    simp [cellsOf, List.getElem?_eq_getElem hi', List.getD]

theorem Own.block (h : Own w base t A n cap l) {b o : Nat} (hA : A = some ⟨b, o, none⟩) : base ≤ b ∧ b < w.heap.size := by
  subst hA
  exact h.lt b rfl

theorem Own.below (h : Own w base t A n cap l) (hb : Below w.heap.size w w') : Own w' base t A n cap l := World.ownsRow.kept h (below_grown hb none) (by
  cases hv : (Value.slice A n cap).ownBlock <;> simp)

theorem Own.empty (w : World) (t : TypeId) (hb : base ≤ w.heap.size) : Own (w.alloc (.cells #[] t)) base t (some ⟨w.heap.size, 0, none⟩) 0 0 [] :=
  World.ownsRow_made w #[] 0 hb (Nat.zero_le _) (by simp)

section
variable {P : Program}
theorem run_append_bytes (T ty e : TypeId) (hT : P.underlying T = some (.slice e)) (hi : (P.info? e).map (fun i => (i.zero, i.size, i.bytes)) = some (some (.int .u8 0), 1, 1))
    (hown : Own w base e A n cap l) {B : Option Addr} {m c : Nat} {k : List UInt8} (hr : Rd w B m c k) (hsz : n + m ≤ 140737488355328) (hbase : base ≤ w.heap.size) :
    ∃ A' cap' w', (Builtin.append_ #[T, T] ty #[.slice A n cap, .slice B m c]).run P w = .ok (.slice A' (n + m) cap') w' ∧ Own w' base e A' (n + m) cap' (l ++ k) ∧ w.grownBy w' (Value.slice A n cap).ownBlock := by
  obtain ⟨i, h1, h2, h3, h4⟩ : ∃ i, P.info? e = some i ∧ i.zero = some (.int .u8 0) ∧ i.size = 1 ∧ i.bytes = 1 := by
    cases hq : P.info? e with
    | none => simp [hq] at hi
    | some i => simp [hq] at hi; exact ⟨i, rfl, hi.1, hi.2.1, hi.2.2⟩
  have done : ∀ v' w2, (Builtin.append_ #[T, T] ty #[.slice A n cap, .slice B m c]).run P w = .ok v' w2 → w2.ownsRow base e 1 v' (n + m) (cellsOf l ++ cellsOf k) → w.grownBy w2 (Value.slice A n cap).ownBlock →
      ∃ A' cap' w', (Builtin.append_ #[T, T] ty #[.slice A n cap, .slice B m c]).run P w = .ok (.slice A' (n + m) cap') w' ∧ Own w' base e A' (n + m) cap' (l ++ k) ∧ w.grownBy w' (Value.slice A n cap).ownBlock := by
    intro v' w2 hrun ho hg
    rcases ho.2 with ⟨rfl, hn⟩ | ⟨g, c2, cur, rfl, hrest⟩
    · refine ⟨none, 0, w2, by rw [hrun, hn], ?_, hg⟩
      unfold Own
      rw [cellsOf_append, hn]
      rw [hn] at ho
      exact ho
    · refine ⟨_, c2, w2, hrun, ?_, hg⟩
      unfold Own
      rw [cellsOf_append]
      exact ho
  cases B with
  | none =>
    have hm : m = 0 := by
      rcases Nat.eq_zero_or_pos m with h0 | h0
      · exact h0
      · obtain ⟨b, o, h, _⟩ := hr.2.2.2 h0
        cases h
    subst hm
    have hk : k = [] := List.eq_nil_of_length_eq_zero hr.len
    subst hk
    refine done (.slice A n cap) w ?_ (by simpa [cellsOf, Own] using hown) (World.grownBy.refl _ _)
    have hown' := hown
    rcases hown'.2 with ⟨hv, rfl⟩ | ⟨g, c2, cur, hv, _, _, hnc, _⟩
    · injection hv with e1 e2 e3
      subst e1 e3
      simp [Builtin.append_, run_underlying hT, sizeOf, typeInfo, h1, Builtin.lenOf, Builtin.firstCells]
    · injection hv with e1 e2 e3
      subst e1 e3
      simp [Builtin.append_, run_underlying hT, sizeOf, typeInfo, h1, Builtin.lenOf, Builtin.firstCells, hnc, storeCells]
  | some ad =>
    have hsrc : ∀ j u, (cellsOf k)[j]? = some u → w.cell? (ad.add j) = some u := by
      intro j u hu
      obtain ⟨ad', h, hc⟩ := hr.src (by have := (List.getElem?_eq_some_iff.1 hu).1; omega)
      injection h with h
      subst h
      exact hc j u hu
    obtain ⟨v', w2, hrun, ho, hg, _, _⟩ := run_append_own_at (P := P) w base T ty e i (.int .u8 0) 1 1 hT h1 h2 h3 h4 rfl (by omega) _ n _ hown ad m c (cellsOf k) (by rw [cellsOf_length, hr.len, Nat.mul_one]) hsrc (cellsOf_one k) (by unfold maxLen; omega) (by omega) hbase
    exact done v' w2 hrun ho hg

theorem wp_append_bytes {o : Oper} {a : Act} {K : Act → World → Prop} {Q : Exit → Act → World → Prop} (s x : Operand) (T : TypeId)
    (ho : o.op = .call { callee := .builtin .append, args := #[s, x], argTypes := #[T, T] }) (e : TypeId) (hT : P.underlying T = some (.slice e)) (hi : (P.info? e).map (fun i => (i.zero, i.size, i.bytes)) = some (some (.int .u8 0), 1, 1))
    (hs : a.eval s = .slice A n cap) {B : Option Addr} {m c : Nat} {k : List UInt8} (hx : a.eval x = .slice B m c) (hown : Own w base e A n cap l) (hr : Rd w B m c k) (hsz : n + m ≤ 140737488355328) (hbase : base ≤ w.heap.size)
    (h : ∀ A' cap' w', Own w' base e A' (n + m) cap' (l ++ k) → w.grownBy w' (Value.slice A n cap).ownBlock → K (a.put o.dst (.slice A' (n + m) cap')) w') : o.wp P a w K Q := by
  obtain ⟨A', cap', w', hrun, h2, h3⟩ := run_append_bytes (P := P) T o.type e hT hi hown hr hsz hbase
  unfold Oper.wp execOp
  simp only [ho, resolve, invoke, builtin, Sem.run_bind, Sem.run_pure, Result.andThen_ok, List.map_toArray, List.map_cons, List.map_nil, hs, hx, hrun]
  exact h A' cap' w' h2 h3

theorem wpList_append_bytes {ops : Array Oper} {rest : List Oper} {o : Oper} {a : Act} {Q : Exit → Act → World → Prop} (hgd : o.guard = none) (s x : Operand) (T : TypeId)
    (ho : o.op = .call { callee := .builtin .append, args := #[s, x], argTypes := #[T, T] }) (e : TypeId) (hT : P.underlying T = some (.slice e)) (hi : (P.info? e).map (fun i => (i.zero, i.size, i.bytes)) = some (some (.int .u8 0), 1, 1))
    (hs : a.eval s = .slice A n cap) {B : Option Addr} {m c : Nat} {k : List UInt8} (hx : a.eval x = .slice B m c) (hown : Own w base e A n cap l) (hr : Rd w B m c k) (hsz : n + m ≤ 140737488355328) (hbase : base ≤ w.heap.size)
    (h : ∀ A' cap' w', Own w' base e A' (n + m) cap' (l ++ k) → w.grownBy w' (Value.slice A n cap).ownBlock → wpList P ops Q rest (a.put o.dst (.slice A' (n + m) cap')) w') : wpList P ops Q (o :: rest) a w :=
  wpList_plain hgd fun _ hK => wp_append_bytes s x T ho e hT hi hs hx hown hr hsz hbase fun A' cap' w' h2 h3 => hK _ _ (h A' cap' w' h2 h3)

theorem step_append_bytes {ops : Array Oper} {o : Oper} {a : Act} {K : Act → World → Prop} {Q : Exit → Act → World → Prop} {E : Prop} (hw : Region.wanted o (yielded ops a.tmps) = true) (s x : Operand) (T : TypeId)
    (ho : o.op = .call { callee := .builtin .append, args := #[s, x], argTypes := #[T, T] }) (e : TypeId) (hT : P.underlying T = some (.slice e)) (hi : (P.info? e).map (fun i => (i.zero, i.size, i.bytes)) = some (some (.int .u8 0), 1, 1))
    (hs : a.eval s = .slice A n cap) {B : Option Addr} {m c : Nat} {k : List UInt8} (hx : a.eval x = .slice B m c) (hown : Own w base e A n cap l) (hr : Rd w B m c k) (hsz : n + m ≤ 140737488355328) (hbase : base ≤ w.heap.size)
    (h : ∀ A' cap' w', Own w' base e A' (n + m) cap' (l ++ k) → w.grownBy w' (Value.slice A n cap).ownBlock → K (a.put o.dst (.slice A' (n + m) cap')) w') :
    if Region.wanted o (yielded ops a.tmps) = true then Oper.wp P o a w K Q else E := by
  rw [if_pos hw]
  exact wp_append_bytes s x T ho e hT hi hs hx hown hr hsz hbase h
/-- append([]byte{}, x...): a copy of x. -/
theorem wpList_append_fresh {ops : Array Oper} {rest : List Oper} {o : Oper} {a : Act} {Q : Exit → Act → World → Prop} (hgd : o.guard = none) (s x : Operand) (T : TypeId)
    (ho : o.op = .call { callee := .builtin .append, args := #[s, x], argTypes := #[T, T] }) (e : TypeId) (hT : P.underlying T = some (.slice e)) (hi : (P.info? e).map (fun i => (i.zero, i.size, i.bytes)) = some (some (.int .u8 0), 1, 1))
    {c0 : Nat} (hs : a.eval s = .slice A 0 c0) {B : Option Addr} {m c : Nat} {k : List UInt8} (hx : a.eval x = .slice B m c) (hown : Own w base e A 0 c0 []) (hr : Rd w B m c k) (hsz : m ≤ 140737488355328) (hbase : base ≤ w.heap.size) (w0 : World) (hb : Below base w0 w)
    (h : ∀ A' cap' w', Own w' base e A' m cap' k → Below base w0 w' → wpList P ops Q rest (a.put o.dst (.slice A' m cap')) w') : wpList P ops Q (o :: rest) a w :=
  wpList_append_bytes hgd s x T ho e hT hi hs hx hown hr (by omega) hbase fun A' cap' w' h2 h3 => by
    have h4 := h A' cap' w' (by simpa using h2) (hb.grown h3 hbase (fun g hg => (World.ownsRow.lt hown g hg).1))
    rw [Nat.zero_add]
    exact h4

/-- append(v, x...), v of the call's own. -/
theorem wpList_append_more {ops : Array Oper} {rest : List Oper} {o : Oper} {a : Act} {Q : Exit → Act → World → Prop} (hgd : o.guard = none) (s x : Operand) (T : TypeId)
    (ho : o.op = .call { callee := .builtin .append, args := #[s, x], argTypes := #[T, T] }) (e : TypeId) (hT : P.underlying T = some (.slice e)) (hi : (P.info? e).map (fun i => (i.zero, i.size, i.bytes)) = some (some (.int .u8 0), 1, 1))
    (hs : a.eval s = .slice A n cap) {B : Option Addr} {m c : Nat} {k : List UInt8} (hx : a.eval x = .slice B m c) (hown : Own w base e A n cap l) (hr : Rd w B m c k) (hsz : n + m ≤ 140737488355328) (hbase : base ≤ w.heap.size) (w0 : World) (hb : Below base w0 w)
    (h : ∀ A' cap' w', Own w' base e A' (n + m) cap' (l ++ k) → Below base w0 w' → wpList P ops Q rest (a.put o.dst (.slice A' (n + m) cap')) w') : wpList P ops Q (o :: rest) a w :=
  wpList_append_bytes hgd s x T ho e hT hi hs hx hown hr hsz hbase fun A' cap' w' h2 h3 =>
    h A' cap' w' h2 (hb.grown h3 hbase (fun g hg => (World.ownsRow.lt hown g hg).1))
/-- append([]byte{}, x...) inside a region that draws its order. -/
theorem step_append_fresh {ops : Array Oper} {o : Oper} {a : Act} {K : Act → World → Prop} {Q : Exit → Act → World → Prop} {E : Prop} (hw : Region.wanted o (yielded ops a.tmps) = true) (s x : Operand) (T : TypeId)
    (ho : o.op = .call { callee := .builtin .append, args := #[s, x], argTypes := #[T, T] }) (e : TypeId) (hT : P.underlying T = some (.slice e)) (hi : (P.info? e).map (fun i => (i.zero, i.size, i.bytes)) = some (some (.int .u8 0), 1, 1))
    {c0 : Nat} (hs : a.eval s = .slice A 0 c0) {B : Option Addr} {m c : Nat} {k : List UInt8} (hx : a.eval x = .slice B m c) (hown : Own w base e A 0 c0 []) (hr : Rd w B m c k) (hsz : m ≤ 140737488355328) (hbase : base ≤ w.heap.size) (w0 : World) (hb : Below base w0 w)
    (h : ∀ A' cap' w', Own w' base e A' m cap' k → Below base w0 w' → K (a.put o.dst (.slice A' m cap')) w') :
    if Region.wanted o (yielded ops a.tmps) = true then Oper.wp P o a w K Q else E :=
  step_append_bytes hw s x T ho e hT hi hs hx hown hr (by omega) hbase fun A' cap' w' h2 h3 => by
    have h4 := h A' cap' w' (by simpa using h2) (hb.grown h3 hbase (fun g hg => (World.ownsRow.lt hown g hg).1))
    rw [Nat.zero_add]
    exact h4
end

end Go.Proofs.Ytjoifkmcfenhpaa.NumMem

/-
  Contracts of the document's own answer for layer 1 (registrarref01): Put, PutText.
-/
namespace Go.Proofs.Ytjoifkmcfenhpaa.NumWalk
open Go.RowKit Go.Proofs.Ytjoifkmcfenhpaa.NumMath Go.Proofs.Ytjoifkmcfenhpaa.NumMem
open Go.Lib (uvarint zigzag)

/-- The state of the loop: some bytes of u are laid down, v is what is left. -/
structure RPut (w wr : World) (A : Option Addr) (n cap : Nat) (l : List UInt8) (u v : Nat) : Prop where
  own : ∃ d, Own wr w.heap.size 5 A n cap (l ++ d) ∧ uvarint u = d ++ uvarint v
  lt : v < 18446744073709551616
  below : Below w.heap.size w wr

theorem RPut.n_le {w wr : World} {A : Option Addr} {n cap : Nat} {l : List UInt8} {u v : Nat} (h : RPut w wr A n cap l u v) (hu : u < 18446744073709551616) : n ≤ l.length + 10 := by
  obtain ⟨d, ho, hd⟩ := h.own
  have h1 := Go.Lib.uvarint_length64 hu
  have h2 := congrArg List.length hd
  have h3 := ho.len
  rw [List.length_append] at h2 h3
  omega

theorem rd_one (w : World) (t : TypeId) (x : Int) (c : UInt8) (hx : x = (c.toNat : Int)) : Rd (w.alloc (.cells #[.int .u8 x] t)) (some ⟨w.heap.size, 0, none⟩) 1 1 [c] := by
  subst hx
  exact (Row.new w t [c]).rd (by unfold maxLen; simp)

theorem rput_step {w w1 : World} {n : Nat} {l : List UInt8} {u v : Nat} {A' : Option Addr} {cap' : Nat} {d : List UInt8} (hd : uvarint u = d ++ uvarint v) (hv : 128 ≤ v) (hlt : v < 18446744073709551616)
    (ho : Own w1 w.heap.size 5 A' (n + 1) cap' (l ++ d ++ [(v % 128 + 128).toUInt8])) (hb : Below w.heap.size w w1) : RPut w w1 A' (n + 1) cap' l u (v / 128) :=
  ⟨⟨d ++ [(v % 128 + 128).toUInt8], by rw [← List.append_assoc]; exact ho, by rw [hd, Go.Lib.uvarint_big hv]; simp⟩, by omega, hb⟩

theorem wrap2 (x : Int) (h0 : 0 ≤ x) (h1 : x ≤ 9223372036854775807) : IntKind.u64.wrap (2 * IntKind.u64.wrap x) = 2 * x := by
  rw [IntKind.wrap_u64, IntKind.wrap_u64]
  omega

set_option maxRecDepth 100000 in
set_option maxHeartbeats 1000000 in
theorem refPut_any (A : Option Addr) (n cap : Nat) (l : List UInt8) (x : Int) (w : World) (h : Rd w A n cap l) (h0 : -9223372036854775808 ≤ x) (h1 : x ≤ 9223372036854775807) (hn : n ≤ 70368744177664) :
    Calls Try.prog 18 #[.slice A n cap, .int .i64 x] w fun e w' => ∃ A' cap', e = .returned (.slice A' (n + (enc x).length) cap') ∧ Own w' w.heap.size 5 A' (n + (enc x).length) cap' (l ++ enc x) ∧ Below w.heap.size w w' := by
  have hz := Go.Lib.zigzag_lt h0 h1
  have ba : Below w.heap.size w (w.alloc (.cells #[] 5)) := (Below.refl _ _).alloc (Nat.le_refl _) _
  have r1 := h.below ba
  have hl := h.len
  have HL := Go.Lib.hid hl
  clear hl
  have hez : x < 0 → 2 * -(x + 1) + 1 = ((zigzag x : Nat) : Int) := by
    intro hx
    unfold zigzag
    rw [if_neg (by omega)]
    omega
  have hep : 0 ≤ x → 2 * x = ((zigzag x : Nat) : Int) := by
    intro hx
    unfold zigzag
    rw [if_pos (by omega)]
    omega
  have HEZ := Go.Lib.hid hez
  have HEP := Go.Lib.hid hep
  have e0 : enc x = uvarint (zigzag x) := rfl
  rw [e0]
  clear hez hep e0
  go_enter Try.func18, Try.ntmps18
  go_upto_if 11 with (fail)
  go_cut [5] (fun t wx => w = wx ∧ t = .int .u64 ((zigzag x : Nat) : Int))
  case first =>
    by_cases hx : x < 0
    · go_wp2_with fail
      go_meet
      exact ⟨rfl, by rw [HEZ.out hx]⟩
    · go_wp2_with fail
      go_meet
      exact ⟨rfl, by rw [wrap2 x (by omega) h1, HEP.out (by omega)]⟩
  case rest =>
    obtain ⟨rfl, rfl⟩ := hcut
    clear HEZ HEP
    go_wp2_with (first
      | (at_builtin; refine wpList_append_fresh rfl (.tmp 18) (.tmp 19) 27 rfl 5 Try.underlying27 u8_info rfl rfl (Own.empty w 5 (Nat.le_refl _)) r1 (by omega) ba.size w ba ?_; intro A5 c5 w5 o5 b5))
    clear r1 ba h
    go_loopw [5, 6] (fun t o wr => ∃ (v : Nat) (A' : Option Addr) (n' c' : Nat), t = .int .u64 (v : Nat) ∧ o = .slice A' n' c' ∧ RPut w wr A' n' c' l (zigzag x) v) (fun t _ _ => (intOf t).toNat)
    case atStart => exact ⟨zigzag x, _, _, _, rfl, rfl, ⟨[], by simpa using o5, rfl⟩, hz, b5⟩
    case round =>
      obtain ⟨v, A', n', c', rfl, rfl, hp⟩ := hrel
      have hnl := hp.n_le hz
      have hv := hp.lt
      have hB := hp.below
      obtain ⟨d, ho, hd⟩ := hp.own
      have HDD := Go.Lib.hid hd
      have hn' : n' ≤ 70368744177674 := by rw [HL.out] at hnl; omega
      clear hd hnl o5 b5 hp
      by_cases h128 : 128 ≤ v
      · have bb : Below w.heap.size w (wr.alloc (.cells #[.int .u8 ((v : Int) % 128 + 128)] 5)) := hB.alloc hB.size _
        have rr := rd_one wr 5 ((v : Int) % 128 + 128) (v % 128 + 128).toUInt8 (by rw [toU8 (by omega)]; omega)
        have oo : Own (wr.alloc (.cells #[.int .u8 ((v : Int) % 128 + 128)] 5)) w.heap.size 5 A' n' c' (l ++ d) := ho.below ((Below.refl _ _).alloc (Nat.le_refl _) _)
        go_wp2_with (first
          | (at_builtin; refine wpList_append_more rfl (.tmp 23) (.tmp 28) 27 rfl 5 Try.underlying27 u8_info rfl rfl oo rr (by omega) bb.size w bb ?_; intro A6 c6 w6 o6 b6))
        go_roundw
        case rel => exact ⟨v / 128, _, _, _, by go_num, rfl, rput_step HDD.out h128 hv o6 b6⟩
        case measure => simp [intOf]; omega
      · have bb : Below w.heap.size w (wr.alloc (.cells #[.int .u8 (v : Int)] 5)) := hB.alloc hB.size _
        have rr := rd_one wr 5 (v : Int) v.toUInt8 (by rw [toU8 (by omega)])
        have oo : Own (wr.alloc (.cells #[.int .u8 (v : Int)] 5)) w.heap.size 5 A' n' c' (l ++ d) := ho.below ((Below.refl _ _).alloc (Nat.le_refl _) _)
        go_wp2_with (first
          | (at_builtin; refine wpList_append_more rfl (.tmp 32) (.tmp 35) 27 rfl 5 Try.underlying27 u8_info rfl rfl oo rr (by omega) bb.size w bb ?_; intro A6 c6 w6 o6 b6))
        go_ret
        have hd := HDD.out
        rw [Go.Lib.uvarint_small (x := v) (by omega)] at hd
        have hlen : n + (uvarint (zigzag x)).length = n' + 1 := by
          have h2 := ho.len
          rw [List.length_append, HL.out] at h2
          rw [hd, List.length_append]
          simp
          omega
        rw [hlen]
        refine ⟨A6, c6, rfl, ?_, b6⟩
        rw [hd, ← List.append_assoc]
        exact o6

/-- []byte(s): what it makes reads as s. -/
theorem rd_bytes (w : World) (e : TypeId) (s : ByteArray) (cap : Nat) (hc : s.size ≤ cap) (hcm : cap ≤ maxLen) (fr : Nat × Nat) :
    Rd (w.drew.alloc (.cells (bytesRow s cap) e fr)) (some ⟨w.heap.size, 0, none⟩) s.size cap s.data.toList := by
  refine Rd.of_block (heap_alloc_new w.drew _) (by simp) hc hcm fun i hi => ?_
  unfold bytesRow
  have hi' : i < s.data.toList.length := by simpa using hi
  rw [Array.getElem?_append_left (by simpa using hi), Array.getElem?_map]
  have hi2 : i < s.data.size := by simpa using hi
  have e1 : s.data.toList.getD i 0 = s.data[i] := by simp [List.getD, Array.getElem?_eq_getElem hi2]
  rw [Array.getElem?_eq_getElem hi2, e1]
  rfl

set_option maxRecDepth 100000 in
set_option maxHeartbeats 1000000 in
theorem refPutText_any (A : Option Addr) (n cap : Nat) (l : List UInt8) (s : ByteArray) (w : World) (h : Rd w A n cap l) (hn : n ≤ 35184372088832) (hs : s.size ≤ 35184372088832) :
    Calls Try.prog 37 #[.slice A n cap, .string s] w fun e w' => ∃ A' cap', e = .returned (.slice A' (n + (enc (s.size : Int)).length + s.size) cap') ∧ Own w' w.heap.size 5 A' (n + (enc (s.size : Int)).length + s.size) cap' (l ++ enc (s.size : Int) ++ s.data.toList) ∧ Below w.heap.size w w' := by
  have h10 := enc_le (s.size : Int) (by omega) (by omega)
  have hcv := fun (W : World) => run_bytes_of_string (P := Try.prog) W 9 27 5 s Try.underlying9 Try.underlying27 Try.underlying5
  go_enter Try.func37, Try.ntmps37
  go_wp2_with fail
  refine (refPut_any A n cap l (s.size : Int) _ h (by omega) (by omega) (by omega)).mono ?_
  rintro e w1 ⟨A1, c1, rfl, o1, b1⟩
  have hcv1 := hcv w1
  have hc1 := grownCap_ge w1 s.size 0 5
  have hc2 := grownCap_le_maxLen w1 s.size 0 5 (by unfold maxLen; omega)
  generalize hC : grownCap w1 s.size 0 5 = C at hcv1 hc1 hc2
  clear hC hcv
  have rr := rd_bytes w1 5 s C hc1 hc2 ((bytesRow s C).size, (bytesRow s C).size + 1)
  have bd : Below w1.heap.size w1 (w1.drew.alloc (.cells (bytesRow s C) 5 ((bytesRow s C).size, (bytesRow s C).size + 1))) := ((Below.refl _ _).drew).alloc (Nat.le_refl _) _
  have oo := o1.below bd
  have bb := b1.trans (bd.mono b1.size)
  generalize bytesRow s C = X at *
  clear o1 h
  go_wp2_with (first
    | (at_builtin; refine wpList_append_more rfl (.tmp 8) (.tmp 10) 27 rfl 5 Try.underlying27 u8_info rfl rfl oo rr (by omega) bb.size w bb ?_; intro A6 c6 w6 o6 b6))
  go_ret
  exact ⟨A6, c6, rfl, o6, b6⟩

end Go.Proofs.Ytjoifkmcfenhpaa.NumWalk

/-
  Contracts of the document's answers of layer 5: Put.
-/
namespace Go.Proofs.Ytjoifkmcfenhpaa.EcWalk
open Go.RowKit Go.Proofs.Ytjoifkmcfenhpaa.MemRow Go.Proofs.Ytjoifkmcfenhpaa.Ev Go.Proofs.Ytjoifkmcfenhpaa.NameMath Go.Proofs.Ytjoifkmcfenhpaa.NameWalk Go.Proofs.Ytjoifkmcfenhpaa.EvWalk Go.Proofs.Ytjoifkmcfenhpaa.NumMath Go.Proofs.Ytjoifkmcfenhpaa.NumMem Go.Proofs.Ytjoifkmcfenhpaa.NumWalk

/-- Bytes that a call has laid, in a row of its own, as long as they are. -/
def Laid (w : World) (base : Nat) (v : Value) (l : List UInt8) : Prop := ∃ A cap, v = .slice A l.length cap ∧ Own w base 5 A l.length cap l
theorem Laid.below {w w' : World} {base : Nat} {v : Value} {l : List UInt8} (h : Laid w base v l) (hb : Below w.heap.size w w') : Laid w' base v l := by
  obtain ⟨A, cap, rfl, h⟩ := h
  exact ⟨A, cap, rfl, h.below hb⟩
theorem Laid.lower {w : World} {base base' : Nat} {v : Value} {l : List UInt8} (h : Laid w base v l) (hb : base' ≤ base) : Laid w base' v l := by
  obtain ⟨A, cap, rfl, h⟩ := h
  refine ⟨A, cap, rfl, h.1, ?_⟩
  rcases h.2 with h2 | ⟨g, c, cur, hv, hg, rest⟩
  · exact .inl h2
  · exact .inr ⟨g, c, cur, hv, Nat.le_trans hb hg, rest⟩

theorem refPut_laid (A : Option Addr) (n cap : Nat) (l : List UInt8) (x : Int) (w : World) (h : Rd w A n cap l) (hx : -9223372036854775808 ≤ x ∧ x ≤ 9223372036854775807) (hn : l.length ≤ 10000000) :
    Calls Try.prog 18 #[.slice A n cap, .int .i64 x] w fun e w' => ∃ v l', Hid (l' = l ++ enc x) ∧ e = .returned v ∧ Laid w' w.heap.size v l' ∧ Below w.heap.size w w' := by
  have hl := h.len
  refine (refPut_any A n cap l x w h hx.1 hx.2 (by omega)).mono ?_
  rintro e w' ⟨A', c', rfl, ho, hb⟩
  have e1 : n + (enc x).length = (l ++ enc x).length := by rw [List.length_append, hl]
  rw [e1] at ho ⊢
  exact ⟨_, _, Go.Lib.hid rfl, rfl, ⟨A', c', rfl, ho⟩, hb⟩
theorem refTxt_laid (A : Option Addr) (n cap : Nat) (l : List UInt8) (s : ByteArray) (w : World) (h : Rd w A n cap l) (hs : s.size ≤ 1000) (hn : l.length ≤ 10000000) :
    Calls Try.prog 37 #[.slice A n cap, .string s] w fun e w' => ∃ v l', Hid (l' = l ++ txt s) ∧ e = .returned v ∧ Laid w' w.heap.size v l' ∧ Below w.heap.size w w' := by
  have hl := h.len
  refine (refPutText_any A n cap l s w h (by omega) (by omega)).mono ?_
  rintro e w' ⟨A', c', rfl, ho, hb⟩
  have e1 : n + (enc (s.size : Int)).length + s.size = (l ++ txt s).length := by rw [List.length_append, txt_len, hl]; omega
  rw [e1, List.append_assoc] at ho
  rw [e1]
  exact ⟨_, _, Go.Lib.hid rfl, rfl, ⟨A', c', rfl, ho⟩, hb⟩

/-- What laying an event down comes to. -/
def PutE (l : List UInt8) (ev : Ev) (w : World) (e : Ending) (w' : World) : Prop :=
  (mayE ev = 0 ∧ ∃ v, e = .returned (.tuple #[v, .int .i64 0]) ∧ Laid w' w.heap.size v (l ++ encE ev)) ∨ (mayE ev ≠ 0 ∧ e = .returned (.tuple #[.slice none 0 0, .int .i64 (mayE ev)]))

theorem head_le {e : Ev} (h : Small e) (j : Nat) : (txt e.s ++ txt e.t ++ enc (e.tags.length : Int) ++ txts (e.tags.take j)).length ≤ 10000 := by
  have h1 := txt_le (s := e.s) (by have := h.s; omega)
  have h2 := txt_le (s := e.t) (by have := h.t; omega)
  have h3 := enc_le (e.tags.length : Int) (by omega) (by have := h.nt; omega)
  have h4 := txts_le (ss := e.tags.take j) fun x hx => by have := h.tags x (List.mem_of_mem_take hx); omega
  have h5 : (e.tags.take j).length ≤ 6 := by rw [List.length_take]; have := h.nt; omega
  simp only [List.length_append]
  omega
theorem tail_le {e : Ev} (h : Small e) (j : Nat) : (enc (e.fs.length : Int) ++ fldsE (e.fs.take j)).length ≤ 10000 := by
  have h3 := enc_le (e.fs.length : Int) (by omega) (by have := h.nf; omega)
  have h4 := fldsE_le (fs := e.fs.take j) (fun x hx => by have := h.names x (List.mem_of_mem_take hx); omega) (fun x hx => by have := h.nums x (List.mem_of_mem_take hx); omega)
  have h5 : (e.fs.take j).length ≤ 4 := by rw [List.length_take]; have := h.nf; omega
  simp only [List.length_append]
  omega

set_option maxHeartbeats 2000000 in
set_option maxRecDepth 100000 in
theorem refPutE_any (A : Option Addr) (n cap : Nat) (l : List UInt8) (v : Value) (ev : Ev) (w : World) (h : Rd w A n cap l) (hl : l.length ≤ 1000000) (hv : IsEv w v ev) (hok : EvOk ev) :
    Calls Try.prog 21 #[.slice A n cap, v] w fun e w' => PutE l ev w e w' ∧ Below w.heap.size w w' := by
  have hv0 := hv
  obtain ⟨T, nT, cT, F, nF, cF, rfl, hT, hF⟩ := hv
  have lT := RdS.len hT
  have lF := RdF.len hF
  have LT := Go.Lib.hid lT
  have LF := Go.Lib.hid lF
  have B1 : Below w.heap.size w (w.alloc (.cells #[.string ev.s, .string ev.t, .slice T nT cT, .slice F nF cF] 44)) := (Below.refl _ _).alloc (Nat.le_refl _) _
  have E1 := EvAt.new w (.string ev.s) (.string ev.t) (.slice T nT cT) (.slice F nF cF)
  clear lT lF
  go_enter Try.func21, Try.ntmps21
  go_upto_region 1 with (fail)
  generalize w.alloc (.cells #[.string ev.s, .string ev.t, .slice T nT cT, .slice F nF cF] 44) = w1 at *
  have k0 := E1.c0
  have k1 := E1.c1
  have k2 := E1.c2
  have k3 := E1.c3
  go_wp2_with fail
  refine (refMayE_any _ ev w1 (hv0.below B1) hok).mono ?_
  rintro e w2 ⟨rfl, b2⟩
  have E2 := E1.below b2 E1.lt
  have B2 := below_chain B1 b2
  clear k0 k1 k2 k3 E1 B1 b2
  by_cases h0 : mayE ev = 0
  case neg =>
    have m0 : (mayE ev != 0) = true := by rw [bne_iff_ne]; exact h0
    go_wp2_with fail
    go_ret2
    exact ⟨.inr ⟨h0, rfl⟩, B2⟩
  rw [h0]
  have H0 := Go.Lib.hid h0
  have sm := may_smallE h0
  have SM := Go.Lib.hid sm
  have hs := sm.s
  have ht := sm.t
  have hnt : nT ≤ 6 := by rw [← LT.out]; exact sm.nt
  have hnf : nF ≤ 4 := by rw [← LF.out]; exact sm.nf
  clear h0 sm
  have k0 := E2.c0
  have k1 := E2.c1
  have r2 := h.below B2
  have hs' : ev.s.size ≤ 1000 := by omega
  have ht' : ev.t.size ≤ 1000 := by omega
  have hl3' : (l ++ txt ev.s).length ≤ 10000000 := by have := txt_le hs'; rw [List.length_append]; omega
  have HL3 := Go.Lib.hid hl3'
  clear hl3'
  have hl0 : l.length ≤ 10000000 := by omega
  have b0 : Below w2.heap.size w2 w2.drew := bel_drew (Below.refl _ _)
  have r2d := r2.below b0
  go_wp2_with fail
  go_region_held (fun w' => w'.cell? ⟨w.heap.size, 0, none⟩ = some (.string ev.s) ∧ w'.cell? ⟨w.heap.size, 1, none⟩ = some (.string ev.t))
    (first | exact ⟨k0, k1⟩ | exact ⟨bcell b3 k0, bcell b3 k1⟩ | exact ⟨bcell b4 k0, bcell b4 k1⟩)
    (first
      | (go_at_call 37; refine (refTxt_laid A3 l3.length c3 l3 ev.t w3 o3.rd ht' hl3).mono ?_; rintro e w4 ⟨u4, l4, H4, rfl, ⟨A4, c4, rfl, o4⟩, bb⟩; have b4 := below_chain b3 bb; clear bb)
      | (go_at_call 37; refine (refTxt_laid A n cap l ev.s w2.drew r2d hs' hl0).mono ?_; rintro e w3 ⟨u3, l3, H3, rfl, ⟨A3, c3, rfl, o3⟩, bb⟩; have b3 := below_chain b0 bb; have hl3 : l3.length ≤ 10000000 := (by rw [H3.out]; exact HL3.out); clear bb))
  have E4 := E2.below b4 E2.lt
  have B4 := below_chain B2 b4
  have hl4 : l4.length ≤ 10000000 := by
    have h1 := txt_le hs'
    have h2 := txt_le ht'
    rw [H4.out, H3.out]
    simp only [List.length_append]
    omega
  have hxT : -9223372036854775808 ≤ (nT : Int) ∧ (nT : Int) ≤ 9223372036854775807 := by omega
  have k2 := E4.c2
  clear k0 k1 b3 b4 b0 r2d r2 hl3 HL3 E2 B2
  go_wp2_with fail
  refine (refPut_laid A4 l4.length c4 l4 (nT : Int) w4 o4.rd hxT hl4).mono ?_
  rintro e w5 ⟨u5, l5, H5, rfl, L5, b5⟩
  have E5 := E4.below b5 E4.lt
  have B5 := below_chain B4 b5
  have L5' := Laid.lower L5 B4.size
  have e5 : l5 = l ++ (txt ev.s ++ txt ev.t ++ enc (ev.tags.length : Int) ++ txts (ev.tags.take 0)) := by
    rw [H5.out, H4.out, H3.out, LT.out]
    simp [txts, List.append_assoc]
  have HE5 := Go.Lib.hid e5
  clear k2 E4 B4 b5 L5 e5 hl4 hxT o4 o3
  obtain ⟨A5, c5, rfl, o5⟩ := L5'
  go_wp2_with fail
  go_loopw [7, 8] (fun o i wr => ∃ (j : Nat) (A' : Option Addr) (c' : Nat) (l' : List UInt8), j ≤ nT ∧ o = .slice A' l'.length c' ∧ i = .int .i64 j ∧ Hid (l' = l ++ (txt ev.s ++ txt ev.t ++ enc (ev.tags.length : Int) ++ txts (ev.tags.take j))) ∧ Own wr w.heap.size 5 A' l'.length c' l' ∧
      EvAt wr w.heap.size (.string ev.s) (.string ev.t) (.slice T nT cT) (.slice F nF cF) ∧ Below w.heap.size w wr) (fun _ i _ => nT - (intOf i).toNat)
  case atStart => exact ⟨0, A5, c5, l5, Nat.zero_le _, rfl, rfl, HE5, o5, E5, B5⟩
  case round =>
    obtain ⟨j, A', c', l', hj, rfl, rfl, HQ, oq, Eq, Bq⟩ := hrel
    have k2 := Eq.c2
    have hlq : l'.length ≤ 10000000 := by
      have h1 := head_le SM.out j
      rw [HQ.out, List.length_append]
      omega
    by_cases hlt : j < nT
    · obtain ⟨bt, ot, rfl, _, kt⟩ := RdS.at_ (RdC.below hT Bq) (by omega)
      have ka1 := kt j hlt
      have i1 : (j : Int) < nT := by omega
      have hjl : j < ev.tags.length := by rw [LT.out]; exact hlt
      have ta := take_get ev.tags j hjl
      have hy := SM.out.tags _ (mem_getD ev.tags j hjl)
      have TA := Go.Lib.hid ta
      clear kt ta hjl
      generalize ev.tags.getD j ByteArray.empty = y at *
      have hy' : y.size ≤ 1000 := by omega
      go_wp2_with fail
      refine (refTxt_laid A' l'.length c' l' y wr oq.rd hy' hlq).mono ?_
      rintro e w6 ⟨u6, l6, H6, rfl, L6, b6⟩
      obtain ⟨A6, c6, rfl, o6⟩ := Laid.lower L6 Bq.size
      have E6 := Eq.below b6 Eq.lt
      have B6 := below_chain Bq b6
      have H7 : Hid (l6 = l ++ (txt ev.s ++ txt ev.t ++ enc (ev.tags.length : Int) ++ txts (ev.tags.take (j + 1)))) := Go.Lib.hid (by rw [H6.out, HQ.out, TA.out, txts_snoc]; simp only [List.append_assoc])
      clear k2 ka1 L6
      go_wp2_with fail
      go_roundw
      case rel => exact ⟨j + 1, A6, c6, l6, by omega, rfl, by go_num, H7, o6, E6, B6⟩
      case measure => simp [intOf]; omega
    · obtain rfl : nT = j := by omega
      have hxF : -9223372036854775808 ≤ (nF : Int) ∧ (nF : Int) ≤ 9223372036854775807 := by omega
      have k3 := Eq.c3
      go_wp2_with fail
      refine (refPut_laid A' l'.length c' l' (nF : Int) wr oq.rd hxF hlq).mono ?_
      rintro e w7 ⟨u7, l7, H7, rfl, L7, b7⟩
      obtain ⟨A7, c7, rfl, o7⟩ := Laid.lower L7 Bq.size
      have E7 := Eq.below b7 Eq.lt
      have B7 := below_chain Bq b7
      have H8 : Hid (l7 = l ++ (txt ev.s ++ txt ev.t ++ enc (ev.tags.length : Int) ++ txts ev.tags ++ (enc (ev.fs.length : Int) ++ fldsE (ev.fs.take 0)))) := Go.Lib.hid (by
        rw [H7.out, HQ.out, List.take_of_length_le (by rw [LT.out]; exact Nat.le_refl _), LF.out]
        simp [fldsE, List.append_assoc])
      clear k2 k3 L7 hxF hlq HQ oq
      go_wp2_with fail
      go_loopw [7, 9] (fun o i wq => ∃ (k : Nat) (A' : Option Addr) (c' : Nat) (l' : List UInt8), k ≤ nF ∧ o = .slice A' l'.length c' ∧ i = .int .i64 k ∧ Hid (l' = l ++ (txt ev.s ++ txt ev.t ++ enc (ev.tags.length : Int) ++ txts ev.tags ++ (enc (ev.fs.length : Int) ++ fldsE (ev.fs.take k)))) ∧ Own wq w.heap.size 5 A' l'.length c' l' ∧
          EvAt wq w.heap.size (.string ev.s) (.string ev.t) (.slice T nT cT) (.slice F nF cF) ∧ Below w.heap.size w wq) (fun _ i _ => nF - (intOf i).toNat)
      case atStart => exact ⟨0, A7, c7, l7, Nat.zero_le _, rfl, rfl, H8, o7, E7, B7⟩
      case round =>
        obtain ⟨k, A', c', l', hk, rfl, rfl, HQ, oq, Eq, Bq⟩ := hrel
        have k3 := Eq.c3
        have hlq : l'.length ≤ 1100000 := by
          have h1 := head_le SM.out ev.tags.length
          have h2 := tail_le SM.out k
          rw [List.take_of_length_le (Nat.le_refl _)] at h1
          rw [HQ.out, List.length_append, List.length_append]
          omega
        by_cases hlt : k < nF
        · obtain ⟨bf, of, rfl, _, kf⟩ := RdF.at_ (RdC.below hF Bq) (by omega)
          obtain ⟨y1, y2⟩ := kf k hlt
          have i1 : (k : Int) < nF := by omega
          have hkl : k < ev.fs.length := by rw [LF.out]; exact hlt
          have ta := fs_take ev.fs k hkl
          have hy := SM.out.names _ (fs_mem ev.fs k hkl)
          have hz := SM.out.nums _ (fs_mem ev.fs k hkl)
          have TA := Go.Lib.hid ta
          clear kf ta hkl
          generalize ev.fs.getD k (ByteArray.empty, 0) = f at *
          obtain ⟨nm, nz⟩ := f
          simp only at y1 y2 hy hz
          have hy' : nm.size ≤ 1000 := by omega
          have hz' : -9223372036854775808 ≤ nz ∧ nz ≤ 9223372036854775807 := by omega
          have hl2 : l'.length ≤ 10000000 := by omega
          have b0 : Below wr.heap.size wr wr.drew := bel_drew (Below.refl _ _)
          have rd := oq.rd.below b0
          go_wp2_with fail
          go_region_held (fun w' => w'.cell? ⟨w.heap.size, 3, none⟩ = some (.slice (some ⟨bf, of, none⟩) nF cF) ∧ w'.cell? ⟨bf, of + k * 2, none⟩ = some (.string nm) ∧ w'.cell? ⟨bf, of + k * 2 + 1, none⟩ = some (.int .i64 nz))
            (first | exact ⟨k3, y1, y2⟩ | exact ⟨bcell b8 k3, bcell b8 y1, bcell b8 y2⟩ | exact ⟨bcell b9 k3, bcell b9 y1, bcell b9 y2⟩)
            (first
              | (go_at_call 18; refine (refPut_laid A8 l8.length c8 l8 nz w8 o8.rd hz' hl8).mono ?_; rintro e w9 ⟨u9, l9, H9, rfl, ⟨A9, c9, rfl, o9⟩, bb⟩; have b9 := below_chain b8 bb; clear bb)
              | (go_at_call 37; refine (refTxt_laid A' l'.length c' l' nm wr.drew rd hy' hl2).mono ?_; rintro e w8 ⟨u8, l8, H8', rfl, ⟨A8, c8, rfl, o8⟩, bb⟩; have b8 := below_chain b0 bb; have hl8 : l8.length ≤ 10000000 := (by have h1 := txt_le hy'; rw [H8'.out, List.length_append]; omega); clear bb))
          have E9 := Eq.below b9 Eq.lt
          have B9 := below_chain Bq b9
          obtain ⟨A9', c9', e9, o9'⟩ := Laid.lower (base' := w.heap.size) ⟨A9, c9, rfl, o9⟩ (Nat.le_trans Bq.size b8.size)
          injection e9 with e9a e9b e9c
          subst e9a e9c
          have H10 : Hid (l9 = l ++ (txt ev.s ++ txt ev.t ++ enc (ev.tags.length : Int) ++ txts ev.tags ++ (enc (ev.fs.length : Int) ++ fldsE (ev.fs.take (k + 1))))) := Go.Lib.hid (by rw [H9.out, H8'.out, HQ.out, TA.out, fldsE_snoc, fldE]; simp only [List.append_assoc])
          clear k3 y1 y2 b0 rd
          go_wp2_with fail
          go_roundw
          case rel => exact ⟨k + 1, A9, c9, l9, by omega, rfl, by go_num, H10, o9', E9, B9⟩
          case measure => simp [intOf]; omega
        · obtain rfl : nF = k := by omega
          have HF2 : l' = l ++ encE ev := by
            rw [HQ.out, List.take_of_length_le (by rw [LF.out]; exact Nat.le_refl _), encE]
            simp only [List.append_assoc]
          go_wp2_with fail
          go_ret2
          exact ⟨.inl ⟨H0.out, _, rfl, by rw [← HF2]; exact ⟨_, _, rfl, oq⟩⟩, Bq⟩

end Go.Proofs.Ytjoifkmcfenhpaa.EcWalk

/-
  Layer 5's readings: slices of events, and an argument that is one.
-/
namespace Go.Proofs.Ytjoifkmcfenhpaa.Ev
open Go.RowKit Go.ChangeShapes Go.WideShapes Go.Joins Go.Deep Go.Proofs.Ytjoifkmcfenhpaa.MemRow Go.Proofs.Ytjoifkmcfenhpaa.Open

def noEv : Ev := ⟨ByteArray.empty, ByteArray.empty, [], []⟩

/-- The four cells at an address read as an event. -/
def EvCells (w : World) (b o : Nat) (e : Ev) : Prop :=
  ∃ A n ca B m cb, w.cell? ⟨b, o, none⟩ = some (.string e.s) ∧ w.cell? ⟨b, o + 1, none⟩ = some (.string e.t) ∧ w.cell? ⟨b, o + 2, none⟩ = some (.slice A n ca) ∧ w.cell? ⟨b, o + 3, none⟩ = some (.slice B m cb) ∧ RdS w A n ca e.tags ∧ RdF w B m cb e.fs
theorem EvCells.below {w w' : World} {b o : Nat} {e : Ev} (h : EvCells w b o e) (hb : Below w.heap.size w w') : EvCells w' b o e := by
  obtain ⟨A, n, ca, B, m, cb, h0, h1, h2, h3, h4, h5⟩ := h
  exact ⟨A, n, ca, B, m, cb, bcell hb h0, bcell hb h1, bcell hb h2, bcell hb h3, RdC.below h4 hb, RdC.below h5 hb⟩
theorem EvCells.drew {w : World} {b o : Nat} {e : Ev} (h : EvCells w b o e) (k : Nat) : EvCells (w.drewN k) b o e := h

/-- A slice that reads as events. -/
def RdE (w : World) (A : Option Addr) (n cap : Nat) (es : List Ev) : Prop :=
  es.length = n ∧ n ≤ cap ∧ cap ≤ maxLen ∧ (0 < n → ∃ b o, A = some ⟨b, o, none⟩ ∧ b < w.heap.size ∧ ∀ i, i < n → EvCells w b (o + i * 4) (es.getD i noEv))
theorem RdE.nil (w : World) : RdE w none 0 0 [] := ⟨rfl, Nat.le_refl _, Nat.zero_le _, fun h => absurd h (by omega)⟩
theorem RdE.len {w : World} {A : Option Addr} {n cap : Nat} {es : List Ev} (h : RdE w A n cap es) : es.length = n := h.1
theorem RdE.le {w : World} {A : Option Addr} {n cap : Nat} {es : List Ev} (h : RdE w A n cap es) : n ≤ maxLen := Nat.le_trans h.2.1 h.2.2.1
theorem RdE.at_ {w : World} {A : Option Addr} {n cap : Nat} {es : List Ev} (h : RdE w A n cap es) (hn : 0 < n) : ∃ b o, A = some ⟨b, o, none⟩ ∧ b < w.heap.size ∧ ∀ i, i < n → EvCells w b (o + i * 4) (es.getD i noEv) := h.2.2.2 hn
theorem RdE.below {w w' : World} {A : Option Addr} {n cap : Nat} {es : List Ev} (h : RdE w A n cap es) (hb : Below w.heap.size w w') : RdE w' A n cap es :=
  ⟨h.1, h.2.1, h.2.2.1, fun hn => by
    obtain ⟨b, o, hA, hlt, hc⟩ := h.2.2.2 hn
    exact ⟨b, o, hA, Nat.lt_of_lt_of_le hlt hb.size, fun i hi => (hc i hi).below hb⟩⟩

section
variable {H : Type} {enc : TypeId × Value → H} {P : Program} {W : World} {base : Nat} {t e : TypeId} {v : Value} {d : DataW H} {p : List MemPlace}
/-- A slice of events that came in. -/
theorem tr_events {f0 f1 f2 f3 g0 g1 : Field} {tS tF : TypeId} {fuel : Nat} {y : DataW H × List MemPlace} (ht : P.underlying t = some (.slice e)) (he : P.underlying e = some (.struct #[f0, f1, f2, f3])) (ce : P.cellsOf e = 4) (hone : oneCellFields P #[f0, f1, f2, f3] = true)
    (t0 : P.underlying f0.type = some .string) (t1 : P.underlying f1.type = some .string) (t2 : P.underlying f2.type = some (.slice tS)) (hS : P.underlying tS = some .string) (cS : P.cellsOf tS = 1)
    (t3 : P.underlying f3.type = some (.slice tF)) (hF : P.underlying tF = some (.struct #[g0, g1])) (cF : P.cellsOf tF = 2) (o0 : g0.offset = 0) (o1 : g1.offset = 1) (c0 : P.cellsOf g0.type = 1) (c1 : P.cellsOf g1.type = 1) (u0 : P.underlying g0.type = some .string) (u1 : P.underlying g1.type = some (.int .i64))
    (h : DataW.trod enc P W 0 (fun _ => true) true fuel t [v] = some y) :
    ∃ A n ca es, v = .slice A n ca ∧ RdE W A n ca es ∧ ∀ x ∈ es, EvOk x := by
  rcases open_slice ht h with ⟨hcs, _⟩ | ⟨a, l, c, m, nn, D, Pl, hcs, _, hl, hm, hmm, _, hx⟩
  · simp only [List.cons.injEq, and_true] at hcs
    subst hcs
    exact ⟨none, 0, 0, [], rfl, RdE.nil W, by simp⟩
  · simp only [List.cons.injEq, and_true] at hcs
    subst hcs
    have hm' : m = c := by simpa using hmm
    subst hm'
    have each : ∀ i, i < m → ∃ ev : Ev, EvOk ev ∧ ∃ A1 n1 k1 B1 m1 k2, W.cell? (a.add (i * 4)) = some (.string ev.s) ∧ W.cell? (a.add (i * 4 + 1)) = some (.string ev.t) ∧ W.cell? (a.add (i * 4 + 2)) = some (.slice A1 n1 k1) ∧ W.cell? (a.add (i * 4 + 3)) = some (.slice B1 m1 k2) ∧ RdS W A1 n1 k1 ev.tags ∧ RdF W B1 m1 k2 ev.fs := by
      intro i hi
      obtain ⟨cs', h1, h2⟩ := hx i hi
      rw [ce] at h1
      obtain ⟨_, hlen, hcell⟩ := World.cells?_some h1
      obtain ⟨y0, y1, y2, y3, n, _, _, q0, q1, q2, q3⟩ := trod_struct4 he h2
      obtain ⟨z0, k0⟩ := hone_of hone 0 f0 rfl
      obtain ⟨z1, k1⟩ := hone_of hone 1 f1 rfl
      obtain ⟨z2, k2⟩ := hone_of hone 2 f2 rfl
      obtain ⟨z3, k3⟩ := hone_of hone 3 f3 rfl
      match cs', hlen with
      | [v0, v1, v2, v3], _ =>
        have z0q : DataW.trod enc P W 0 (fun _ => true) true n f0.type [v0] = some y0 := by simpa [z0, k0] using q0
        have z1q : DataW.trod enc P W 0 (fun _ => true) true n f1.type [v1] = some y1 := by simpa [z1, k1] using q1
        have z2q : DataW.trod enc P W 0 (fun _ => true) true n f2.type [v2] = some y2 := by simpa [z2, k2] using q2
        have z3q : DataW.trod enc P W 0 (fun _ => true) true n f3.type [v3] = some y3 := by simpa [z3, k3] using q3
        have e0 := hcell 0 (by omega)
        have e1 := hcell 1 (by omega)
        have e2 := hcell 2 (by omega)
        have e3 := hcell 3 (by omega)
        rw [add_add] at e0 e1 e2 e3
        obtain ⟨s, x0, _, ws⟩ := DataW.trod_string t0 z0q
        obtain ⟨s', x1, _, wt⟩ := DataW.trod_string t1 z1q
        injection x0 with x0
        injection x1 with x1
        obtain ⟨A1, n1, k1', ss, rfl, r1, w1⟩ := tr_strs t2 hS cS z2q
        obtain ⟨B1, m1, k2', fs, rfl, r2, w2, w3⟩ := tr_flds t3 hF cF o0 o1 c0 c1 u0 u1 z3q
        subst x0 x1
        exact ⟨⟨s, s', ss, fs⟩, ⟨ws, wt, w1, w2, w3⟩, A1, n1, k1', B1, m1, k2', by simpa using e0, by simpa using e1, by simpa using e2, by simpa using e3, r1, r2⟩
    have hex : ∃ F : Nat → Ev, ∀ i, i < m → EvOk (F i) ∧ ∃ A1 n1 k1 B1 m1 k2, W.cell? (a.add (i * 4)) = some (.string (F i).s) ∧ W.cell? (a.add (i * 4 + 1)) = some (.string (F i).t) ∧ W.cell? (a.add (i * 4 + 2)) = some (.slice A1 n1 k1) ∧ W.cell? (a.add (i * 4 + 3)) = some (.slice B1 m1 k2) ∧ RdS W A1 n1 k1 (F i).tags ∧ RdF W B1 m1 k2 (F i).fs :=
      ⟨fun i => if hi : i < m then (each i hi).choose else noEv, fun i hi => by simp only [hi, dif_pos]; exact (each i hi).choose_spec⟩
    obtain ⟨F, hF'⟩ := hex
    refine ⟨_, l, m, (List.range l).map F, rfl, ⟨by simp, hl, hm, fun hn => ?_⟩, ?_⟩
    · obtain ⟨_, _, _, _, _, _, _, hc0, _⟩ := hF' 0 (by omega)
      rw [Nat.zero_mul] at hc0
      have e0 := spot_none hc0
      have hb := World.block_lt_of_cell? W _ hc0
      rw [e0, add_at] at hb
      refine ⟨a.block, a.off, by rw [← e0], hb, fun i hi => ?_⟩
      have hFj : ((List.range l).map F).getD i noEv = F i := by simp [List.getD, hi]
      rw [hFj]
      obtain ⟨_, A1, n1, k1, B1, m1, k2, h0, h1, h2, h3, r1, r2⟩ := hF' i (by omega)
      rw [e0, add_at] at h0 h1 h2 h3
      exact ⟨A1, n1, k1, B1, m1, k2, h0, h1, h2, h3, r1, r2⟩
    · intro x hxm
      obtain ⟨j, hj, rfl⟩ := List.mem_map.1 hxm
      exact (hF' j (by have := List.mem_range.1 hj; omega)).1
end

end Go.Proofs.Ytjoifkmcfenhpaa.Ev

/-
  Contracts of layer 1 (num), decoding: decode, NewReader, fail, Num, Text, Left, Bad. A reader lies in a block of its own; a call changes that block alone.
-/
namespace Go.Proofs.Ytjoifkmcfenhpaa.NumWalk
open Go.RowKit Go.Proofs.Ytjoifkmcfenhpaa.NumMath Go.Proofs.Ytjoifkmcfenhpaa.NumMem
open Go.Lib (uvarint zigzag)

/-- decode's state at the head of round k. -/
structure DecAt (l : List UInt8) (k q : Nat) : Prop where
  le : k ≤ l.length
  le10 : k ≤ 10
  lt : q < 18446744073709551616
  val : k ≤ 9 → q = valV (l.take k)
  all : ∀ j, j < k → 128 ≤ (l.getD j 0).toNat

theorem and128_fin : ∀ c : Fin 256, bits BinOp.and IntKind.u8 (c.val : Int) 128 = if 128 ≤ c.val then 128 else 0 := by decide +kernel
theorem andNot128_fin : ∀ c : Fin 256, bits BinOp.andNot IntKind.u8 (c.val : Int) 128 = ((c.val % 128 : Nat) : Int) := by decide +kernel

/-- The number so far, with the k-th byte. -/
def accV (q c k : Nat) : Nat := q ||| (c % 128 * 2 ^ (7 * k) % 18446744073709551616)

theorem acc_eq (q c k : Nat) (hq : q < 18446744073709551616) (hc : c < 256) :
    bits BinOp.or IntKind.u64 (q : Int) (IntKind.u64.wrap (IntKind.u64.wrap (bits BinOp.andNot IntKind.u8 (c : Int) 128) * 2 ^ (7 * k))) = (accV q c k : Int) := by
  have e1 := andNot128_fin ⟨c, hc⟩
  simp only at e1
  rw [e1]
  have e2 : IntKind.u64.wrap ((c % 128 : Nat) : Int) = ((c % 128 : Nat) : Int) := by rw [IntKind.wrap_u64]; omega
  rw [e2]
  have e3 : ((c % 128 : Nat) : Int) * 2 ^ (7 * k) = ((c % 128 * 2 ^ (7 * k) : Nat) : Int) := by simp
  rw [e3]
  have e4 : IntKind.u64.wrap ((c % 128 * 2 ^ (7 * k) : Nat) : Int) = ((c % 128 * 2 ^ (7 * k) % 18446744073709551616 : Nat) : Int) := by
    rw [IntKind.wrap_u64]
    omega
  rw [e4, bits_or_u64_nat _ _ hq (Nat.mod_lt _ (by omega))]
  rfl

theorem acc_lt (q c k : Nat) (hq : q < 18446744073709551616) : accV q c k < 18446744073709551616 :=
  Nat.or_lt_two_pow (n := 64) hq (Nat.mod_lt _ (by omega))

theorem pow_128 (k : Nat) : 128 ^ k = 2 ^ (7 * k) := by rw [Nat.pow_mul]

theorem valV_take_succ (l : List UInt8) (k : Nat) (hk : k < l.length) : valV (l.take (k + 1)) = valV (l.take k) + 128 ^ k * ((l.getD k 0).toNat % 128) := by
  have e : l.take (k + 1) = l.take k ++ [l.getD k 0] := by
    rw [List.take_succ_eq_append_getElem hk]
    simp [List.getD, List.getElem?_eq_getElem hk]
  have hl : (l.take k).length = k := by simp; omega
  rw [e, valV_append, hl]
  simp [valV]

theorem acc_val (l : List UInt8) (k : Nat) (hk : k < l.length) (h : k < 9 ∨ (k = 9 ∧ (l.getD k 0).toNat ≤ 1)) : accV (valV (l.take k)) (l.getD k 0).toNat k = valV (l.take (k + 1)) := by
  rw [valV_take_succ l k hk]
  have hv := valV_lt (l.take k)
  have hl : (l.take k).length = k := by simp; omega
  rw [hl, pow_128] at hv
  have hc : (l.getD k 0).toNat < 256 := UInt8.toNat_lt _
  generalize (l.getD k 0).toNat = c at *
  generalize valV (l.take k) = q at *
  have hm : c % 128 * 2 ^ (7 * k) < 18446744073709551616 := by
    rcases h with h | ⟨rfl, h⟩
    · have h1 : 2 ^ (7 * k) ≤ 2 ^ 56 := Nat.pow_le_pow_right (by omega) (by omega)
      have h2 : c % 128 ≤ 127 := by omega
      have := Nat.mul_le_mul h2 h1
      omega
    · have h2 : c % 128 ≤ 1 := by omega
      have := Nat.mul_le_mul_right (2 ^ (7 * 9)) h2
      omega
  unfold accV
  rw [Nat.mod_eq_of_lt hm, pow_128, Nat.or_comm, Nat.mul_comm (c % 128), ← Nat.two_pow_add_eq_or_of_lt hv]
  omega

theorem decAt_next {l : List UInt8} {k q : Nat} (h : DecAt l k q) (hk : k < l.length) (h10 : k < 10) (hc : 128 ≤ (l.getD k 0).toNat) : DecAt l (k + 1) (accV q (l.getD k 0).toNat k) := by
  refine ⟨hk, h10, acc_lt _ _ _ h.lt, fun h9 => ?_, fun j hj => ?_⟩
  · rw [h.val (by omega)]
    exact acc_val l k hk (.inl (by omega))
  · rcases Nat.lt_or_ge j k with hjk | hjk
    · exact h.all j hjk
    · obtain rfl : j = k := by omega
      exact hc

/-- What decode answers. -/
def decU (l : List UInt8) : Nat := if lenV l = 0 then 0 else valV (l.take (lenV l))

theorem decAt_yes {l : List UInt8} {k q : Nat} (h : DecAt l k q) (hk : k < l.length) (h10 : k < 10) (hc : (l.getD k 0).toNat < 128) (he : endB (l.getD k 0).toNat k = true) : lenV l = k + 1 ∧ decU l = accV q (l.getD k 0).toNat k := by
  have hl : lenV l = k + 1 := by
    rw [lenV_end h.all hk h10 hc, if_neg (of_decide_eq_true he)]
  refine ⟨hl, ?_⟩
  have hn := of_decide_eq_true he
  unfold decU
  rw [hl, if_neg (by omega), h.val (by omega), acc_val l k hk (by omega)]

theorem decAt_no {l : List UInt8} {k q : Nat} (h : DecAt l k q) (hk : k < l.length) (h10 : k < 10) (hc : (l.getD k 0).toNat < 128) (he : endB (l.getD k 0).toNat k = false) : lenV l = 0 ∧ decU l = 0 := by
  have hl : lenV l = 0 := by
    have hn := of_decide_eq_false he
    rw [lenV_end h.all hk h10 hc, if_pos (Decidable.not_not.1 hn)]
  exact ⟨hl, by unfold decU; rw [if_pos hl]⟩

theorem decAt_end {l : List UInt8} {k q : Nat} (h : DecAt l k q) (hk : l.length ≤ k ∨ 10 ≤ k) : lenV l = 0 ∧ decU l = 0 := by
  have hl : lenV l = 0 := lenV_none fun j hj => h.all j (by have := h.le; have := h.le10; omega)
  exact ⟨hl, by unfold decU; rw [if_pos hl]⟩

set_option maxHeartbeats 400000 in
set_option maxRecDepth 100000 in
theorem decode_some (b o n cap : Nat) (l : List UInt8) (w : World) (h : Rd w (some ⟨b, o, none⟩) n cap l) (hn : 0 < n) (hc : ∀ i, i < n → w.cell? ⟨b, o + i, none⟩ = some (.int .u8 ((l.getD i 0).toNat : Int))) :
    Calls Try.prog 47 #[.slice (some ⟨b, o, none⟩) n cap] w fun e w' => e = .returned (.tuple #[.int .u64 (decU l : Int), .int .i64 (lenV l : Int)]) ∧ w = w' := by
  have hl := h.len
  have hm := h.le
  unfold maxLen at hm
  have HL := Go.Lib.hid hl
  clear hl
  obtain ⟨m, hmn⟩ : ∃ m : Nat, min (n : Int) 10 = (m : Int) := ⟨min n 10, by omega⟩
  have hm1 : m ≤ n := by omega
  have hm2 : m ≤ 10 := by omega
  have hm3 : n ≤ m ∨ 10 ≤ m := by omega
  go_enter Try.func47, Try.ntmps47
  go_wp2
  clear hmn
  go_loop [4, 10] (fun u i => ∃ k q : Nat, u = .int .u64 q ∧ i = .int .i64 k ∧ k ≤ m ∧ DecAt l k q) (fun _ i => 10 - (intOf i).toNat)
  case atStart => exact ⟨0, 0, rfl, rfl, by omega, ⟨by omega, by omega, by omega, fun _ => rfl, by omega⟩⟩
  case round =>
    obtain ⟨k, q, rfl, rfl, hkm, hd⟩ := hrel
    have hq := hd.lt
    by_cases hlt : k < m
    · have hck := hc k (by omega)
      generalize hcc : (l.getD k 0).toNat = c at hck
      have HC := Go.Lib.hid hcc
      clear hc
      have hc256 : c < 256 := by rw [← hcc]; exact UInt8.toNat_lt _
      have hacc := acc_eq q c k hq hc256
      have hand := and128_fin ⟨c, hc256⟩
      simp only at hand
      have hkl : k < l.length := by rw [HL.out]; omega
      by_cases h128 : 128 ≤ c
      · rw [if_pos h128] at hand
        have hs := decAt_next hd hkl (by omega) (by omega)
        rw [hcc] at hs
        clear hcc
        go_wp2
        go_round
        case rel => exact ⟨k + 1, accV q c k, rfl, by go_num, by omega, hs⟩
        case measure => simp [intOf]; omega
      · rw [if_neg h128] at hand
        cases he : endB c k with
        | true =>
          obtain ⟨r1, r2⟩ := decAt_yes hd hkl (by omega) (by omega) (by rw [hcc]; exact he)
          have R1 := Go.Lib.hid r1
          rw [hcc] at r2
          have R2 := Go.Lib.hid r2
          clear r1 r2 hcc
          go_wp2_with (go_at_call 73; refine (mayEnd_any c k _ (by omega)).mono ?_; rintro e w' ⟨rfl, rfl⟩)
          go_ret2
          rw [R1.out, R2.out]
          exact ⟨rfl, rfl⟩
        | false =>
          obtain ⟨r1, r2⟩ := decAt_no hd hkl (by omega) (by omega) (by rw [hcc]; exact he)
          have R1 := Go.Lib.hid r1
          have R2 := Go.Lib.hid r2
          clear r1 r2 hcc
          go_wp2_with (go_at_call 73; refine (mayEnd_any c k _ (by omega)).mono ?_; rintro e w' ⟨rfl, rfl⟩)
          go_ret2
          rw [R1.out, R2.out]
          exact ⟨rfl, rfl⟩
    · obtain ⟨r1, r2⟩ := decAt_end hd (by rw [HL.out]; omega)
      have R1 := Go.Lib.hid r1
      have R2 := Go.Lib.hid r2
      clear r1 r2
      go_wp2
      go_ret2
      rw [R1.out, R2.out]
      exact ⟨rfl, rfl⟩

set_option maxRecDepth 100000 in
theorem decode_none (A : Option Addr) (cap : Nat) (w : World) :
    Calls Try.prog 47 #[.slice A 0 cap] w fun e w' => e = .returned (.tuple #[.int .u64 0, .int .i64 0]) ∧ w = w' := by
  go_enter Try.func47, Try.ntmps47
  go_wp2
  go_loop [4, 10] (fun u i => u = .int .u64 0 ∧ i = .int .i64 0) (fun _ _ => 0)
  case atStart => exact ⟨rfl, rfl⟩
  case round =>
    obtain ⟨rfl, rfl⟩ := hrel
    go_wp2
    go_ret2
    exact ⟨rfl, rfl⟩

theorem decode_any (A : Option Addr) (n cap : Nat) (l : List UInt8) (w : World) (h : Rd w A n cap l) :
    Calls Try.prog 47 #[.slice A n cap] w fun e w' => e = .returned (.tuple #[.int .u64 (decU l : Int), .int .i64 (lenV l : Int)]) ∧ w = w' := by
  rcases Nat.eq_zero_or_pos n with h0 | h0
  · subst h0
    have hl : l = [] := List.eq_nil_of_length_eq_zero h.len
    subst hl
    exact decode_none A cap w
  · obtain ⟨b, o, rfl, _, hc⟩ := h.at_ h0
    exact decode_some b o n cap l w h h0 hc

theorem decU_lt (l : List UInt8) : decU l < 18446744073709551616 := by
  unfold decU
  split
  · omega
  · rename_i h
    have key : ∀ (m : List UInt8) (i : Nat), i ≤ 9 → lenFrom i m ≠ 0 → valV (m.take (lenFrom i m - i)) < 2 ^ (64 - 7 * i) := by
      intro m
      induction m with
      | nil => intro i _ h0; simp [lenFrom] at h0
      | cons c r ih =>
        intro i hi h0
        simp only [lenFrom] at h0 ⊢
        rw [if_neg (by omega)] at h0 ⊢
        by_cases hc : 128 ≤ c.toNat
        · rw [if_pos hc] at h0 ⊢
          have hi8 : i ≤ 8 := by
            rcases Nat.lt_or_ge i 9 with h9 | h9
            · omega
            · obtain rfl : i = 9 := by omega
              exfalso
              apply h0
              cases r with
              | nil => rfl
              | cons d r => simp [lenFrom]
          have ih' := ih (i + 1) (by omega) h0
          have hle : i + 1 ≤ lenFrom (i + 1) r - 1 + 1 ∨ True := .inr trivial
          have hgt : i + 1 < lenFrom (i + 1) r := lenFrom_gt r (i + 1) h0
          have e : lenFrom (i + 1) r - i = (lenFrom (i + 1) r - (i + 1)) + 1 := by omega
          rw [e, List.take_succ_cons]
          simp only [valV]
          have e2 : 64 - 7 * i = (64 - 7 * (i + 1)) + 7 := by omega
          rw [e2, Nat.pow_add]
          have : (2 : Nat) ^ 7 = 128 := by decide
          omega
        · rw [if_neg hc] at h0 ⊢
          by_cases hz : (0 < i ∧ c.toNat = 0) ∨ (i = 9 ∧ 1 < c.toNat)
          · rw [if_pos hz] at h0; exact absurd rfl h0
          · rw [if_neg hz]
            have e : i + 1 - i = 1 := by omega
            rw [e]
            simp only [List.take_succ_cons, List.take_zero, valV]
            rcases Nat.lt_or_ge i 9 with h9 | h9
            · have h1 : 2 ^ 7 ≤ 2 ^ (64 - 7 * i) := Nat.pow_le_pow_right (by omega) (by omega)
              have : (2 : Nat) ^ 7 = 128 := by decide
              omega
            · obtain rfl : i = 9 := by omega
              have h2 : c.toNat ≤ 1 := by omega
              have : (2 : Nat) ^ (64 - 7 * 9) = 2 := by decide
              omega
    have := key l 0 (by omega) h
    simpa [lenV] using this

end Go.Proofs.Ytjoifkmcfenhpaa.NumWalk

/-
  Contracts of layer 1 (num), the reader: NewReader, fail, Num, Text, Left, Bad.
-/
namespace Go.Proofs.Ytjoifkmcfenhpaa.NumWalk
open Go.RowKit Go.Proofs.Ytjoifkmcfenhpaa.NumMath Go.Proofs.Ytjoifkmcfenhpaa.NumMem
open Go.Lib (uvarint zigzag)

/-- What is left behind Num, and whether the reader is bad. -/
def numL (l : List UInt8) : List UInt8 := if lenV l = 0 then [] else l.drop (lenV l)
def numB (l : List UInt8) (bad : Bool) : Bool := if lenV l = 0 then true else bad

set_option maxRecDepth 100000 in
theorem fail_any (g : Nat) (l : List UInt8) (bad : Bool) (w : World) (h : Rdr w 69 g l bad) :
    Calls Try.prog 48 #[.pointer (some ⟨g, 0, none⟩)] w fun e w' => e = .returned (.tuple #[]) ∧ Rdr w' 69 g [] true ∧ w.grownBy w' (some g) := by
  obtain ⟨A, n, cap, hh, hr, ho⟩ := h
  have HO := Go.Lib.hid ho
  clear ho
  obtain ⟨c0, c1, hf⟩ := two_cell hh
  have f0 := hf 0
  have f1 := hf 1
  have HH := Go.Lib.hid hh
  clear hf hh
  go_enter Try.func48, Try.ntmps48
  go_wp2
  go_end0
  exact ⟨rfl, ⟨none, 0, 0, two_set1 (two_set0 HH.out), Rd.nil _, Old.none _⟩, grown_setCell (grown_setCell ⟨rfl, rfl, rfl, Nat.le_refl _, fun _ _ _ => rfl⟩ _ _) _ _⟩

set_option maxRecDepth 100000 in
theorem left_any (g : Nat) (l : List UInt8) (bad : Bool) (w : World) (h : Rdr w 69 g l bad) :
    Calls Try.prog 27 #[.pointer (some ⟨g, 0, none⟩)] w fun e w' => e = .returned (.int .i64 (l.length : Int)) ∧ w = w' := by
  obtain ⟨A, n, cap, hh, hr, ho⟩ := h
  have HO := Go.Lib.hid ho
  clear ho
  obtain ⟨c0, c1, hf⟩ := two_cell hh
  clear hf hh
  rw [hr.len]
  go_enter Try.func27, Try.ntmps27
  go_wp2
  go_ret
  exact ⟨rfl, rfl⟩

set_option maxRecDepth 100000 in
theorem bad_any (g : Nat) (l : List UInt8) (bad : Bool) (w : World) (h : Rdr w 69 g l bad) :
    Calls Try.prog 75 #[.pointer (some ⟨g, 0, none⟩)] w fun e w' => e = .returned (.bool bad) ∧ w = w' := by
  obtain ⟨A, n, cap, hh, hr, ho⟩ := h
  have HO := Go.Lib.hid ho
  clear ho
  obtain ⟨c0, c1, hf⟩ := two_cell hh
  clear hf hh
  go_enter Try.func75, Try.ntmps75
  go_wp2
  go_ret
  exact ⟨rfl, rfl⟩

set_option maxRecDepth 100000 in
theorem newReader_any (A : Option Addr) (n cap : Nat) (l : List UInt8) (w : World) (h : Rd w A n cap l) (hn : n ≤ 281474976710656) :
    Calls Try.prog 24 #[.slice A n cap] w fun e w' => ∃ g, e = .returned (.pointer (some ⟨g, 0, none⟩)) ∧ w.heap.size ≤ g ∧ Rdr w' 69 g l false ∧ Below w.heap.size w w' := by
  have hl := h.len
  have hm : n ≤ maxLen := h.le
  have HL := Go.Lib.hid hl
  clear hl
  go_enter Try.func24, Try.ntmps24
  go_wp2_with fail
  refine (extend_any A n cap l 0 _ h (by omega)).mono ?_
  rintro e w1 ⟨rfl, hr1, hb1⟩
  go_wp2
  go_ret
  have hrow : l ++ List.replicate 0 0 = l := by simp
  rw [hrow] at hr1
  have hr2 := hr1.rd (by rw [HL.out]; exact hm)
  rw [HL.out] at hr2
  have hlt1 : w.heap.size < w1.heap.size := (Array.getElem?_eq_some_iff.1 hr1).1
  exact ⟨_, rfl, hb1.size, ⟨_, _, _, heap_alloc_new w1 _, hr2.below ((Below.refl _ _).alloc (Nat.le_refl _) _), fun a h => by cases h; exact hlt1⟩, hb1.alloc hb1.size _⟩

set_option maxRecDepth 100000 in
theorem num_none (g : Nat) (l : List UInt8) (bad : Bool) (w : World) (h : Rdr w 69 g l bad) (hl : lenV l = 0) :
    Calls Try.prog 25 #[.pointer (some ⟨g, 0, none⟩)] w fun e w' => e = .returned (.int .i64 0) ∧ Rdr w' 69 g [] true ∧ w.grownBy w' (some g) := by
  have H := Go.Lib.hid h
  obtain ⟨A, n, cap, hh, hr, ho⟩ := h
  have HO := Go.Lib.hid ho
  clear ho
  obtain ⟨c0, c1, hf⟩ := two_cell hh
  have HLV := Go.Lib.hid hl
  clear hf hh hl
  go_enter Try.func25, Try.ntmps25
  go_wp2_with fail
  refine (decode_any A n cap l _ hr).mono ?_
  rintro e w' ⟨rfl, rfl⟩
  rw [HLV.out]
  go_wp2_with (go_at_call 48; refine (fail_any g l bad _ H.out).mono ?_; rintro e w' ⟨rfl, hr2, hg2⟩)
  go_ret
  exact ⟨rfl, hr2, hg2⟩

set_option maxRecDepth 100000 in
theorem num_some (g : Nat) (l : List UInt8) (bad : Bool) (w : World) (h : Rdr w 69 g l bad) (hl : 0 < lenV l) :
    Calls Try.prog 25 #[.pointer (some ⟨g, 0, none⟩)] w fun e w' => e = .returned (.int .i64 (numV l)) ∧ Rdr w' 69 g (l.drop (lenV l)) bad ∧ w.grownBy w' (some g) := by
  have hno := h.no_byte
  obtain ⟨A, n, cap, hh, hr, ho⟩ := h
  have HO := Go.Lib.hid ho
  clear ho
  obtain ⟨c0, c1, hf⟩ := two_cell hh
  have f0 := hf 0
  have HH := Go.Lib.hid hh
  have hle := lenV_le l
  rw [hr.len] at hle
  have hc := hr.cut hle
  have hcap := hr.le_cap
  have hmax := hr.2.2.1
  unfold maxLen at hmax
  have hne : ((lenV l : Int) == 0) = false := by simp; omega
  have hu := decU_lt l
  have hv : unzig (decU l) = numV l := by
    unfold numV decU
    rw [if_neg (by omega), if_neg (by omega)]
  have HV := Go.Lib.hid hv
  clear hf hh hv
  go_enter Try.func25, Try.ntmps25
  go_wp2_with fail
  refine (decode_any A n cap l _ hr).mono ?_
  rintro e w' ⟨rfl, rfl⟩
  go_wp2_with (go_at_call 49; refine (signed_any _ _ hu).mono ?_; rintro e w' ⟨rfl, rfl⟩)
  · go_ret
    rw [if_pos h] at hc
    have hg := grown_setCell (g := g) (a := w) ⟨rfl, rfl, rfl, Nat.le_refl _, fun _ _ _ => rfl⟩ 0 (.slice A (n - lenV l) (cap - lenV l))
    have h0 : cap - lenV l = 0 := by omega
    rw [h0] at hc hg
    exact ⟨ret_int HV.out, ⟨_, _, _, two_set0 HH.out, hc.grown hg hno, HO.out⟩, hg⟩
  · go_ret
    rw [if_neg h] at hc
    have hg := grown_setCell (g := g) (a := w) ⟨rfl, rfl, rfl, Nat.le_refl _, fun _ _ _ => rfl⟩ 0 (.slice (A.map (·.add (lenV l))) (n - lenV l) (cap - lenV l))
    exact ⟨ret_int HV.out, ⟨_, _, _, two_set0 HH.out, hc.grown hg hno, HO.out.add _⟩, hg⟩

theorem num_any (g : Nat) (l : List UInt8) (bad : Bool) (w : World) (h : Rdr w 69 g l bad) :
    Calls Try.prog 25 #[.pointer (some ⟨g, 0, none⟩)] w fun e w' => e = .returned (.int .i64 (numV l)) ∧ Rdr w' 69 g (numL l) (numB l bad) ∧ w.grownBy w' (some g) := by
  by_cases hl : lenV l = 0
  · have e1 : numV l = 0 := by unfold numV; rw [if_pos hl]
    have e2 : numL l = [] := by unfold numL; rw [if_pos hl]
    have e3 : numB l bad = true := by unfold numB; rw [if_pos hl]
    rw [e1, e2, e3]
    exact num_none g l bad w h hl
  · have e2 : numL l = l.drop (lenV l) := by unfold numL; rw [if_neg hl]
    have e3 : numB l bad = bad := by unfold numB; rw [if_neg hl]
    rw [e2, e3]
    exact num_some g l bad w h (by omega)

/-- Whether there is a text behind the number, and what becomes of the reader. -/
def textOk (l : List UInt8) : Prop := 0 ≤ numV l ∧ numV l ≤ (numL l).length
instance (l : List UInt8) : Decidable (textOk l) := inferInstanceAs (Decidable (_ ∧ _))
def textV (l : List UInt8) : List UInt8 := if textOk l then (numL l).take (numV l).toNat else []
def textL (l : List UInt8) : List UInt8 := if textOk l then (numL l).drop (numV l).toNat else []
def textB (l : List UInt8) (bad : Bool) : Bool := if textOk l then numB l bad else true

set_option maxRecDepth 100000 in
theorem text_bad (g : Nat) (l : List UInt8) (bad : Bool) (w : World) (h : Rdr w 69 g l bad) (hn : ¬ textOk l) :
    Calls Try.prog 84 #[.pointer (some ⟨g, 0, none⟩)] w fun e w' => e = .returned (.string ByteArray.empty) ∧ Rdr w' 69 g [] true ∧ w.grownBy w' (some g) := by
  unfold textOk at hn
  generalize hv : numV l = v at *
  have HV := Go.Lib.hid hv
  clear hv
  go_enter Try.func84, Try.ntmps84
  go_wp2_with fail
  refine (num_any g l bad _ h).mono ?_
  rintro e w1 ⟨rfl, hr1, hg1⟩
  rw [HV.out]
  have H1 := Go.Lib.hid hr1
  obtain ⟨A, n, cap, hh, hr, ho⟩ := hr1
  have HO := Go.Lib.hid ho
  clear ho
  obtain ⟨c0, c1, hf⟩ := two_cell hh
  have hlen := hr.len
  rw [hlen] at hn
  clear hf hh hlen
  by_cases hv0 : v < 0
  · go_wp2_with (go_at_call 48; refine (fail_any g _ _ _ H1.out).mono ?_; rintro e w' ⟨rfl, hr2, hg2⟩)
    go_ret
    exact ⟨rfl, hr2, hg1.trans hg2⟩
  · have hv1 : (n : Int) < v := by omega
    go_wp2_with (go_at_call 48; refine (fail_any g _ _ _ H1.out).mono ?_; rintro e w' ⟨rfl, hr2, hg2⟩)
    go_ret
    exact ⟨rfl, hr2, hg1.trans hg2⟩

set_option maxRecDepth 100000 in
theorem text_good (g : Nat) (l : List UInt8) (bad : Bool) (w : World) (h : Rdr w 69 g l bad) (hn : textOk l) :
    Calls Try.prog 84 #[.pointer (some ⟨g, 0, none⟩)] w fun e w' => e = .returned (.string ⟨((numL l).take (numV l).toNat).toArray⟩) ∧ Rdr w' 69 g ((numL l).drop (numV l).toNat) (numB l bad) ∧ w.grownBy w' (some g) := by
  unfold textOk at hn
  generalize hv : numV l = v at *
  have HV := Go.Lib.hid hv
  clear hv
  obtain ⟨hn0, hn1⟩ := hn
  obtain ⟨k, rfl⟩ := Int.eq_ofNat_of_zero_le hn0
  simp only [Int.toNat_natCast] at *
  generalize hl1 : numL l = l1 at *
  generalize hb1 : numB l bad = bad1 at *
  go_enter Try.func84, Try.ntmps84
  go_wp2_with fail
  refine (num_any g l bad _ h).mono ?_
  rintro e w1 ⟨rfl, hr1, hg1⟩
  rw [HV.out]
  rw [hl1, hb1] at hr1
  have hno := hr1.no_byte
  obtain ⟨A, n, cap, hh, hr, ho⟩ := hr1
  have HO := Go.Lib.hid ho
  clear ho
  obtain ⟨c0, c1, hf⟩ := two_cell hh
  have f0 := hf 0
  have HH := Go.Lib.hid hh
  have hlen := hr.len
  rw [hlen] at hn1
  have hkn : k ≤ n := by omega
  have hcap := hr.le_cap
  have hmax := hr.2.2.1
  unfold maxLen at hmax
  have hst := (hr.first hkn).string (P := Try.prog) 27 9 5 Try.underlying27 Try.underlying5 Try.underlying9
  have hc := hr.cut hkn
  clear hf hh hlen hl1 hb1
  go_wp2
  · go_ret
    rw [if_pos h] at hc
    have hg := grown_setCell (g := g) (a := w1) ⟨rfl, rfl, rfl, Nat.le_refl _, fun _ _ _ => rfl⟩ 0 (.slice A (n - k) (cap - k))
    have h0 : cap - k = 0 := by omega
    rw [h0] at hc hg
    exact ⟨rfl, ⟨_, _, _, two_set0 HH.out, hc.grown hg hno, HO.out⟩, hg1.trans hg⟩
  · go_ret
    rw [if_neg h] at hc
    have hg := grown_setCell (g := g) (a := w1) ⟨rfl, rfl, rfl, Nat.le_refl _, fun _ _ _ => rfl⟩ 0 (.slice (A.map (·.add k)) (n - k) (cap - k))
    exact ⟨rfl, ⟨_, _, _, two_set0 HH.out, hc.grown hg hno, HO.out.add _⟩, hg1.trans hg⟩

theorem text_any (g : Nat) (l : List UInt8) (bad : Bool) (w : World) (h : Rdr w 69 g l bad) :
    Calls Try.prog 84 #[.pointer (some ⟨g, 0, none⟩)] w fun e w' => e = .returned (.string ⟨(textV l).toArray⟩) ∧ Rdr w' 69 g (textL l) (textB l bad) ∧ w.grownBy w' (some g) := by
  by_cases hl : textOk l
  · have e1 : textV l = (numL l).take (numV l).toNat := by unfold textV; rw [if_pos hl]
    have e2 : textL l = (numL l).drop (numV l).toNat := by unfold textL; rw [if_pos hl]
    have e3 : textB l bad = numB l bad := by unfold textB; rw [if_pos hl]
    rw [e1, e2, e3]
    exact text_good g l bad w h hl
  · have e1 : textV l = [] := by unfold textV; rw [if_neg hl]
    have e2 : textL l = [] := by unfold textL; rw [if_neg hl]
    have e3 : textB l bad = true := by unfold textB; rw [if_neg hl]
    rw [e1, e2, e3]
    exact text_bad g l bad w h hl

end Go.Proofs.Ytjoifkmcfenhpaa.NumWalk

/-
  Contracts of the document's own answer for layer 1 (registrarref01): length, fail, Num, Text.
-/
namespace Go.Proofs.Ytjoifkmcfenhpaa.NumWalk
open Go.RowKit Go.Proofs.Ytjoifkmcfenhpaa.NumMath Go.Proofs.Ytjoifkmcfenhpaa.NumMem
open Go.Lib (uvarint zigzag)

/-- length's state at the head of round k. -/
structure LenAt (l : List UInt8) (k : Nat) : Prop where
  le : k ≤ l.length
  le10 : k ≤ 10
  all : ∀ j, j < k → 128 ≤ (l.getD j 0).toNat

theorem lenAt_next {l : List UInt8} {k : Nat} (h : LenAt l k) (hk : k < l.length) (h10 : k < 10) (hc : 128 ≤ (l.getD k 0).toNat) : LenAt l (k + 1) :=
  ⟨hk, h10, fun j hj => by
    rcases Nat.lt_or_ge j k with hjk | hjk
    · exact h.all j hjk
    · obtain rfl : j = k := by omega
      exact hc⟩

set_option maxRecDepth 100000 in
set_option maxHeartbeats 1000000 in
theorem refLength_some (b o n cap : Nat) (l : List UInt8) (w : World) (h : Rd w (some ⟨b, o, none⟩) n cap l) (hn : 0 < n) (hc : ∀ i, i < n → w.cell? ⟨b, o + i, none⟩ = some (.int .u8 ((l.getD i 0).toNat : Int))) :
    Calls Try.prog 51 #[.slice (some ⟨b, o, none⟩) n cap] w fun e w' => e = .returned (.int .i64 (lenV l : Int)) ∧ w = w' := by
  have hl := h.len
  have hm := h.le
  unfold maxLen at hm
  have HL := Go.Lib.hid hl
  clear hl
  go_enter Try.func51, Try.ntmps51
  go_wp2
  go_loop [3] (fun i => ∃ k : Nat, i = .int .i64 k ∧ LenAt l k) (fun i => 10 - (intOf i).toNat)
  case atStart => exact ⟨0, rfl, ⟨by omega, by omega, by omega⟩⟩
  case round =>
    obtain ⟨k, rfl, hd⟩ := hrel
    have hk10 := hd.le10
    have hkl := hd.le
    rw [HL.out] at hkl
    by_cases hlt : k < n ∧ k < 10
    · obtain ⟨hkn, hk⟩ := hlt
      have hck := hc k hkn
      have hkl' : k < l.length := by rw [HL.out]; exact hkn
      generalize hcc : (l.getD k 0).toNat = c at hck
      have hc256 : c < 256 := by rw [← hcc]; exact UInt8.toNat_lt _
      by_cases h128 : 128 ≤ c
      · have hs := lenAt_next hd hkl' hk (by omega)
        clear hcc hc
        go_wp2
        go_round
        case rel => exact ⟨k + 1, by go_num, hs⟩
        case measure => simp [intOf]; omega
      · have r1 := lenV_end hd.all hkl' hk (by omega)
        rw [hcc] at r1
        have R1 := Go.Lib.hid r1
        clear hcc hc r1
        by_cases hk0 : 0 < k
        · by_cases hc0 : c = 0
          · have hb : ((c : Int) == 0) = true := by simp; omega
            go_wp2
            go_ret
            exact ⟨ret_int (by rw [R1.out, if_pos (by omega)]; rfl), rfl⟩
          · have hb : ((c : Int) == 0) = false := by simp; omega
            by_cases hk9 : k = 9
            · have hb9 : ((k : Int) == 9) = true := by simp; omega
              by_cases hc1 : 1 < c
              · clear hk9
                go_wp2
                go_ret
                exact ⟨ret_int (by rw [R1.out, if_pos (by simp at hb9; omega)]; rfl), rfl⟩
              · clear hk9
                go_wp2
                go_ret
                exact ⟨ret_int (by rw [R1.out, if_neg (by omega)]; rfl), rfl⟩
            · have hb9 : ((k : Int) == 9) = false := by simp; omega
              go_wp2
              go_ret
              exact ⟨ret_int (by rw [R1.out, if_neg (by omega)]; rfl), rfl⟩
        · have hb9 : ((k : Int) == 9) = false := by simp; omega
          go_wp2
          go_ret
          exact ⟨ret_int (by rw [R1.out, if_neg (by omega)]; rfl), rfl⟩
    · have r1 : lenV l = 0 := lenV_none fun j hj => hd.all j (by rw [HL.out] at hj; omega)
      have R1 := Go.Lib.hid r1
      clear r1 hc
      by_cases hkn : k < n
      · have hk : ¬ k < 10 := by omega
        clear hlt
        go_wp2
        go_ret
        exact ⟨ret_int (by rw [R1.out]; rfl), rfl⟩
      · clear hlt
        go_wp2
        go_ret
        exact ⟨ret_int (by rw [R1.out]; rfl), rfl⟩

set_option maxRecDepth 100000 in
theorem refLength_none (A : Option Addr) (cap : Nat) (w : World) :
    Calls Try.prog 51 #[.slice A 0 cap] w fun e w' => e = .returned (.int .i64 0) ∧ w = w' := by
  go_enter Try.func51, Try.ntmps51
  go_wp2
  go_loop [3] (fun i => i = .int .i64 0) (fun _ => 0)
  case atStart => rfl
  case round =>
    subst hrel
    go_wp2
    go_ret
    exact ⟨rfl, rfl⟩

theorem refLength_any (A : Option Addr) (n cap : Nat) (l : List UInt8) (w : World) (h : Rd w A n cap l) :
    Calls Try.prog 51 #[.slice A n cap] w fun e w' => e = .returned (.int .i64 (lenV l : Int)) ∧ w = w' := by
  rcases Nat.eq_zero_or_pos n with h0 | h0
  · subst h0
    have hl : l = [] := List.eq_nil_of_length_eq_zero h.len
    subst hl
    exact refLength_none A cap w
  · obtain ⟨b, o, rfl, _, hc⟩ := h.at_ h0
    exact refLength_some b o n cap l w h h0 hc

set_option maxRecDepth 100000 in
theorem refFail_any (g : Nat) (l : List UInt8) (bad : Bool) (w : World) (h : Rdr w 52 g l bad) :
    Calls Try.prog 52 #[.pointer (some ⟨g, 0, none⟩)] w fun e w' => e = .returned (.tuple #[]) ∧ Rdr w' 52 g [] true ∧ w.grownBy w' (some g) := by
  obtain ⟨A, n, cap, hh, hr, ho⟩ := h
  have HO := Go.Lib.hid ho
  clear ho
  obtain ⟨c0, c1, hf⟩ := two_cell hh
  have f0 := hf 0
  have f1 := hf 1
  have HH := Go.Lib.hid hh
  clear hf hh
  go_enter Try.func52, Try.ntmps52
  go_wp2
  go_end0
  exact ⟨rfl, ⟨none, 0, 0, two_set0 (two_set1 HH.out), Rd.nil _, Old.none _⟩, grown_setCell (grown_setCell ⟨rfl, rfl, rfl, Nat.le_refl _, fun _ _ _ => rfl⟩ _ _) _ _⟩

/-- Bytes from the k-th on, of the first n. -/
theorem valV_step (l : List UInt8) (n k : Nat) (hk : k < n) (hn : n ≤ l.length) : valV ((l.take n).drop k) = valV ((l.take n).drop (k + 1)) * 128 + (l.getD k 0).toNat % 128 := by
  have hk' : k < (l.take n).length := by simp; omega
  rw [List.drop_eq_getElem_cons hk']
  simp only [valV, List.getElem_take]
  have e : l.getD k 0 = l[k] := by simp [List.getD, List.getElem?_eq_getElem (show k < l.length by omega)]
  rw [e]
  omega
theorem valV_drop_le (l : List UInt8) (k : Nat) : valV (l.drop k) ≤ valV l := by
  rcases Nat.lt_or_ge l.length k with hk | hk
  · rw [List.drop_eq_nil_of_le (by omega)]
    simp [valV]
  · have h := valV_append (l.take k) (l.drop k)
    rw [List.take_append_drop] at h
    have h1 : 0 < 128 ^ (l.take k).length := Nat.pow_pos (by omega)
    have h2 := Nat.le_mul_of_pos_left (valV (l.drop k)) h1
    omega

set_option maxRecDepth 100000 in
theorem refNum_none (g : Nat) (l : List UInt8) (bad : Bool) (w : World) (h : Rdr w 52 g l bad) (hl : lenV l = 0) :
    Calls Try.prog 28 #[.pointer (some ⟨g, 0, none⟩)] w fun e w' => e = .returned (.int .i64 0) ∧ Rdr w' 52 g [] true ∧ w.grownBy w' (some g) := by
  have H := Go.Lib.hid h
  obtain ⟨A, n, cap, hh, hr, ho⟩ := h
  have HO := Go.Lib.hid ho
  clear ho
  obtain ⟨c0, c1, hf⟩ := two_cell hh
  have HLV := Go.Lib.hid hl
  clear hf hh hl
  go_enter Try.func28, Try.ntmps28
  go_wp2_with fail
  refine (refLength_any A n cap l _ hr).mono ?_
  rintro e w' ⟨rfl, rfl⟩
  rw [HLV.out]
  go_wp2_with (go_at_call 52; refine (refFail_any g l bad _ H.out).mono ?_; rintro e w' ⟨rfl, hr2, hg2⟩)
  go_ret
  exact ⟨rfl, hr2, hg2⟩

set_option maxHeartbeats 1000000 in
set_option maxRecDepth 100000 in
theorem refNum_some (g : Nat) (l : List UInt8) (bad : Bool) (w : World) (h : Rdr w 52 g l bad) (hl : 0 < lenV l) :
    Calls Try.prog 28 #[.pointer (some ⟨g, 0, none⟩)] w fun e w' => e = .returned (.int .i64 (numV l)) ∧ Rdr w' 52 g (l.drop (lenV l)) bad ∧ w.grownBy w' (some g) := by
  have hno := h.no_byte
  obtain ⟨A, n, cap, hh, hr, ho⟩ := h
  have HO := Go.Lib.hid ho
  clear ho
  obtain ⟨c0, c1, hf⟩ := two_cell hh
  have f0 := hf 0
  have HH := Go.Lib.hid hh
  have hle := lenV_le l
  have hle' := hle
  rw [hr.len] at hle
  have hc := hr.cut hle
  have hcap := hr.le_cap
  have hmax := hr.2.2.1
  unfold maxLen at hmax
  have hu := decU_lt l
  have hv : unzig (decU l) = numV l := by
    unfold numV decU
    rw [if_neg (by omega), if_neg (by omega)]
  have hdec : decU l = valV (l.take (lenV l)) := by unfold decU; rw [if_neg (by omega)]
  have HV := Go.Lib.hid hv
  obtain ⟨b, o, rfl, hb, hcell⟩ := hr.at_ (by omega)
  have HB : Hid (∀ k, k < lenV l → valV ((l.take (lenV l)).drop k) = valV ((l.take (lenV l)).drop (k + 1)) * 128 + (l.getD k 0).toNat % 128) := fun k hk => valV_step l (lenV l) k hk hle'
  have HD : Hid (∀ k, valV ((l.take (lenV l)).drop k) ≤ decU l) := fun k => by rw [hdec]; exact valV_drop_le _ k
  have H0 : Hid (valV ((l.take (lenV l)).drop 0) = decU l) := by show _ = _; rw [List.drop_zero, hdec]
  have HE : Hid (valV ((l.take (lenV l)).drop (lenV l)) = 0) := by
    show _ = _
    rw [List.drop_eq_nil_of_le (List.length_take_le _ _)]
    rfl
  have HCL := Go.Lib.hid hcell
  clear hf hh hv hdec hle' hcell
  go_enter Try.func28, Try.ntmps28
  go_wp2_with fail
  refine (refLength_any _ n cap l _ hr).mono ?_
  rintro e w' ⟨rfl, rfl⟩
  generalize hq : lenV l = q at *
  have hne : ((q : Int) == 0) = false := by simp; omega
  go_wp2_with fail
  go_loop [4, 5] (fun u i => ∃ k : Nat, k ≤ q ∧ i = .int .i64 ((k : Int) - 1) ∧ u = .int .u64 (valV ((l.take q).drop k) : Nat)) (fun _ i => (intOf i + 1).toNat)
  case atStart => exact ⟨q, by omega, rfl, by rw [HE.out]; rfl⟩
  case round =>
    obtain ⟨k, hk, rfl, rfl⟩ := hrel
    by_cases h0 : 0 < k
    · obtain ⟨j, rfl⟩ : ∃ j, k = j + 1 := ⟨k - 1, by omega⟩
      have e1 := HB.out j (by omega)
      have e2 := HD.out j
      have e3 := HD.out (j + 1)
      have hcj := HCL.out j (by omega)
      have hj : ((j + 1 : Nat) : Int) - 1 = (j : Int) := by omega
      rw [hj]
      have HE1 := Go.Lib.hid e1
      have hb0 : 0 ≤ ((l.getD j 0).toNat : Int) := by omega
      have hb1 : (l.getD j 0).toNat < 256 := UInt8.toNat_lt _
      have hlt : valV ((l.take q).drop (j + 1)) * 128 + (l.getD j 0).toNat % 128 < 18446744073709551616 := by omega
      clear e1 e2 HB HD HCL H0 HE hc
      generalize (l.getD j 0).toNat = c at *
      generalize valV ((l.take q).drop (j + 1)) = v at *
      go_wp2
      go_round
      case rel => exact ⟨j, by omega, rfl, by rw [HE1.out]; go_num⟩
      case measure => simp [intOf]
    · obtain rfl : k = 0 := by omega
      rw [H0.out]
      clear HB HD HCL H0 HE h0
      generalize hd : decU l = d at *
      have hz : ∀ (A' : Option Addr) (n' c' : Nat), Rd w A' n' c' (l.drop q) → Old A' g → Rdr (w.setCell ⟨g, 0, none⟩ (.slice A' n' c')) 52 g (l.drop q) bad ∧ w.grownBy (w.setCell ⟨g, 0, none⟩ (.slice A' n' c')) (some g) := by
        intro A' n' c' hr' ho'
        have hg := grown_setCell (g := g) (a := w) ⟨rfl, rfl, rfl, Nat.le_refl _, fun _ _ _ => rfl⟩ 0 (.slice A' n' c')
        exact ⟨⟨_, _, _, two_set0 HH.out, hr'.grown hg hno, ho'⟩, hg⟩
      have HZ := Go.Lib.hid hz
      clear hz hd
      by_cases hcq : cap = q
      · rw [if_pos hcq] at hc
        have hn : n = q := by omega
        subst hn hcq
        simp only [Nat.sub_self] at hc
        by_cases ho : d % 2 = 1
        · have hb : ((d : Int) % 2 == 1) = true := by simp; omega
          have hval : -((d : Int) / 2) - 1 = numV l := by rw [← HV.out]; unfold unzig; rw [if_pos ho]; omega
          have HVAL := Go.Lib.hid hval
          clear hval ho HV
          go_wp2
          go_ret
          exact ⟨ret_int HVAL.out, HZ.out _ _ _ hc HO.out⟩
        · have hb : ((d : Int) % 2 == 1) = false := by simp; omega
          have hval : (d : Int) / 2 = numV l := by rw [← HV.out]; unfold unzig; rw [if_neg ho]; omega
          have HVAL := Go.Lib.hid hval
          clear hval ho HV
          go_wp2
          go_ret
          exact ⟨ret_int HVAL.out, HZ.out _ _ _ hc HO.out⟩
      · rw [if_neg hcq] at hc
        simp only [Option.map_some] at hc
        have hadd : (⟨b, o, none⟩ : Addr).add q = ⟨b, o + q, none⟩ := by unfold Addr.add; split <;> simp_all
        rw [hadd] at hc
        by_cases ho : d % 2 = 1
        · have hb : ((d : Int) % 2 == 1) = true := by simp; omega
          have hval : -((d : Int) / 2) - 1 = numV l := by rw [← HV.out]; unfold unzig; rw [if_pos ho]; omega
          have HVAL := Go.Lib.hid hval
          clear hval ho HV hadd
          go_wp2
          go_ret
          exact ⟨ret_int HVAL.out, HZ.out _ _ _ hc (fun a h => by cases h; exact HO.out ⟨b, o, none⟩ rfl)⟩
        · have hb : ((d : Int) % 2 == 1) = false := by simp; omega
          have hval : (d : Int) / 2 = numV l := by rw [← HV.out]; unfold unzig; rw [if_neg ho]; omega
          have HVAL := Go.Lib.hid hval
          clear hval ho HV hadd
          go_wp2
          go_ret
          exact ⟨ret_int HVAL.out, HZ.out _ _ _ hc (fun a h => by cases h; exact HO.out ⟨b, o, none⟩ rfl)⟩

theorem refNum_any (g : Nat) (l : List UInt8) (bad : Bool) (w : World) (h : Rdr w 52 g l bad) :
    Calls Try.prog 28 #[.pointer (some ⟨g, 0, none⟩)] w fun e w' => e = .returned (.int .i64 (numV l)) ∧ Rdr w' 52 g (numL l) (numB l bad) ∧ w.grownBy w' (some g) := by
  by_cases hl : lenV l = 0
  · have e1 : numV l = 0 := by unfold numV; rw [if_pos hl]
    have e2 : numL l = [] := by unfold numL; rw [if_pos hl]
    have e3 : numB l bad = true := by unfold numB; rw [if_pos hl]
    rw [e1, e2, e3]
    exact refNum_none g l bad w h hl
  · have e2 : numL l = l.drop (lenV l) := by unfold numL; rw [if_neg hl]
    have e3 : numB l bad = bad := by unfold numB; rw [if_neg hl]
    rw [e2, e3]
    exact refNum_some g l bad w h (by omega)

set_option maxRecDepth 100000 in
theorem refText_bad (g : Nat) (l : List UInt8) (bad : Bool) (w : World) (h : Rdr w 52 g l bad) (hn : ¬ textOk l) :
    Calls Try.prog 53 #[.pointer (some ⟨g, 0, none⟩)] w fun e w' => e = .returned (.string ByteArray.empty) ∧ Rdr w' 52 g [] true ∧ w.grownBy w' (some g) := by
  unfold textOk at hn
  generalize hv : numV l = v at *
  have HV := Go.Lib.hid hv
  clear hv
  go_enter Try.func53, Try.ntmps53
  go_wp2_with fail
  refine (refNum_any g l bad _ h).mono ?_
  rintro e w1 ⟨rfl, hr1, hg1⟩
  rw [HV.out]
  have H1 := Go.Lib.hid hr1
  obtain ⟨A, n, cap, hh, hr, ho⟩ := hr1
  have HO := Go.Lib.hid ho
  clear ho
  obtain ⟨c0, c1, hf⟩ := two_cell hh
  have hlen := hr.len
  rw [hlen] at hn
  clear hf hh hlen
  by_cases hv0 : v < 0
  · go_wp2_with (go_at_call 52; refine (refFail_any g _ _ _ H1.out).mono ?_; rintro e w' ⟨rfl, hr2, hg2⟩)
    go_ret
    exact ⟨rfl, hr2, hg1.trans hg2⟩
  · have hv1 : (n : Int) < v := by omega
    go_wp2_with (go_at_call 52; refine (refFail_any g _ _ _ H1.out).mono ?_; rintro e w' ⟨rfl, hr2, hg2⟩)
    go_ret
    exact ⟨rfl, hr2, hg1.trans hg2⟩

set_option maxRecDepth 100000 in
theorem refText_good (g : Nat) (l : List UInt8) (bad : Bool) (w : World) (h : Rdr w 52 g l bad) (hn : textOk l) :
    Calls Try.prog 53 #[.pointer (some ⟨g, 0, none⟩)] w fun e w' => e = .returned (.string ⟨((numL l).take (numV l).toNat).toArray⟩) ∧ Rdr w' 52 g ((numL l).drop (numV l).toNat) (numB l bad) ∧ w.grownBy w' (some g) := by
  unfold textOk at hn
  generalize hv : numV l = v at *
  have HV := Go.Lib.hid hv
  clear hv
  obtain ⟨hn0, hn1⟩ := hn
  obtain ⟨k, rfl⟩ := Int.eq_ofNat_of_zero_le hn0
  simp only [Int.toNat_natCast] at *
  generalize hl1 : numL l = l1 at *
  generalize hb1 : numB l bad = bad1 at *
  go_enter Try.func53, Try.ntmps53
  go_wp2_with fail
  refine (refNum_any g l bad _ h).mono ?_
  rintro e w1 ⟨rfl, hr1, hg1⟩
  rw [HV.out]
  rw [hl1, hb1] at hr1
  have hno := hr1.no_byte
  obtain ⟨A, n, cap, hh, hr, ho⟩ := hr1
  have HO := Go.Lib.hid ho
  clear ho
  obtain ⟨c0, c1, hf⟩ := two_cell hh
  have f0 := hf 0
  have HH := Go.Lib.hid hh
  have hlen := hr.len
  rw [hlen] at hn1
  have hkn : k ≤ n := by omega
  have hcap := hr.le_cap
  have hmax := hr.2.2.1
  unfold maxLen at hmax
  have hst := (hr.first hkn).string (P := Try.prog) 27 9 5 Try.underlying27 Try.underlying5 Try.underlying9
  have hc := hr.cut hkn
  clear hf hh hlen hl1 hb1
  go_wp2
  · go_ret
    rw [if_pos h] at hc
    have hg := grown_setCell (g := g) (a := w1) ⟨rfl, rfl, rfl, Nat.le_refl _, fun _ _ _ => rfl⟩ 0 (.slice A (n - k) (cap - k))
    have h0 : cap - k = 0 := by omega
    rw [h0] at hc hg
    exact ⟨rfl, ⟨_, _, _, two_set0 HH.out, hc.grown hg hno, HO.out⟩, hg1.trans hg⟩
  · go_ret
    rw [if_neg h] at hc
    have hg := grown_setCell (g := g) (a := w1) ⟨rfl, rfl, rfl, Nat.le_refl _, fun _ _ _ => rfl⟩ 0 (.slice (A.map (·.add k)) (n - k) (cap - k))
    exact ⟨rfl, ⟨_, _, _, two_set0 HH.out, hc.grown hg hno, HO.out.add _⟩, hg1.trans hg⟩

theorem refText_any (g : Nat) (l : List UInt8) (bad : Bool) (w : World) (h : Rdr w 52 g l bad) :
    Calls Try.prog 53 #[.pointer (some ⟨g, 0, none⟩)] w fun e w' => e = .returned (.string ⟨(textV l).toArray⟩) ∧ Rdr w' 52 g (textL l) (textB l bad) ∧ w.grownBy w' (some g) := by
  by_cases hl : textOk l
  · have e1 : textV l = (numL l).take (numV l).toNat := by unfold textV; rw [if_pos hl]
    have e2 : textL l = (numL l).drop (numV l).toNat := by unfold textL; rw [if_pos hl]
    have e3 : textB l bad = numB l bad := by unfold textB; rw [if_pos hl]
    rw [e1, e2, e3]
    exact refText_good g l bad w h hl
  · have e1 : textV l = [] := by unfold textV; rw [if_neg hl]
    have e2 : textL l = [] := by unfold textL; rw [if_neg hl]
    have e3 : textB l bad = true := by unfold textB; rw [if_neg hl]
    rw [e1, e2, e3]
    exact refText_bad g l bad w h hl

end Go.Proofs.Ytjoifkmcfenhpaa.NumWalk

/-
  Contract of the document's answer of layer 5: Take.
-/
namespace Go.Proofs.Ytjoifkmcfenhpaa.EcWalk
open Go.RowKit Go.Proofs.Ytjoifkmcfenhpaa.MemRow Go.Proofs.Ytjoifkmcfenhpaa.Ev Go.Proofs.Ytjoifkmcfenhpaa.NameMath Go.Proofs.Ytjoifkmcfenhpaa.NameWalk Go.Proofs.Ytjoifkmcfenhpaa.EvWalk Go.Proofs.Ytjoifkmcfenhpaa.NumMath Go.Proofs.Ytjoifkmcfenhpaa.NumMem Go.Proofs.Ytjoifkmcfenhpaa.NumWalk

/-! ### What is taken -/
def tx (l : List UInt8) : ByteArray := ⟨(textV l).toArray⟩
/-- At most k texts, as long as the reader is good. -/
def takeTags : Nat → List UInt8 → Bool → List ByteArray × List UInt8 × Bool
  | 0, l, b => ([], l, b)
  | k + 1, l, b => if b = true then ([], l, b) else (tx l :: (takeTags k (textL l) (textB l b)).1, (takeTags k (textL l) (textB l b)).2)
def takeFlds : Nat → List UInt8 → Bool → List (ByteArray × Int) × List UInt8 × Bool
  | 0, l, b => ([], l, b)
  | k + 1, l, b => if b = true then ([], l, b) else ((tx l, numV (textL l)) :: (takeFlds k (numL (textL l)) (numB (textL l) (textB l b))).1, (takeFlds k (numL (textL l)) (numB (textL l) (textB l b))).2)

theorem grown_set (w : World) (g i : Nat) (x : Value) : w.grownBy (w.setCell ⟨g, i, none⟩ x) (some g) := by
  refine ⟨rfl, rfl, rfl, by simp [World.setCell], fun k _ hne => ?_⟩
  have : g ≠ k := fun e => hne (by rw [e])
  simp [World.setCell, Array.getElem?_modify, this]
theorem own_away {k : Nat} {w : World} {base : Nat} {t : TypeId} {A : Option Addr} {n cap : Nat} {cs : List Value} {g i : Nat} (h : OwnC k w base t A n cap cs) (hg : g < base) (x : Value) : OwnC k (w.setCell ⟨g, i, none⟩ x) base t A n cap cs :=
  OwnC.grown h (grown_set w g i x) fun a hA e => by
    have := (OwnC.lt h a hA).1
    injection e with e
    omega
theorem rdr_apart {w w' : World} {T : TypeId} {g : Nat} {l : List UInt8} {b : Bool} {row : Option Nat} (h : Rdr w T g l b) (hg : w.grownBy w' row) (hr : ∀ r, row = some r → g < r) : Rdr w' T g l b := by
  have hlt := h.lt
  obtain ⟨A, n, cap, hh, hr', ho⟩ := h
  refine ⟨A, n, cap, (hg.block g hlt (fun e => by have := hr g e.symm; omega)).trans hh, ⟨hr'.1, hr'.2.1, hr'.2.2.1, fun hn => ?_⟩, ho⟩
  obtain ⟨c, o, hA, hc⟩ := hr'.2.2.2 hn
  exact ⟨c, o, hA, fun i hi => hg.cell (hc i hi) (fun e => by have h1 := hr c e.symm; have h2 : c < g := ho ⟨c, o, none⟩ hA; omega)⟩
theorem gr_step {w wr w' : World} {g : Nat} {row : Option Nat} (h : w.grownBy wr (some g)) (hg : wr.grownBy w' row) (hr : ∀ r, row = some r → w.heap.size ≤ r) : w.grownBy w' (some g) :=
  ⟨hg.os.trans h.os, hg.tape.trans h.tape, hg.output.trans h.output, Nat.le_trans h.size hg.size, fun k hk hne => (hg.block k (Nat.lt_of_lt_of_le hk h.size) (fun e => by have := hr k e.symm; omega)).trans (h.block k hk hne)⟩
theorem gr_step' {w wr w' : World} {g : Nat} (h : w.grownBy wr (some g)) (hg : wr.grownBy w' (some g)) : w.grownBy w' (some g) :=
  ⟨hg.os.trans h.os, hg.tape.trans h.tape, hg.output.trans h.output, Nat.le_trans h.size hg.size, fun k hk hne => (hg.block k (Nat.lt_of_lt_of_le hk h.size) hne).trans (h.block k hk hne)⟩
theorem row_low {k : Nat} {w : World} {base : Nat} {t : TypeId} {A : Option Addr} {n cap : Nat} {cs : List Value} (h : OwnC k w base t A n cap cs) {r : Nat} (e : A.map (·.block) = some r) : base ≤ r := by
  cases A with
  | none => cases e
  | some a =>
    simp only [Option.map_some, Option.some.injEq] at e
    have := (OwnC.lt h a rfl).1
    omega

/-- What stands while an event is taken: the reader, the result's cell, the event that is made. -/
structure TakeAt (wr w : World) (g : Nat) (l : List UInt8) (b : Bool) (ge : Nat) (s t : ByteArray) (T : Option Addr) (nT cT : Nat) (ts : List ByteArray) (F : Option Addr) (nF cF : Nat) (fs : List (ByteArray × Int)) : Prop where
  rd : Rdr wr 52 g l b
  res : EvAt wr w.heap.size (.string ⟨#[]⟩) (.string ⟨#[]⟩) (.slice none 0 0) (.slice none 0 0)
  ev : EvAt wr ge (.string s) (.string t) (.slice T nT cT) (.slice F nF cF)
  tt : OwnC 1 wr (ge + 1) 9 T nT cT (MemRow.strs ts)
  ff : OwnC 2 wr (ge + 1) 64 F nF cF (flds fs)
  ap : ∀ a c, T = some a → F = some c → a.block ≠ c.block
  gr : w.grownBy wr (some g)
  gw : g < w.heap.size
  we : w.heap.size < ge

section
variable {wr w w' : World} {g ge nT cT nF cF : Nat} {l l' : List UInt8} {b b' : Bool} {s t : ByteArray} {T F : Option Addr} {ts : List ByteArray} {fs : List (ByteArray × Int)}
theorem TakeAt.read (h : TakeAt wr w g l b ge s t T nT cT ts F nF cF fs) (hr : Rdr w' 52 g l' b') (hg : wr.grownBy w' (some g)) : TakeAt w' w g l' b' ge s t T nT cT ts F nF cF fs := by
  have gw := h.gw
  have we := h.we
  refine ⟨hr, h.res.grown hg (by simp; omega), h.ev.grown hg (by simp; omega), OwnC.grown h.tt hg fun a hA e => ?_, OwnC.grown h.ff hg fun a hA e => ?_, h.ap, ?_, h.gw, h.we⟩
  · have := (OwnC.lt h.tt a hA).1
    injection e with e
    omega
  · have := (OwnC.lt h.ff a hA).1
    injection e with e
    omega
  · exact ⟨hg.os.trans h.gr.os, hg.tape.trans h.gr.tape, hg.output.trans h.gr.output, Nat.le_trans h.gr.size hg.size, fun k hk hne => (hg.block k (Nat.lt_of_lt_of_le hk h.gr.size) hne).trans (h.gr.block k hk hne)⟩
theorem TakeAt.drew (h : TakeAt wr w g l b ge s t T nT cT ts F nF cF fs) : TakeAt wr.drew w g l b ge s t T nT cT ts F nF cF fs :=
  ⟨h.rd, h.res, h.ev, h.tt, h.ff, h.ap, ⟨h.gr.os, h.gr.tape, h.gr.output, h.gr.size, h.gr.block⟩, h.gw, h.we⟩
theorem TakeAt.below (h : TakeAt wr w g l b ge s t T nT cT ts F nF cF fs) (hb : Below wr.heap.size wr w') : TakeAt w' w g l b ge s t T nT cT ts F nF cF fs := by
  have hl := h.ev.lt
  have hs := h.gr.size
  exact ⟨h.rd.below hb, h.res.below hb h.res.lt, h.ev.below hb hl, OwnC.below h.tt hb, OwnC.below h.ff hb, h.ap, ⟨hb.os.trans h.gr.os, hb.tape.trans h.gr.tape, hb.output.trans h.gr.output, Nat.le_trans hs hb.size, fun k hk hne => (hb.block k (Nat.lt_of_lt_of_le hk hs)).trans (h.gr.block k hk hne)⟩, h.gw, h.we⟩
theorem ev_set1 {w : World} {g : Nat} {v0 v1 v2 v3 : Value} (h : EvAt w g v0 v1 v2 v3) (x : Value) : EvAt (w.setCell ⟨g, 1, none⟩ x) g v0 x v2 v3 := by
  unfold EvAt at h ⊢
  simp only [World.setCell, Array.getElem?_modify, h]
  rfl
theorem TakeAt.setS (h : TakeAt wr w g l b ge s t T nT cT ts F nF cF fs) (x : ByteArray) : TakeAt (wr.setCell ⟨ge, 1, none⟩ (.string x)) w g l b ge s x T nT cT ts F nF cF fs := by
  have gw := h.gw
  have we := h.we
  have hs := grown_set wr ge 1 (.string x)
  exact ⟨rdr_apart h.rd hs (fun r e => by injection e; omega), h.res.far (by omega) _, ev_set1 h.ev _, own_away h.tt (by omega) _, own_away h.ff (by omega) _, h.ap, gr_step h.gr hs (fun r e => by injection e; omega), gw, we⟩
theorem TakeAt.bad (h : TakeAt wr w g l b ge s t T nT cT ts F nF cF fs) : wr.cell? ⟨g, 1, none⟩ = some (.bool b) := by
  obtain ⟨A, n, cap, hh, _⟩ := h.rd
  exact (two_cell hh).2.1
/-- The result's cell is written. -/
theorem TakeAt.fin (h : TakeAt wr w g l b ge s t T nT cT ts F nF cF fs) (x0 x1 x2 x3 : Value) (w9 : World) (h9 : w9 = (((wr.setCell ⟨w.heap.size, 0, none⟩ x0).setCell ⟨w.heap.size, 1, none⟩ x1).setCell ⟨w.heap.size, 2, none⟩ x2).setCell ⟨w.heap.size, 3, none⟩ x3) :
    EvAt w9 w.heap.size x0 x1 x2 x3 ∧ Rdr w9 52 g l b ∧ w.grownBy w9 (some g) ∧ OwnC 1 w9 (ge + 1) 9 T nT cT (MemRow.strs ts) ∧ OwnC 2 w9 (ge + 1) 64 F nF cF (flds fs) := by
  subst h9
  have gw := h.gw
  have we := h.we
  have e := h.res.all x0 x1 x2 x3
  refine ⟨e, ?_, ?_, ?_, ?_⟩
  · exact rdr_apart (rdr_apart (rdr_apart (rdr_apart h.rd (grown_set _ _ _ _) (fun r e => by injection e; omega)) (grown_set _ _ _ _) (fun r e => by injection e; omega)) (grown_set _ _ _ _) (fun r e => by injection e; omega)) (grown_set _ _ _ _) (fun r e => by injection e; omega)
  · exact gr_step (gr_step (gr_step (gr_step h.gr (grown_set _ _ _ _) (fun r e => by injection e; omega)) (grown_set _ _ _ _) (fun r e => by injection e; omega)) (grown_set _ _ _ _) (fun r e => by injection e; omega)) (grown_set _ _ _ _) (fun r e => by injection e; omega)
  · exact own_away (own_away (own_away (own_away h.tt (by omega) _) (by omega) _) (by omega) _) (by omega) _
  · exact own_away (own_away (own_away (own_away h.ff (by omega) _) (by omega) _) (by omega) _) (by omega) _
/-- A store into a younger block. -/
theorem TakeAt.far (h : TakeAt wr w g l b ge s t T nT cT ts F nF cF fs) {r : Nat} (hr : ge < r) (hT : ∀ a, T = some a → a.block ≠ r) (hF : ∀ a, F = some a → a.block ≠ r) (i : Nat) (x : Value) : TakeAt (wr.setCell ⟨r, i, none⟩ x) w g l b ge s t T nT cT ts F nF cF fs := by
  have gw := h.gw
  have we := h.we
  have hs := grown_set wr r i x
  exact ⟨rdr_apart h.rd hs (fun q e => by injection e; omega), h.res.far (by omega) _, h.ev.far (by omega) _, OwnC.grown h.tt hs (fun a hA e => hT a hA (by injection e)), OwnC.grown h.ff hs (fun a hA e => hF a hA (by injection e)), h.ap, gr_step h.gr hs (fun q e => by injection e; omega), gw, we⟩
/-- A tag more. -/
theorem TakeAt.moreT {T' : Option Addr} {cT' : Nat} {ts' : List ByteArray} {w8 : World} (h : TakeAt wr w g l b ge s t T nT cT ts none 0 0 []) (ho : OwnC 1 w8 (ge + 1) 9 T' (nT + 1) cT' (MemRow.strs ts')) (hg : wr.grownBy w8 (T.map (·.block))) :
    w8.frozen? ⟨ge, 2, none⟩ = false ∧ w8.cell? ⟨ge, 2, none⟩ = some (.slice T nT cT) ∧ TakeAt (w8.setCell ⟨ge, 2, none⟩ (.slice T' (nT + 1) cT')) w g l b ge s t T' (nT + 1) cT' ts' none 0 0 [] := by
  have gw := h.gw
  have we := h.we
  have low := fun r e => row_low h.tt (r := r) e
  have hF : ∀ k, k < ge + 1 → some k ≠ T.map (·.block) := fun k hk e => by have := low k e.symm; omega
  have e8 := h.ev.grown hg (hF _ (by omega))
  have hs := grown_set w8 ge 2 (.slice T' (nT + 1) cT')
  refine ⟨e8.frozen 2, e8.c2, rdr_apart (rdr_apart h.rd hg fun r e => by have := low r e; omega) hs (fun r e => by injection e; omega), (h.res.grown hg (hF _ (by omega))).far (by omega) _, e8.set2 _, own_away ho (by omega) _, OwnC.nil _ _, (fun a c _ hc => by cases hc), gr_step (gr_step h.gr hg fun r e => by have := low r e; omega) hs (fun r e => by injection e; omega), gw, we⟩
/-- A number more. -/
theorem TakeAt.moreF {F' : Option Addr} {cF' : Nat} {fs' : List (ByteArray × Int)} {w8 : World} (h : TakeAt wr w g l b ge s t T nT cT ts F nF cF fs) (ho : OwnC 2 w8 (ge + 1) 64 F' (nF + 1) cF' (flds fs')) (hg : wr.grownBy w8 (F.map (·.block)))
    (hloc : F'.map (·.block) = F.map (·.block) ∨ F'.map (·.block) = some wr.heap.size) :
    w8.frozen? ⟨ge, 3, none⟩ = false ∧ w8.cell? ⟨ge, 3, none⟩ = some (.slice F nF cF) ∧ TakeAt (w8.setCell ⟨ge, 3, none⟩ (.slice F' (nF + 1) cF')) w g l b ge s t T nT cT ts F' (nF + 1) cF' fs' := by
  have gw := h.gw
  have we := h.we
  have low := fun r e => row_low h.ff (r := r) e
  have hF : ∀ k, k < ge + 1 → some k ≠ F.map (·.block) := fun k hk e => by have := low k e.symm; omega
  have e8 := h.ev.grown hg (hF _ (by omega))
  have hs := grown_set w8 ge 3 (.slice F' (nF + 1) cF')
  have hT : OwnC 1 w8 (ge + 1) 9 T nT cT (MemRow.strs ts) := OwnC.grown h.tt hg fun a hA e => by
    cases hFe : F with
    | none => rw [hFe] at e; cases e
    | some c =>
      rw [hFe] at e
      simp only [Option.map_some, Option.some.injEq] at e
      exact h.ap a c hA hFe e
  refine ⟨e8.frozen 3, e8.c3, rdr_apart (rdr_apart h.rd hg fun r e => by have := low r e; omega) hs (fun r e => by injection e; omega), (h.res.grown hg (hF _ (by omega))).far (by omega) _, e8.set3 _, own_away hT (by omega) _, own_away ho (by omega) _, fun a c hA hc e => ?_, gr_step (gr_step h.gr hg fun r e => by have := low r e; omega) hs (fun r e => by injection e; omega), gw, we⟩
  rw [hc] at hloc
  simp only [Option.map_some] at hloc
  rcases hloc with hl | hl
  · cases hFe : F with
    | none => rw [hFe] at hl; cases hl
    | some c0 =>
      rw [hFe] at hl
      simp only [Option.map_some, Option.some.injEq] at hl
      exact h.ap a c0 hA hFe (by omega)
  · simp only [Option.some.injEq] at hl
    have := (OwnC.lt h.tt a hA).2
    omega
end

end Go.Proofs.Ytjoifkmcfenhpaa.EcWalk

