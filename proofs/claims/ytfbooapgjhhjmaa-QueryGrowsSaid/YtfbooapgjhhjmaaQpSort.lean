/-
  Texts put in order by slices.Sort and slices.Compact: mathematics; query.normTexts.
-/
import Derived.Test.YtfbooapgjhhjmaaEvMath
import Derived.Test.YtfbooapgjhhjmaaQpShelf
import Derived.Sort.OwnSorted
namespace Go.Proofs.Ytfbooapgjhhjmaa.QuWalk
open Go.RowKit Go.Sort Go.Proofs.Ytfbooapgjhhjmaa.MemRow Go.Proofs.Ytfbooapgjhhjmaa.Ev Go.Proofs.Ytfbooapgjhhjmaa.NameMath Go.Proofs.Ytfbooapgjhhjmaa.NameWalk Go.Proofs.Ytfbooapgjhhjmaa.EvWalk

def bOf (l : List UInt8) : ByteArray := ⟨l.toArray⟩
theorem bOf_list (s : ByteArray) : bOf s.data.toList = s := rfl
theorem list_bOf (l : List UInt8) : (bOf l).data.toList = l := by simp [bOf]
theorem strs_bOf (us : List (List UInt8)) : strs (us.map bOf) = us.map encStr := by simp [strs, bOf, encStr]
/-- Go's order of texts, as the library's sort has it. -/
def leT : List UInt8 → List UInt8 → Bool := fun x y => decide (x ≤ y)

theorem upto_mem (zs : List (List UInt8)) (x : List UInt8) : ∀ m, m ≤ zs.length → (x ∈ Lib.compactUpTo zs.toArray m ↔ x ∈ zs.take m)
  | 0, _ => by simp [Lib.compactUpTo]
  | m + 1, h => by
    have ih := upto_mem zs x m (by omega)
    have hg : zs.toArray[m]! = zs[m]'(by omega) := by simp [show m < zs.length by omega]
    rw [Lib.compactUpTo_succ, List.mem_append, ih, List.take_succ_eq_append_getElem (by omega), List.mem_append, hg]
    cases hk : Lib.keeps zs.toArray m with
    | true => simp
    | false =>
      have hm : ¬ (m = 0 ∨ zs.toArray[m]! ≠ zs.toArray[m - 1]!) := of_decide_eq_false hk
      have h0 : m ≠ 0 := fun h => hm (.inl h)
      have he : zs.toArray[m]! = zs.toArray[m - 1]! := Decidable.byContradiction fun h => hm (.inr h)
      have hg1 : zs.toArray[m - 1]! = zs[m - 1]'(by omega) := by simp [show m - 1 < zs.length by omega]
      rw [hg, hg1] at he
      constructor
      · rintro (h1 | h1)
        · exact .inl h1
        · simp at h1
      · rintro (h1 | h1)
        · exact .inl h1
        · left
          obtain rfl := List.mem_singleton.1 h1
          rw [he]
          rw [List.mem_take_iff_getElem]
          exact ⟨m - 1, by omega, rfl⟩

theorem compact_mem (zs : List (List UInt8)) (x : List UInt8) : x ∈ Lib.compact zs ↔ x ∈ zs := by
  unfold Lib.compact
  rw [upto_mem zs x zs.length (Nat.le_refl _), List.take_length]

theorem compact_up (zs : List (List UInt8)) (h : zs.Pairwise fun a b => leT a b = true) : (Lib.compact zs).Pairwise fun a b => a < b := by
  unfold Lib.compact Lib.compactUpTo
  rw [List.pairwise_map]
  have p0 : (List.range zs.length).Pairwise (· < ·) := List.pairwise_lt_range
  refine (p0.filter _).imp_of_mem ?_
  intro i j hi hj hij
  rw [List.mem_filter, List.mem_range] at hi hj
  have hj0 : j ≠ 0 := by omega
  have hk : j = 0 ∨ zs.toArray[j]! ≠ zs.toArray[j - 1]! := of_decide_eq_true hj.2
  have hne := hk.resolve_left hj0
  have gi : zs.toArray[i]! = zs[i]'hi.1 := by simp [hi.1]
  have gj : zs.toArray[j]! = zs[j]'hj.1 := by simp [hj.1]
  have gk : zs.toArray[j - 1]! = zs[j - 1]'(by omega) := by simp [show j - 1 < zs.length by omega]
  rw [gj, gk] at hne
  rw [gi, gj]
  rw [List.pairwise_iff_getElem] at h
  have a1 : zs[j - 1]'(by omega) ≤ zs[j]'hj.1 := of_decide_eq_true (h (j - 1) j (by omega) hj.1 (by omega))
  have a2 : zs[i]'hi.1 ≤ zs[j - 1]'(by omega) := by
    by_cases e : i = j - 1
    · subst e; exact List.le_refl _
    · exact of_decide_eq_true (h i (j - 1) hi.1 (by omega) (by omega))
  have a3 : zs[j - 1]'(by omega) < zs[j]'hj.1 := Decidable.byContradiction fun h3 => hne (List.le_antisymm (List.not_lt.1 h3) a1)
  exact Decidable.byContradiction fun h3 => by
    have h4 : zs[j]'hj.1 ≤ zs[i]'hi.1 := List.not_lt.1 h3
    have h5 := List.le_trans h4 a2
    exact (List.not_lt.2 h5) a3

/-- What the library's Sort and Compact make of texts. -/
theorem texts_sorted (ss : List ByteArray) : (Lib.compact ((ss.map fun s => s.data.toList).mergeSort leT)).map bOf = normTags ss := by
  have tr : ∀ a b c : List UInt8, leT a b = true → leT b c = true → leT a c = true := fun a b c h1 h2 => by simp only [leT, decide_eq_true_eq] at *; exact List.le_trans h1 h2
  have to : ∀ a b : List UInt8, (leT a b || leT b a) = true := fun a b => by simp only [leT, Bool.or_eq_true, decide_eq_true_eq]; exact List.le_total a b
  have hs := List.pairwise_mergeSort tr to (ss.map fun s => s.data.toList)
  have hp := List.mergeSort_perm (ss.map fun s => s.data.toList) leT
  refine up_ext ?_ (normTags_up ss) fun x => ?_
  · unfold Up
    rw [List.pairwise_map]
    refine (compact_up _ hs).imp ?_
    intro a b h
    rw [less_eq, list_bOf, list_bOf]
    exact decide_eq_true h
  · rw [normTags_mem, List.mem_map]
    constructor
    · rintro ⟨l, hl, rfl⟩
      rw [compact_mem, hp.mem_iff, List.mem_map] at hl
      obtain ⟨s, hs, rfl⟩ := hl
      exact hs
    · intro hx
      exact ⟨x.data.toList, by rw [compact_mem, hp.mem_iff, List.mem_map]; exact ⟨x, hx, rfl⟩, rfl⟩

theorem grow_none (w : World) : grow w #[] = w := by simp [grow]

set_option maxHeartbeats 8000000 in
set_option maxRecDepth 100000 in
/-- normTexts hands back a row of the call's own. -/
theorem normTexts_any (A : Option Addr) (n ca : Nat) (ss : List ByteArray) (w : World) (ha : RdS w A n ca ss) (hn : n ≤ 1000) :
    Calls Try.prog 21 #[.slice A n ca] w fun e w' => ∃ F k cF, e = .returned (.slice F k cF) ∧ RdS w' F k cF (normTags ss) ∧ (∀ a, F = some a → w.heap.size ≤ a.block ∧ a.block < w'.heap.size) ∧ Below w.heap.size w w' := by
  have la := ha.len
  have ow : OwnC 1 w w.heap.size 9 none 0 0 [] := OwnC.nil _ _
  have hts := texts_sorted ss
  generalize hus : (ss.map fun s => s.data.toList) = us at *
  have hun : us.length = n := by rw [← hus, List.length_map, la]
  have hse : strs ss = us.map encStr := by
    rw [← hus, List.map_map]
    rfl
  have HT := Go.Lib.hid hts
  have HU := Go.Lib.hid hun
  have HE := Go.Lib.hid hse
  clear hts hus hun hse la
  go_enter Try.func21, Try.ntmps21
  go_wp2_with (at_builtin; refine wpList_append_cells rfl (.tmp 4) (.tmp 5) 30 rfl 9 (.string ByteArray.empty) 16 Try.underlying30 string_info rfl (by decide) rfl rfl ow ha (strs_one _) (by unfold maxLen; omega) (by omega) (Nat.le_refl _) ?_; intro F cF w3 hrow hg3 hloc)
  rw [Nat.zero_add, List.nil_append] at hrow
  have hb3 := (Below.refl w.heap.size w).grown hg3 (Nat.le_refl _) (fun r e => by cases e)
  clear hg3 hloc ow ha
  rcases hrow.2 with ⟨hv, hn0⟩ | ⟨g, cap, cur, hv, hbase, hb, h1, h2, h3, h4⟩
  · injection hv with e1 e2 e3
    subst e1 e3
    subst hn0
    have c := Go.Lib.hid (Try.slices_Sort_string_none none 0 w3)
    have c2 := Go.Lib.hid (Try.slices_Compact_string_empty none 0 w3)
    have he : normTags ss = [] := by
      have h0 : us = [] := List.eq_nil_of_length_eq_zero HU.out
      rw [← HT.out, h0]
      simp [Lib.compact, Lib.compactUpTo]
    have HX := Go.Lib.hid he
    clear he hrow
    go_wp2_with (refine (c.out).mono ?_; rintro e w' ⟨rfl, rfl⟩; clear c)
    go_wp2_with (refine (c2.out).mono ?_; rintro e w' ⟨rfl, rfl⟩; clear c2)
    go_ret
    exact ⟨none, 0, 0, rfl, by rw [HX.out]; exact RdC.nil _, (fun a h => by cases h), hb3⟩
  · injection hv with e1 e2 e3
    subst e1 e3
    have hgl : g < w3.heap.size := (Array.getElem?_eq_some_iff.1 hb).1
    have hul := HU.out
    subst hul
    have h4' : cur.toList.take us.length = us.map encStr := by rw [← HE.out]; simpa using h4
    have hH : Holds encStr w3 g 0 us.toArray := holds_of_block hb h4'
    have c := Go.Lib.hid (Try.slices_Sort_string g 0 cF us w3 hH hgl (by omega))
    have P := fun n os => ownsRow_sorted (n := n) (os := os) (ss := us) (ts := us.mergeSort leT) (by simp) hbase hb h1 h2 h3
    have Q := Go.Lib.hid P
    have hlen : (us.mergeSort leT).length = us.length := by simp
    have HL := Go.Lib.hid hlen
    clear P hH h4 h4' hrow hlen hb h3 HU HE
    go_wp2_with (refine (c.out).mono ?_; rintro e w4 ⟨rfl, nn, os, hx⟩; have HW4 := Go.Lib.hid hx; clear c hx)
    have hw4 := HW4.out
    clear HW4
    have o4 : w4.ownsRow w.heap.size 9 1 (.slice (some ⟨g, 0, none⟩) us.length cF) us.length ((us.mergeSort leT).map encStr) := by rw [hw4]; exact Q.out nn os
    have hb4 : Below w.heap.size w w4 := by rw [hw4]; exact hb3.grown (grownBy_sorted _) hb3.size (fun j hj => by cases hj; omega)
    clear Q hw4 hb3 hgl
    generalize hzs : us.mergeSort leT = zs at *
    clear hzs
    have hzl := HL.out
    rcases o4.2 with ⟨hv, _⟩ | ⟨g', cap', cur', hv, _, hb5, k1, k2, k3, k4⟩
    · cases hv
    injection hv with e1 e2 e3
    injection e1 with e1
    injection e1 with e1
    subst e1 e3
    have hH2 : Holds encStr w4 g 0 zs.toArray := holds_of_block hb5 (by rw [hzl]; simpa using k4)
    have c2 := Try.slices_Compact_string g 0 cF zs w4 hH2 (by rw [hzl]; unfold maxLen at h2; omega) (by rw [hzl]; omega)
    rw [hzl] at c2
    have C2 := Go.Lib.hid c2
    have hg4 : g < w4.heap.size := (Array.getElem?_eq_some_iff.1 hb5).1
    have hcl : (Lib.compact zs).length ≤ us.length := by
      rw [← hzl]
      unfold Lib.compact Lib.compactUpTo
      rw [List.length_map]
      exact Nat.le_trans (List.length_filter_le _ _) (by simp)
    have HCL := Go.Lib.hid hcl
    have P := fun q => ownsRow_sorted (n := q) (os := #[]) (ss := us) (ts := Lib.compact zs ++ List.replicate (us.length - (Lib.compact zs).length) []) (by rw [List.length_append, List.length_replicate]; omega) hbase hb5 k1 k2 k3
    have Q := Go.Lib.hid P
    clear c2 hH2 P hb5 k4 k3 hcl o4 hzl
    go_wp2_with (refine (C2.out).mono ?_; rintro e w5 ⟨rfl, qn, hx⟩; have HW5 := Go.Lib.hid hx; clear C2 hx)
    go_ret
    have hw5 := HW5.out
    have o5 := Q.out qn
    rw [grow_none, ← hw5] at o5
    have r5 : RdC 1 w5 (some ⟨g, 0, none⟩) us.length cF _ := OwnC.rd o5
    have r6 := RdC.first r5 HCL.out
    have hg5 : g < w5.heap.size := (OwnC.lt o5 _ rfl).2
    have gb : w4.grownBy w5 (some g) := by
      have := grownBy_sorted (w := w4) (g := g) (n := qn) (os := #[]) (Lib.compact zs ++ List.replicate (us.length - (Lib.compact zs).length) []).toArray
      rwa [grow_none, ← hw5] at this
    refine ⟨_, _, _, rfl, ?_, (fun a h => by injection h with h; subst h; exact ⟨hbase, hg5⟩), hb4.grown gb hb4.size (fun j hj => by cases hj; omega)⟩
    have ht := HT.out
    rw [← ht]
    unfold RdS
    rw [strs_bOf]
    have e6 : ((Lib.compact zs ++ List.replicate (us.length - (Lib.compact zs).length) []).map encStr).take ((Lib.compact zs).length * 1) = (Lib.compact zs).map encStr := by
      rw [List.map_append, Nat.mul_one, List.take_append_of_le_length (by simp), List.take_of_length_le (by simp)]
    rw [e6] at r6
    exact r6

end Go.Proofs.Ytfbooapgjhhjmaa.QuWalk
