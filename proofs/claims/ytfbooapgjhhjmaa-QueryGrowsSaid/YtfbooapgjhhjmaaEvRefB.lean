/-
  Contracts of the document's answers of layer 4: tags, Put.
-/
import Derived.Test.YtfbooapgjhhjmaaEvRef
namespace Go.Proofs.Ytfbooapgjhhjmaa.EvWalk
open Go.RowKit Go.Proofs.Ytfbooapgjhhjmaa.MemRow Go.Proofs.Ytfbooapgjhhjmaa.Ev Go.Proofs.Ytfbooapgjhhjmaa.NameMath Go.Proofs.Ytfbooapgjhhjmaa.NameWalk

/-- It is a tag. -/
def tagB (s : ByteArray) : Bool := (parts s.data.toList).2.2

theorem all_take {p : ByteArray → Bool} (l : List ByteArray) (h : l.all p = true) (j : Nat) (hj : j < l.length) : p (l.getD j ByteArray.empty) = true := by
  rw [List.all_eq_true] at h
  simp only [List.getD, List.getElem?_eq_getElem hj, Option.getD_some]
  exact h _ (List.getElem_mem hj)

theorem mem_getD (l : List ByteArray) (j : Nat) (hj : j < l.length) : l.getD j ByteArray.empty ∈ l := by
  simp only [List.getD, List.getElem?_eq_getElem hj, Option.getD_some]
  exact List.getElem_mem hj

theorem put_at : ∀ (l : List ByteArray) (s : ByteArray) (j : Nat), j ≤ l.length → (∀ i, i < j → less (l.getD i ByteArray.empty) s = true) →
    (j < l.length → less (l.getD j ByteArray.empty) s = false) → putL l s = if j < l.length ∧ l.getD j ByteArray.empty = s then l else l.take j ++ s :: l.drop j
  | [], s, j, hj, _, _ => by
    have : j = 0 := by simpa using hj
    subst this
    rw [if_neg (by simp)]
    rfl
  | a :: l, s, 0, _, _, h2 => by
    have h := h2 (by simp)
    simp only [List.getD_cons_zero] at h
    rw [putL, h, if_neg (by decide)]
    by_cases e : a = s
    · rw [if_pos e, if_pos (by simp [e])]
    · rw [if_neg e, if_neg (by simp [e])]
      rfl
  | a :: l, s, j + 1, hj, h1, h2 => by
    have h := h1 0 (by omega)
    simp only [List.getD_cons_zero] at h
    have ih := put_at l s j (by simpa using hj) (fun i hi => by simpa using h1 (i + 1) (by omega)) (fun hl => by simpa using h2 (by simpa using hl))
    rw [putL, if_pos h, ih]
    by_cases e : j < l.length ∧ l.getD j ByteArray.empty = s
    · rw [if_pos e, if_pos (by simpa using e)]
    · rw [if_neg e, if_neg (by simpa using e)]
      simp

theorem string_info : (Try.prog.info? 9).map (fun i => (i.zero, i.size, i.bytes)) = some (some (.string ByteArray.empty), 1, 16) := by kernel_rfl
theorem string_size : (Try.prog.info? 9).map (·.size) = some 1 := by kernel_rfl
theorem elem_strs : Try.prog.elem 30 = 9 := by kernel_rfl

/-- A slice that reads as texts. -/
def SomeS (w : World) (A0 : Option Addr) (ss : List ByteArray) (e : Ending) (w' : World) : Prop := ∃ A n ca, e = .returned (.slice A n ca) ∧ RdS w' A n ca ss ∧ Below w.heap.size w w' ∧ (A = A0 ∨ ∀ a, A = some a → w.heap.size ≤ a.block)

set_option maxHeartbeats 4000000 in
set_option maxRecDepth 100000 in
theorem refPut_any (A : Option Addr) (n ca : Nat) (ss : List ByteArray) (s : ByteArray) (w : World) (ha : RdS w A n ca ss) (hsm : n ≤ 1000000) :
    Calls Try.prog 22 #[.slice A n ca, .string s] w (SomeS w A (putL ss s)) := by
  have la := ha.len
  have hput := fun j => put_at ss s j
  have HP := Go.Lib.hid hput
  have LA := Go.Lib.hid la
  clear la hput
  go_enter Try.func22, Try.ntmps22
  go_wp2_with fail
  go_loop [5] (fun i => ∃ j : Nat, j ≤ n ∧ i = .int .i64 j ∧ (∀ i, i < j → less (ss.getD i ByteArray.empty) s = true)) (fun i => n - (intOf i).toNat)
  case atStart => exact ⟨0, Nat.zero_le _, rfl, fun i hi => by omega⟩
  case round =>
    obtain ⟨j, hj, rfl, hq⟩ := hrel
    have HQ := Go.Lib.hid hq
    clear hq
    by_cases hlt : j < n
    · obtain ⟨ba, oa, rfl, _, ka⟩ := ha.at_ (by omega)
      have ka1 := ka j hlt
      have i1 : (j : Int) < n := by omega
      clear ka
      generalize hx : ss.getD j ByteArray.empty = x at *
      have HX := Go.Lib.hid hx
      clear hx
      by_cases hl : less x s = true
      · have hb : Op.bytesLess x.toList s.toList = true := hl
        go_wp2_with fail
        go_round
        case rel =>
          refine ⟨j + 1, by omega, by go_num, fun i hi => ?_⟩
          rcases Nat.lt_succ_iff_lt_or_eq.1 hi with h | rfl
          · exact HQ.out i h
          · rw [HX.out]; exact hl
        case measure => simp [intOf]; omega
      · have hb : Op.bytesLess x.toList s.toList = false := by simpa [less] using hl
        have hq := HP.out j (by rw [LA.out]; exact hj) HQ.out (fun _ => by rw [HX.out]; simpa using hl)
        by_cases hxs : x = s
        · subst hxs
          rw [if_pos ⟨by rw [LA.out]; exact hlt, HX.out⟩] at hq
          have HE := Go.Lib.hid hq
          clear hq
          go_wp2_with fail
          go_ret
          exact ⟨_, _, _, rfl, by rw [HE.out]; exact ha, Below.refl _ _, .inl rfl⟩
        · rw [if_neg (fun h => hxs (HX.out.symm.trans h.2))] at hq
          have hne := str_ne hxs
          have HE := Go.Lib.hid hq
          clear hq
          obtain ⟨A1, q1, d1⟩ := slice_lo (P := Try.prog) 30 9 Try.underlying30 elem_strs string_size ha (m := j) (by omega)
          obtain ⟨q2, d2⟩ := slice_hi (P := Try.prog) 30 9 Try.underlying30 elem_strs string_size ha (m := j) (by omega)
          rw [strs_drop] at d1
          rw [strs_take] at d2
          have ba : Below w.heap.size w (w.alloc (.cells #[] 9)) := (Below.refl _ _).alloc (Nat.le_refl _) _
          have d3 := d1.below ba
          have o1 : OwnC 1 (w.alloc (.cells #[] 9)) w.heap.size 9 (some ⟨w.heap.size, 0, none⟩) 0 0 [] := OwnC.empty w 9 (Nat.le_refl _)
          go_wp2_with (first
            | (at_builtin; refine wpList_copy_cells rfl (.tmp 35) (.tmp 38) 30 rfl 9 (.string ByteArray.empty) 16 Try.underlying30 string_info rfl (by decide) rfl rfl o1 d3 (strs_one _) (by unfold maxLen; omega) (by omega) ba.size ba ?_; intro A5 c5 w5 o5 b5; have bb := (Below.refl w5.heap.size w5).alloc (Nat.le_refl _) (.cells #[] 9); have d5 := (d2.below b5).below bb; have o6 : OwnC 1 (w5.alloc (.cells #[] 9)) w5.heap.size 9 (some ⟨w5.heap.size, 0, none⟩) 0 0 [] := OwnC.empty w5 9 (Nat.le_refl _))
            | (at_builtin; refine wpList_copy_cells rfl (.tmp 40) (.tmp 43) 30 rfl 9 (.string ByteArray.empty) 16 Try.underlying30 string_info rfl (by decide) rfl rfl o6 d5 (strs_one _) (by unfold maxLen; omega) (by omega) bb.size bb ?_; intro A7 c7 w7 o7 b7; have bc := (Below.refl w7.heap.size w7).alloc (Nat.le_refl _) (.cells #[.string s] 9); have o8 := o7.below bc; have d8 : RdC 1 (w7.alloc (.cells #[.string s] 9)) (some ⟨w7.heap.size, 0, none⟩) 1 1 (strs [s]) := RdC.new w7 9 (strs [s]) rfl (by decide); have b8 := below_chain b7 bc)
            | (at_builtin; refine wpList_more_cells rfl (.tmp 45) (.tmp 47) 30 rfl 9 (.string ByteArray.empty) 16 Try.underlying30 string_info rfl (by decide) rfl rfl o8 d8 (strs_one _) (by unfold maxLen; omega) (by omega) b8.size b8 ?_; intro A9 c9 w9 o9 b9 g9; have d9 := (OwnC.rd o5).below b9)
            | (at_builtin; refine wpList_more_cells rfl (.tmp 49) (.tmp 50) 30 rfl 9 (.string ByteArray.empty) 16 Try.underlying30 string_info rfl (by decide) rfl rfl o9 d9 (strs_one _) (by unfold maxLen; omega) (by omega) b9.size b9 ?_; intro A10 c10 w10 o10 b10 g10))
          go_ret
          refine ⟨_, _, _, rfl, ?_, below_chain b5 b10, .inr fun a ha => Nat.le_trans b5.size (OwnC.lt o10 a ha).1⟩
          rw [HE.out]
          have h10 := OwnC.rd o10
          rw [← strs_append, ← strs_append, List.append_assoc] at h10
          exact h10
    · have hq := HP.out j (by rw [LA.out]; exact hj) HQ.out (fun h => by rw [LA.out] at h; omega)
      rw [if_neg (fun h => by have := h.1; rw [LA.out] at this; omega)] at hq
      have i2 : ¬ (j : Int) < n := by omega
      have HE := Go.Lib.hid hq
      clear hq
      obtain ⟨A1, q1, d1⟩ := slice_lo (P := Try.prog) 30 9 Try.underlying30 elem_strs string_size ha (m := j) (by omega)
      obtain ⟨q2, d2⟩ := slice_hi (P := Try.prog) 30 9 Try.underlying30 elem_strs string_size ha (m := j) (by omega)
      rw [strs_drop] at d1
      rw [strs_take] at d2
      have ba : Below w.heap.size w (w.alloc (.cells #[] 9)) := (Below.refl _ _).alloc (Nat.le_refl _) _
      have d3 := d1.below ba
      have o1 : OwnC 1 (w.alloc (.cells #[] 9)) w.heap.size 9 (some ⟨w.heap.size, 0, none⟩) 0 0 [] := OwnC.empty w 9 (Nat.le_refl _)
      go_wp2_with (first
        | (at_builtin; refine wpList_copy_cells rfl (.tmp 35) (.tmp 38) 30 rfl 9 (.string ByteArray.empty) 16 Try.underlying30 string_info rfl (by decide) rfl rfl o1 d3 (strs_one _) (by unfold maxLen; omega) (by omega) ba.size ba ?_; intro A5 c5 w5 o5 b5; have bb := (Below.refl w5.heap.size w5).alloc (Nat.le_refl _) (.cells #[] 9); have d5 := (d2.below b5).below bb; have o6 : OwnC 1 (w5.alloc (.cells #[] 9)) w5.heap.size 9 (some ⟨w5.heap.size, 0, none⟩) 0 0 [] := OwnC.empty w5 9 (Nat.le_refl _))
        | (at_builtin; refine wpList_copy_cells rfl (.tmp 40) (.tmp 43) 30 rfl 9 (.string ByteArray.empty) 16 Try.underlying30 string_info rfl (by decide) rfl rfl o6 d5 (strs_one _) (by unfold maxLen; omega) (by omega) bb.size bb ?_; intro A7 c7 w7 o7 b7; have bc := (Below.refl w7.heap.size w7).alloc (Nat.le_refl _) (.cells #[.string s] 9); have o8 := o7.below bc; have d8 : RdC 1 (w7.alloc (.cells #[.string s] 9)) (some ⟨w7.heap.size, 0, none⟩) 1 1 (strs [s]) := RdC.new w7 9 (strs [s]) rfl (by decide); have b8 := below_chain b7 bc)
        | (at_builtin; refine wpList_more_cells rfl (.tmp 45) (.tmp 47) 30 rfl 9 (.string ByteArray.empty) 16 Try.underlying30 string_info rfl (by decide) rfl rfl o8 d8 (strs_one _) (by unfold maxLen; omega) (by omega) b8.size b8 ?_; intro A9 c9 w9 o9 b9 g9; have d9 := (OwnC.rd o5).below b9)
        | (at_builtin; refine wpList_more_cells rfl (.tmp 49) (.tmp 50) 30 rfl 9 (.string ByteArray.empty) 16 Try.underlying30 string_info rfl (by decide) rfl rfl o9 d9 (strs_one _) (by unfold maxLen; omega) (by omega) b9.size b9 ?_; intro A10 c10 w10 o10 b10 g10))
      go_ret
      refine ⟨_, _, _, rfl, ?_, below_chain b5 b10, .inr fun a ha => Nat.le_trans b5.size (OwnC.lt o10 a ha).1⟩
      rw [HE.out]
      have h10 := OwnC.rd o10
      rw [← strs_append, ← strs_append, List.append_assoc] at h10
      exact h10

end Go.Proofs.Ytfbooapgjhhjmaa.EvWalk
