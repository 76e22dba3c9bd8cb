/-
  Contracts of the document's answers of layer 4: tags, Put.
-/
import Derived.Test.YtjglpmakjampjaaEvRef
namespace Go.Proofs.Ytjglpmakjampjaa.EvWalk
open Go.RowKit Go.Proofs.Ytjglpmakjampjaa.MemRow Go.Proofs.Ytjglpmakjampjaa.Ev Go.Proofs.Ytjglpmakjampjaa.NameMath Go.Proofs.Ytjglpmakjampjaa.NameWalk

/-- It is a tag. -/
def tagB (s : ByteArray) : Bool := (parts s.data.toList).2.2

theorem all_take {p : ByteArray → Bool} (l : List ByteArray) (h : l.all p = true) (j : Nat) (hj : j < l.length) : p (l.getD j ByteArray.empty) = true := by
  rw [List.all_eq_true] at h
  simp only [List.getD, List.getElem?_eq_getElem hj, Option.getD_some]
  exact h _ (List.getElem_mem hj)

theorem mem_getD (l : List ByteArray) (j : Nat) (hj : j < l.length) : l.getD j ByteArray.empty ∈ l := by
  simp only [List.getD, List.getElem?_eq_getElem hj, Option.getD_some]
  exact List.getElem_mem hj

set_option maxHeartbeats 4000000 in
set_option maxRecDepth 100000 in
theorem refTags_any (A : Option Addr) (n ca : Nat) (ss : List ByteArray) (w : World) (ha : RdS w A n ca ss) (hz : ∀ x ∈ ss, x.size ≤ maxLen) :
    Calls Try.prog 45 #[.slice A n ca] w fun e w' => e = .returned (.bool (ss.all tagB)) ∧ Below w.heap.size w w' := by
  have hn := RdC.le ha
  unfold maxLen at hn hz
  have la := ha.len
  generalize hR : ss.all tagB = R
  have HR := Go.Lib.hid hR
  have LA := Go.Lib.hid la
  have HZ := Go.Lib.hid hz
  clear hR la hz
  go_enter Try.func45, Try.ntmps45
  go_wp2_with fail
  go_loopw [3] (fun i wr => ∃ j : Nat, j ≤ n ∧ i = .int .i64 j ∧ (ss.take j).all tagB = true ∧ Below w.heap.size w wr) (fun i _ => n - (intOf i).toNat)
  case atStart => exact ⟨0, Nat.zero_le _, rfl, rfl, Below.refl _ _⟩
  case round =>
    obtain ⟨j, hj, rfl, hq, B⟩ := hrel
    have HQ := Go.Lib.hid hq
    clear hq
    have ha' := RdC.below ha B
    by_cases hlt : j < n
    · obtain ⟨ba, oa, rfl, _, ka⟩ := RdS.at_ ha' (by omega)
      have ka1 := ka j hlt
      have i1 : (j : Int) < n := by omega
      have ta := take_get ss j (by rw [LA.out]; exact hlt)
      have hsz := HZ.out _ (mem_getD ss j (by rw [LA.out]; exact hlt))
      have hall := fun h => all_take (p := tagB) ss h j (by rw [LA.out]; exact hlt)
      have TA := Go.Lib.hid ta
      have HL := Go.Lib.hid hall
      clear ka ta ha' hall
      generalize hx : ss.getD j ByteArray.empty = x at *
      clear hx
      have hp := fun w => refParts_any x w (by omega)
      cases ht : tagB x
      · have hR : R = false := by
          rw [← HR.out]
          cases h : ss.all tagB with
          | false => rfl
          | true => rw [HL.out h] at ht; cases ht
        subst hR
        unfold tagB at ht
        generalize parts x.data.toList = P at *
        obtain ⟨p1, p2, p3⟩ := P
        simp only at ht
        subst ht
        have HP := Go.Lib.hid hp
        clear hp
        go_wp2_with fail
        refine (HP.out _).mono ?_
        rintro e w2 ⟨rfl, b2⟩
        have B2 := below_chain B b2
        go_wp2_with fail
        go_ret
        exact ⟨rfl, B2⟩
      · have ht' := ht
        unfold tagB at ht
        generalize parts x.data.toList = P at *
        obtain ⟨p1, p2, p3⟩ := P
        simp only at ht
        subst ht
        have HP := Go.Lib.hid hp
        have HT := Go.Lib.hid ht'
        clear hp ht'
        go_wp2_with fail
        refine (HP.out _).mono ?_
        rintro e w2 ⟨rfl, b2⟩
        have B2 := below_chain B b2
        go_wp2_with fail
        go_roundw
        case rel => exact ⟨j + 1, by omega, by go_num, by rw [TA.out, List.all_append, HQ.out]; simp [HT.out], B2⟩
        case measure => simp [intOf]; omega
    · obtain rfl : n = j := by omega
      have hR : R = true := by
        rw [← HR.out]
        have h1 := HQ.out
        rwa [List.take_of_length_le (by rw [LA.out]; exact Nat.le_refl _)] at h1
      subst hR
      go_wp2_with fail
      go_ret
      exact ⟨rfl, B⟩

theorem put_at : ∀ (l : List ByteArray) (s : ByteArray) (j : Nat), j ≤ l.length → (∀ i, i < j → less (l.getD i ByteArray.empty) s = true) →
    (j < l.length → less (l.getD j ByteArray.empty) s = false) → putL l s = if j < l.length ∧ l.getD j ByteArray.empty = s then l else l.take j ++ s :: l.drop j
  | [], s, j, hj, _, _ => by
    have : j = 0 := by simpa using hj
    subst this
    rw [if_neg (by simp)]
    rfl
  | a :: l, s, 0, _, _, h2 => by
    have h := h2 (by simp)
    simp only [List.getD_cons_zero] at h
    rw [putL, h, if_neg (by decide)]
    by_cases e : a = s
    · rw [if_pos e, if_pos (by simp [e])]
    · rw [if_neg e, if_neg (by simp [e])]
      rfl
  | a :: l, s, j + 1, hj, h1, h2 => by
    have h := h1 0 (by omega)
    simp only [List.getD_cons_zero] at h
    have ih := put_at l s j (by simpa using hj) (fun i hi => by simpa using h1 (i + 1) (by omega)) (fun hl => by simpa using h2 (by simpa using hl))
    rw [putL, if_pos h, ih]
    by_cases e : j < l.length ∧ l.getD j ByteArray.empty = s
    · rw [if_pos e, if_pos (by simpa using e)]
    · rw [if_neg e, if_neg (by simpa using e)]
      simp

theorem string_info : (Try.prog.info? 9).map (fun i => (i.zero, i.size, i.bytes)) = some (some (.string ByteArray.empty), 1, 16) := by kernel_rfl
theorem string_size : (Try.prog.info? 9).map (·.size) = some 1 := by kernel_rfl
theorem elem_strs : Try.prog.elem 23 = 9 := by kernel_rfl

/-- A slice that reads as texts. -/
def SomeS (w : World) (A0 : Option Addr) (ss : List ByteArray) (e : Ending) (w' : World) : Prop := ∃ A n ca, e = .returned (.slice A n ca) ∧ RdS w' A n ca ss ∧ Below w.heap.size w w' ∧ (A = A0 ∨ ∀ a, A = some a → w.heap.size ≤ a.block)


end Go.Proofs.Ytjglpmakjampjaa.EvWalk
