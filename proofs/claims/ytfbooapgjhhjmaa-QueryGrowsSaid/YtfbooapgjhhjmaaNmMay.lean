/-
  Contracts of layer 3: May.
-/
import Derived.Test.YtfbooapgjhhjmaaNmLet
import Derived.LoopTactic
import Derived.Laws.RangeAny
namespace Go.Proofs.Ytfbooapgjhhjmaa.NameWalk
open Go.RowKit Go.Proofs.Ytfbooapgjhhjmaa.NameMath

theorem drop_ne {s : ByteArray} {pos : Nat} (h : pos < s.size) : s.data.toList.drop pos ≠ [] := by
  intro e
  have := congrArg List.length e
  simp at this
  have h2 : s.size = s.data.size := rfl
  omega

theorem size_list (s : ByteArray) : s.size = s.data.toList.length := (Array.length_toList).symm

theorem below_iter (w : World) (s : ByteArray) (pos : Nat) : Below w.heap.size w (w.iter s pos) := by
  have h : Below w.heap.size w (w.iter s pos) := (Below.refl _ w).alloc (Nat.le_refl _) _
  exact h

set_option maxHeartbeats 4000000 in
set_option maxRecDepth 100000 in
theorem may_any (s : ByteArray) (w : World) (hs : s.size ≤ 9223372036854775807) :
    Calls Try.prog 29 #[.string s] w fun e w' => e = .returned (.bool (may s.data.toList)) ∧ Below w.heap.size w w' := by
  have hsz := size_list s
  generalize hl : s.data.toList = l at *
  generalize hm : may l = m
  have HM := Go.Lib.hid hm
  have HL := Go.Lib.hid hl
  clear hm hl
  by_cases h1 : s.size < 1
  · have hb : m = false := by rw [← HM.out]; unfold may; rw [decide_eq_false (by omega)]; rfl
    subst hb
    have k1 : (s.size : Int) < 1 := by omega
    go_enter Try.func29, Try.ntmps29
    go_wp2
    go_ret
    exact ⟨rfl, Below.refl _ _⟩
  by_cases h2 : s.size > 24
  · have hb : m = false := by rw [← HM.out]; unfold may; rw [decide_eq_false (by omega)]; rfl
    subst hb
    have k1 : ¬ (s.size : Int) < 1 := by omega
    have k2 : (24 : Int) < s.size := by omega
    go_enter Try.func29, Try.ntmps29
    go_wp2
    go_ret
    exact ⟨rfl, Below.refl _ _⟩
  have hm2 : m = (first l && allL l) := by rw [← HM.out]; unfold may; rw [decide_eq_true (by omega)]; rfl
  have HM2 := Go.Lib.hid hm2
  clear hm2 HM
  have k1 : ¬ (s.size : Int) < 1 := by omega
  have k2 : ¬ (24 : Int) < s.size := by omega
  have HS := Go.Lib.hid hsz
  clear hsz
  go_enter Try.func29, Try.ntmps29
  go_wp2
  go_loopw [] (fun w' => ∃ pos : Nat, w' = w.iter s pos ∧ allL (l.drop pos) = allL l ∧ (pos = 0 ∨ first l = true)) (fun w' => s.size - w'.iterPos w.heap.size)
  case atStart => exact ⟨0, rfl, rfl, .inl rfl⟩
  case round =>
    obtain ⟨pos, rfl, hall, hfi⟩ := hrel
    by_cases hp : pos < s.size
    · have hnx : ∀ ty, (Instr.next (.pointer (some ⟨w.heap.size, 0, none⟩)) true ty).run Try.prog (w.iter s pos) = _ := fun ty => run_next_any w s pos ty hp
      have hne := drop_ne hp
      have hdec := dec_at s pos
      rw [HL.out] at hdec hne
      have hpos := dec_pos hne
      generalize hq : Utf8.decode s pos = q at *
      have hq1 : isL q.1 = true → allL l = allL (l.drop (pos + q.2)) ∧ begR q.1 = first (l.drop pos) := by
        intro hh
        rw [hdec] at hh ⊢
        have := rune_letter hne hh
        rw [List.drop_drop] at this
        exact ⟨hall.symm.trans this.1, this.2⟩
      have hq2 : isL q.1 = false → allL l = false := by
        intro hh
        rw [hdec] at hh
        exact hall.symm.trans (rune_other hne hh)
      rw [← hdec] at hpos
      have H1 := Go.Lib.hid hq1
      have H2 := Go.Lib.hid hq2
      have HP := Go.Lib.hid hpos
      have HF := Go.Lib.hid hfi
      clear hq1 hq2 hpos hfi hdec hq hall
      obtain ⟨r, k⟩ := q
      generalize hil : isL r = bl
      have HI := Go.Lib.hid hil
      clear hil
      cases bl
      · go_wp2_with (go_at_call 48; refine (letter_any r _).mono ?_; rw [HI.out]; rintro e w' ⟨rfl, rfl⟩)
        go_ret
        have := H2.out HI.out
        rw [HM2.out, this, Bool.and_false]
        exact ⟨rfl, below_iter _ _ _⟩
      · by_cases h0 : pos = 0
        · subst h0
          generalize hbg : begR r = bb
          have HB := Go.Lib.hid hbg
          clear hbg
          cases bb
          · go_wp2_with (first | (go_at_call 48; refine (letter_any r _).mono ?_; rw [HI.out]; rintro e w' ⟨rfl, rfl⟩) | (go_at_call 49; refine (begin_any r _).mono ?_; rw [HB.out]; rintro e w' ⟨rfl, rfl⟩))
            go_ret
            have := (H1.out HI.out).2
            rw [show begR (r, k).1 = begR r from rfl, HB.out, List.drop_zero] at this
            rw [HM2.out, ← this, Bool.false_and]
            exact ⟨rfl, below_iter _ _ _⟩
          · go_wp2_with (first | (go_at_call 48; refine (letter_any r _).mono ?_; rw [HI.out]; rintro e w' ⟨rfl, rfl⟩) | (go_at_call 49; refine (begin_any r _).mono ?_; rw [HB.out]; rintro e w' ⟨rfl, rfl⟩))
            have hk := HP.out
            try simp only at hk
            go_roundw
            case rel =>
              have h3 := H1.out HI.out
              rw [show begR (r, k).1 = begR r from rfl, HB.out, List.drop_zero] at h3
              exact ⟨k, rfl, by rw [h3.1, Nat.zero_add], .inr h3.2.symm⟩
            case measure =>
              simp
              omega
        · have k3 : ¬ (pos : Int) = 0 := by omega
          go_wp2_with (first | (go_at_call 48; refine (letter_any r _).mono ?_; rw [HI.out]; rintro e w' ⟨rfl, rfl⟩))
          have hk := HP.out
          try simp only at hk
          go_roundw
          case rel =>
            have h3 := H1.out HI.out
            exact ⟨pos + k, rfl, h3.1.symm, .inr (HF.out.resolve_left h0)⟩
          case measure =>
            simp
            omega
    · have hnx : ∀ ty, (Instr.next (.pointer (some ⟨w.heap.size, 0, none⟩)) true ty).run Try.prog (w.iter s pos) = _ := fun ty => run_next_end w s pos ty hp
      have ha : allL l = true := by
        rw [← hall, List.drop_eq_nil_of_le (by have := HS.out; omega)]; rfl
      have hf : first l = true := hfi.resolve_left (by omega)
      have hm3 : m = true := by rw [HM2.out, ha, hf]; rfl
      subst hm3
      clear hall ha hf hfi
      go_wp2
      go_ret
      exact ⟨rfl, below_iter _ _ _⟩

end Go.Proofs.Ytfbooapgjhhjmaa.NameWalk
