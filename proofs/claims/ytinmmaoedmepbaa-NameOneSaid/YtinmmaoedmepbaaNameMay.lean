/-
  Contracts of layer 3: May, Fold.
-/
import Derived.Test.YtinmmaoedmepbaaNameLeaf
import Derived.LoopTactic
import Derived.Laws.RangeAny
namespace Go.Proofs.Ytinmmaoedmepbaa.NameWalk
open Go.RowKit Go.Proofs.Ytinmmaoedmepbaa.NameMath

theorem drop_ne {s : ByteArray} {pos : Nat} (h : pos < s.size) : s.data.toList.drop pos ≠ [] := by
  intro e
  have := congrArg List.length e
  simp at this
  have h2 : s.size = s.data.size := rfl
  omega

theorem size_list (s : ByteArray) : s.size = s.data.toList.length := (Array.length_toList).symm

theorem below_iter (w : World) (s : ByteArray) (pos : Nat) : Below w.heap.size w (w.iter s pos) := by
  have h : Below w.heap.size w (w.iter s pos) := (Below.refl _ w).alloc (Nat.le_refl _) _
  exact h

set_option maxHeartbeats 4000000 in
set_option maxRecDepth 100000 in
theorem may_any (s : ByteArray) (w : World) (hs : s.size ≤ 9223372036854775807) :
    Calls Try.prog 13 #[.string s] w fun e w' => e = .returned (.bool (may s.data.toList)) ∧ Below w.heap.size w w' := by
  have hsz := size_list s
  generalize hl : s.data.toList = l at *
  generalize hm : may l = m
  have HM := Go.Lib.hid hm
  have HL := Go.Lib.hid hl
  clear hm hl
  by_cases h1 : s.size < 1
  · have hb : m = false := by rw [← HM.out]; unfold may; rw [decide_eq_false (by omega)]; rfl
    subst hb
    have k1 : (s.size : Int) < 1 := by omega
    go_enter Try.func13, Try.ntmps13
    go_wp2
    go_ret
    exact ⟨rfl, Below.refl _ _⟩
  by_cases h2 : s.size > 24
  · have hb : m = false := by rw [← HM.out]; unfold may; rw [decide_eq_false (by omega)]; rfl
    subst hb
    have k1 : ¬ (s.size : Int) < 1 := by omega
    have k2 : (24 : Int) < s.size := by omega
    go_enter Try.func13, Try.ntmps13
    go_wp2
    go_ret
    exact ⟨rfl, Below.refl _ _⟩
  have hm2 : m = (first l && allL l) := by rw [← HM.out]; unfold may; rw [decide_eq_true (by omega)]; rfl
  have HM2 := Go.Lib.hid hm2
  clear hm2 HM
  have k1 : ¬ (s.size : Int) < 1 := by omega
  have k2 : ¬ (24 : Int) < s.size := by omega
  have HS := Go.Lib.hid hsz
  clear hsz
  go_enter Try.func13, Try.ntmps13
  go_wp2
  go_loopw [] (fun w' => ∃ pos : Nat, w' = w.iter s pos ∧ allL (l.drop pos) = allL l ∧ (pos = 0 ∨ first l = true)) (fun w' => s.size - w'.iterPos w.heap.size)
  case atStart => exact ⟨0, rfl, rfl, .inl rfl⟩
  case round =>
    obtain ⟨pos, rfl, hall, hfi⟩ := hrel
    by_cases hp : pos < s.size
    · have hnx : ∀ ty, (Instr.next (.pointer (some ⟨w.heap.size, 0, none⟩)) true ty).run Try.prog (w.iter s pos) = _ := fun ty => run_next_any w s pos ty hp
      have hne := drop_ne hp
      have hdec := dec_at s pos
      rw [HL.out] at hdec hne
      have hpos := dec_pos hne
      generalize hq : Utf8.decode s pos = q at *
      have hq1 : isL q.1 = true → allL l = allL (l.drop (pos + q.2)) ∧ begR q.1 = first (l.drop pos) := by
        intro hh
        rw [hdec] at hh ⊢
        have := rune_letter hne hh
        rw [List.drop_drop] at this
        exact ⟨hall.symm.trans this.1, this.2⟩
      have hq2 : isL q.1 = false → allL l = false := by
        intro hh
        rw [hdec] at hh
        exact hall.symm.trans (rune_other hne hh)
      rw [← hdec] at hpos
      have H1 := Go.Lib.hid hq1
      have H2 := Go.Lib.hid hq2
      have HP := Go.Lib.hid hpos
      have HF := Go.Lib.hid hfi
      clear hq1 hq2 hpos hfi hdec hq hall
      obtain ⟨r, k⟩ := q
      generalize hil : isL r = bl
      have HI := Go.Lib.hid hil
      clear hil
      cases bl
      · go_wp2_with (go_at_call 22; refine (letter_any r _).mono ?_; rw [HI.out]; rintro e w' ⟨rfl, rfl⟩)
        go_ret
        have := H2.out HI.out
        rw [HM2.out, this, Bool.and_false]
        exact ⟨rfl, below_iter _ _ _⟩
      · by_cases h0 : pos = 0
        · subst h0
          generalize hbg : begR r = bb
          have HB := Go.Lib.hid hbg
          clear hbg
          cases bb
          · go_wp2_with (first | (go_at_call 22; refine (letter_any r _).mono ?_; rw [HI.out]; rintro e w' ⟨rfl, rfl⟩) | (go_at_call 23; refine (begin_any r _).mono ?_; rw [HB.out]; rintro e w' ⟨rfl, rfl⟩))
            go_ret
            have := (H1.out HI.out).2
            rw [show begR (r, k).1 = begR r from rfl, HB.out, List.drop_zero] at this
            rw [HM2.out, ← this, Bool.false_and]
            exact ⟨rfl, below_iter _ _ _⟩
          · go_wp2_with (first | (go_at_call 22; refine (letter_any r _).mono ?_; rw [HI.out]; rintro e w' ⟨rfl, rfl⟩) | (go_at_call 23; refine (begin_any r _).mono ?_; rw [HB.out]; rintro e w' ⟨rfl, rfl⟩))
            have hk := HP.out
            try simp only at hk
            go_roundw
            case rel =>
              have h3 := H1.out HI.out
              rw [show begR (r, k).1 = begR r from rfl, HB.out, List.drop_zero] at h3
              exact ⟨k, rfl, by rw [h3.1, Nat.zero_add], .inr h3.2.symm⟩
            case measure =>
              simp
              omega
        · have k3 : ¬ (pos : Int) = 0 := by omega
          go_wp2_with (first | (go_at_call 22; refine (letter_any r _).mono ?_; rw [HI.out]; rintro e w' ⟨rfl, rfl⟩))
          have hk := HP.out
          try simp only at hk
          go_roundw
          case rel =>
            have h3 := H1.out HI.out
            exact ⟨pos + k, rfl, h3.1.symm, .inr (HF.out.resolve_left h0)⟩
          case measure =>
            simp
            omega
    · have hnx : ∀ ty, (Instr.next (.pointer (some ⟨w.heap.size, 0, none⟩)) true ty).run Try.prog (w.iter s pos) = _ := fun ty => run_next_end w s pos ty hp
      have ha : allL l = true := by
        rw [← hall, List.drop_eq_nil_of_le (by have := HS.out; omega)]; rfl
      have hf : first l = true := hfi.resolve_left (by omega)
      have hm3 : m = true := by rw [HM2.out, ha, hf]; rfl
      subst hm3
      clear hall ha hf hfi
      go_wp2
      go_ret
      exact ⟨rfl, below_iter _ _ _⟩

set_option maxHeartbeats 4000000 in
set_option maxRecDepth 100000 in
theorem fold_any (s : ByteArray) (w : World) (hs : s.size ≤ 35184372088832) :
    Calls Try.prog 15 #[.string s] w fun e w' => e = .returned (.string ⟨(fold s.data.toList).toArray⟩) ∧ Below w.heap.size w w' := by
  have hsz := size_list s
  generalize hl : s.data.toList = l at *
  have HL := Go.Lib.hid hl
  have HS := Go.Lib.hid hsz
  clear hl hsz
  have hfl := fold_len l
  generalize hfo : fold l = f at *
  have HFO := Go.Lib.hid hfo
  clear hfo
  go_enter Try.func15, Try.ntmps15
  go_wp2
  go_loopw [] (fun wr => ∃ (pos : Nat) (acc : List UInt8), Lib.IsBuilderF 39 5 w.heap.size w.heap.size (Lib.byteCells acc) wr ∧ wr.heap[w.heap.size + 1]? = some (.stringIter s pos) ∧ Below w.heap.size w wr ∧ acc ++ fold (l.drop pos) = f) (fun wr => s.size - wr.iterPos (w.heap.size + 1))
  case atStart =>
    refine ⟨0, [], (Lib.IsBuilderF.of (Lib.fresh_isBuilder 39 5 w)).alloc _, ?_, ((Below.refl _ w).alloc (Nat.le_refl _) _).alloc (by simp) _, HFO.out⟩
    have := World.iter_heap (w.alloc (.cells #[.pointer none, .slice none 0 0] 39)) s 0
    simpa using this
  case round =>
    obtain ⟨pos, acc, hI, hit, hbw, hacc⟩ := hrel
    have hsz : w.heap.size + 1 < wr.heap.size := (Array.getElem?_eq_some_iff.1 hit).1
    by_cases hp : pos < s.size
    · have hnx : ∀ ty, (Instr.next (.pointer (some ⟨w.heap.size + 1, 0, none⟩)) true ty).run Try.prog wr = _ := fun ty => Lib.run_next_any_at wr (w.heap.size + 1) s pos ty hit hp
      have hne := drop_ne hp
      have hdec := dec_at s pos
      have hd1 := decode_le s pos
      rw [HL.out] at hdec hne
      have hpos := dec_pos hne
      have hrf := rune_fold hne
      rw [List.drop_drop, ← hdec] at hrf
      rw [← hdec] at hpos
      generalize hq : Utf8.decode s pos = q at *
      clear hq hdec
      obtain ⟨r, k⟩ := q
      simp only at hrf hpos hd1 hnx
      have hI2 := hI.iterAt hit (pos + k)
      have hit2 := Lib.iterAt_heap wr (w.heap.size + 1) s pos (pos + k) hit
      have hbw2 := Lib.below_iterAt hbw (k := w.heap.size + 1) (by omega) s (pos + k)
      have hsz2 : w.heap.size ≤ (wr.iterAt (w.heap.size + 1) s (pos + k)).heap.size := by rw [Lib.iterAt_size]; omega
      have hfr := foldR_lt r
      have hal : acc.length ≤ f.length := by rw [← hacc]; simp
      have HR := Go.Lib.hid hrf
      have HA := Go.Lib.hid hacc
      clear hrf hacc
      generalize hfR : foldR r = x at *
      have HX := Go.Lib.hid hfR
      clear hfR
      by_cases hx : x = 0
      · subst hx
        go_wp2_with (go_at_call 25; refine (foldRune_any r _ (by omega)).mono ?_; rw [HX.out]; rintro e w' ⟨rfl, rfl⟩)
        go_roundw
        case rel =>
          refine ⟨pos + k, acc, hI2, hit2, hbw2, ?_⟩
          have h4 := HR.out
          rw [if_pos (by trivial), List.nil_append] at h4
          rw [← h4, HA.out]
        case measure =>
          simp only [World.iterPos, hit2, hit]
          omega
      · have hdx : decide (x ≠ 0) = true := decide_eq_true hx
        go_wp2_with (go_at_call 25; refine (foldRune_any r _ (by omega)).mono ?_; rw [HX.out, hdx]; rintro e w' ⟨rfl, rfl⟩)
        have hbl : (Lib.byteCells acc).length + 4 ≤ 140737488355328 := by rw [Lib.byteCells_length]; have := HS.out; omega
        refine (write_rune w.heap.size w.heap.size _ x hfr _ hI2 hbl hsz2).mono ?_
        rintro e W1 ⟨⟨u, rfl⟩, h1, b1, k1⟩
        go_wp2
        go_roundw
        case rel =>
          refine ⟨pos + k, acc ++ enc x, ?_, k1.iter hit2 (by omega), hbw2.trans b1, ?_⟩
          · rw [Lib.byteCells_append]; exact Or.inr h1
          · have h4 := HR.out
            rw [if_neg hx] at h4
            rw [List.append_assoc, ← h4, HA.out]
        case measure =>
          simp only [World.iterPos, k1.iter hit2 (by omega), hit]
          omega
    · have hnx : ∀ ty, (Instr.next (.pointer (some ⟨w.heap.size + 1, 0, none⟩)) true ty).run Try.prog wr = _ := fun ty => Lib.run_next_end_at wr (w.heap.size + 1) s pos ty hit hp
      rw [List.drop_eq_nil_of_le (by have := HS.out; omega)] at hacc
      have hacc2 : acc = f := by rw [← hacc]; simp [fold]
      subst hacc2
      go_wp2_with (go_at_call 27; refine (Try.Builder_String_any_k w.heap.size w.heap.size acc _ hI (by omega)).mono ?_)
      rintro e W1 ⟨rfl, _, b1, _⟩
      go_wp2
      go_ret
      exact ⟨rfl, hbw.trans b1⟩

end Go.Proofs.Ytinmmaoedmepbaa.NameWalk
