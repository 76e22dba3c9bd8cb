/-
  Contracts of layer 1 (num), the reader: NewReader, fail, Num, Text, Left, Bad.
-/
import Derived.Test.YtjglpmakjampjaaNumRead
import Derived.Maps.AppendAt
namespace Go.Proofs.Ytjglpmakjampjaa.NumWalk
open Go.RowKit Go.Proofs.Ytjglpmakjampjaa.NumMath Go.Proofs.Ytjglpmakjampjaa.NumMem
open Go.Lib (uvarint zigzag)

/-- What is left behind Num, and whether the reader is bad. -/
def numL (l : List UInt8) : List UInt8 := if lenV l = 0 then [] else l.drop (lenV l)
def numB (l : List UInt8) (bad : Bool) : Bool := if lenV l = 0 then true else bad

set_option maxRecDepth 100000 in
theorem fail_any (g : Nat) (l : List UInt8) (bad : Bool) (w : World) (h : Rdr w 60 g l bad) :
    Calls Try.prog 70 #[.pointer (some ⟨g, 0, none⟩)] w fun e w' => e = .returned (.tuple #[]) ∧ Rdr w' 60 g [] true ∧ w.grownBy w' (some g) := by
  obtain ⟨A, n, cap, hh, hr, ho⟩ := h
  have HO := Go.Lib.hid ho
  clear ho
  obtain ⟨c0, c1, hf⟩ := two_cell hh
  have f0 := hf 0
  have f1 := hf 1
  have HH := Go.Lib.hid hh
  clear hf hh
  go_enter Try.func70, Try.ntmps70
  go_wp2
  go_end0
  exact ⟨rfl, ⟨none, 0, 0, two_set1 (two_set0 HH.out), Rd.nil _, Old.none _⟩, grown_setCell (grown_setCell ⟨rfl, rfl, rfl, Nat.le_refl _, fun _ _ _ => rfl⟩ _ _) _ _⟩

set_option maxRecDepth 100000 in
theorem left_any (g : Nat) (l : List UInt8) (bad : Bool) (w : World) (h : Rdr w 60 g l bad) :
    Calls Try.prog 20 #[.pointer (some ⟨g, 0, none⟩)] w fun e w' => e = .returned (.int .i64 (l.length : Int)) ∧ w = w' := by
  obtain ⟨A, n, cap, hh, hr, ho⟩ := h
  have HO := Go.Lib.hid ho
  clear ho
  obtain ⟨c0, c1, hf⟩ := two_cell hh
  clear hf hh
  rw [hr.len]
  go_enter Try.func20, Try.ntmps20
  go_wp2
  go_ret
  exact ⟨rfl, rfl⟩

set_option maxRecDepth 100000 in
theorem bad_any (g : Nat) (l : List UInt8) (bad : Bool) (w : World) (h : Rdr w 60 g l bad) :
    Calls Try.prog 29 #[.pointer (some ⟨g, 0, none⟩)] w fun e w' => e = .returned (.bool bad) ∧ w = w' := by
  obtain ⟨A, n, cap, hh, hr, ho⟩ := h
  have HO := Go.Lib.hid ho
  clear ho
  obtain ⟨c0, c1, hf⟩ := two_cell hh
  clear hf hh
  go_enter Try.func29, Try.ntmps29
  go_wp2
  go_ret
  exact ⟨rfl, rfl⟩

set_option maxRecDepth 100000 in
theorem newReader_any (A : Option Addr) (n cap : Nat) (l : List UInt8) (w : World) (h : Rd w A n cap l) (hn : n ≤ 281474976710656) :
    Calls Try.prog 13 #[.slice A n cap] w fun e w' => ∃ g, e = .returned (.pointer (some ⟨g, 0, none⟩)) ∧ w.heap.size ≤ g ∧ Rdr w' 60 g l false ∧ Below w.heap.size w w' := by
  have hl := h.len
  have hm : n ≤ maxLen := h.le
  have HL := Go.Lib.hid hl
  clear hl
  go_enter Try.func13, Try.ntmps13
  go_wp2_with fail
  refine (extend_any A n cap l 0 _ h (by omega)).mono ?_
  rintro e w1 ⟨rfl, hr1, hb1⟩
  go_wp2
  go_ret
  have hrow : l ++ List.replicate 0 0 = l := by simp
  rw [hrow] at hr1
  have hr2 := hr1.rd (by rw [HL.out]; exact hm)
  rw [HL.out] at hr2
  have hlt1 : w.heap.size < w1.heap.size := (Array.getElem?_eq_some_iff.1 hr1).1
  exact ⟨_, rfl, hb1.size, ⟨_, _, _, heap_alloc_new w1 _, hr2.below ((Below.refl _ _).alloc (Nat.le_refl _) _), fun a h => by cases h; exact hlt1⟩, hb1.alloc hb1.size _⟩

set_option maxRecDepth 100000 in
theorem num_none (g : Nat) (l : List UInt8) (bad : Bool) (w : World) (h : Rdr w 60 g l bad) (hl : lenV l = 0) :
    Calls Try.prog 51 #[.pointer (some ⟨g, 0, none⟩)] w fun e w' => e = .returned (.int .i64 0) ∧ Rdr w' 60 g [] true ∧ w.grownBy w' (some g) := by
  have H := Go.Lib.hid h
  obtain ⟨A, n, cap, hh, hr, ho⟩ := h
  have HO := Go.Lib.hid ho
  clear ho
  obtain ⟨c0, c1, hf⟩ := two_cell hh
  have HLV := Go.Lib.hid hl
  clear hf hh hl
  go_enter Try.func51, Try.ntmps51
  go_wp2_with fail
  refine (decode_any A n cap l _ hr).mono ?_
  rintro e w' ⟨rfl, rfl⟩
  rw [HLV.out]
  go_wp2_with (go_at_call 70; refine (fail_any g l bad _ H.out).mono ?_; rintro e w' ⟨rfl, hr2, hg2⟩)
  go_ret
  exact ⟨rfl, hr2, hg2⟩

set_option maxRecDepth 100000 in
theorem num_some (g : Nat) (l : List UInt8) (bad : Bool) (w : World) (h : Rdr w 60 g l bad) (hl : 0 < lenV l) :
    Calls Try.prog 51 #[.pointer (some ⟨g, 0, none⟩)] w fun e w' => e = .returned (.int .i64 (numV l)) ∧ Rdr w' 60 g (l.drop (lenV l)) bad ∧ w.grownBy w' (some g) := by
  have hno := h.no_byte
  obtain ⟨A, n, cap, hh, hr, ho⟩ := h
  have HO := Go.Lib.hid ho
  clear ho
  obtain ⟨c0, c1, hf⟩ := two_cell hh
  have f0 := hf 0
  have HH := Go.Lib.hid hh
  have hle := lenV_le l
  rw [hr.len] at hle
  have hc := hr.cut hle
  have hcap := hr.le_cap
  have hmax := hr.2.2.1
  unfold maxLen at hmax
  have hne : ((lenV l : Int) == 0) = false := by simp; omega
  have hu := decU_lt l
  have hv : unzig (decU l) = numV l := by
    unfold numV decU
    rw [if_neg (by omega), if_neg (by omega)]
  have HV := Go.Lib.hid hv
  clear hf hh hv
  go_enter Try.func51, Try.ntmps51
  go_wp2_with fail
  refine (decode_any A n cap l _ hr).mono ?_
  rintro e w' ⟨rfl, rfl⟩
  go_wp2_with (go_at_call 72; refine (signed_any _ _ hu).mono ?_; rintro e w' ⟨rfl, rfl⟩)
  · go_ret
    rw [if_pos h] at hc
    have hg := grown_setCell (g := g) (a := w) ⟨rfl, rfl, rfl, Nat.le_refl _, fun _ _ _ => rfl⟩ 0 (.slice A (n - lenV l) (cap - lenV l))
    have h0 : cap - lenV l = 0 := by omega
    rw [h0] at hc hg
    exact ⟨ret_int HV.out, ⟨_, _, _, two_set0 HH.out, hc.grown hg hno, HO.out⟩, hg⟩
  · go_ret
    rw [if_neg h] at hc
    have hg := grown_setCell (g := g) (a := w) ⟨rfl, rfl, rfl, Nat.le_refl _, fun _ _ _ => rfl⟩ 0 (.slice (A.map (·.add (lenV l))) (n - lenV l) (cap - lenV l))
    exact ⟨ret_int HV.out, ⟨_, _, _, two_set0 HH.out, hc.grown hg hno, HO.out.add _⟩, hg⟩

theorem num_any (g : Nat) (l : List UInt8) (bad : Bool) (w : World) (h : Rdr w 60 g l bad) :
    Calls Try.prog 51 #[.pointer (some ⟨g, 0, none⟩)] w fun e w' => e = .returned (.int .i64 (numV l)) ∧ Rdr w' 60 g (numL l) (numB l bad) ∧ w.grownBy w' (some g) := by
  by_cases hl : lenV l = 0
  · have e1 : numV l = 0 := by unfold numV; rw [if_pos hl]
    have e2 : numL l = [] := by unfold numL; rw [if_pos hl]
    have e3 : numB l bad = true := by unfold numB; rw [if_pos hl]
    rw [e1, e2, e3]
    exact num_none g l bad w h hl
  · have e2 : numL l = l.drop (lenV l) := by unfold numL; rw [if_neg hl]
    have e3 : numB l bad = bad := by unfold numB; rw [if_neg hl]
    rw [e2, e3]
    exact num_some g l bad w h (by omega)

/-- Whether there is a text behind the number, and what becomes of the reader. -/
def textOk (l : List UInt8) : Prop := 0 ≤ numV l ∧ numV l ≤ (numL l).length
instance (l : List UInt8) : Decidable (textOk l) := inferInstanceAs (Decidable (_ ∧ _))
def textV (l : List UInt8) : List UInt8 := if textOk l then (numL l).take (numV l).toNat else []
def textL (l : List UInt8) : List UInt8 := if textOk l then (numL l).drop (numV l).toNat else []
def textB (l : List UInt8) (bad : Bool) : Bool := if textOk l then numB l bad else true

set_option maxRecDepth 100000 in
theorem text_bad (g : Nat) (l : List UInt8) (bad : Bool) (w : World) (h : Rdr w 60 g l bad) (hn : ¬ textOk l) :
    Calls Try.prog 47 #[.pointer (some ⟨g, 0, none⟩)] w fun e w' => e = .returned (.string ByteArray.empty) ∧ Rdr w' 60 g [] true ∧ w.grownBy w' (some g) := by
  unfold textOk at hn
  generalize hv : numV l = v at *
  have HV := Go.Lib.hid hv
  clear hv
  go_enter Try.func47, Try.ntmps47
  go_wp2_with fail
  refine (num_any g l bad _ h).mono ?_
  rintro e w1 ⟨rfl, hr1, hg1⟩
  rw [HV.out]
  have H1 := Go.Lib.hid hr1
  obtain ⟨A, n, cap, hh, hr, ho⟩ := hr1
  have HO := Go.Lib.hid ho
  clear ho
  obtain ⟨c0, c1, hf⟩ := two_cell hh
  have hlen := hr.len
  rw [hlen] at hn
  clear hf hh hlen
  by_cases hv0 : v < 0
  · go_wp2_with (go_at_call 70; refine (fail_any g _ _ _ H1.out).mono ?_; rintro e w' ⟨rfl, hr2, hg2⟩)
    go_ret
    exact ⟨rfl, hr2, hg1.trans hg2⟩
  · have hv1 : (n : Int) < v := by omega
    go_wp2_with (go_at_call 70; refine (fail_any g _ _ _ H1.out).mono ?_; rintro e w' ⟨rfl, hr2, hg2⟩)
    go_ret
    exact ⟨rfl, hr2, hg1.trans hg2⟩

set_option maxRecDepth 100000 in
theorem text_good (g : Nat) (l : List UInt8) (bad : Bool) (w : World) (h : Rdr w 60 g l bad) (hn : textOk l) :
    Calls Try.prog 47 #[.pointer (some ⟨g, 0, none⟩)] w fun e w' => e = .returned (.string ⟨((numL l).take (numV l).toNat).toArray⟩) ∧ Rdr w' 60 g ((numL l).drop (numV l).toNat) (numB l bad) ∧ w.grownBy w' (some g) := by
  unfold textOk at hn
  generalize hv : numV l = v at *
  have HV := Go.Lib.hid hv
  clear hv
  obtain ⟨hn0, hn1⟩ := hn
  obtain ⟨k, rfl⟩ := Int.eq_ofNat_of_zero_le hn0
  simp only [Int.toNat_natCast] at *
  generalize hl1 : numL l = l1 at *
  generalize hb1 : numB l bad = bad1 at *
  go_enter Try.func47, Try.ntmps47
  go_wp2_with fail
  refine (num_any g l bad _ h).mono ?_
  rintro e w1 ⟨rfl, hr1, hg1⟩
  rw [HV.out]
  rw [hl1, hb1] at hr1
  have hno := hr1.no_byte
  obtain ⟨A, n, cap, hh, hr, ho⟩ := hr1
  have HO := Go.Lib.hid ho
  clear ho
  obtain ⟨c0, c1, hf⟩ := two_cell hh
  have f0 := hf 0
  have HH := Go.Lib.hid hh
  have hlen := hr.len
  rw [hlen] at hn1
  have hkn : k ≤ n := by omega
  have hcap := hr.le_cap
  have hmax := hr.2.2.1
  unfold maxLen at hmax
  have hst := (hr.first hkn).string (P := Try.prog) 22 9 5 Try.underlying22 Try.underlying5 Try.underlying9
  have hc := hr.cut hkn
  clear hf hh hlen hl1 hb1
  go_wp2
  · go_ret
    rw [if_pos h] at hc
    have hg := grown_setCell (g := g) (a := w1) ⟨rfl, rfl, rfl, Nat.le_refl _, fun _ _ _ => rfl⟩ 0 (.slice A (n - k) (cap - k))
    have h0 : cap - k = 0 := by omega
    rw [h0] at hc hg
    exact ⟨rfl, ⟨_, _, _, two_set0 HH.out, hc.grown hg hno, HO.out⟩, hg1.trans hg⟩
  · go_ret
    rw [if_neg h] at hc
    have hg := grown_setCell (g := g) (a := w1) ⟨rfl, rfl, rfl, Nat.le_refl _, fun _ _ _ => rfl⟩ 0 (.slice (A.map (·.add k)) (n - k) (cap - k))
    exact ⟨rfl, ⟨_, _, _, two_set0 HH.out, hc.grown hg hno, HO.out.add _⟩, hg1.trans hg⟩

theorem text_any (g : Nat) (l : List UInt8) (bad : Bool) (w : World) (h : Rdr w 60 g l bad) :
    Calls Try.prog 47 #[.pointer (some ⟨g, 0, none⟩)] w fun e w' => e = .returned (.string ⟨(textV l).toArray⟩) ∧ Rdr w' 60 g (textL l) (textB l bad) ∧ w.grownBy w' (some g) := by
  by_cases hl : textOk l
  · have e1 : textV l = (numL l).take (numV l).toNat := by unfold textV; rw [if_pos hl]
    have e2 : textL l = (numL l).drop (numV l).toNat := by unfold textL; rw [if_pos hl]
    have e3 : textB l bad = numB l bad := by unfold textB; rw [if_pos hl]
    rw [e1, e2, e3]
    exact text_good g l bad w h hl
  · have e1 : textV l = [] := by unfold textV; rw [if_neg hl]
    have e2 : textL l = [] := by unfold textL; rw [if_neg hl]
    have e3 : textB l bad = true := by unfold textB; rw [if_neg hl]
    rw [e1, e2, e3]
    exact text_bad g l bad w h hl

end Go.Proofs.Ytjglpmakjampjaa.NumWalk
