/-
  Contracts of the document's answers of layer 4: Has, Value, Same.
-/
import Derived.Test.YtjglpmakjampjaaEvRefB
namespace Go.Proofs.Ytjglpmakjampjaa.EvWalk
open Go.RowKit Go.Proofs.Ytjglpmakjampjaa.MemRow Go.Proofs.Ytjglpmakjampjaa.Ev Go.Proofs.Ytjglpmakjampjaa.NameMath Go.Proofs.Ytjglpmakjampjaa.NameWalk

/-- A block of the call's own that holds an event's four cells. -/
def EvAt (w : World) (g : Nat) (v0 v1 v2 v3 : Value) : Prop := w.heap[g]? = some (.cells #[v0, v1, v2, v3] 26 (0, 0))
theorem EvAt.new (w : World) (v0 v1 v2 v3 : Value) : EvAt (w.alloc (.cells #[v0, v1, v2, v3] 26)) w.heap.size v0 v1 v2 v3 := heap_alloc_new w _
theorem EvAt.lt {w : World} {g : Nat} {v0 v1 v2 v3 : Value} (h : EvAt w g v0 v1 v2 v3) : g < w.heap.size := (Array.getElem?_eq_some_iff.1 h).1
theorem EvAt.below {w w' : World} {g : Nat} {v0 v1 v2 v3 : Value} (h : EvAt w g v0 v1 v2 v3) {B : Nat} (hb : Below B w w') (hg : g < B) : EvAt w' g v0 v1 v2 v3 := (hb.block g hg).trans h
theorem EvAt.drewN {w : World} {g : Nat} {v0 v1 v2 v3 : Value} (h : EvAt w g v0 v1 v2 v3) (n : Nat) : EvAt (w.drewN n) g v0 v1 v2 v3 := h
theorem EvAt.c0 {w : World} {g : Nat} {v0 v1 v2 v3 : Value} (h : EvAt w g v0 v1 v2 v3) : w.cell? ⟨g, 0, none⟩ = some v0 := by rw [cell_of_row w g 0 _ _ _ h]; rfl
theorem EvAt.c1 {w : World} {g : Nat} {v0 v1 v2 v3 : Value} (h : EvAt w g v0 v1 v2 v3) : w.cell? ⟨g, 1, none⟩ = some v1 := by rw [cell_of_row w g 1 _ _ _ h]; rfl
theorem EvAt.c2 {w : World} {g : Nat} {v0 v1 v2 v3 : Value} (h : EvAt w g v0 v1 v2 v3) : w.cell? ⟨g, 2, none⟩ = some v2 := by rw [cell_of_row w g 2 _ _ _ h]; rfl
theorem EvAt.c3 {w : World} {g : Nat} {v0 v1 v2 v3 : Value} (h : EvAt w g v0 v1 v2 v3) : w.cell? ⟨g, 3, none⟩ = some v3 := by rw [cell_of_row w g 3 _ _ _ h]; rfl

def hasB (ss : List ByteArray) (x : ByteArray) : Bool := ss.any fun y => decide (y = x)
theorem hasB_mem {ss : List ByteArray} {x : ByteArray} : hasB ss x = true ↔ x ∈ ss := by
  unfold hasB
  rw [List.any_eq_true]
  constructor
  · rintro ⟨y, h, e⟩
    rwa [of_decide_eq_true e] at h
  · intro h
    exact ⟨x, h, decide_eq_true rfl⟩
/-- The number of the first field with a name. -/
def valueF : List (ByteArray × Int) → ByteArray → Int × Bool
  | [], _ => (0, false)
  | f :: fs, x => if f.1 = x then (f.2, true) else valueF fs x

theorem drop_get (l : List (ByteArray × Int)) (j : Nat) (h : j < l.length) : l.drop j = l.getD j (ByteArray.empty, 0) :: l.drop (j + 1) := by
  rw [List.drop_eq_getElem_cons h]
  simp [List.getD, List.getElem?_eq_getElem h]



/-- Two events are the same. -/
def sameB (a b : Ev) : Bool := decide (a.s = b.s) && (decide (a.t = b.t) && (decide (a.tags = b.tags) && decide (a.fs = b.fs)))

theorem flds_step (fs gs : List (ByteArray × Int)) (j : Nat) (h1 : j < fs.length) (h2 : j < gs.length) (h : fs.take j = gs.take j) (he : fs.getD j (ByteArray.empty, 0) = gs.getD j (ByteArray.empty, 0)) : fs.take (j + 1) = gs.take (j + 1) := by
  rw [List.take_succ_eq_append_getElem h1, List.take_succ_eq_append_getElem h2, h]
  simp only [List.getD, List.getElem?_eq_getElem h1, List.getElem?_eq_getElem h2, Option.getD_some] at he
  rw [he]

theorem sameB_no {a b : Ev} (h : a.s ≠ b.s ∨ a.t ≠ b.t ∨ a.tags ≠ b.tags ∨ a.fs ≠ b.fs) : sameB a b = false := by
  unfold sameB
  rcases h with h | h | h | h
  · rw [decide_eq_false h]; rfl
  · rw [decide_eq_false h, Bool.false_and, Bool.and_false]
  · rw [decide_eq_false h, Bool.false_and, Bool.and_false, Bool.and_false]
  · rw [decide_eq_false h, Bool.and_false, Bool.and_false, Bool.and_false]
theorem sameB_refl (a : Ev) : sameB a a = true := by simp [sameB]

set_option maxHeartbeats 8000000 in
set_option maxRecDepth 100000 in
theorem refSame_any (v u : Value) (ev eu : Ev) (w : World) (hv : IsEv w v ev) (hu : IsEv w u eu) :
    Calls Try.prog 18 #[v, u] w fun e w' => e = .returned (.bool (sameB ev eu)) ∧ Below w.heap.size w w' := by
  obtain ⟨A, n, ca, B, m, cb, rfl, ha, hb⟩ := hv
  obtain ⟨C, p, cc, D, q, cd, rfl, hc, hd⟩ := hu
  obtain ⟨s1, t1, g1, f1⟩ := ev
  obtain ⟨s2, t2, g2, f2⟩ := eu
  simp only at ha hb hc hd
  have hn := RdC.le ha
  have hm := RdC.le hb
  have hp := RdC.le hc
  have hq := RdC.le hd
  unfold maxLen at hn hm hp hq
  have lb := hb.len
  have ld := hd.len
  generalize hR : sameB ⟨s1, t1, g1, f1⟩ ⟨s2, t2, g2, f2⟩ = R
  have HR := Go.Lib.hid hR
  have LB := Go.Lib.hid lb
  have LD := Go.Lib.hid ld
  clear hR lb ld
  have b1 : Below w.heap.size w ((w.alloc (.cells #[.string s1, .string t1, .slice A n ca, .slice B m cb] 26)).alloc (.cells #[.string s2, .string t2, .slice C p cc, .slice D q cd] 26)) := ((Below.refl _ _).alloc (Nat.le_refl _) _).alloc (by simp) _
  have E0 : EvAt ((w.alloc (.cells #[.string s1, .string t1, .slice A n ca, .slice B m cb] 26)).alloc (.cells #[.string s2, .string t2, .slice C p cc, .slice D q cd] 26)) w.heap.size (.string s1) (.string t1) (.slice A n ca) (.slice B m cb) := (EvAt.new w _ _ _ _).below ((Below.refl _ _).alloc (Nat.le_refl _) _) (by simp)
  have E1 : EvAt ((w.alloc (.cells #[.string s1, .string t1, .slice A n ca, .slice B m cb] 26)).alloc (.cells #[.string s2, .string t2, .slice C p cc, .slice D q cd] 26)) (w.heap.size + 1) (.string s2) (.string t2) (.slice C p cc) (.slice D q cd) := by
    have := EvAt.new (w.alloc (.cells #[.string s1, .string t1, .slice A n ca, .slice B m cb] 26)) (.string s2) (.string t2) (.slice C p cc) (.slice D q cd)
    simpa using this
  have a1 := RdC.below ha b1
  have c1 := RdC.below hc b1
  have r1 := RdC.below hb b1
  have r2 := RdC.below hd b1
  go_enter Try.func18, Try.ntmps18
  go_wp2_with fail
  generalize (w.alloc (.cells #[.string s1, .string t1, .slice A n ca, .slice B m cb] 26)).alloc (.cells #[.string s2, .string t2, .slice C p cc, .slice D q cd] 26) = w1 at *
  clear ha hb hc hd
  refine (refTexts_any _ _ _ _ _ _ g1 g2 _ a1 c1).mono ?_
  rintro e w2 ⟨rfl, k, rfl⟩
  have B2 := bel_drewN b1 k
  have F0 := E0.drewN k
  have F1 := E1.drewN k
  have r3 := RdC.drewN r1 k
  have r4 := RdC.drewN r2 k
  clear b1 E0 E1 r1 r2 a1 c1
  generalize w1.drewN k = w3 at *
  have k0 := F0.c0
  have k1 := F0.c1
  have k3 := F0.c3
  have j0 := F1.c0
  have j1 := F1.c1
  have j3 := F1.c3
  clear F0 F1
  by_cases h1 : s1 = s2
  · subst h1
    by_cases h2 : t1 = t2
    · subst h2
      by_cases h3 : g1 = g2
      · subst h3
        have hT : decide (g1 = g1) = true := decide_eq_true rfl
        rw [hT]
        clear hT
        by_cases h4 : m = q
        · subst h4
          go_wp2_with fail
          go_loopw [6] (fun i wr => ∃ j : Nat, j ≤ m ∧ i = .int .i64 j ∧ f1.take j = f2.take j ∧ ∃ q, wr = w3.drewN q) (fun i _ => m - (intOf i).toNat)
          case atStart => exact ⟨0, Nat.zero_le _, rfl, rfl, 0, rfl⟩
          case round =>
            obtain ⟨j, hj, rfl, hq1, q', hw⟩ := hrel
            have HQ := Go.Lib.hid hq1
            clear hq1
            have r5 : RdF wr B m cb f1 := by rw [hw]; exact r3
            have r6 : RdF wr D m cd f2 := by rw [hw]; exact r4
            have k4 : wr.cell? ⟨w.heap.size, 3, none⟩ = some (.slice B m cb) := by rw [hw]; exact k3
            have j4 : wr.cell? ⟨w.heap.size + 1, 3, none⟩ = some (.slice D m cd) := by rw [hw]; exact j3
            have B5 : Below w.heap.size w wr := by rw [hw]; exact bel_drewN B2 q'
            have HW := Go.Lib.hid hw
            clear hw
            by_cases hlt : j < m
            · obtain ⟨ba, oa, rfl, _, ka⟩ := r5.at_ (by omega)
              obtain ⟨bb, ob, rfl, _, kb⟩ := r6.at_ (by omega)
              obtain ⟨x1, x2⟩ := ka j hlt
              obtain ⟨y1, y2⟩ := kb j hlt
              have i1 : (j : Int) < m := by omega
              have hs := flds_step f1 f2 j (by rw [LB.out]; exact hlt) (by rw [LD.out]; exact hlt) HQ.out
              have HS := Go.Lib.hid hs
              clear ka kb hs r5 r6
              generalize hx : f1.getD j (ByteArray.empty, 0) = x at *
              generalize hy : f2.getD j (ByteArray.empty, 0) = y at *
              have HX := Go.Lib.hid hx
              have HY := Go.Lib.hid hy
              clear hx hy
              by_cases hxy : x = y
              · subst hxy
                obtain ⟨xn, xz⟩ := x
                simp only at x1 x2 y1 y2
                go_wp2_with fail
                go_quiet (fail)
                go_wp2_with fail
                go_roundw
                case rel => exact ⟨j + 1, by omega, by go_num, HS.out trivial, q' + nq, by rw [HW.out, World.drewN_drewN]⟩
                case measure => simp [intOf]; omega
              · have hR : R = false := by
                  rw [← HR.out]
                  refine sameB_no (.inr (.inr (.inr fun h => hxy ?_)))
                  simp only at h
                  rw [← HX.out, ← HY.out, h]
                subst hR
                obtain ⟨xn, xz⟩ := x
                obtain ⟨yn, yz⟩ := y
                simp only at x1 x2 y1 y2
                by_cases hn1 : xn = yn
                · subst hn1
                  have hz1 : xz ≠ yz := fun h => hxy (by rw [h])
                  have hz2 : (xz == yz) = false := by rw [beq_eq_false_iff_ne]; exact hz1
                  clear hz1
                  go_wp2_with fail
                  go_quiet (fail)
                  go_wp2_with fail
                  go_ret
                  exact ⟨rfl, bel_drewN B5 nq⟩
                · have hz2 := str_ne hn1
                  go_wp2_with fail
                  go_quiet (fail)
                  go_wp2_with fail
                  go_ret
                  exact ⟨rfl, bel_drewN B5 nq⟩
            · obtain rfl : m = j := by omega
              have hR : R = true := by
                rw [← HR.out]
                have h1 := HQ.out
                rw [List.take_of_length_le (by rw [LB.out]; exact Nat.le_refl _), List.take_of_length_le (by rw [LD.out]; exact Nat.le_refl _)] at h1
                rw [h1]
                exact sameB_refl _
              subst hR
              go_wp2_with fail
              go_ret
              exact ⟨rfl, B5⟩
        · have i1 : ((m : Int) != (q : Int)) = true := by rw [bne_iff_ne]; omega
          have hR : R = false := by
            rw [← HR.out]
            refine sameB_no (.inr (.inr (.inr fun h => h4 ?_)))
            simp only at h
            rw [← LB.out, ← LD.out, h]
          subst hR
          go_wp2_with fail
          go_ret
          exact ⟨rfl, B2⟩
      · have hT : decide (g1 = g2) = false := decide_eq_false h3
        rw [hT]
        have hR : R = false := by rw [← HR.out]; exact sameB_no (.inr (.inr (.inl h3)))
        subst hR
        clear hT
        go_wp2_with fail
        go_ret
        exact ⟨rfl, B2⟩
    · have hne := str_ne h2
      have hR : R = false := by rw [← HR.out]; exact sameB_no (.inr (.inl h2))
      subst hR
      go_wp2_with fail
      go_ret
      exact ⟨rfl, B2⟩
  · have hne := str_ne h1
    have hR : R = false := by rw [← HR.out]; exact sameB_no (.inl h1)
    subst hR
    go_wp2_with fail
    go_ret
    exact ⟨rfl, B2⟩


end Go.Proofs.Ytjglpmakjampjaa.EvWalk
