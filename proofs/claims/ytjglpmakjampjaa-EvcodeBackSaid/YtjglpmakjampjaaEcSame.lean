/-
  Contract of the document's answer of layer 4 on lists of events: SameAll.
-/
import Derived.Test.YtjglpmakjampjaaEcOpen
import Derived.Test.YtjglpmakjampjaaEvRefC
import Derived.Deep.RegionHeld
namespace Go.Proofs.Ytjglpmakjampjaa.EcWalk
open Go.RowKit Go.Proofs.Ytjglpmakjampjaa.MemRow Go.Proofs.Ytjglpmakjampjaa.Ev Go.Proofs.Ytjglpmakjampjaa.NameMath Go.Proofs.Ytjglpmakjampjaa.NameWalk Go.Proofs.Ytjglpmakjampjaa.EvWalk

theorem sameB_eq {a b : Ev} : sameB a b = true ↔ a = b := by
  obtain ⟨s1, t1, g1, f1⟩ := a
  obtain ⟨s2, t2, g2, f2⟩ := b
  simp [sameB]
theorem ev_take (l : List Ev) (j : Nat) (h : j < l.length) : l.take (j + 1) = l.take j ++ [l.getD j noEv] := by
  rw [List.take_succ_eq_append_getElem h]
  simp [List.getD, List.getElem?_eq_getElem h]
theorem ev_get {l : List Ev} {j : Nat} (h : j < l.length) : l.getD j noEv ∈ l := by
  simp only [List.getD, List.getElem?_eq_getElem h, Option.getD_some]
  exact List.getElem_mem h

set_option maxHeartbeats 8000000 in
set_option maxRecDepth 100000 in
theorem refSameAll_any (A B : Option Addr) (n m ca cb : Nat) (es fs : List Ev) (w : World) (ha : RdE w A n ca es) (hb : RdE w B m cb fs) :
    Calls Try.prog 19 #[.slice A n ca, .slice B m cb] w fun e w' => ∃ R : Bool, (R = true ↔ es = fs) ∧ e = .returned (.bool R) ∧ Below w.heap.size w w' := by
  have hn := ha.le
  have hm := hb.le
  unfold maxLen at hn hm
  have la := ha.len
  have lb := hb.len
  by_cases hnm : n = m
  · subst hnm
    have LA := Go.Lib.hid la
    have LB := Go.Lib.hid lb
    clear la lb
    go_enter Try.func19, Try.ntmps19
    go_wp2_with fail
    go_loopw [5, 6] (fun i _ wr => ∃ j : Nat, j ≤ n ∧ i = .int .i64 j ∧ es.take j = fs.take j ∧ Below w.heap.size w wr) (fun i _ _ => n - (intOf i).toNat)
    case atStart => exact ⟨0, Nat.zero_le _, rfl, rfl, Below.refl _ _⟩
    case round =>
      obtain ⟨j, hj, rfl, hq, hw⟩ := hrel
      have HQ := Go.Lib.hid hq
      clear hq
      by_cases hlt : j < n
      · obtain ⟨ba, oa, rfl, _, ka⟩ := RdE.at_ (ha.below hw) (by omega)
        obtain ⟨bb, ob, rfl, _, kb⟩ := RdE.at_ (hb.below hw) (by omega)
        have ta := ev_take es j (by rw [LA.out]; exact hlt)
        have tb := ev_take fs j (by rw [LB.out]; exact hlt)
        have hxe : es = fs → es.getD j noEv = fs.getD j noEv := fun h => by rw [h]
        have i1 : (j : Int) < n := by omega
        have kx := ka j hlt
        have ky := kb j hlt
        have TA := Go.Lib.hid ta
        have TB := Go.Lib.hid tb
        have HXE := Go.Lib.hid hxe
        clear ka kb ta tb hxe
        generalize es.getD j noEv = x at *
        generalize fs.getD j noEv = y at *
        obtain ⟨A1, n1, k1, B1, m1, q1, x0, x1, x2, x3, rx1, rx2⟩ := kx
        obtain ⟨A2, n2, k2, B2, m2, q2, y0, y1, y2, y3, ry1, ry2⟩ := ky
        have b0 : Below wr.heap.size wr wr.drew := bel_drew (Below.refl _ _)
        have vx : IsEv wr.drew (.agg #[.string x.s, .string x.t, .slice A1 n1 k1, .slice B1 m1 q1]) x := ⟨_, _, _, _, _, _, rfl, RdC.below rx1 b0, RdC.below rx2 b0⟩
        have vy : IsEv wr.drew (.agg #[.string y.s, .string y.t, .slice A2 n2 k2, .slice B2 m2 q2]) y := ⟨_, _, _, _, _, _, rfl, RdC.below ry1 b0, RdC.below ry2 b0⟩
        clear rx1 rx2 ry1 ry2
        generalize hT : sameB x y = T
        have HT := Go.Lib.hid hT
        clear hT
        go_wp2_with fail
        go_region_held (fun w' => w'.cell? ⟨ba, oa + j * 4, none⟩ = some (.string x.s) ∧ w'.cell? ⟨ba, oa + j * 4 + 1, none⟩ = some (.string x.t) ∧ w'.cell? ⟨ba, oa + j * 4 + 2, none⟩ = some (.slice A1 n1 k1) ∧ w'.cell? ⟨ba, oa + j * 4 + 3, none⟩ = some (.slice B1 m1 q1) ∧ w'.cell? ⟨bb, ob + j * 4, none⟩ = some (.string y.s) ∧ w'.cell? ⟨bb, ob + j * 4 + 1, none⟩ = some (.string y.t) ∧ w'.cell? ⟨bb, ob + j * 4 + 2, none⟩ = some (.slice A2 n2 k2) ∧ w'.cell? ⟨bb, ob + j * 4 + 3, none⟩ = some (.slice B2 m2 q2))
          (first | exact ⟨x0, x1, x2, x3, y0, y1, y2, y3⟩ | exact ⟨bcell b8 x0, bcell b8 x1, bcell b8 x2, bcell b8 x3, bcell b8 y0, bcell b8 y1, bcell b8 y2, bcell b8 y3⟩)
          (first | (go_at_call 18; refine (refSame_any _ _ x y _ vx vy).mono ?_; rintro e w8 ⟨rfl, bb⟩; rw [HT.out]; have b8 := below_chain b0 bb; clear bb))
        cases T with
        | true =>
          have hxy : x = y := sameB_eq.1 HT.out
          have HXY := Go.Lib.hid hxy
          clear hxy
          go_wp2_with fail
          go_roundw
          case rel => exact ⟨j + 1, by omega, by go_num, by rw [TA.out, TB.out, HQ.out, HXY.out], below_chain hw b8⟩
          case measure => simp [intOf]; omega
        | false =>
          go_wp2_with fail
          go_ret
          refine ⟨false, ⟨(fun h => by cases h), fun h => ?_⟩, rfl, below_chain hw b8⟩
          have := sameB_eq.2 (HXE.out h)
          rw [HT.out] at this
          exact this
      · obtain rfl : n = j := by omega
        go_wp2_with fail
        go_ret
        have h1 := HQ.out
        rw [List.take_of_length_le (by rw [LA.out]; exact Nat.le_refl _), List.take_of_length_le (by rw [LB.out]; exact Nat.le_refl _)] at h1
        exact ⟨true, ⟨fun _ => h1, fun _ => rfl⟩, rfl, hw⟩
  · have i1 : ((n : Int) != (m : Int)) = true := by rw [bne_iff_ne]; omega
    have hne : es ≠ fs := fun h => hnm (by rw [← la, ← lb, h])
    have HNE := Go.Lib.hid hne
    clear la lb hne
    go_enter Try.func19, Try.ntmps19
    go_wp2_with fail
    go_ret
    exact ⟨false, ⟨(fun h => by cases h), fun h => absurd h HNE.out⟩, rfl, Below.refl _ _⟩

end Go.Proofs.Ytjglpmakjampjaa.EcWalk
