/-
  Contracts of the document's answers of layer 6: Match, Same.
-/
import Derived.Test.YtfbooapgjhhjmaaQuRef
import Derived.Deep.DeepCutAuto
namespace Go.Proofs.Ytfbooapgjhhjmaa.QuWalk
open Go.RowKit Go.Proofs.Ytfbooapgjhhjmaa.MemRow Go.Proofs.Ytfbooapgjhhjmaa.Ev Go.Proofs.Ytfbooapgjhhjmaa.NameMath Go.Proofs.Ytfbooapgjhhjmaa.NameWalk Go.Proofs.Ytfbooapgjhhjmaa.EvWalk Go.Proofs.Ytfbooapgjhhjmaa.Qu

/-- The boxes of a query and an event. -/
structure QeAt (wr w : World) (c0 e0 e1 e2 e3 : Value) : Prop where
  eq : QAt wr w.heap.size c0
  ee : EvAt wr (w.heap.size + 1) e0 e1 e2 e3
  bel : Below w.heap.size w wr
/-- The boxes of two queries. -/
structure QqAt (wr w : World) (c0 d0 : Value) : Prop where
  eq : QAt wr w.heap.size c0
  er : QAt wr (w.heap.size + 1) d0
  bel : Below w.heap.size w wr
section
variable {wr w w' : World} {c0 d0 e0 e1 e2 e3 : Value}
theorem QeAt.below (h : QeAt wr w c0 e0 e1 e2 e3) (hb : Below wr.heap.size wr w') : QeAt w' w c0 e0 e1 e2 e3 := ⟨h.eq.below hb, h.ee.below hb h.ee.lt, below_chain h.bel hb⟩
theorem QeAt.drew (h : QeAt wr w c0 e0 e1 e2 e3) : QeAt wr.drew w c0 e0 e1 e2 e3 := ⟨h.eq, h.ee, bel_drew h.bel⟩
theorem QeAt.new (w : World) (c0 e0 e1 e2 e3 : Value) : QeAt ((w.alloc (.cells #[c0] 24)).alloc (.cells #[e0, e1, e2, e3] 33)) w c0 e0 e1 e2 e3 := by
  have a1 := QAt.new w c0
  have b1 : Below w.heap.size w (w.alloc (.cells #[c0] 24)) := (Below.refl _ _).alloc (Nat.le_refl _) _
  generalize hw1 : w.alloc (.cells #[c0] 24) = w1 at *
  have s1 : w1.heap.size = w.heap.size + 1 := by rw [← hw1]; simp
  have a2 := EvAt.new w1 e0 e1 e2 e3
  have b2 : Below w1.heap.size w1 (w1.alloc (.cells #[e0, e1, e2, e3] 33)) := (Below.refl _ _).alloc (Nat.le_refl _) _
  rw [s1] at a2
  exact ⟨a1.below b2, a2, below_chain b1 b2⟩
theorem QqAt.below (h : QqAt wr w c0 d0) (hb : Below wr.heap.size wr w') : QqAt w' w c0 d0 := ⟨h.eq.below hb, h.er.below hb, below_chain h.bel hb⟩
theorem QqAt.drew (h : QqAt wr w c0 d0) : QqAt wr.drew w c0 d0 := ⟨h.eq, h.er, bel_drew h.bel⟩
theorem QqAt.new (w : World) (c0 d0 : Value) : QqAt ((w.alloc (.cells #[c0] 24)).alloc (.cells #[d0] 24)) w c0 d0 := by
  have a1 := QAt.new w c0
  have b1 : Below w.heap.size w (w.alloc (.cells #[c0] 24)) := (Below.refl _ _).alloc (Nat.le_refl _) _
  generalize hw1 : w.alloc (.cells #[c0] 24) = w1 at *
  have s1 : w1.heap.size = w.heap.size + 1 := by rw [← hw1]; simp
  have a2 := QAt.new w1 d0
  have b2 : Below w1.heap.size w1 (w1.alloc (.cells #[d0] 24)) := (Below.refl _ _).alloc (Nat.le_refl _) _
  rw [s1] at a2
  exact ⟨a1.below b2, a2, below_chain b1 b2⟩
end

set_option maxHeartbeats 8000000 in
set_option maxRecDepth 100000 in
theorem refMatch_any (v u : Value) (q : List Cl) (ev : Ev) (w : World) (hv : IsQ w v q) (hu : IsEv w u ev) :
    Calls Try.prog 19 #[v, u] w fun e w' => e = .returned (.bool (matchQ q ev)) ∧ Below w.heap.size w w' := by
  have hu0 := hu
  obtain ⟨C, n, cap, rfl, rC⟩ := hv
  obtain ⟨A, nA, cA, B, nB, cB, rfl, _, _⟩ := hu
  generalize hR : matchQ q ev = R
  have HR := Go.Lib.hid hR
  have LC := Go.Lib.hid rC.len
  have hn := rC.le
  unfold maxLen at hn
  clear hR
  have s1 := QeAt.new w (.slice C n cap) (.string ev.s) (.string ev.t) (.slice A nA cA) (.slice B nB cB)
  go_enter Try.func19, Try.ntmps19
  go_wp2_with fail
  generalize (w.alloc (.cells #[.slice C n cap] 24)).alloc (.cells #[.string ev.s, .string ev.t, .slice A nA cA, .slice B nB cB] 33) = w1 at *
  go_loopw [5, 6] (fun i _ wr => ∃ j : Nat, j ≤ n ∧ i = .int .i64 j ∧ Hid (matchQ (q.take j) ev = false) ∧ QeAt wr w (.slice C n cap) (.string ev.s) (.string ev.t) (.slice A nA cA) (.slice B nB cB)) (fun i _ _ => n - (intOf i).toNat)
  case atStart => exact ⟨0, Nat.zero_le _, rfl, Go.Lib.hid rfl, s1⟩
  case round =>
    obtain ⟨j, hj, rfl, HQ, sr⟩ := hrel
    clear s1
    have k0 := sr.eq.c0
    by_cases hlt : j < n
    · obtain ⟨bt, ot, rfl, _, kt⟩ := (rC.below sr.bel).at_ (by omega)
      obtain ⟨T, nT, cT, Y, nY, cY, x0, x1, rT, rY⟩ := kt j hlt
      have i1 : (j : Int) < n := by omega
      have hjl : j < q.length := by rw [LC.out]; exact hlt
      have HT := Go.Lib.hid (cl_take q j hjl)
      have HMem := Go.Lib.hid (cl_get hjl)
      clear kt hjl
      generalize q.getD j noCl = c at *
      have j0 := sr.ee.c0
      have j1 := sr.ee.c1
      have j2 := sr.ee.c2
      have j3 := sr.ee.c3
      have b0 : Below wr.heap.size wr wr.drew := bel_drew (Below.refl _ _)
      have sd := sr.drew
      have hud := hu0.below sd.bel
      have hcd : IsCl wr.drew (.agg #[.slice T nT cT, .slice Y nY cY]) c := ⟨T, nT, cT, Y, nY, cY, rfl, RdC.below rT b0, RdC.below rY b0⟩
      clear rT rY
      generalize hH : clauseB c ev = Hh at *
      have HH := Go.Lib.hid hH
      clear hH
      go_wp2_with fail
      go_region_held (fun w' => w'.cell? ⟨w.heap.size + 1, 0, none⟩ = some (.string ev.s) ∧ w'.cell? ⟨w.heap.size + 1, 1, none⟩ = some (.string ev.t) ∧ w'.cell? ⟨w.heap.size + 1, 2, none⟩ = some (.slice A nA cA) ∧ w'.cell? ⟨w.heap.size + 1, 3, none⟩ = some (.slice B nB cB) ∧ w'.cell? ⟨w.heap.size, 0, none⟩ = some (.slice (some ⟨bt, ot, none⟩) n cap) ∧ w'.cell? ⟨bt, ot + j * 2, none⟩ = some (.slice T nT cT) ∧ w'.cell? ⟨bt, ot + j * 2 + 1, none⟩ = some (.slice Y nY cY))
        (first | exact ⟨j0, j1, j2, j3, k0, x0, x1⟩ | exact ⟨bcell b9 j0, bcell b9 j1, bcell b9 j2, bcell b9 j3, bcell b9 k0, bcell b9 x0, bcell b9 x1⟩)
        (first | (go_at_call 40; refine (refClause_any _ _ c ev _ hcd hud).mono ?_; rintro e w9 ⟨rfl, bb⟩; rw [HH.out]; have b9 := below_chain b0 bb; clear bb))
      have s9 := sr.below b9
      clear k0 j0 j1 j2 j3 x0 x1 b0 sd hud hcd sr b9
      cases Hh with
      | false =>
        have hq2 : matchQ (q.take (j + 1)) ev = false := by
          have h := HQ.out
          unfold matchQ at h ⊢
          rw [HT.out, List.any_append, h]
          simp [HH.out]
        have HQ2 := Go.Lib.hid hq2
        clear hq2
        go_wp2_with fail
        go_roundw
        case rel => exact ⟨j + 1, by omega, by go_num, HQ2, s9⟩
        case measure => simp [intOf]; omega
      | true =>
        have hR : R = true := by
          rw [← HR.out]
          unfold matchQ
          rw [List.any_eq_true]
          exact ⟨c, HMem.out, HH.out⟩
        subst hR
        have B9 := s9.bel
        go_wp2_with fail
        go_ret
        exact ⟨rfl, B9⟩
    · obtain rfl : n = j := by omega
      have hR : R = false := by
        have h := HQ.out
        rwa [List.take_of_length_le (by rw [LC.out]; exact Nat.le_refl _), HR.out] at h
      subst hR
      have B9 := sr.bel
      go_wp2_with fail
      go_ret
      exact ⟨rfl, B9⟩

theorem texts_bel (A B : Option Addr) (n m ca cb : Nat) (ss tt : List ByteArray) (w : World) (ha : RdS w A n ca ss) (hb : RdS w B m cb tt) :
    Calls Try.prog 20 #[.slice A n ca, .slice B m cb] w fun e w' => e = .returned (.bool (decide (ss = tt))) ∧ Below w.heap.size w w' :=
  (refTexts_any A B n m ca cb ss tt w ha hb).mono fun e w' ⟨h, k, hk⟩ => ⟨h, by rw [hk]; exact bel_drewN (Below.refl _ _) k⟩
theorem rise_bel (A : Option Addr) (n ca : Nat) (ss : List ByteArray) (w : World) (ha : RdS w A n ca ss) :
    Calls Try.prog 33 #[.slice A n ca] w fun e w' => e = .returned (.bool (riseB ss)) ∧ Below w.heap.size w w' :=
  (refRise_any A n ca ss w ha).mono fun e w' ⟨h, k, hk⟩ => ⟨h, by rw [hk]; exact bel_drewN (Below.refl _ _) k⟩

set_option maxHeartbeats 8000000 in
set_option maxRecDepth 100000 in
theorem refSameQ_any (v u : Value) (q r : List Cl) (w : World) (hv : IsQ w v q) (hu : IsQ w u r) :
    Calls Try.prog 12 #[v, u] w fun e w' => ∃ R : Bool, (R = true ↔ q = r) ∧ e = .returned (.bool R) ∧ Below w.heap.size w w' := by
  obtain ⟨C, n, cap, rfl, rC⟩ := hv
  obtain ⟨D, m, dap, rfl, rD⟩ := hu
  have LC := Go.Lib.hid rC.len
  have LD := Go.Lib.hid rD.len
  have hn := rC.le
  have hm := rD.le
  unfold maxLen at hn hm
  have s1 := QqAt.new w (.slice C n cap) (.slice D m dap)
  go_enter Try.func12, Try.ntmps12
  go_upto_region 1 with (fail)
  generalize (w.alloc (.cells #[.slice C n cap] 24)).alloc (.cells #[.slice D m dap] 24) = w1 at *
  have k0 := s1.eq.c0
  have k1 := s1.er.c0
  by_cases hnm : n = m
  case neg =>
    have i1 : ((n : Int) != (m : Int)) = true := by rw [bne_iff_ne]; omega
    have hne : q ≠ r := fun h => hnm (by rw [← LC.out, ← LD.out, h])
    have HNE := Go.Lib.hid hne
    have B1 := s1.bel
    clear hne
    go_wp2_with fail
    go_ret
    exact ⟨false, ⟨(fun h => by cases h), fun h => absurd h HNE.out⟩, rfl, B1⟩
  subst hnm
  go_wp2_with fail
  go_loopw [5, 6, 7] (fun i _ _ wr => ∃ j : Nat, j ≤ n ∧ i = .int .i64 j ∧ Hid (q.take j = r.take j) ∧ QqAt wr w (.slice C n cap) (.slice D n dap)) (fun i _ _ _ => n - (intOf i).toNat)
  case atStart => exact ⟨0, Nat.zero_le _, rfl, Go.Lib.hid rfl, s1⟩
  case round =>
    obtain ⟨j, hj, rfl, HQ, sr⟩ := hrel
    clear s1 k0 k1
    have k0 := sr.eq.c0
    have k1 := sr.er.c0
    by_cases hlt : j < n
    · obtain ⟨bt, ot, rfl, _, kt⟩ := (rC.below sr.bel).at_ (by omega)
      obtain ⟨T, nT, cT, Y, nY, cY, x0, x1, rT, rY⟩ := kt j hlt
      obtain ⟨bu, ou, rfl, _, ku⟩ := (rD.below sr.bel).at_ (by omega)
      obtain ⟨U, nU, cU, Z, nZ, cZ, y0, y1, rU, rZ⟩ := ku j hlt
      have i1 : (j : Int) < n := by omega
      have HT := Go.Lib.hid (cl_take q j (by rw [LC.out]; exact hlt))
      have HU := Go.Lib.hid (cl_take r j (by rw [LD.out]; exact hlt))
      have HXE : Hid (q = r → q.getD j noCl = r.getD j noCl) := Go.Lib.hid fun h => by rw [h]
      clear kt ku
      generalize q.getD j noCl = c at *
      generalize r.getD j noCl = d at *
      have b0 : Below wr.heap.size wr wr.drew := bel_drew (Below.refl _ _)
      have rTd : RdS wr.drew T nT cT c.tags := RdC.below rT b0
      have rUd : RdS wr.drew U nU cU d.tags := RdC.below rU b0
      have rYd := rY
      generalize h1 : decide (c.tags = d.tags) = R1
      have H1 := Go.Lib.hid h1
      generalize h2 : decide (c.types = d.types) = R2
      have H2 := Go.Lib.hid h2
      clear h1 h2 rYd
      go_wp2_with fail
      go_region_held (fun w' => w'.cell? ⟨w.heap.size, 0, none⟩ = some (.slice (some ⟨bt, ot, none⟩) n cap) ∧ w'.cell? ⟨bt, ot + j * 2, none⟩ = some (.slice T nT cT) ∧ w'.cell? ⟨w.heap.size + 1, 0, none⟩ = some (.slice (some ⟨bu, ou, none⟩) n dap) ∧ w'.cell? ⟨bu, ou + j * 2, none⟩ = some (.slice U nU cU))
        (first | exact ⟨k0, x0, k1, y0⟩ | exact ⟨bcell b9 k0, bcell b9 x0, bcell b9 k1, bcell b9 y0⟩)
        (first | (go_at_call 20; refine (texts_bel T U nT nU cT cU c.tags d.tags wr.drew rTd rUd).mono ?_; rintro e w9 ⟨rfl, bb⟩; rw [H1.out]; have b9 := below_chain b0 bb; clear bb))
      have s9 := sr.below b9
      have rYd : RdS w9.drew Y nY cY c.types := RdC.below rY (bel_drew b9)
      have rZd : RdS w9.drew Z nZ cZ d.types := RdC.below rZ (bel_drew b9)
      have x1' := bcell b9 x1
      have y1' := bcell b9 y1
      have l0 := s9.eq.c0
      have l1 := s9.er.c0
      have c0 : Below w9.heap.size w9 w9.drew := bel_drew (Below.refl _ _)
      clear k0 k1 x0 x1 y0 y1 rT rU rY rZ rTd rUd b0 sr b9
      go_wp2_with fail
      go_region_held (fun w' => w'.cell? ⟨w.heap.size, 0, none⟩ = some (.slice (some ⟨bt, ot, none⟩) n cap) ∧ w'.cell? ⟨bt, ot + j * 2 + 1, none⟩ = some (.slice Y nY cY) ∧ w'.cell? ⟨w.heap.size + 1, 0, none⟩ = some (.slice (some ⟨bu, ou, none⟩) n dap) ∧ w'.cell? ⟨bu, ou + j * 2 + 1, none⟩ = some (.slice Z nZ cZ))
        (first | exact ⟨l0, x1', l1, y1'⟩ | exact ⟨bcell b10 l0, bcell b10 x1', bcell b10 l1, bcell b10 y1'⟩)
        (first | (go_at_call 20; refine (texts_bel Y Z nY nZ cY cZ c.types d.types w9.drew rYd rZd).mono ?_; rintro e w10 ⟨rfl, bb⟩; rw [H2.out]; have b10 := below_chain c0 bb; clear bb))
      have s10 := s9.below b10
      have B10 := s10.bel
      clear l0 l1 x1' y1' rYd rZd c0 s9 b10
      cases R1 with
      | false =>
        have hne : q ≠ r := fun h => by
          have e1 := HXE.out h
          have e2 := of_decide_eq_false H1.out
          exact e2 (by rw [e1])
        have HNE := Go.Lib.hid hne
        clear hne
        go_wp2_with fail
        go_ret
        exact ⟨false, ⟨(fun h => by cases h), fun h => absurd h HNE.out⟩, rfl, B10⟩
      | true =>
        cases R2 with
        | false =>
          have hne : q ≠ r := fun h => by
            have e1 := HXE.out h
            have e2 := of_decide_eq_false H2.out
            exact e2 (by rw [e1])
          have HNE := Go.Lib.hid hne
          clear hne
          go_wp2_with fail
          go_ret
          exact ⟨false, ⟨(fun h => by cases h), fun h => absurd h HNE.out⟩, rfl, B10⟩
        | true =>
          have hcd : c = d := by
            have e1 := of_decide_eq_true H1.out
            have e2 := of_decide_eq_true H2.out
            obtain ⟨g1, t1⟩ := c
            obtain ⟨g2, t2⟩ := d
            simp only at e1 e2
            rw [e1, e2]
          have hq2 : q.take (j + 1) = r.take (j + 1) := by rw [HT.out, HU.out, HQ.out, hcd]
          have HQ2 := Go.Lib.hid hq2
          clear hcd hq2
          go_wp2_with fail
          go_roundw
          case rel => exact ⟨j + 1, by omega, by go_num, HQ2, s10⟩
          case measure => simp [intOf]; omega
    · obtain rfl : n = j := by omega
      have hq : q = r := by
        have h := HQ.out
        rwa [List.take_of_length_le (by rw [LC.out]; exact Nat.le_refl _), List.take_of_length_le (by rw [LD.out]; exact Nat.le_refl _)] at h
      have HH := Go.Lib.hid hq
      have B9 := sr.bel
      clear hq
      go_wp2_with fail
      go_ret
      exact ⟨true, ⟨fun _ => HH.out, fun _ => rfl⟩, rfl, B9⟩

end Go.Proofs.Ytfbooapgjhhjmaa.QuWalk
