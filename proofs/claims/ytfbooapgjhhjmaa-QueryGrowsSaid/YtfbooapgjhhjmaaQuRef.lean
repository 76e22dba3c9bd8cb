/-
  Contracts of the document's answers of layer 6: clause, Match.
-/
import Derived.Test.YtfbooapgjhhjmaaQuOpen
import Derived.Test.YtfbooapgjhhjmaaEvRefE
import Derived.Deep.RegionHeld
import Derived.Deep.QuietTactic
import Derived.BigQuiet
namespace Go.Proofs.Ytfbooapgjhhjmaa.QuWalk
open Go.RowKit Go.Proofs.Ytfbooapgjhhjmaa.MemRow Go.Proofs.Ytfbooapgjhhjmaa.Ev Go.Proofs.Ytfbooapgjhhjmaa.NameMath Go.Proofs.Ytfbooapgjhhjmaa.NameWalk Go.Proofs.Ytfbooapgjhhjmaa.EvWalk Go.Proofs.Ytfbooapgjhhjmaa.Qu

/-- Whether a clause is true of an event. -/
def clauseB (c : Cl) (e : Ev) : Bool := c.tags.all (fun x => hasB e.tags x) && (decide (c.types = []) || hasB c.types e.t)
/-- Whether an event is asked for. -/
def matchQ (q : List Cl) (e : Ev) : Bool := q.any fun c => clauseB c e

/-- A block that holds a clause, and one that holds a query. -/
def ClAt (w : World) (g : Nat) (v0 v1 : Value) : Prop := w.heap[g]? = some (.cells #[v0, v1] 36 (0, 0))
theorem ClAt.new (w : World) (v0 v1 : Value) : ClAt (w.alloc (.cells #[v0, v1] 36)) w.heap.size v0 v1 := heap_alloc_new w _
theorem ClAt.lt {w : World} {g : Nat} {v0 v1 : Value} (h : ClAt w g v0 v1) : g < w.heap.size := (Array.getElem?_eq_some_iff.1 h).1
theorem ClAt.below {w w' : World} {g : Nat} {v0 v1 : Value} (h : ClAt w g v0 v1) (hb : Below w.heap.size w w') : ClAt w' g v0 v1 := (hb.block g h.lt).trans h
theorem ClAt.c0 {w : World} {g : Nat} {v0 v1 : Value} (h : ClAt w g v0 v1) : w.cell? ⟨g, 0, none⟩ = some v0 := by rw [cell_of_row w g 0 _ _ _ h]; rfl
theorem ClAt.c1 {w : World} {g : Nat} {v0 v1 : Value} (h : ClAt w g v0 v1) : w.cell? ⟨g, 1, none⟩ = some v1 := by rw [cell_of_row w g 1 _ _ _ h]; rfl
theorem ClAt.frozen {w : World} {g : Nat} {v0 v1 : Value} (h : ClAt w g v0 v1) (i : Nat) : w.frozen? ⟨g, i, none⟩ = false := by
  unfold ClAt at h
  simp [World.frozen?, h]
theorem ClAt.grown {w w' : World} {row : Option Nat} {g : Nat} {v0 v1 : Value} (h : ClAt w g v0 v1) (hg : w.grownBy w' row) (hne : some g ≠ row) : ClAt w' g v0 v1 := (hg.block g h.lt hne).trans h
def QAt (w : World) (g : Nat) (v0 : Value) : Prop := w.heap[g]? = some (.cells #[v0] 24 (0, 0))
theorem QAt.new (w : World) (v0 : Value) : QAt (w.alloc (.cells #[v0] 24)) w.heap.size v0 := heap_alloc_new w _
theorem QAt.lt {w : World} {g : Nat} {v0 : Value} (h : QAt w g v0) : g < w.heap.size := (Array.getElem?_eq_some_iff.1 h).1
theorem QAt.below {w w' : World} {g : Nat} {v0 : Value} (h : QAt w g v0) (hb : Below w.heap.size w w') : QAt w' g v0 := (hb.block g h.lt).trans h
theorem QAt.c0 {w : World} {g : Nat} {v0 : Value} (h : QAt w g v0) : w.cell? ⟨g, 0, none⟩ = some v0 := by rw [cell_of_row w g 0 _ _ _ h]; rfl
theorem QAt.frozen {w : World} {g : Nat} {v0 : Value} (h : QAt w g v0) (i : Nat) : w.frozen? ⟨g, i, none⟩ = false := by
  unfold QAt at h
  simp [World.frozen?, h]
theorem QAt.grown {w w' : World} {row : Option Nat} {g : Nat} {v0 : Value} (h : QAt w g v0) (hg : w.grownBy w' row) (hne : some g ≠ row) : QAt w' g v0 := (hg.block g h.lt hne).trans h

/-- The boxes of a clause (or a query) and an event. -/
structure CeAt (wr w : World) (c0 c1 e0 e1 e2 e3 : Value) : Prop where
  ec : ClAt wr w.heap.size c0 c1
  ee : EvAt wr (w.heap.size + 1) e0 e1 e2 e3
  bel : Below w.heap.size w wr
section
variable {wr w w' : World} {c0 c1 e0 e1 e2 e3 : Value}
theorem CeAt.below (h : CeAt wr w c0 c1 e0 e1 e2 e3) (hb : Below wr.heap.size wr w') : CeAt w' w c0 c1 e0 e1 e2 e3 := ⟨h.ec.below hb, h.ee.below hb h.ee.lt, below_chain h.bel hb⟩
theorem CeAt.drew (h : CeAt wr w c0 c1 e0 e1 e2 e3) : CeAt wr.drew w c0 c1 e0 e1 e2 e3 := ⟨h.ec, h.ee, bel_drew h.bel⟩
theorem CeAt.drewN (h : CeAt wr w c0 c1 e0 e1 e2 e3) (k : Nat) : CeAt (wr.drewN k) w c0 c1 e0 e1 e2 e3 := ⟨h.ec, h.ee, bel_drewN h.bel k⟩
theorem CeAt.new (w : World) (c0 c1 e0 e1 e2 e3 : Value) : CeAt ((w.alloc (.cells #[c0, c1] 36)).alloc (.cells #[e0, e1, e2, e3] 33)) w c0 c1 e0 e1 e2 e3 := by
  have a1 := ClAt.new w c0 c1
  have b1 : Below w.heap.size w (w.alloc (.cells #[c0, c1] 36)) := (Below.refl _ _).alloc (Nat.le_refl _) _
  generalize hw1 : w.alloc (.cells #[c0, c1] 36) = w1 at *
  have s1 : w1.heap.size = w.heap.size + 1 := by rw [← hw1]; simp
  have a2 := EvAt.new w1 e0 e1 e2 e3
  have b2 : Below w1.heap.size w1 (w1.alloc (.cells #[e0, e1, e2, e3] 33)) := (Below.refl _ _).alloc (Nat.le_refl _) _
  rw [s1] at a2
  exact ⟨a1.below b2, a2, below_chain b1 b2⟩
end

theorem all_snoc (l : List ByteArray) (p : ByteArray → Bool) (j : Nat) (h : j < l.length) : (l.take (j + 1)).all p = ((l.take j).all p && p (l.getD j ByteArray.empty)) := by
  rw [List.take_succ_eq_append_getElem h, List.all_append]
  simp [List.getD, List.getElem?_eq_getElem h]
theorem all_miss (l : List ByteArray) (p : ByteArray → Bool) (j : Nat) (h : j < l.length) (hp : p (l.getD j ByteArray.empty) = false) : l.all p = false := by
  cases ha : l.all p with
  | false => rfl
  | true =>
    rw [List.all_eq_true] at ha
    have := ha (l.getD j ByteArray.empty) (by simp only [List.getD, List.getElem?_eq_getElem h, Option.getD_some]; exact List.getElem_mem h)
    rw [hp] at this
    cases this
theorem cl_get {l : List Cl} {j : Nat} (h : j < l.length) : l.getD j noCl ∈ l := by
  simp only [List.getD, List.getElem?_eq_getElem h, Option.getD_some]
  exact List.getElem_mem h
theorem cl_take (l : List Cl) (j : Nat) (h : j < l.length) : l.take (j + 1) = l.take j ++ [l.getD j noCl] := by
  rw [List.take_succ_eq_append_getElem h]
  simp [List.getD, List.getElem?_eq_getElem h]

set_option maxHeartbeats 8000000 in
set_option maxRecDepth 100000 in
theorem refClause_any (v u : Value) (c : Cl) (ev : Ev) (w : World) (hv : IsCl w v c) (hu : IsEv w u ev) :
    Calls Try.prog 40 #[v, u] w fun e w' => e = .returned (.bool (clauseB c ev)) ∧ Below w.heap.size w w' := by
  have hu0 := hu
  obtain ⟨T, nT, cT, Y, nY, cY, rfl, rT, rY⟩ := hv
  obtain ⟨A, nA, cA, B, nB, cB, rfl, _, _⟩ := hu
  generalize hR : clauseB c ev = R
  have HR := Go.Lib.hid hR
  have LT := Go.Lib.hid rT.len
  have LY := Go.Lib.hid rY.len
  have hnT := RdC.le rT
  have hnY := RdC.le rY
  unfold maxLen at hnT hnY
  clear hR
  have s1 := CeAt.new w (.slice T nT cT) (.slice Y nY cY) (.string ev.s) (.string ev.t) (.slice A nA cA) (.slice B nB cB)
  go_enter Try.func40, Try.ntmps40
  go_wp2_with fail
  generalize (w.alloc (.cells #[.slice T nT cT, .slice Y nY cY] 36)).alloc (.cells #[.string ev.s, .string ev.t, .slice A nA cA, .slice B nB cB] 33) = w1 at *
  go_loopw [5, 6] (fun i _ wr => ∃ j : Nat, j ≤ nT ∧ i = .int .i64 j ∧ Hid ((c.tags.take j).all (fun x => hasB ev.tags x) = true) ∧ CeAt wr w (.slice T nT cT) (.slice Y nY cY) (.string ev.s) (.string ev.t) (.slice A nA cA) (.slice B nB cB)) (fun i _ _ => nT - (intOf i).toNat)
  case atStart => exact ⟨0, Nat.zero_le _, rfl, Go.Lib.hid (by simp), s1⟩
  case round =>
    obtain ⟨j, hj, rfl, HQ, sr⟩ := hrel
    clear s1
    have k0 := sr.ec.c0
    have k1 := sr.ec.c1
    by_cases hlt : j < nT
    · obtain ⟨bt, ot, rfl, _, kt⟩ := RdS.at_ (RdC.below rT sr.bel) (by omega)
      have ka := kt j hlt
      have i1 : (j : Int) < nT := by omega
      have hjl : j < c.tags.length := by rw [LT.out]; exact hlt
      have HS := Go.Lib.hid (all_snoc c.tags (fun x => hasB ev.tags x) j hjl)
      have HM := Go.Lib.hid (all_miss c.tags (fun x => hasB ev.tags x) j hjl)
      clear kt hjl
      generalize c.tags.getD j ByteArray.empty = x at *
      have j0 := sr.ee.c0
      have j1 := sr.ee.c1
      have j2 := sr.ee.c2
      have j3 := sr.ee.c3
      have b0 : Below wr.heap.size wr wr.drew := bel_drew (Below.refl _ _)
      have sd := sr.drew
      have hud := hu0.below sd.bel
      generalize hH : hasB ev.tags x = Hh at *
      have HH := Go.Lib.hid hH
      clear hH
      go_wp2_with fail
      go_region_held (fun w' => w'.cell? ⟨w.heap.size + 1, 0, none⟩ = some (.string ev.s) ∧ w'.cell? ⟨w.heap.size + 1, 1, none⟩ = some (.string ev.t) ∧ w'.cell? ⟨w.heap.size + 1, 2, none⟩ = some (.slice A nA cA) ∧ w'.cell? ⟨w.heap.size + 1, 3, none⟩ = some (.slice B nB cB) ∧ w'.cell? ⟨w.heap.size, 0, none⟩ = some (.slice (some ⟨bt, ot, none⟩) nT cT) ∧ w'.cell? ⟨bt, ot + j, none⟩ = some (.string x))
        (first | exact ⟨j0, j1, j2, j3, k0, ka⟩ | exact ⟨bcell b9 j0, bcell b9 j1, bcell b9 j2, bcell b9 j3, bcell b9 k0, bcell b9 ka⟩)
        (first | (go_at_call 54; refine (refHas_any _ ev x _ hud).mono ?_; rintro e w9 ⟨rfl, bb⟩; rw [HH.out]; have b9 := below_chain b0 bb; clear bb))
      have s9 := sr.below b9
      clear k0 k1 j0 j1 j2 j3 ka b0 sd hud sr b9
      cases Hh with
      | true =>
        have hq2 : (c.tags.take (j + 1)).all (fun x => hasB ev.tags x) = true := HS.out.trans (by simp [HQ.out])
        have HQ2 := Go.Lib.hid hq2
        clear hq2
        go_wp2_with fail
        go_roundw
        case rel => exact ⟨j + 1, by omega, by go_num, HQ2, s9⟩
        case measure => simp [intOf]; omega
      | false =>
        have hR : R = false := by
          rw [← HR.out]
          unfold clauseB
          rw [HM.out rfl]
          rfl
        subst hR
        have B9 := s9.bel
        go_wp2_with fail
        go_ret
        exact ⟨rfl, B9⟩
    · obtain rfl : nT = j := by omega
      have hq2 : c.tags.all (fun x => hasB ev.tags x) = true := by
        have h := HQ.out
        rwa [List.take_of_length_le (by rw [LT.out]; exact Nat.le_refl _)] at h
      have HQ2 := Go.Lib.hid hq2
      clear hq2 HQ
      go_wp2_with fail
      go_loopw [7] (fun i wq => ∃ k : Nat, k ≤ nY ∧ i = .int .i64 k ∧ Hid ((c.types.take k).any (fun y => decide (y = ev.t)) = false) ∧ CeAt wq w (.slice T nT cT) (.slice Y nY cY) (.string ev.s) (.string ev.t) (.slice A nA cA) (.slice B nB cB)) (fun i _ => nY - (intOf i).toNat)
      case atStart => exact ⟨0, Nat.zero_le _, rfl, Go.Lib.hid (by simp), sr⟩
      case round =>
        obtain ⟨k, hk, rfl, HQ, sq⟩ := hrel
        clear k0 k1 sr
        have k1 := sq.ec.c1
        by_cases hlt : k < nY
        · obtain ⟨bt, ot, rfl, _, kt⟩ := RdS.at_ (RdC.below rY sq.bel) (by omega)
          have ka := kt k hlt
          have i1 : (k : Int) < nY := by omega
          have hjl : k < c.types.length := by rw [LY.out]; exact hlt
          have hy := take_get c.types k hjl
          have HY := Go.Lib.hid hy
          have HMem := Go.Lib.hid (mem_getD c.types k hjl)
          clear kt hjl hy
          generalize c.types.getD k ByteArray.empty = y at *
          have j1 := sq.ee.c1
          by_cases hyt : y = ev.t
          · subst hyt
            have hR : R = true := by
              rw [← HR.out]
              unfold clauseB
              rw [HQ2.out, hasB_mem.2 HMem.out, Bool.or_true]
              rfl
            subst hR
            have B9 := sq.bel
            go_wp2_with fail
            go_quiet (fail)
            go_wp2_with fail
            go_ret
            exact ⟨rfl, bel_drewN B9 _⟩
          · have hne := str_ne hyt
            have hq3 : (c.types.take (k + 1)).any (fun y => decide (y = ev.t)) = false := by
              rw [HY.out, List.any_append, HQ.out]
              simp [hyt]
            have HQ3 := Go.Lib.hid hq3
            clear hq3 hyt
            go_wp2_with fail
            go_quiet (fail)
            go_wp2_with fail
            go_roundw
            case rel => exact ⟨k + 1, by omega, by go_num, HQ3, sq.drewN _⟩
            case measure => simp [intOf]; omega
        · obtain rfl : nY = k := by omega
          have hno : hasB c.types ev.t = false := by
            have h := HQ.out
            rwa [List.take_of_length_le (by rw [LY.out]; exact Nat.le_refl _)] at h
          have hR : R = decide (nY = 0) := by
            rw [← HR.out]
            unfold clauseB
            rw [HQ2.out, hno, Bool.or_false, Bool.true_and]
            by_cases h0 : nY = 0
            · have h1 : c.types = [] := List.eq_nil_of_length_eq_zero (by rw [LY.out]; exact h0)
              rw [decide_eq_true h0, decide_eq_true h1]
            · have h1 : ¬ c.types = [] := fun h => h0 (by rw [← LY.out, h]; rfl)
              rw [decide_eq_false h0, decide_eq_false h1]
          have HRR := Go.Lib.hid hR
          clear hR hno
          have B9 := sq.bel
          by_cases h0 : nY = 0
          · subst h0
            obtain rfl : R = true := by rw [HRR.out]; rfl
            go_wp2_with fail
            go_ret
            exact ⟨rfl, B9⟩
          · obtain rfl : R = false := by rw [HRR.out]; exact decide_eq_false h0
            have h1 : ((nY : Int) == 0) = false := by rw [beq_eq_false_iff_ne]; omega
            go_wp2_with fail
            go_ret
            exact ⟨rfl, B9⟩

end Go.Proofs.Ytfbooapgjhhjmaa.QuWalk
