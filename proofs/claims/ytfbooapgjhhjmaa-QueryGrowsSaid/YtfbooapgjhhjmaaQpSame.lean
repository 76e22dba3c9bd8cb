/-
  Contracts of layer 6: query.Same and what it asks.
-/
import Derived.Test.YtfbooapgjhhjmaaQuRefM
import Derived.Test.YtfbooapgjhhjmaaEvEq
import Derived.Test.YtfbooapgjhhjmaaQpFn
namespace Go.Proofs.Ytfbooapgjhhjmaa.QuWalk
open Go.RowKit Go.Proofs.Ytfbooapgjhhjmaa.MemRow Go.Proofs.Ytfbooapgjhhjmaa.Ev Go.Proofs.Ytfbooapgjhhjmaa.NameMath Go.Proofs.Ytfbooapgjhhjmaa.NameWalk Go.Proofs.Ytfbooapgjhhjmaa.EvWalk Go.Proofs.Ytfbooapgjhhjmaa.Qu

/-- The boxes of two clauses. -/
structure CcAt (wr w : World) (c0 c1 d0 d1 : Value) : Prop where
  ec : ClAt wr w.heap.size c0 c1
  ed : ClAt wr (w.heap.size + 1) d0 d1
  bel : Below w.heap.size w wr
theorem CcAt.new (w : World) (c0 c1 d0 d1 : Value) : CcAt ((w.alloc (.cells #[c0, c1] 36)).alloc (.cells #[d0, d1] 36)) w c0 c1 d0 d1 := by
  have a1 := ClAt.new w c0 c1
  have b1 : Below w.heap.size w (w.alloc (.cells #[c0, c1] 36)) := (Below.refl _ _).alloc (Nat.le_refl _) _
  generalize hw1 : w.alloc (.cells #[c0, c1] 36) = w1 at *
  have s1 : w1.heap.size = w.heap.size + 1 := by rw [← hw1]; simp
  have a2 := ClAt.new w1 d0 d1
  have b2 : Below w1.heap.size w1 (w1.alloc (.cells #[d0, d1] 36)) := (Below.refl _ _).alloc (Nat.le_refl _) _
  rw [s1] at a2
  exact ⟨a1.below b2, a2, below_chain b1 b2⟩

theorem equal_bel (A B : Option Addr) (n m ca cb : Nat) (ss tt : List ByteArray) (w : World) (ha : RdS w A n ca ss) (hb : RdS w B m cb tt) :
    Calls Try.prog 36 #[.slice A n ca, .slice B m cb] w fun e w' => e = .returned (.bool (decide (ss = tt))) ∧ Below w.heap.size w w' :=
  (equalS_any A B n m ca cb ss tt w ha hb).mono fun e w' ⟨h, k, hk⟩ => ⟨h, by rw [hk]; exact bel_drewN (Below.refl _ _) k⟩

/-- Whether two clauses are the same. -/
def sameC (c d : Cl) : Bool := decide (c.tags = d.tags) && decide (c.types = d.types)
theorem sameC_eq {c d : Cl} : sameC c d = true ↔ c = d := by
  unfold sameC
  obtain ⟨a, b⟩ := c
  obtain ⟨a', b'⟩ := d
  simp

set_option maxHeartbeats 4000000 in
set_option maxRecDepth 100000 in
theorem same1_any (v u : Value) (c d : Cl) (w : World) (hv : IsCl w v c) (hu : IsCl w u d) :
    Calls Try.prog 35 #[v, u] w fun e w' => e = .returned (.bool (sameC c d)) ∧ Below w.heap.size w w' := by
  obtain ⟨T, nT, cT, Y, nY, cY, rfl, rT, rY⟩ := hv
  obtain ⟨U, nU, cU, Z, nZ, cZ, rfl, rU, rZ⟩ := hu
  have s1 := CcAt.new w (.slice T nT cT) (.slice Y nY cY) (.slice U nU cU) (.slice Z nZ cZ)
  have B1 := s1.bel
  have rY1 := RdC.below rY B1
  have rZ1 := RdC.below rZ B1
  have ct := equal_bel T U nT nU cT cU c.tags d.tags _ (RdC.below rT B1) (RdC.below rU B1)
  generalize h1 : decide (c.tags = d.tags) = R1 at *
  have H1 := Go.Lib.hid h1
  have CT := Go.Lib.hid ct
  have k0 := s1.ec.c0
  have k1 := s1.ec.c1
  have j0 := s1.ed.c0
  have j1 := s1.ed.c1
  clear h1 ct rT rY rU rZ s1
  generalize hR : sameC c d = R
  have HR := Go.Lib.hid hR
  clear hR
  go_enter Try.func35, Try.ntmps35
  go_upto_region 1 with (fail)
  generalize (w.alloc (.cells #[.slice T nT cT, .slice Y nY cY] 36)).alloc (.cells #[.slice U nU cU, .slice Z nZ cZ] 36) = w1 at *
  cases R1 with
  | false =>
    have hR : R = false := by
      rw [← HR.out]
      unfold sameC
      rw [H1.out]
      rfl
    subst hR
    clear rY1 rZ1
    go_wp2_with (refine (CT.out).mono ?_; rintro e w2 ⟨rfl, b2⟩)
    go_ret
    exact ⟨rfl, below_chain B1 b2⟩
  | true =>
    have hR : decide (c.types = d.types) = R := by
      rw [← HR.out]
      unfold sameC
      rw [H1.out, Bool.true_and]
    have HR2 := Go.Lib.hid hR
    clear hR
    go_wp2_with (refine (CT.out).mono ?_; rintro e w2 ⟨rfl, b2⟩; have l1 := bcell b2 k1; have i1 := bcell b2 j1; have B2 := below_chain B1 b2; have c2 := equal_bel Y Z nY nZ cY cZ c.types d.types w2 (RdC.below rY1 b2) (RdC.below rZ1 b2); rw [HR2.out] at c2; have C2 := Go.Lib.hid c2; clear c2 rY1 rZ1 k0 k1 j0 j1 b2 CT)
    go_wp2_with (refine (C2.out).mono ?_; rintro e w3 ⟨rfl, b3⟩)
    go_ret
    exact ⟨rfl, below_chain B2 b3⟩

set_option maxHeartbeats 8000000 in
set_option maxRecDepth 100000 in
theorem equalFuncC_any (C D : Option Addr) (n m cap dap : Nat) (q r : List Cl) (w : World) (rC : RdQ w C n cap q) (rD : RdQ w D m dap r) :
    Calls Try.prog 34 #[.slice C n cap, .slice D m dap, .func (.func 35) #[] #[]] w fun e w' => ∃ R : Bool, (R = true ↔ q = r) ∧ e = .returned (.bool R) ∧ Below w.heap.size w w' := by
  have LC := Go.Lib.hid rC.len
  have LD := Go.Lib.hid rD.len
  have hn := rC.le
  have hm := rD.le
  unfold maxLen at hn hm
  have es : Runs 35 := enters_of Try.func35 (by kernel_rfl) rfl
  unfold Runs at es
  by_cases hnm : n = m
  case neg =>
    have i1 : ((n : Int) != (m : Int)) = true := by rw [bne_iff_ne]; omega
    have hne : q ≠ r := fun h => hnm (by rw [← LC.out, ← LD.out, h])
    have HNE := Go.Lib.hid hne
    clear hne
    go_enter Try.func34, Try.ntmps34
    go_wp2_with fail
    go_ret
    exact ⟨false, ⟨(fun h => by cases h), fun h => absurd h HNE.out⟩, rfl, Below.refl _ _⟩
  subst hnm
  go_enter Try.func34, Try.ntmps34
  go_wp2_with fail
  go_loopw [7, 8, 9, 17] (fun _ _ _ i wr => ∃ j : Nat, j ≤ n ∧ i = .int .i64 j ∧ Hid (q.take j = r.take j) ∧ Below w.heap.size w wr) (fun _ _ _ i _ => n - (intOf i).toNat)
  case atStart => exact ⟨0, Nat.zero_le _, rfl, Go.Lib.hid rfl, Below.refl _ _⟩
  case round =>
    obtain ⟨j, hj, rfl, HQ, hb⟩ := hrel
    by_cases hlt : j < n
    · obtain ⟨bt, ot, rfl, _, kt⟩ := (rC.below hb).at_ (by omega)
      obtain ⟨T, nT, cT, Y, nY, cY, x0, x1, rT, rY⟩ := kt j hlt
      obtain ⟨bu, ou, rfl, _, ku⟩ := (rD.below hb).at_ (by omega)
      obtain ⟨U, nU, cU, Z, nZ, cZ, y0, y1, rU, rZ⟩ := ku j hlt
      have i1 : (j : Int) < n := by omega
      have HT := Go.Lib.hid (cl_take q j (by rw [LC.out]; exact hlt))
      have HU := Go.Lib.hid (cl_take r j (by rw [LD.out]; exact hlt))
      have HXE : Hid (q = r → q.getD j noCl = r.getD j noCl) := Go.Lib.hid fun h => by rw [h]
      clear kt ku
      generalize q.getD j noCl = c at *
      generalize r.getD j noCl = d at *
      have a1 : Below wr.heap.size wr (wr.alloc (.cells #[.slice T nT cT, .slice Y nY cY] 36)) := (Below.refl _ _).alloc (Nat.le_refl _) _
      have y0' := bcell a1 y0
      have y1' := bcell a1 y1
      have s1 := CcAt.new wr (.slice T nT cT) (.slice Y nY cY) (.slice U nU cU) (.slice Z nZ cZ)
      have cc := same1_any (.agg #[.slice T nT cT, .slice Y nY cY]) (.agg #[.slice U nU cU, .slice Z nZ cZ]) c d _ ⟨T, nT, cT, Y, nY, cY, rfl, RdC.below rT s1.bel, RdC.below rY s1.bel⟩ ⟨U, nU, cU, Z, nZ, cZ, rfl, RdC.below rU s1.bel, RdC.below rZ s1.bel⟩
      generalize hS : sameC c d = S at *
      have HS := Go.Lib.hid hS
      have CC := Go.Lib.hid cc
      have k0 := s1.ec.c0
      have k1 := s1.ec.c1
      have j0 := s1.ed.c0
      have j1 := s1.ed.c1
      have B1 := below_chain hb s1.bel
      clear hS cc rT rY rU rZ s1 a1
      go_upto_region 7 with (fail)
      generalize (wr.alloc (.cells #[.slice T nT cT, .slice Y nY cY] 36)).alloc (.cells #[.slice U nU cU, .slice Z nZ cZ] 36) = w1 at *
      cases S with
      | false =>
        have hne : q ≠ r := fun h => by
          have e1 := HXE.out h
          have e2 := sameC_eq.2 e1
          rw [HS.out] at e2
          cases e2
        have HNE := Go.Lib.hid hne
        clear hne
        go_wp2_with (refine (CC.out).mono ?_; rintro e w2 ⟨rfl, b2⟩)
        go_ret
        exact ⟨false, ⟨(fun h => by cases h), fun h => absurd h HNE.out⟩, rfl, below_chain B1 b2⟩
      | true =>
        have hq2 : q.take (j + 1) = r.take (j + 1) := by rw [HT.out, HU.out, HQ.out, sameC_eq.1 HS.out]
        have HQ2 := Go.Lib.hid hq2
        clear hq2
        go_wp2_with (refine (CC.out).mono ?_; rintro e w2 ⟨rfl, b2⟩)
        go_roundw
        case rel => exact ⟨j + 1, by omega, by go_num, HQ2, below_chain B1 b2⟩
        case measure => simp [intOf]; omega
    · obtain rfl : n = j := by omega
      have hq : q = r := by
        have h := HQ.out
        rwa [List.take_of_length_le (by rw [LC.out]; exact Nat.le_refl _), List.take_of_length_le (by rw [LD.out]; exact Nat.le_refl _)] at h
      have HH := Go.Lib.hid hq
      clear hq
      go_wp2_with fail
      go_ret
      exact ⟨true, ⟨fun _ => HH.out, fun _ => rfl⟩, rfl, hb⟩

set_option maxHeartbeats 4000000 in
set_option maxRecDepth 100000 in
theorem sameQ_any (v u : Value) (q r : List Cl) (w : World) (hv : IsQ w v q) (hu : IsQ w u r) :
    Calls Try.prog 17 #[v, u] w fun e w' => ∃ R : Bool, (R = true ↔ q = r) ∧ e = .returned (.bool R) ∧ Below w.heap.size w w' := by
  obtain ⟨C, n, cap, rfl, rC⟩ := hv
  obtain ⟨D, m, dap, rfl, rD⟩ := hu
  have s1 := QqAt.new w (.slice C n cap) (.slice D m dap)
  have cc := Go.Lib.hid (equalFuncC_any C D n m cap dap q r _ (rC.below s1.bel) (rD.below s1.bel))
  have k0 := s1.eq.c0
  have k1 := s1.er.c0
  have B1 := s1.bel
  clear rC rD s1
  go_enter Try.func17, Try.ntmps17
  go_upto_region 1 with (fail)
  generalize (w.alloc (.cells #[.slice C n cap] 24)).alloc (.cells #[.slice D m dap] 24) = w1 at *
  go_wp2_with (refine (cc.out).mono ?_; rintro e w2 ⟨R, hR, rfl, b2⟩; have HR := Go.Lib.hid hR; clear hR)
  go_ret
  exact ⟨R, HR.out, rfl, below_chain B1 b2⟩

end Go.Proofs.Ytfbooapgjhhjmaa.QuWalk
