/-
  Contract of the document's answer of layer 6: May.
-/
import Derived.Test.YtfbooapgjhhjmaaQuRefM
import Derived.Test.YtfbooapgjhhjmaaEvRefD
namespace Go.Proofs.Ytfbooapgjhhjmaa.QuWalk
open Go.RowKit Go.Proofs.Ytfbooapgjhhjmaa.MemRow Go.Proofs.Ytfbooapgjhhjmaa.Ev Go.Proofs.Ytfbooapgjhhjmaa.NameMath Go.Proofs.Ytfbooapgjhhjmaa.NameWalk Go.Proofs.Ytfbooapgjhhjmaa.EvWalk Go.Proofs.Ytfbooapgjhhjmaa.Qu

def bigC (c : Cl) : Bool := decide (4 < c.tags.length ∨ 4 < c.types.length)
def namesC (c : Cl) : Bool := c.tags.all tagB && c.types.all nameB
def riseC (c : Cl) : Bool := riseB c.tags && riseB c.types
/-- The first error of a query. -/
def mayQ (q : List Cl) : Int := if 4 < q.length ∨ q.any bigC = true then 3 else if q.all namesC = false then 5 else if q.all riseC = false then 1 else 0

theorem allC_miss {p : Cl → Bool} {q : List Cl} {j : Nat} (h : j < q.length) (hp : p (q.getD j noCl) = false) : q.all p = false := by
  cases ha : q.all p with
  | false => rfl
  | true =>
    rw [List.all_eq_true] at ha
    have := ha _ (cl_get h)
    rw [hp] at this
    cases this
theorem allC_snoc {p : Cl → Bool} {q : List Cl} {j : Nat} (h : j < q.length) : (q.take (j + 1)).all p = ((q.take j).all p && p (q.getD j noCl)) := by
  rw [cl_take q j h, List.all_append]
  simp

/-- What stands while a query is checked. -/
structure MyAt (wr w : World) (vq : Value) : Prop where
  eq : QAt wr w.heap.size vq
  bel : Below w.heap.size w wr
theorem MyAt.below {wr w w' : World} {vq : Value} (h : MyAt wr w vq) (hb : Below wr.heap.size wr w') : MyAt w' w vq := ⟨h.eq.below hb, below_chain h.bel hb⟩

set_option maxHeartbeats 8000000 in
set_option maxRecDepth 100000 in
theorem refMayQ_any (v : Value) (q : List Cl) (w : World) (hv : IsQ w v q) (hok : QOk q) :
    Calls Try.prog 16 #[v] w fun e w' => e = .returned (.int .i64 (mayQ q)) ∧ Below w.heap.size w w' := by
  obtain ⟨C, n, cap, rfl, rC⟩ := hv
  have LC := Go.Lib.hid rC.len
  have hn := rC.le
  unfold maxLen at hn
  generalize hR : mayQ q = R
  have HR := Go.Lib.hid hR
  have HOK := Go.Lib.hid hok
  clear hR hok
  have s1 : MyAt (w.alloc (.cells #[.slice C n cap] 24)) w (.slice C n cap) := ⟨QAt.new w _, (Below.refl _ _).alloc (Nat.le_refl _) _⟩
  go_enter Try.func16, Try.ntmps16
  go_upto_region 1 with (fail)
  generalize w.alloc (.cells #[.slice C n cap] 24) = w1 at *
  have k0 := s1.eq.c0
  by_cases h4 : 4 < n
  · have i1 : (4 : Int) < n := by omega
    have hR : R = 3 := by
      rw [← HR.out]
      unfold mayQ
      rw [LC.out, if_pos (.inl h4)]
    subst hR
    have B1 := s1.bel
    go_wp2_with fail
    go_ret
    exact ⟨rfl, B1⟩
  have i1 : ¬ (4 : Int) < n := by omega
  go_wp2_with fail
  go_loopw [3] (fun i wr => ∃ j : Nat, j ≤ n ∧ i = .int .i64 j ∧ Hid ((q.take j).any bigC = false) ∧ w1 = wr) (fun i _ => n - (intOf i).toNat)
  case atStart => exact ⟨0, Nat.zero_le _, rfl, Go.Lib.hid rfl, rfl⟩
  case round =>
    obtain ⟨j, hj, rfl, HQ, rfl⟩ := hrel
    by_cases hlt : j < n
    · obtain ⟨bt, ot, rfl, _, kt⟩ := (rC.below s1.bel).at_ (by omega)
      obtain ⟨T, nT, cT, Y, nY, cY, x0, x1, rT, rY⟩ := kt j hlt
      have i2 : (j : Int) < n := by omega
      have hjl : j < q.length := by rw [LC.out]; exact hlt
      have HT := Go.Lib.hid (cl_take q j hjl)
      have HMem := Go.Lib.hid (cl_get hjl)
      have hlT := RdS.len rT
      have hlY := RdS.len rY
      clear kt hjl rT rY
      generalize q.getD j noCl = c at *
      have HLT := Go.Lib.hid hlT
      have HLY := Go.Lib.hid hlY
      clear hlT hlY
      have hbig : (4 < nT ∨ 4 < nY) → R = 3 := fun h => by
        rw [← HR.out]
        unfold mayQ
        rw [if_pos]
        right
        rw [List.any_eq_true]
        exact ⟨c, HMem.out, decide_eq_true (by rw [HLT.out, HLY.out]; exact h)⟩
      have HBIG := Go.Lib.hid hbig
      have B1 := s1.bel
      clear hbig
      by_cases hT : 4 < nT
      · obtain rfl : R = 3 := HBIG.out (.inl hT)
        have i3 : (4 : Int) < nT := by omega
        go_wp2_with fail
        go_ret
        exact ⟨rfl, B1⟩
      · have i3 : ¬ (4 : Int) < nT := by omega
        by_cases hY : 4 < nY
        · obtain rfl : R = 3 := HBIG.out (.inr hY)
          have i4 : (4 : Int) < nY := by omega
          go_wp2_with fail
          go_ret
          exact ⟨rfl, B1⟩
        · have i4 : ¬ (4 : Int) < nY := by omega
          have hq2 : (q.take (j + 1)).any bigC = false := by
            rw [HT.out, List.any_append, HQ.out]
            have : bigC c = false := decide_eq_false (by rw [HLT.out, HLY.out]; omega)
            simp [this]
          have HQ2 := Go.Lib.hid hq2
          clear hq2
          go_wp2_with fail
          go_roundw
          case rel => exact ⟨j + 1, by omega, by go_num, HQ2, by first | rfl | trivial⟩
          case measure => simp [intOf]; omega
    · obtain rfl : n = j := by omega
      have hrest : R = if q.all namesC = false then 5 else if q.all riseC = false then 1 else 0 := by
        rw [← HR.out]
        unfold mayQ
        rw [if_neg]
        rintro (h | h)
        · rw [LC.out] at h
          omega
        · have h2 := HQ.out
          rw [List.take_of_length_le (by rw [LC.out]; exact Nat.le_refl _), h] at h2
          cases h2
      have HREST := Go.Lib.hid hrest
      clear hrest HQ HR
      go_wp2_with fail
      go_loopw [4, 5, 6, 7, 8, 9, 10, 11, 12, 13, 14] (fun rv i _ _ _ _ _ _ _ _ _ wr => ∃ (j : Nat) (rb : Bool), j ≤ n ∧ i = .int .i64 j ∧ rv = .bool rb ∧ Hid (rb = (q.take j).all riseC) ∧ Hid ((q.take j).all namesC = true) ∧ MyAt wr w (.slice C n cap)) (fun _ i _ _ _ _ _ _ _ _ _ _ => n - (intOf i).toNat)
      case atStart => exact ⟨0, true, Nat.zero_le _, rfl, rfl, Go.Lib.hid rfl, Go.Lib.hid rfl, s1⟩
      case round =>
        obtain ⟨wo, rfl⟩ : ∃ wo, wo = wr := ⟨_, rfl⟩
        obtain ⟨j, rb, hj, rfl, rfl, HRB, HNM, sr⟩ := hrel
        clear s1 k0
        have k0 := sr.eq.c0
        by_cases hlt : j < n
        · obtain ⟨bt, ot, rfl, _, kt⟩ := (rC.below sr.bel).at_ (by omega)
          obtain ⟨T, nT, cT, Y, nY, cY, x0, x1, rT, rY⟩ := kt j hlt
          have i2 : (j : Int) < n := by omega
          have hjl : j < q.length := by rw [LC.out]; exact hlt
          have HS1 := Go.Lib.hid (allC_snoc (p := riseC) hjl)
          have HS2 := Go.Lib.hid (allC_snoc (p := namesC) hjl)
          have HM2 := Go.Lib.hid (fun h => allC_miss (p := namesC) hjl h)
          have hokc := HOK.out _ (cl_get hjl)
          clear kt hjl
          generalize q.getD j noCl = c at *
          have HOC := Go.Lib.hid hokc
          have LT := Go.Lib.hid (RdS.len rT)
          have LY := Go.Lib.hid (RdS.len rY)
          have hnT := RdC.le rT
          have hnY := RdC.le rY
          unfold maxLen at hnT hnY
          clear hokc
          go_upto_region 13 with (fail)
          have al : Below wo.heap.size wo (wo.alloc (.cells #[.slice T nT cT, .slice Y nY cY] 36)) := (Below.refl _ _).alloc (Nat.le_refl _) _
          have c6 := ClAt.new wo (.slice T nT cT) (.slice Y nY cY)
          generalize wo.alloc (.cells #[.slice T nT cT, .slice Y nY cY] 36) = w6 at *
          clear x0 x1
          have hno5 : namesC c = false → R = 5 := fun h => by rw [HREST.out, HM2.out h]; rfl
          have HNO := Go.Lib.hid hno5
          clear hno5
          go_wp2_with fail
          go_loopw [7, 8, 9, 10] (fun i _ _ _ wr => ∃ k : Nat, k ≤ nT ∧ i = .int .i64 k ∧ Hid ((c.tags.take k).all tagB = true) ∧ ClAt wr wo.heap.size (.slice T nT cT) (.slice Y nY cY) ∧ Below wo.heap.size wo wr) (fun i _ _ _ _ => nT - (intOf i).toNat)
          case atStart => exact ⟨0, Nat.zero_le _, rfl, Go.Lib.hid rfl, c6, al⟩
          case round =>
            obtain ⟨wq, rfl⟩ : ∃ wq, wq = wr := ⟨_, rfl⟩
            obtain ⟨k, hk, rfl, HK, cq, bq⟩ := hrel
            clear c6 al k0
            have m0 := cq.c0
            by_cases hlt2 : k < nT
            · obtain ⟨bu, ou, rfl, _, ku⟩ := RdS.at_ (RdC.below rT bq) (by omega)
              have z0 := ku k hlt2
              have i3 : (k : Int) < nT := by omega
              have hkl : k < c.tags.length := by rw [LT.out]; exact hlt2
              have HA := Go.Lib.hid (all_snoc c.tags tagB k hkl)
              have HB := Go.Lib.hid (fun h => all_miss c.tags tagB k hkl h)
              have hxs := HOC.out.tags _ (mem_getD c.tags k hkl)
              clear ku hkl
              generalize c.tags.getD k ByteArray.empty = x at *
              unfold maxLen at hxs
              go_wp2_with fail
              refine (refParts_any x wq (by omega)).mono ?_
              rintro e w8 ⟨rfl, b8⟩
              have htb : (parts x.data.toList).2.2 = tagB x := rfl
              rw [htb]
              generalize (parts x.data.toList).1 = p1 at *
              generalize (parts x.data.toList).2.1 = p2 at *
              have c8 := cq.below b8
              have bq8 := below_chain bq b8
              clear m0 z0 htb b8
              cases hx : tagB x with
              | true =>
                have hk2 : (c.tags.take (k + 1)).all tagB = true := by rw [HA.out, HK.out, hx]; rfl
                have HK2 := Go.Lib.hid hk2
                clear hk2 hx
                go_wp2_with fail
                go_roundw
                case rel => exact ⟨k + 1, by omega, by go_num, HK2, c8, bq8⟩
                case measure => simp [intOf]; omega
              | false =>
                obtain rfl : R = 5 := HNO.out (by unfold namesC; rw [HB.out hx]; rfl)
                have B9 := below_chain sr.bel bq8
                clear hx
                go_wp2_with fail
                go_ret
                exact ⟨rfl, B9⟩
            · obtain rfl : nT = k := by omega
              have hT : c.tags.all tagB = true := by
                have h := HK.out
                rwa [List.take_of_length_le (by rw [LT.out]; exact Nat.le_refl _)] at h
              have HTT := Go.Lib.hid hT
              clear hT HK
              go_wp2_with fail
              go_loopw [11, 12] (fun i _ wr => ∃ k : Nat, k ≤ nY ∧ i = .int .i64 k ∧ Hid ((c.types.take k).all nameB = true) ∧ ClAt wr wo.heap.size (.slice T nT cT) (.slice Y nY cY) ∧ Below wo.heap.size wo wr) (fun i _ _ => nY - (intOf i).toNat)
              case atStart => exact ⟨0, Nat.zero_le _, rfl, Go.Lib.hid rfl, cq, bq⟩
              case round =>
                obtain ⟨wp, rfl⟩ : ∃ wp, wp = wr := ⟨_, rfl⟩
                obtain ⟨k, hk, rfl, HK, cp, bp⟩ := hrel
                clear cq bq m0
                have m1 := cp.c1
                by_cases hlt3 : k < nY
                · obtain ⟨bu, ou, rfl, _, ku⟩ := RdS.at_ (RdC.below rY bp) (by omega)
                  have z0 := ku k hlt3
                  have i3 : (k : Int) < nY := by omega
                  have hkl : k < c.types.length := by rw [LY.out]; exact hlt3
                  have HA := Go.Lib.hid (all_snoc c.types nameB k hkl)
                  have HB := Go.Lib.hid (fun h => all_miss c.types nameB k hkl h)
                  have hxs := HOC.out.types _ (mem_getD c.types k hkl)
                  clear ku hkl
                  generalize c.types.getD k ByteArray.empty = x at *
                  unfold maxLen at hxs
                  go_wp2_with fail
                  refine (refMay_any x wp (by omega)).mono ?_
                  rintro e w8 ⟨rfl, b8⟩
                  have hnb : may x.data.toList = nameB x := rfl
                  rw [hnb]
                  have c8 := cp.below b8
                  have bp8 := below_chain bp b8
                  clear m1 z0 hnb b8
                  cases hx : nameB x with
                  | true =>
                    have hk2 : (c.types.take (k + 1)).all nameB = true := by rw [HA.out, HK.out, hx]; rfl
                    have HK2 := Go.Lib.hid hk2
                    clear hk2 hx
                    go_wp2_with fail
                    go_roundw
                    case rel => exact ⟨k + 1, by omega, by go_num, HK2, c8, bp8⟩
                    case measure => simp [intOf]; omega
                  | false =>
                    obtain rfl : R = 5 := HNO.out (by unfold namesC; rw [HB.out hx, Bool.and_false])
                    have B9 := below_chain sr.bel bp8
                    clear hx
                    go_wp2_with fail
                    go_ret
                    exact ⟨rfl, B9⟩
                · obtain rfl : nY = k := by omega
                  have hY : c.types.all nameB = true := by
                    have h := HK.out
                    rwa [List.take_of_length_le (by rw [LY.out]; exact Nat.le_refl _)] at h
                  have hnames : (q.take (j + 1)).all namesC = true := by rw [HS2.out, HNM.out]; unfold namesC; rw [HTT.out, hY]; rfl
                  have HN2 := Go.Lib.hid hnames
                  clear hY hnames HK
                  have m0 := cp.c0
                  generalize h1 : riseB c.tags = r1
                  have H1 := Go.Lib.hid h1
                  generalize h2 : riseB c.types = r2
                  have H2 := Go.Lib.hid h2
                  clear h1 h2
                  go_wp2_with fail
                  refine (rise_bel T nT cT c.tags wp (RdC.below rT bp)).mono ?_
                  rintro e w8 ⟨rfl, b8⟩
                  rw [H1.out]
                  have c8 := cp.below b8
                  have bp8 := below_chain bp b8
                  have m1' := c8.c1
                  clear m0 m1 cp b8
                  go_wp2_with fail
                  refine (rise_bel Y nY cY c.types w8 (RdC.below rY bp8)).mono ?_
                  rintro e w9 ⟨rfl, b9⟩
                  rw [H2.out]
                  have s9 := sr.below (below_chain bp8 b9)
                  have hrise : (q.take (j + 1)).all riseC = (rb && (r1 && r2)) := by rw [HS1.out, ← HRB.out]; unfold riseC; rw [H1.out, H2.out]
                  have HRI := Go.Lib.hid hrise
                  clear hrise m1' c8 b9 bp8 bp sr HRB HTT HS1 HS2 H1 H2
                  cases rb <;> cases r1 <;> cases r2
                  all_goals
                    go_wp2_with fail
                    go_roundw
                    case rel => exact ⟨j + 1, _, by omega, by go_num, rfl, Go.Lib.hid HRI.out.symm, HN2, s9⟩
                    case measure => simp [intOf]; omega
        · obtain rfl : n = j := by omega
          have hall : q.all namesC = true := by
            have h := HNM.out
            rwa [List.take_of_length_le (by rw [LC.out]; exact Nat.le_refl _)] at h
          have hrb : rb = q.all riseC := by
            have h := HRB.out
            rwa [List.take_of_length_le (by rw [LC.out]; exact Nat.le_refl _)] at h
          have hR : R = if rb = false then 1 else 0 := by
            rw [HREST.out, hall, hrb]
            rfl
          have HR2 := Go.Lib.hid hR
          have B9 := sr.bel
          clear hall hrb hR
          cases rb with
          | false =>
            obtain rfl : R = 1 := by rw [HR2.out]; rfl
            go_wp2_with fail
            go_ret
            exact ⟨rfl, B9⟩
          | true =>
            obtain rfl : R = 0 := by rw [HR2.out]; rfl
            go_wp2_with fail
            go_ret
            exact ⟨rfl, B9⟩

end Go.Proofs.Ytfbooapgjhhjmaa.QuWalk
