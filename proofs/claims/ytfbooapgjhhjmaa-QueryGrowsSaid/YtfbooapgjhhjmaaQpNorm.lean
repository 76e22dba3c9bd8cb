/-
  Contract of layer 6: query.Norm; and all four calls.
-/
import Derived.Test.YtfbooapgjhhjmaaQpSort
import Derived.Test.YtfbooapgjhhjmaaQuRefN
import Derived.Deep.RegionHeldLaw
import Derived.StillTailTactics
namespace Go.Proofs.Ytfbooapgjhhjmaa.QuWalk
open Go.RowKit Go.Proofs.Ytfbooapgjhhjmaa.MemRow Go.Proofs.Ytfbooapgjhhjmaa.Ev Go.Proofs.Ytfbooapgjhhjmaa.NameMath Go.Proofs.Ytfbooapgjhhjmaa.NameWalk Go.Proofs.Ytfbooapgjhhjmaa.EvWalk Go.Proofs.Ytfbooapgjhhjmaa.Qu

set_option maxHeartbeats 8000000 in
set_option maxRecDepth 100000 in
theorem normQ_any (v : Value) (q : List Cl) (w : World) (hv : IsQ w v q) (hq : q.length ≤ 1000) (hc : ∀ c ∈ q, c.tags.length ≤ 1000 ∧ c.types.length ≤ 1000) :
    Calls Try.prog 13 #[v] w fun e w' => ∃ u, e = .returned u ∧ IsQ w' u (normQ q) ∧ Below w.heap.size w w' := by
  obtain ⟨C, n, cap, rfl, rC⟩ := hv
  have LC := Go.Lib.hid rC.len
  have hn : n ≤ 1000 := by rw [← LC.out]; exact hq
  have HC := Go.Lib.hid hc
  clear hc hq
  have s1 := NqAt.new w (.slice C n cap)
  have k0 := s1.eq.c0
  go_enter Try.func13, Try.ntmps13
  go_upto_region 2 with (fail)
  generalize ((w.alloc (.cells #[.slice C n cap] 24)).alloc (.cells #[.slice none 0 0] 24)).alloc (.cells #[.slice none 0 0] 24) = w1 at *
  go_wp2_with fail
  clear k0
  go_loopw [5, 9] (fun _ i wr => ∃ (j : Nat) (A : Option Addr) (ca : Nat), j ≤ n ∧ i = .int .i64 j ∧ NqAt wr w (.slice C n cap) A j ca (normQ (q.take j))) (fun _ i _ => n - (intOf i).toNat)
  case atStart => exact ⟨0, none, 0, Nat.zero_le _, rfl, s1⟩
  case round =>
    obtain ⟨wo, rfl⟩ : ∃ wo, wo = wr := ⟨_, rfl⟩
    obtain ⟨j, A, ca, hjn, rfl, sr⟩ := hrel
    clear s1
    have HA : Hid (∀ a, A = some a → a.block < wo.heap.size) := Go.Lib.hid fun a ha => by
      obtain ⟨cs, oc, _, _⟩ := sr.own
      exact (OwnC.lt oc a ha).2
    by_cases hlt : j < n
    · obtain ⟨bt, ot, rfl, _, kt⟩ := (rC.below sr.bel).at_ (by omega)
      obtain ⟨T, nT, cT, Y, nY, cY, x0, x1, rT, rY⟩ := kt j hlt
      have i1 : (j : Int) < n := by omega
      have hjl : j < q.length := by rw [LC.out]; exact hlt
      have HS : Hid (normQ (q.take (j + 1)) = normQ (q.take j) ++ [normC (q.getD j noCl)]) := Go.Lib.hid (by rw [cl_take q j hjl, normQ, List.map_append]; rfl)
      have hcj := HC.out _ (cl_get hjl)
      clear kt hjl
      generalize q.getD j noCl = c at *
      have LT := Go.Lib.hid rT.len
      have LY := Go.Lib.hid rY.len
      have hnT : nT ≤ 1000 := by rw [← LT.out]; exact hcj.1
      have hnY : nY ≤ 1000 := by rw [← LY.out]; exact hcj.2
      clear hcj
      have hg3 : w.heap.size + 1 + 1 + 1 ≤ wo.heap.size := sr.out.lt
      go_upto_region 5 with (fail)
      have al5 : Below wo.heap.size wo (wo.alloc (.cells #[.slice T nT cT, .slice Y nY cY] 36)) := (Below.refl _ _).alloc (Nat.le_refl _) _
      have e5 := ClAt.new wo (.slice T nT cT) (.slice Y nY cY)
      have s5 := sr.below al5
      have rT5 := RdC.below rT al5
      have rY5 := RdC.below rY al5
      generalize wo.alloc (.cells #[.slice T nT cT, .slice Y nY cY] 36) = w5 at *
      have k0 := s5.out.c0
      have k1 := e5.c0
      have k2 := e5.c1
      have b0 : Below w5.heap.size w5 w5.drew := bel_drew (Below.refl _ _)
      have rTd : RdS w5.drew T nT cT c.tags := rT5
      have h63 : j + 1 ≤ maxLen := by unfold maxLen; omega
      have hsz : (j + 1) * 48 ≤ 140737488355328 := by omega
      have far : ∀ a : Addr, w5.heap.size ≤ a.block → some a.block ≠ A.map (·.block) := fun a ha e => by
        cases A with
        | none => cases e
        | some b =>
          simp only [Option.map_some, Option.some.injEq] at e
          have := HA.out b rfl
          have := al5.size
          omega
      have FAR := Go.Lib.hid far
      clear far rT5
      go_region_law (first
          | (refine step_append_cells (by rfl) (.tmp 14) (.tmp 22) 22 rfl 36 (.agg #[.slice none 0 0, .slice none 0 0]) 48 Try.underlying22 clause_info rfl (by decide) rfl rfl oc d8 (cl_one _ _ _ _ _ _) h63 hsz big ?_; intro A9 c9 w9 o9 g9 hB9; obtain ⟨z9, k9, n9⟩ := s8.more (c := normC c) oc hcl hcs rU8 rV8 T1.out T2.out o9 g9 hB9)
          | (go_simp; go_at_call 21; refine (normTexts_any Y nY cY c.types w6 (RdC.below rY5 b6) hnY).mono ?_; rintro e w7 ⟨V, nV, cV, rfl, rV, tV, bb7⟩; have b7 := below_chain b6 bb7
             have al : Below w7.heap.size w7 (w7.alloc (.cells #[.slice U nU cU, .slice V nV cV] 36)) := (Below.refl _ _).alloc (Nat.le_refl _) _
             have b8 := below_chain b7 al
             have s8 := s5.below b8
             have rU8 := RdC.below (RdC.below rU bb7) al
             have rV8 := RdC.below rV al
             have d8 : RdC 2 (w7.alloc (.cells #[.slice U nU cU, .slice V nV cV] 36)) (some ⟨w7.heap.size, 0, none⟩) 1 1 [.slice U nU cU, .slice V nV cV] := RdC.new w7 36 [.slice U nU cU, .slice V nV cV] rfl (by decide)
             have big : w.heap.size + 1 + 1 + 1 ≤ (w7.alloc (.cells #[.slice U nU cU, .slice V nV cV] 36)).heap.size := s8.out.lt
             have low5 : w.heap.size + 1 + 1 + 1 ≤ w5.heap.size := s5.out.lt
             have T1 : Hid (∀ a, U = some a → w.heap.size + 1 + 1 + 1 ≤ a.block ∧ a.block < (w7.alloc (.cells #[.slice U nU cU, .slice V nV cV] 36)).heap.size ∧ some a.block ≠ A.map (·.block)) := Go.Lib.hid fun a ha => ⟨Nat.le_trans low5 (tU a ha).1, Nat.lt_of_lt_of_le (tU a ha).2 (Nat.le_trans bb7.size al.size), FAR.out a (tU a ha).1⟩
             have T2 : Hid (∀ a, V = some a → w.heap.size + 1 + 1 + 1 ≤ a.block ∧ a.block < (w7.alloc (.cells #[.slice U nU cU, .slice V nV cV] 36)).heap.size ∧ some a.block ≠ A.map (·.block)) := Go.Lib.hid fun a ha => ⟨Nat.le_trans low5 (Nat.le_trans b6.size (tV a ha).1), Nat.lt_of_lt_of_le (tV a ha).2 al.size, FAR.out a (Nat.le_trans b6.size (tV a ha).1)⟩
             obtain ⟨cs, oc, hcl, hcs⟩ := s8.own
             have k07 := bcell b7 k0
             have k08 := bcell b8 k0
             clear rU rV tU tV bb7 low5 al)
          | (go_simp; go_at_call 21; refine (normTexts_any T nT cT c.tags w5.drew rTd hnT).mono ?_; rintro e w6 ⟨U, nU, cU, rfl, rU, tU, bb6⟩; have b6 := below_chain b0 bb6; have k06 := bcell b6 k0; have k26 := bcell b6 k2))
      all_goals
        have N9 := Go.Lib.hid n9
        clear n9 s5 s8 oc hcs d8 rU8 rV8 o9 g9 hB9 b6 b7 b8 k07 k08 rY5 rTd e5 sr
        go_wp2_with fail
        go_roundw
        case rel => exact ⟨j + 1, A9, c9, by omega, by go_num, by rw [HS.out]; exact N9.out⟩
        case measure => simp [intOf]; omega
    · obtain rfl : n = j := by omega
      have hqe : normQ (q.take n) = normQ q := by rw [List.take_of_length_le (by rw [LC.out]; exact Nat.le_refl _)]
      rw [hqe] at sr
      have o0 := sr.out.c0
      have r0 := sr.res.c0
      have z0 := sr.res.frozen 0
      have e9 := sr.res.set (.slice A n ca)
      have rq9 : RdQ (wo.setCell ⟨w.heap.size + 1, 0, none⟩ (.slice A n ca)) A n ca (normQ q) := by
        obtain ⟨cs, oc, hcl, hcs⟩ := sr.own
        have hs := grownSet wo (w.heap.size + 1) 0 (.slice A n ca)
        exact OwnQ.rd (w0 := wo.setCell ⟨w.heap.size + 1, 0, none⟩ (.slice A n ca)) ⟨cs, OwnC.grown oc hs (fun a hA e => by have := (OwnC.lt oc a hA).1; injection e with e; omega), hcl, ClsD.plain _ _ (ClsD.set (by omega) _ _ _ hcs)⟩ (Below.refl _ _)
      have b9 : Below w.heap.size w (wo.setCell ⟨w.heap.size + 1, 0, none⟩ (.slice A n ca)) := sr.bel.setCell (by show w.heap.size ≤ w.heap.size + 1; omega) _
      have E9 := Go.Lib.hid e9
      have RQ := Go.Lib.hid rq9
      have BQ := Go.Lib.hid b9
      clear hqe e9 rq9 b9 sr
      go_wp2_with fail
      have e9 := E9.out
      have rq9 := RQ.out
      have b9 := BQ.out
      generalize wo.setCell ⟨w.heap.size + 1, 0, none⟩ (.slice A n ca) = w9 at *
      have q0 := e9.c0
      exact bodyPost_ret (v := .agg #[.slice A n ca]) (by simp [results, Try.results13, go_sem, q0]) rfl ⟨_, rfl, ⟨_, _, _, rfl, rq9⟩, b9⟩

end Go.Proofs.Ytfbooapgjhhjmaa.QuWalk
