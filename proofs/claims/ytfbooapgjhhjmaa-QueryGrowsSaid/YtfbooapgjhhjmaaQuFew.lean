/-
  The laws' words of layer 6: few.
-/
import Derived.Test.YtfbooapgjhhjmaaQuRows
import Derived.Deep.DeepCutAuto
namespace Go.Proofs.Ytfbooapgjhhjmaa.QuWalk
open Go.RowKit Go.Proofs.Ytfbooapgjhhjmaa.MemRow Go.Proofs.Ytfbooapgjhhjmaa.Ev Go.Proofs.Ytfbooapgjhhjmaa.NameMath Go.Proofs.Ytfbooapgjhhjmaa.NameWalk Go.Proofs.Ytfbooapgjhhjmaa.EvWalk Go.Proofs.Ytfbooapgjhhjmaa.Qu

/-- At most eight clauses, of eight tags and eight types each. -/
def fewC (c : Cl) : Cl := ⟨c.tags.take 8, c.types.take 8⟩
def fewQ (q : List Cl) : List Cl := (q.take 8).map fewC
theorem fewC_ok {c : Cl} (h : ClOk c) : ClOk (fewC c) := ⟨fun x hx => h.tags x (List.mem_of_mem_take hx), fun x hx => h.types x (List.mem_of_mem_take hx)⟩
theorem fewQ_ok {q : List Cl} (h : QOk q) : QOk (fewQ q) := fun c hc => by
  obtain ⟨d, hd, rfl⟩ := List.mem_map.1 hc
  exact fewC_ok (h d (List.mem_of_mem_take hd))
theorem fewQ_len (q : List Cl) : (fewQ q).length ≤ 8 := by simp only [fewQ, List.length_map, List.length_take]; omega
theorem fewQ_terms (q : List Cl) : ∀ c ∈ fewQ q, c.tags.length ≤ 8 ∧ c.types.length ≤ 8 := fun c hc => by
  obtain ⟨d, hd, rfl⟩ := List.mem_map.1 hc
  simp only [fewC, List.length_take]
  omega
theorem fewQ_snoc (q : List Cl) (j : Nat) (h : j < q.length) (h8 : j < 8) : fewQ (q.take (j + 1)) = fewQ (q.take j) ++ [fewC (q.getD j noCl)] := by
  unfold fewQ
  rw [List.take_take, List.take_take, Nat.min_eq_right (by omega), Nat.min_eq_right (by omega), cl_take q j h, List.map_append]
  rfl
theorem fewQ_take (q : List Cl) (j : Nat) (h : q.length ≤ j ∨ 8 ≤ j) : fewQ (q.take j) = fewQ q := by
  unfold fewQ
  rw [List.take_take]
  rcases h with h | h
  · congr 1
    rcases Nat.le_total 8 j with h8 | h8
    · rw [Nat.min_eq_left h8]
    · rw [Nat.min_eq_right h8, List.take_of_length_le h, List.take_of_length_le (by omega)]
  · rw [Nat.min_eq_left h]

set_option maxHeartbeats 8000000 in
set_option maxRecDepth 100000 in
theorem fewQ_any (v : Value) (q : List Cl) (w0 w : World) (hv : IsQ w0 v q) (hb0 : Below w0.heap.size w0 w) :
    Calls Try.prog 11 #[v] w fun e w' => ∃ A n ca, e = .returned (.agg #[.slice A n ca]) ∧ OwnQ w0 w' (w.heap.size + 1 + 1 + 1) A n ca (fewQ q) ∧ Below w.heap.size w w' := by
  obtain ⟨C, n, cap, rfl, rC⟩ := hv
  have LC := Go.Lib.hid rC.len
  have hn := rC.le
  unfold maxLen at hn
  have s1 := MkAt.new w0 w (.slice C n cap)
  go_enter Try.func11, Try.ntmps11
  go_upto_region 2 with (fail)
  generalize ((w.alloc (.cells #[.slice C n cap] 24)).alloc (.cells #[.slice none 0 0] 24)).alloc (.cells #[.slice none 0 0] 24) = w1 at *
  go_wp2_with fail
  go_loopw [4, 5] (fun i _ wr => ∃ (j : Nat) (A : Option Addr) (ca : Nat), j ≤ n ∧ j ≤ 8 ∧ i = .int .i64 j ∧ MkAt w0 wr w (.slice C n cap) A j ca (fewQ (q.take j))) (fun i _ _ => n - (intOf i).toNat)
  case atStart => exact ⟨0, none, 0, Nat.zero_le _, by omega, rfl, s1⟩
  case round =>
    obtain ⟨j, A, ca, hjn, hj8, rfl, sr⟩ := hrel
    clear s1
    have k0 := sr.eq.c0
    by_cases hlt : j < n ∧ j < 8
    · obtain ⟨h1, h2⟩ := hlt
      obtain ⟨bt, ot, rfl, _, kt⟩ := rC.at_ (by omega)
      obtain ⟨T, nT, cT, Y, nY, cY, x0', x1', rT, rY⟩ := kt j h1
      have x0 := bcell (below_chain hb0 sr.bel) x0'
      have x1 := bcell (below_chain hb0 sr.bel) x1'
      have i1 : (j : Int) < n := by omega
      have i2 : (j : Int) < 8 := by omega
      have HS := Go.Lib.hid (fewQ_snoc q j (by rw [LC.out]; exact h1) h2)
      clear kt x0' x1'
      generalize q.getD j noCl = c at *
      go_upto_region 6 with (fail)
      have al : Below wr.heap.size wr (wr.alloc (.cells #[.slice T nT cT, .slice Y nY cY] 36)) := (Below.refl _ _).alloc (Nat.le_refl _) _
      have c5 := ClAt.new wr (.slice T nT cT) (.slice Y nY cY)
      have s5 := sr.below al
      have glt : w.heap.size + 1 + 1 < wr.heap.size := sr.out.lt
      have gA : ∀ a, A = some a → a.block ≠ wr.heap.size := fun a hA => by
        obtain ⟨cs, o, _, _⟩ := sr.own
        have := (OwnC.lt o a hA).2
        omega
      have GA := Go.Lib.hid gA
      generalize wr.alloc (.cells #[.slice T nT cT, .slice Y nY cY] 36) = w5 at *
      generalize wr.heap.size = g at *
      have LT := Go.Lib.hid rT.len
      have LY := Go.Lib.hid rY.len
      have hnT := RdC.le rT
      have hnY := RdC.le rY
      unfold maxLen at hnT hnY
      clear sr k0 x0 x1 al gA
      have k5 := c5.c0
      go_upto_if 26 with (fail)
      go_cut [5] (fun p wx => p = .pointer (some ⟨g, 0, none⟩) ∧ ∃ nT', ClAt wx g (.slice T nT' cT) (.slice Y nY cY) ∧ RdS w0 T nT' cT (c.tags.take 8) ∧ MkAt w0 wx w (.slice (some ⟨bt, ot, none⟩) n cap) A j ca (fewQ (q.take j)))
      case first =>
        by_cases h8 : 8 < nT
        · obtain ⟨q1, d1⟩ := slice_hi (P := Try.prog) 30 9 Try.underlying30 elem_strs string_size rT (m := 8) (by omega)
          rw [strs_take] at d1
          have q1' : ∀ W, (Instr.slice 30 (.slice T nT cT) none (some (.int .i64 8)) none).run Try.prog W = .ok (.slice T 8 cT) W := q1
          have i3 : (8 : Int) < nT := by omega
          have z5 := c5.frozen 0
          have c6 := c5.set0 (.slice T 8 cT)
          have s6 := s5.far glt GA.out 0 (.slice T 8 cT)
          have C6 := Go.Lib.hid c6
          have S6 := Go.Lib.hid s6
          clear q1 c6 s6
          go_wp2_with fail
          go_meet
          exact ⟨rfl, 8, C6.out, d1, S6.out⟩
        · have i3 : ¬ (8 : Int) < nT := by omega
          have d1 : RdS w0 T nT cT (c.tags.take 8) := by rw [List.take_of_length_le (by rw [LT.out]; omega)]; exact rT
          go_wp2_with fail
          go_meet
          exact ⟨rfl, nT, c5, d1, s5⟩
      case rest =>
        obtain ⟨rfl, nT', c6, d6, s6⟩ := hcut
        clear k5 c5 s5
        have k6 := c6.c1
        go_upto_if 34 with (fail)
        go_cut [5] (fun p wx => p = .pointer (some ⟨g, 0, none⟩) ∧ ∃ nY', ClAt wx g (.slice T nT' cT) (.slice Y nY' cY) ∧ RdS w0 Y nY' cY (c.types.take 8) ∧ MkAt w0 wx w (.slice (some ⟨bt, ot, none⟩) n cap) A j ca (fewQ (q.take j)))
        case first =>
          by_cases h8 : 8 < nY
          · obtain ⟨q1, d1⟩ := slice_hi (P := Try.prog) 30 9 Try.underlying30 elem_strs string_size rY (m := 8) (by omega)
            rw [strs_take] at d1
            have q1' : ∀ W, (Instr.slice 30 (.slice Y nY cY) none (some (.int .i64 8)) none).run Try.prog W = .ok (.slice Y 8 cY) W := q1
            have i3 : (8 : Int) < nY := by omega
            have z5 := c6.frozen 1
            have c7 := c6.set1 (.slice Y 8 cY)
            have s7 := s6.far glt GA.out 1 (.slice Y 8 cY)
            have C7 := Go.Lib.hid c7
            have S7 := Go.Lib.hid s7
            clear q1 c7 s7
            go_wp2_with fail
            go_meet
            exact ⟨rfl, 8, C7.out, d1, S7.out⟩
          · have i3 : ¬ (8 : Int) < nY := by omega
            have d1 : RdS w0 Y nY cY (c.types.take 8) := by rw [List.take_of_length_le (by rw [LY.out]; omega)]; exact rY
            go_wp2_with fail
            go_meet
            exact ⟨rfl, nY, c6, d1, s6⟩
        case rest =>
          obtain ⟨rfl, nY', c7, d7, s7⟩ := hcut
          clear k6 c6 s6
          have k0 := c7.c0
          have k1 := c7.c1
          have o0 := s7.out.c0
          have al : Below wc.heap.size wc (wc.alloc (.cells #[.slice T nT' cT, .slice Y nY' cY] 36)) := (Below.refl _ _).alloc (Nat.le_refl _) _
          have s8 := s7.below al
          have d8 : RdC 2 (wc.alloc (.cells #[.slice T nT' cT, .slice Y nY' cY] 36)) (some ⟨wc.heap.size, 0, none⟩) 1 1 [.slice T nT' cT, .slice Y nY' cY] := RdC.new wc 36 [.slice T nT' cT, .slice Y nY' cY] rfl (by decide)
          have big : w.heap.size + 1 + 1 + 1 ≤ (wc.alloc (.cells #[.slice T nT' cT, .slice Y nY' cY] 36)).heap.size := s8.out.lt
          have h63 : j + 1 ≤ maxLen := by unfold maxLen; omega
          have hsz : (j + 1) * 48 ≤ 140737488355328 := by omega
          obtain ⟨cs, oc, hcl, hcs⟩ := s8.own
          clear s7 c7 GA al LT LY hnT hnY
          go_wp2_with (at_builtin; refine wpList_append_cells rfl (.tmp 40) (.tmp 42) 22 rfl 36 (.agg #[.slice none 0 0, .slice none 0 0]) 48 Try.underlying22 clause_info rfl (by decide) rfl rfl oc d8 (cl_one _ _ _ _ _ _) h63 hsz big ?_; intro A9 c9 w9 o9 g9 _; obtain ⟨z9, k9, n9⟩ := s8.more (c := fewC c) oc hcs d6 d7 o9 g9)
          go_roundw
          case rel => exact ⟨j + 1, A9, c9, by omega, by omega, by go_num, by rw [HS.out]; exact n9⟩
          case measure => simp [intOf]; omega
    · have hq : fewQ (q.take j) = fewQ q := fewQ_take q j (by rw [LC.out]; omega)
      rw [hq] at sr
      have HQ := Go.Lib.hid hq
      have o0 := sr.out.c0
      have r0 := sr.res.c0
      have z0 := sr.res.frozen 0
      have e9 := sr.res.set (.slice A j ca)
      have rq9 : OwnQ w0 (wr.setCell ⟨w.heap.size + 1, 0, none⟩ (.slice A j ca)) (w.heap.size + 1 + 1 + 1) A j ca (fewQ q) :=
        OwnQ.grown sr.own (grownSet wr (w.heap.size + 1) 0 (.slice A j ca)) (by omega)
      have b9 : Below w.heap.size w (wr.setCell ⟨w.heap.size + 1, 0, none⟩ (.slice A j ca)) := sr.bel.setCell (by show w.heap.size ≤ w.heap.size + 1; omega) _
      have E9 := Go.Lib.hid e9
      have RQ := Go.Lib.hid rq9
      have BQ := Go.Lib.hid b9
      clear hq e9 rq9 b9
      by_cases h1 : j < n
      · have i2 : ¬ (j : Int) < 8 := by omega
        have i1 : (j : Int) < n := by omega
        clear hlt
        go_wp2_with fail
        have e9 := E9.out
        have rq9 := RQ.out
        have b9 := BQ.out
        generalize wr.setCell ⟨w.heap.size + 1, 0, none⟩ (.slice A j ca) = w9 at *
        have q0 := e9.c0
        exact bodyPost_ret (v := .agg #[.slice A j ca]) (by simp [results, Try.results11, go_sem, q0]) rfl ⟨_, _, _, rfl, rq9, b9⟩
      · have i1 : ¬ (j : Int) < n := by omega
        clear hlt
        go_wp2_with fail
        have e9 := E9.out
        have rq9 := RQ.out
        have b9 := BQ.out
        generalize wr.setCell ⟨w.heap.size + 1, 0, none⟩ (.slice A j ca) = w9 at *
        have q0 := e9.c0
        exact bodyPost_ret (v := .agg #[.slice A j ca]) (by simp [results, Try.results11, go_sem, q0]) rfl ⟨_, _, _, rfl, rq9, b9⟩

end Go.Proofs.Ytfbooapgjhhjmaa.QuWalk
