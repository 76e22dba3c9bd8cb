/-
  Walk of a statement of layer 6: QueryParts.
-/
import Derived.Test.YtfbooapgjhhjmaaQlCom
namespace Go.Proofs.Ytfbooapgjhhjmaa.QlLaw
open Go.RowKit Go.WideShapes Go.ChangeShapes Go.Proofs.Ytfbooapgjhhjmaa.MemRow Go.Proofs.Ytfbooapgjhhjmaa.Ev Go.Proofs.Ytfbooapgjhhjmaa.NameMath Go.Proofs.Ytfbooapgjhhjmaa.NameWalk Go.Proofs.Ytfbooapgjhhjmaa.EvWalk Go.Proofs.Ytfbooapgjhhjmaa.Qu Go.Proofs.Ytfbooapgjhhjmaa.QuWalk Go.Proofs.Ytfbooapgjhhjmaa.Open

def tagsOk (c : Cl) (e : Ev) : Bool := c.tags.all fun x => hasB e.tags x
def typesOk (c : Cl) (e : Ev) : Bool := decide (c.types = []) || hasB c.types e.t
theorem match_one (c : Cl) (e : Ev) : matchQ [c] e = (tagsOk c e && typesOk c e) := by simp [matchQ, clauseB, tagsOk, typesOk]
theorem match_tags (c : Cl) (e : Ev) : matchQ [⟨c.tags, []⟩] e = tagsOk c e := by simp [matchQ, clauseB, tagsOk]
theorem match_types (c : Cl) (e : Ev) : matchQ [⟨[], c.types⟩] e = typesOk c e := by simp [matchQ, clauseB, typesOk]
theorem match_snoc (q : List Cl) (e : Ev) (j : Nat) (h : j < q.length) : matchQ (q.take (j + 1)) e = (matchQ (q.take j) e || (tagsOk (q.getD j noCl) e && typesOk (q.getD j noCl) e)) := by
  rw [← match_one, cl_take q j h]
  unfold matchQ
  rw [List.any_append]

/-- v[i:i+1] of clauses. -/
theorem slice_one {b o n cap i : Nat} (h : i < n) (hc : n ≤ cap) (W : World) :
    (Instr.slice 22 (.slice (some ⟨b, o, none⟩) n cap) (some (.int .i64 (i : Int))) (some (.int .i64 ((i : Int) + 1))) none).run Try.prog W = .ok (.slice (some ⟨b, o + i * 2, none⟩) 1 (cap - i)) W := by
  have hu : Try.prog.underlying 22 = some (.slice (Try.prog.elem 22)) := by rw [elem_clauses]; exact Try.underlying22
  rw [run_slice_lh (P := Try.prog) W 22 _ n cap hu .i64 .i64 (i : Int) ((i : Int) + 1) (by omega) (by omega) (by omega), elem_clauses, run_size clause_size]
  have e1 : ((i : Int) + 1).toNat = i + 1 := by omega
  simp only [Result.andThen, sliced, Int.toNat_natCast, e1]
  rw [if_neg (by omega)]
  simp [Addr.add]

/-- A row of one clause, as a literal lays it. -/
theorem row_one (w : World) {T Y : Option Addr} {nT cT nY cY : Nat} {c : Cl} (W : World) (hW : W = (w.alloc (.cells #[.slice T nT cT, .slice Y nY cY] 36)).drew) (rT : RdS w T nT cT c.tags) (rY : RdS w Y nY cY c.types) : RdQ W (some ⟨w.heap.size, 0, none⟩) 1 1 [c] ∧ Below w.heap.size w W := by
  have al : Below w.heap.size w W := by rw [hW]; exact bel_drew ((Below.refl _ _).alloc (Nat.le_refl _) _)
  have a1 : ClAt W w.heap.size (.slice T nT cT) (.slice Y nY cY) := by rw [hW]; exact ClAt.new w _ _
  refine ⟨⟨rfl, Nat.le_refl _, by decide, fun _ => ⟨w.heap.size, 0, rfl, a1.lt, fun i hi => ?_⟩⟩, al⟩
  obtain rfl : i = 0 := by omega
  exact ⟨T, nT, cT, Y, nY, cY, a1.c0, a1.c1, RdC.below rT al, RdC.below rY al⟩

set_option maxHeartbeats 8000000 in
set_option maxRecDepth 100000 in
theorem parts_walk (api : QApi) (v u : Value) (q : List Cl) (ev : Ev) (w : World) (hv : IsQ w v q) (hu : IsEv w u ev) :
    Calls Try.prog 8 #[v, u] w fun e w' => e = .returned (.bool true) ∧ Below w.heap.size w w' := by
  have hv0 := hv
  obtain ⟨A0, n0, c0, rfl, _⟩ := hv
  obtain ⟨T, nT, cT, F, nF, cF, rfl, rT, rF⟩ := hu
  have hnT := RdC.le rT
  unfold maxLen at hnT
  have LT := Go.Lib.hid (RdS.len rT)
  have s1 := QeAt.new w (.slice A0 n0 c0) (.string ev.s) (.string ev.t) (.slice T nT cT) (.slice F nF cF)
  go_enter Try.func8, Try.ntmps8
  go_wp2_with fail
  generalize (w.alloc (.cells #[.slice A0 n0 c0] 24)).alloc (.cells #[.string ev.s, .string ev.t, .slice T nT cT, .slice F nF cF] 33) = w1 at *
  refine (shownQ_any api _).mono ?_
  rintro e w2 ⟨rfl, b2⟩
  have s2 := s1.below b2
  have k0 := s2.eq.c0
  have hlt2 := s2.ee.lt
  clear s1 b2
  go_wp2_with fail
  refine (fewQ_any _ q w w2 hv0 s2.bel).mono ?_
  rintro e w3 ⟨A3, n3, c3, rfl, o3, b3⟩
  have s3 := s2.below b3
  have k0 := s3.eq.c0
  have z0 := s3.eq.frozen 0
  have s4 := qe_set0 s3 (.slice A3 n3 c3)
  have o4 := ownQ_set (i := 0) (x := .slice A3 n3 c3) o3 (g := w.heap.size) (by omega)
  clear s2 b3 s3 o3
  go_upto_region 3 with (fail)
  generalize w3.setCell ⟨w.heap.size, 0, none⟩ (.slice A3 n3 c3) = w4 at *
  clear k0 z0
  have j2 := s4.ee.c2
  go_upto_if 17 with (fail)
  go_cut [5] (fun hb wx => hb = .bool true ∧ ∃ nT', QeAt wx w (.slice A3 n3 c3) (.string ev.s) (.string ev.t) (.slice T nT' cT) (.slice F nF cF) ∧ RdS w T nT' cT (ev.tags.take 20) ∧ nT' ≤ 20 ∧ OwnQ w wx (w2.heap.size + 1 + 1 + 1) A3 n3 c3 (fewQ q))
  case first =>
    by_cases h20 : 20 < nT
    · obtain ⟨q1, d1⟩ := slice_hi (P := Try.prog) 30 9 Try.underlying30 elem_strs string_size rT (m := 20) (by omega)
      rw [strs_take] at d1
      have q1' : ∀ W, (Instr.slice 30 (.slice T nT cT) none (some (.int .i64 20)) none).run Try.prog W = .ok (.slice T 20 cT) W := q1
      have i1 : (20 : Int) < nT := by omega
      have z2 := s4.ee.frozen 2
      have s5 := qe_set2 s4 (.slice T 20 cT)
      have o5 := ownQ_set (i := 2) (x := .slice T 20 cT) o4 (g := w.heap.size + 1) (by omega)
      have S5 := Go.Lib.hid s5
      have O5 := Go.Lib.hid o5
      clear q1 s5 o5
      go_wp2_with fail
      go_meet
      exact ⟨rfl, 20, S5.out, d1, Nat.le_refl _, O5.out⟩
    · have i1 : ¬ (20 : Int) < nT := by omega
      have d1 : RdS w T nT cT (ev.tags.take 20) := by rw [List.take_of_length_le (by rw [LT.out]; omega)]; exact rT
      go_wp2_with fail
      go_meet
      exact ⟨rfl, nT, s4, d1, by omega, o4⟩
  case rest =>
    obtain ⟨rfl, nT', s5, rT5, hn20, o5⟩ := hcut
    clear s4 o4 j2 hnT LT
    generalize ev.tags.take 20 = ts at *
    have hu1 : IsEv w (.agg #[.string ev.s, .string ev.t, .slice T nT' cT, .slice F nF cF]) (⟨ev.s, ev.t, ts, ev.fs⟩ : Ev) := ⟨_, _, _, _, _, _, rfl, rT5, rF⟩
    have hql := fewQ_len q
    have LQ := Go.Lib.hid o5.len
    have hn8 : n3 ≤ 8 := by rw [← LQ.out]; exact hql
    have hcap3 := (OwnQ.rd o5 s5.bel).2.1
    have hmax3 := (OwnQ.rd o5 s5.bel).2.2.1
    unfold maxLen at hmax3
    clear hql
    generalize fewQ q = fq at *
    have ee : ∃ ee : Ev, ee = ⟨ev.s, ev.t, ts, ev.fs⟩ := ⟨_, rfl⟩
    obtain ⟨ee, hee⟩ := ee
    rw [← hee] at hu1
    clear hee
    go_wp2_with fail
    go_loopw [6, 7, 8, 9, 10] (fun sv i _ _ _ wr => ∃ (j : Nat) (R : Bool), j ≤ n3 ∧ i = .int .i64 j ∧ sv = .bool R ∧ Hid (matchQ (fq.take j) ee = R) ∧ QeAt wr w (.slice A3 n3 c3) (.string ev.s) (.string ev.t) (.slice T nT' cT) (.slice F nF cF) ∧ OwnQ w wr (w2.heap.size + 1 + 1 + 1) A3 n3 c3 fq) (fun _ i _ _ _ _ => n3 - (intOf i).toNat)
    case atStart => exact ⟨0, false, Nat.zero_le _, rfl, rfl, Go.Lib.hid rfl, s5, o5⟩
    case round =>
      obtain ⟨j, R, hj, rfl, rfl, HQ, sr, orr⟩ := hrel
      clear s5 o5
      have k0 := sr.eq.c0
      have l0 := sr.ee.c0
      have l1 := sr.ee.c1
      have l2 := sr.ee.c2
      have l3 := sr.ee.c3
      by_cases hlt : j < n3
      · obtain ⟨bt, ot, rfl, _, kt⟩ := (OwnQ.rd orr sr.bel).at_ (by omega)
        obtain ⟨U, nU, cU, Y, nY, cY, x0, x1, rU, rY⟩ := kt j hlt
        have hjl : j < fq.length := by rw [LQ.out]; exact hlt
        have HS := Go.Lib.hid (match_snoc fq ee j hjl)
        have i1 : (j : Int) < n3 := by omega
        have u1 : IntKind.i64.wrap ((j : Int) + 1) = (j : Int) + 1 := IntWalk.i64_in _ (by omega)
        clear kt hjl
        generalize fq.getD j noCl = c at *
        have M1 := Go.Lib.hid (match_one c ee)
        have M2 := Go.Lib.hid (match_tags c ee)
        have M3 := Go.Lib.hid (match_types c ee)
        generalize tagsOk c ee = tg at *
        generalize typesOk c ee = ty at *
        have qs := fun W => slice_one (b := bt) (o := ot) (i := j) (n := n3) (cap := c3) hlt hcap3 W
        have b0 : Below wr.heap.size wr wr.drew := bel_drew (Below.refl _ _)
        have rq1 : RdQ wr.drew (some ⟨bt, ot + j * 2, none⟩) 1 (c3 - j) [c] := RdQ.below ⟨rfl, by omega, by unfold maxLen; omega, fun _ => ⟨bt, ot + j * 2, rfl, World.block_lt_of_cell? wr _ x0, fun i hi => by
          obtain rfl : i = 0 := by omega
          exact ⟨U, nU, cU, Y, nY, cY, x0, x1, rU, rY⟩⟩⟩ b0
        have iu0 := (hu1.below sr.bel).below b0
        go_wp2_with fail
        go_region_held (fun w' => w'.cell? ⟨w.heap.size, 0, none⟩ = some (.slice (some ⟨bt, ot, none⟩) n3 c3) ∧ w'.cell? ⟨w.heap.size + 1, 0, none⟩ = some (.string ev.s) ∧ w'.cell? ⟨w.heap.size + 1, 1, none⟩ = some (.string ev.t) ∧ w'.cell? ⟨w.heap.size + 1, 2, none⟩ = some (.slice T nT' cT) ∧ w'.cell? ⟨w.heap.size + 1, 3, none⟩ = some (.slice F nF cF))
          (first | exact ⟨k0, l0, l1, l2, l3⟩ | exact ⟨bcell b9 k0, bcell b9 l0, bcell b9 l1, bcell b9 l2, bcell b9 l3⟩)
          (first | (go_at_call 18; refine (api.mtch _ _ [c] ee wr.drew ⟨_, _, _, rfl, rq1⟩ iu0).mono ?_; rintro e w9 ⟨rfl, bb⟩; rw [M1.out]; have b9 := below_chain b0 bb; clear bb))
        have X0 := bcell b9 x0
        have X1 := bcell b9 x1
        rename_i hHeld
        obtain ⟨k0', l0', l1', l2', l3'⟩ := hHeld
        have r9 := row_one w9 (c := ⟨c.tags, []⟩) _ rfl (RdC.below rU b9) (RdC.nil _)
        have iu9 := ((hu1.below sr.bel).below b9).below r9.2
        have rq9 := r9.1
        have b10 := below_chain b9 r9.2
        clear r9 qs iu0 rq1
        go_wp2_with fail
        go_region_held (fun w' => w'.cell? ⟨w.heap.size, 0, none⟩ = some (.slice (some ⟨bt, ot, none⟩) n3 c3) ∧ w'.cell? ⟨w.heap.size + 1, 0, none⟩ = some (.string ev.s) ∧ w'.cell? ⟨w.heap.size + 1, 1, none⟩ = some (.string ev.t) ∧ w'.cell? ⟨w.heap.size + 1, 2, none⟩ = some (.slice T nT' cT) ∧ w'.cell? ⟨w.heap.size + 1, 3, none⟩ = some (.slice F nF cF) ∧ w'.cell? ⟨bt, ot + j * 2, none⟩ = some (.slice U nU cU) ∧ w'.cell? ⟨bt, ot + j * 2 + 1, none⟩ = some (.slice Y nY cY))
          (first | exact ⟨k0', l0', l1', l2', l3', X0, X1⟩ | exact ⟨bcell b10 k0, bcell b10 l0, bcell b10 l1, bcell b10 l2, bcell b10 l3, bcell b10 x0, bcell b10 x1⟩ | exact ⟨bcell b11 k0, bcell b11 l0, bcell b11 l1, bcell b11 l2, bcell b11 l3, bcell b11 x0, bcell b11 x1⟩)
          (first | (go_at_call 18; refine (api.mtch _ _ [⟨c.tags, []⟩] ee _ ⟨_, _, _, rfl, rq9⟩ iu9).mono ?_; rintro e w11 ⟨rfl, bb⟩; rw [M2.out]; have b11 := below_chain b10 bb; clear bb))
        rename_i hHeld
        obtain ⟨k1', l0'', l1'', l2'', l3'', Y0, Y1⟩ := hHeld
        have r11 := row_one w11 (c := ⟨[], c.types⟩) _ rfl (RdC.nil _) (RdC.below rY b11)
        have iu11 := ((hu1.below sr.bel).below b11).below r11.2
        have rq11 := r11.1
        have b12 := below_chain b11 r11.2
        clear r11 iu9 rq9 k0' l0' l1' l2' l3' X0 X1
        go_wp2_with fail
        go_region_held (fun w' => w'.cell? ⟨w.heap.size, 0, none⟩ = some (.slice (some ⟨bt, ot, none⟩) n3 c3) ∧ w'.cell? ⟨w.heap.size + 1, 0, none⟩ = some (.string ev.s) ∧ w'.cell? ⟨w.heap.size + 1, 1, none⟩ = some (.string ev.t) ∧ w'.cell? ⟨w.heap.size + 1, 2, none⟩ = some (.slice T nT' cT) ∧ w'.cell? ⟨w.heap.size + 1, 3, none⟩ = some (.slice F nF cF) ∧ w'.cell? ⟨bt, ot + j * 2, none⟩ = some (.slice U nU cU) ∧ w'.cell? ⟨bt, ot + j * 2 + 1, none⟩ = some (.slice Y nY cY))
          (first | exact ⟨k1', l0'', l1'', l2'', l3'', Y0, Y1⟩ | exact ⟨bcell b12 k0, bcell b12 l0, bcell b12 l1, bcell b12 l2, bcell b12 l3, bcell b12 x0, bcell b12 x1⟩ | exact ⟨bcell b13 k0, bcell b13 l0, bcell b13 l1, bcell b13 l2, bcell b13 l3, bcell b13 x0, bcell b13 x1⟩)
          (first | (go_at_call 18; refine (api.mtch _ _ [⟨[], c.types⟩] ee _ ⟨_, _, _, rfl, rq11⟩ iu11).mono ?_; rintro e w13 ⟨rfl, bb⟩; rw [M3.out]; have b13 := below_chain b12 bb; clear bb))
        have s13 := sr.below b13
        have o13 := orr.below b13
        have HQ' : Hid (matchQ (fq.take (j + 1)) ee = (R || (tg && ty))) := Go.Lib.hid (by rw [HS.out, HQ.out])
        have S13 := Go.Lib.hid s13
        have O13 := Go.Lib.hid o13
        clear s13 o13 HS HQ iu11 rq11
        have hj1' : j + 1 ≤ n3 := hlt
        clear hlt i1 M1 M2 M3 sr orr b0 x0 x1 rU rY hu1 b9 b10 b11 b12 b13 k0 l0 l1 l2 l3 k1' l0'' l1'' l2'' l3'' Y0 Y1
        cases tg <;> cases ty <;> cases R
        all_goals go_wp2_with fail
        all_goals go_roundw
        all_goals first
          | exact ⟨j + 1, _, hj1', by go_num, rfl, HQ', S13.out, O13.out⟩
          | (simp [intOf]; omega)
          | trace_state
      · obtain rfl : j = n3 := by omega
        have i1 : ¬ (j : Int) < j := by omega
        have HR : matchQ fq ee = R := by
          have h := HQ.out
          rwa [List.take_of_length_le (by rw [LQ.out]; exact Nat.le_refl _)] at h
        have HRR := Go.Lib.hid HR
        have iq := OwnQ.isq orr sr.bel
        have iu := hu1.below sr.bel
        have B0 := sr.bel
        clear HQ HR sr orr hu1 hlt
        go_wp2_with fail
        refine (api.mtch _ _ fq ee wr iq iu).mono ?_
        rintro e w9 ⟨rfl, bb⟩
        rw [HRR.out]
        have b9 := below_chain (Below.refl wr.heap.size wr) bb
        clear bb
        all_goals go_wp2_with fail
        all_goals go_ret
        all_goals exact ⟨by simp, below_chain B0 b9⟩

section
variable {H : Type} {enc : TypeId × Value → H}
set_option maxRecDepth 100000 in
theorem parts_main' (api : QApi) (W : World) (base : Nat) (v0 v1 : Value) {d0 d1 : DataW H} {p0 p1 : List MemPlace} (o0 : Value.okWide Try.prog W .any base 24 v0) (o1 : Value.okWide Try.prog W .any base 33 v1)
    (h0 : DataW.Trod enc Try.prog W 0 (fun _ => true) true 24 v0 d0 p0) (h1 : DataW.Trod enc Try.prog W 0 (fun _ => true) true 33 v1 d1 p1) :
    Calls Try.prog 8 #[v0, v1] W fun e W' => e = .returned (.bool true) ∧ Below W.heap.size W W' := by
  obtain ⟨q, hv, _⟩ := op_query o0 h0
  obtain ⟨ev, hu, _⟩ := op_event o1 h1
  exact parts_walk api v0 v1 q ev W hv hu
end

end Go.Proofs.Ytfbooapgjhhjmaa.QlLaw
