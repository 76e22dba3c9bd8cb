/-
  Walk of a statement of layer 6: QueryAll.
-/
import Derived.Test.YtfbooapgjhhjmaaQlCom
namespace Go.Proofs.Ytfbooapgjhhjmaa.QlLaw
open Go.RowKit Go.WideShapes Go.ChangeShapes Go.Proofs.Ytfbooapgjhhjmaa.MemRow Go.Proofs.Ytfbooapgjhhjmaa.Ev Go.Proofs.Ytfbooapgjhhjmaa.NameMath Go.Proofs.Ytfbooapgjhhjmaa.NameWalk Go.Proofs.Ytfbooapgjhhjmaa.EvWalk Go.Proofs.Ytfbooapgjhhjmaa.Qu Go.Proofs.Ytfbooapgjhhjmaa.QuWalk Go.Proofs.Ytfbooapgjhhjmaa.Open

theorem matchQ_all (q : List Cl) (e : Ev) : matchQ (q ++ [noCl]) e = true := by
  unfold matchQ
  rw [List.any_append]
  simp [clause_none]
theorem matchQ_type (s : ByteArray) (e : Ev) : matchQ [⟨[], [s]⟩] e = decide (s = e.t) := by simp [matchQ, clauseB, hasB]
theorem matchQ_tag (s : ByteArray) (e : Ev) : matchQ [⟨[s], []⟩] e = hasB e.tags s := by simp [matchQ, clauseB]

theorem cls_one {w : World} : ∀ (q : List Cl) (cs : List Value), ClsR w q cs → ∀ v ∈ cs, v.oneCell' = true
  | [], cs, h, v, hv => by
    obtain rfl : cs = [] := h
    simp at hv
  | _ :: q, cs, ⟨T, nT, cT, Y, nY, cY, cs', e, _, _, h⟩, v, hv => by
    subst e
    simp only [List.mem_cons] at hv
    rcases hv with rfl | rfl | hv
    · rfl
    · rfl
    · exact cls_one q cs' h v hv
/-- A query of one clause, as a literal lays it. -/
theorem made_one (w : World) (s : ByteArray) (c0 c1 : Value) (c : Cl) (W : World) (hW : W = ((w.alloc (.cells #[.string s] 9)).alloc (.cells #[c0, c1] 36)).alloc (.cells #[.slice (some ⟨w.heap.size + 1, 0, none⟩) 1 1] 24))
    (hc : (c0 = .slice none 0 0 ∧ c1 = .slice (some ⟨w.heap.size, 0, none⟩) 1 1 ∧ c = ⟨[], [s]⟩) ∨ (c0 = .slice (some ⟨w.heap.size, 0, none⟩) 1 1 ∧ c1 = .slice none 0 0 ∧ c = ⟨[s], []⟩)) :
    QAt W (w.heap.size + 1 + 1) (.slice (some ⟨w.heap.size + 1, 0, none⟩) 1 1) ∧ RdQ W (some ⟨w.heap.size + 1, 0, none⟩) 1 1 [c] ∧ Below w.heap.size w W := by
  have b1 : Below w.heap.size w (w.alloc (.cells #[.string s] 9)) := (Below.refl _ _).alloc (Nat.le_refl _) _
  have r1 : RdS (w.alloc (.cells #[.string s] 9)) (some ⟨w.heap.size, 0, none⟩) 1 1 [s] := RdC.new w 9 (MemRow.strs [s]) rfl (by decide)
  generalize hw1 : w.alloc (.cells #[.string s] 9) = w1 at *
  have s1 : w1.heap.size = w.heap.size + 1 := by rw [← hw1]; simp
  have b2 : Below w1.heap.size w1 (w1.alloc (.cells #[c0, c1] 36)) := (Below.refl _ _).alloc (Nat.le_refl _) _
  have a2 := ClAt.new w1 c0 c1
  generalize hw2 : w1.alloc (.cells #[c0, c1] 36) = w2 at *
  have s2 : w2.heap.size = w.heap.size + 1 + 1 := by rw [← hw2]; simp [s1]
  rw [s1] at a2
  have a3 := QAt.new w2 (.slice (some ⟨w.heap.size + 1, 0, none⟩) 1 1)
  have b3 : Below w2.heap.size w2 (w2.alloc (.cells #[.slice (some ⟨w.heap.size + 1, 0, none⟩) 1 1] 24)) := (Below.refl _ _).alloc (Nat.le_refl _) _
  rw [← hW] at a3 b3
  rw [s2] at a3
  have c3 := a2.below b3
  have r3 := RdC.below (RdC.below r1 b2) b3
  refine ⟨a3, ⟨rfl, Nat.le_refl _, by decide, fun _ => ⟨w.heap.size + 1, 0, rfl, c3.lt, fun i hi => ?_⟩⟩, below_chain (below_chain b1 b2) b3⟩
  obtain rfl : i = 0 := by omega
  rcases hc with ⟨rfl, rfl, rfl⟩ | ⟨rfl, rfl, rfl⟩
  · exact ⟨none, 0, 0, _, 1, 1, c3.c0, c3.c1, RdC.nil _, r3⟩
  · exact ⟨_, 1, 1, none, 0, 0, c3.c0, c3.c1, r3, RdC.nil _⟩

set_option maxHeartbeats 8000000 in
set_option maxRecDepth 100000 in
theorem allQ_walk (api : QApi) (v u : Value) (q : List Cl) (ev : Ev) (s : ByteArray) (w : World) (hv : IsQ w v q) (hu : IsEv w u ev) :
    Calls Try.prog 6 #[v, u, .string s] w fun e w' => e = .returned (.bool true) ∧ Below w.heap.size w w' := by
  have hv0 := hv
  obtain ⟨A0, n0, c0, rfl, _⟩ := hv
  obtain ⟨T, nT, cT, F, nF, cF, rfl, rT, rF⟩ := hu
  have hnT := RdC.le rT
  unfold maxLen at hnT
  have LT := Go.Lib.hid (RdS.len rT)
  have s1 := QeAt.new w (.slice A0 n0 c0) (.string ev.s) (.string ev.t) (.slice T nT cT) (.slice F nF cF)
  go_enter Try.func6, Try.ntmps6
  go_wp2_with fail
  generalize (w.alloc (.cells #[.slice A0 n0 c0] 24)).alloc (.cells #[.string ev.s, .string ev.t, .slice T nT cT, .slice F nF cF] 33) = w1 at *
  refine (shownQ_any api _).mono ?_
  rintro e w2 ⟨rfl, b2⟩
  have s2 := s1.below b2
  have k0 := s2.eq.c0
  have hlt2 := s2.ee.lt
  clear s1 b2
  go_wp2_with fail
  refine (fewQ_any _ q w w2 hv0 s2.bel).mono ?_
  rintro e w3 ⟨A3, n3, c3, rfl, o3, b3⟩
  have s3 := s2.below b3
  have k0 := s3.eq.c0
  have z0 := s3.eq.frozen 0
  have s4 := qe_set0 s3 (.slice A3 n3 c3)
  have o4 := ownQ_set (i := 0) (x := .slice A3 n3 c3) o3 (g := w.heap.size) (by omega)
  clear s2 b3 s3 o3
  go_upto_region 3 with (fail)
  generalize w3.setCell ⟨w.heap.size, 0, none⟩ (.slice A3 n3 c3) = w4 at *
  clear k0 z0
  have j2 := s4.ee.c2
  go_upto_if 19 with (fail)
  go_cut [7] (fun hb wx => hb = .bool true ∧ ∃ nT', QeAt wx w (.slice A3 n3 c3) (.string ev.s) (.string ev.t) (.slice T nT' cT) (.slice F nF cF) ∧ RdS w T nT' cT (ev.tags.take 20) ∧ nT' ≤ 20 ∧ OwnQ w wx (w2.heap.size + 1 + 1 + 1) A3 n3 c3 (fewQ q))
  case first =>
    by_cases h20 : 20 < nT
    · obtain ⟨q1, d1⟩ := slice_hi (P := Try.prog) 30 9 Try.underlying30 elem_strs string_size rT (m := 20) (by omega)
      rw [strs_take] at d1
      have q1' : ∀ W, (Instr.slice 30 (.slice T nT cT) none (some (.int .i64 20)) none).run Try.prog W = .ok (.slice T 20 cT) W := q1
      have i1 : (20 : Int) < nT := by omega
      have z2 := s4.ee.frozen 2
      have s5 := qe_set2 s4 (.slice T 20 cT)
      have o5 := ownQ_set (i := 2) (x := .slice T 20 cT) o4 (g := w.heap.size + 1) (by omega)
      have S5 := Go.Lib.hid s5
      have O5 := Go.Lib.hid o5
      clear q1 s5 o5
      go_wp2_with fail
      go_meet
      exact ⟨rfl, 20, S5.out, d1, Nat.le_refl _, O5.out⟩
    · have i1 : ¬ (20 : Int) < nT := by omega
      have d1 : RdS w T nT cT (ev.tags.take 20) := by rw [List.take_of_length_le (by rw [LT.out]; omega)]; exact rT
      go_wp2_with fail
      go_meet
      exact ⟨rfl, nT, s4, d1, by omega, o4⟩
  case rest =>
    obtain ⟨rfl, nT', s5, rT5, hn20, o5⟩ := hcut
    clear s4 o4 j2 hnT LT
    have LT := Go.Lib.hid (RdS.len rT5)
    generalize ev.tags.take 20 = ts at *
    have j2 := s5.ee.c2
    go_wp2_with fail
    go_loopw [8, 9] (fun hb i wr => ∃ (j : Nat) (R : Bool), j ≤ nT' ∧ i = .int .i64 j ∧ hb = .bool R ∧ Hid (hasB (ts.take j) s = R) ∧ wc = wr) (fun _ i _ => nT' - (intOf i).toNat)
    case atStart => exact ⟨0, false, Nat.zero_le _, rfl, rfl, Go.Lib.hid rfl, rfl⟩
    case round =>
      obtain ⟨j, R, hj, rfl, rfl, HQ, rfl⟩ := hrel
      by_cases hlt : j < nT'
      · obtain ⟨bt, ot, rfl, _, kt⟩ := RdS.at_ (RdC.below rT5 s5.bel) (by omega)
        have z0 := kt j hlt
        have i1 : (j : Int) < nT' := by omega
        have HT := Go.Lib.hid (take_get ts j (by rw [LT.out]; exact hlt))
        clear kt
        generalize ts.getD j ByteArray.empty = x at *
        cases R with
        | true =>
          have hq2 : hasB (ts.take (j + 1)) s = true := by
            have h := HQ.out
            unfold hasB at h ⊢
            rw [HT.out, List.any_append, h]
            rfl
          have HQ2 := Go.Lib.hid hq2
          clear hq2
          go_wp2_with fail
          go_roundw
          case rel => exact ⟨j + 1, true, by omega, by go_num, rfl, HQ2, by first | rfl | trivial⟩
          case measure => simp [intOf]; omega
        | false =>
          by_cases hxs : x = s
          · subst hxs
            have hq2 : hasB (ts.take (j + 1)) x = true := by
              unfold hasB
              rw [HT.out, List.any_append]
              simp
            have HQ2 := Go.Lib.hid hq2
            clear hq2
            go_wp2_with fail
            go_roundw
            case rel => exact ⟨j + 1, true, by omega, by go_num, rfl, HQ2, by first | rfl | trivial⟩
            case measure => simp [intOf]; omega
          · have hne := str_ne hxs
            have hq2 : hasB (ts.take (j + 1)) s = false := by
              have h := HQ.out
              unfold hasB at h ⊢
              rw [HT.out, List.any_append, h]
              simp [hxs]
            have HQ2 := Go.Lib.hid hq2
            clear hq2 hxs
            go_wp2_with fail
            go_roundw
            case rel => exact ⟨j + 1, false, by omega, by go_num, rfl, HQ2, by first | rfl | trivial⟩
            case measure => simp [intOf]; omega
      · obtain rfl : j = nT' := by omega
        have hR : hasB ts s = R := by
          have h := HQ.out
          rwa [List.take_of_length_le (by rw [LT.out]; exact Nat.le_refl _)] at h
        have HR := Go.Lib.hid hR
        clear hR HQ
        have hql := fewQ_len q
        have hu1 : IsEv w (.agg #[.string ev.s, .string ev.t, .slice T j cT, .slice F nF cF]) (⟨ev.s, ev.t, ts, ev.fs⟩ : Ev) := ⟨_, _, _, _, _, _, rfl, rT5, rF⟩
        have k0 := s5.eq.c0
        have al : Below wc.heap.size wc (wc.alloc (.cells #[] 36)) := (Below.refl _ _).alloc (Nat.le_refl _) _
        have k0' := bcell al k0
        obtain ⟨cs, oc, hcl, hcs⟩ := o5
        have hn3 : n3 ≤ 8 := by omega
        have o6 : OwnC 2 (wc.alloc (.cells #[] 36)) wc.heap.size 36 (some ⟨wc.heap.size, 0, none⟩) 0 0 [] := OwnC.empty wc 36 (Nat.le_refl _)
        have d6 := RdC.below (OwnC.rd oc) al
        go_upto_region 11 with (first
          | (at_builtin; refine wpList_copy_cells rfl (.tmp 41) (.tmp 43) 22 rfl 36 (.agg #[.slice none 0 0, .slice none 0 0]) 48 Try.underlying22 clause_info rfl (by decide) rfl rfl o6 d6 (cls_one _ _ hcs) (by unfold maxLen; omega) (by omega) al.size al ?_; intro A10 c10 w10 o10 b10; have bc := (Below.refl w10.heap.size w10).alloc (Nat.le_refl _) (.cells #[.slice none 0 0, .slice none 0 0] 36); have o11 := o10.below bc; have d11 : RdC 2 (w10.alloc (.cells #[.slice none 0 0, .slice none 0 0] 36)) (some ⟨w10.heap.size, 0, none⟩) 1 1 [.slice none 0 0, .slice none 0 0] := RdC.new w10 36 [.slice none 0 0, .slice none 0 0] rfl (by decide); have b11 := below_chain b10 bc)
          | (at_builtin; refine wpList_more_cells rfl (.tmp 44) (.tmp 46) 22 rfl 36 (.agg #[.slice none 0 0, .slice none 0 0]) 48 Try.underlying22 clause_info rfl (by decide) rfl rfl o11 d11 (cl_one _ _ _ _ _ _) (by unfold maxLen; omega) (by omega) b11.size b11 ?_; intro A12 c12 w12 o12 b12 g12))
        have oq12 : OwnQ w w12 wc.heap.size A12 (n3 + 1) c12 (fewQ q ++ [noCl]) := ⟨_, o12, by rw [List.length_append, hcl]; rfl, ClsR.snoc (c := noCl) (RdC.nil _) (RdC.nil _) _ _ hcs⟩
        have s12 := s5.below b12
        have al2 : Below w12.heap.size w12 (w12.alloc (.cells #[.slice A12 (n3 + 1) c12] 24)) := (Below.refl _ _).alloc (Nat.le_refl _) _
        have qa := QAt.new w12 (.slice A12 (n3 + 1) c12)
        have s13 := s12.below al2
        have oq13 := oq12.below al2
        generalize w12.alloc (.cells #[.slice A12 (n3 + 1) c12] 24) = w13 at *
        generalize w12.heap.size = ga at *
        clear s5 oc hcs hcl o6 d6 o10 b10 bc o11 d11 b11 o12 b12 g12 oq12 s12 al2 al k0 k0' j2
        go_upto_region 12 with (fail)
        obtain ⟨qb, rqb, bb⟩ := made_one w13 s (.slice none 0 0) (.slice (some ⟨w13.heap.size, 0, none⟩) 1 1) ⟨[], [s]⟩ _ rfl (.inl ⟨rfl, rfl, rfl⟩)
        have s14 := s13.below bb
        have oq14 := oq13.below bb
        have qa14 := qa.below bb
        generalize ((w13.alloc (.cells #[.string s] 9)).alloc (.cells #[.slice none 0 0, .slice (some ⟨w13.heap.size, 0, none⟩) 1 1] 36)).alloc (.cells #[.slice (some ⟨w13.heap.size + 1, 0, none⟩) 1 1] 24) = w14 at *
        generalize w13.heap.size = gb at *
        clear s13 oq13 qa bb
        go_upto_region 13 with (fail)
        obtain ⟨qc, rqc, bc⟩ := made_one w14 s (.slice (some ⟨w14.heap.size, 0, none⟩) 1 1) (.slice none 0 0) ⟨[s], []⟩ _ rfl (.inr ⟨rfl, rfl, rfl⟩)
        have s15 := s14.below bc
        have oq15 := oq14.below bc
        have qa15 := qa14.below bc
        have qb15 := qb.below bc
        have rqb15 := rqb.below bc
        generalize ((w14.alloc (.cells #[.string s] 9)).alloc (.cells #[.slice (some ⟨w14.heap.size, 0, none⟩) 1 1, .slice none 0 0] 36)).alloc (.cells #[.slice (some ⟨w14.heap.size + 1, 0, none⟩) 1 1] 24) = w15 at *
        generalize w14.heap.size = gc at *
        clear s14 oq14 qa14 qb rqb bc
        have b0 : Below w15.heap.size w15 w15.drew := bel_drew (Below.refl _ _)
        have i1 : IsQ w15.drew (.agg #[.slice A12 (n3 + 1) c12]) (fewQ q ++ [noCl]) := ⟨_, _, _, rfl, (OwnQ.rd oq15 s15.bel).below b0⟩
        have i2 : IsQ w15.drew (.agg #[.slice (some ⟨gb + 1, 0, none⟩) 1 1]) [⟨[], [s]⟩] := ⟨_, _, _, rfl, rqb15.below b0⟩
        have i3 : IsQ w15.drew (.agg #[.slice (some ⟨gc + 1, 0, none⟩) 1 1]) [⟨[s], []⟩] := ⟨_, _, _, rfl, rqc.below b0⟩
        have iu := (hu1.below s15.bel).below b0
        have k0 := qa15.c0
        have k1 := qb15.c0
        have k2 := qc.c0
        have l0 := s15.ee.c0
        have l1 := s15.ee.c1
        have l2 := s15.ee.c2
        have l3 := s15.ee.c3
        have B0 := s15.bel
        have M1 := Go.Lib.hid (matchQ_all (fewQ q) ⟨ev.s, ev.t, ts, ev.fs⟩)
        have M2 := Go.Lib.hid (matchQ_type s ⟨ev.s, ev.t, ts, ev.fs⟩)
        have M3 := Go.Lib.hid ((matchQ_tag s ⟨ev.s, ev.t, ts, ev.fs⟩).trans HR.out)
        have hts : ∃ E : Bool, decide (s = ev.t) = E ∧ (ev.t.toList == s.toList) = E := by
          by_cases h : s = ev.t
          · exact ⟨true, decide_eq_true h, by rw [h]; simp⟩
          · exact ⟨false, decide_eq_false h, str_ne (fun e => h e.symm)⟩
        obtain ⟨E, hE1, hE2⟩ := hts
        have M4 : Hid (matchQ [⟨[], [s]⟩] ⟨ev.s, ev.t, ts, ev.fs⟩ = E) := Go.Lib.hid (M2.out.trans hE1)
        clear s15 oq15 qa15 qb15 qc rqb15 rqc hu1 M2 hE1 hql hn3
        go_region_held (fun w' => w'.cell? ⟨ga, 0, none⟩ = some (.slice A12 (n3 + 1) c12) ∧ w'.cell? ⟨gb + 1 + 1, 0, none⟩ = some (.slice (some ⟨gb + 1, 0, none⟩) 1 1) ∧ w'.cell? ⟨gc + 1 + 1, 0, none⟩ = some (.slice (some ⟨gc + 1, 0, none⟩) 1 1) ∧ w'.cell? ⟨w.heap.size + 1, 0, none⟩ = some (.string ev.s) ∧ w'.cell? ⟨w.heap.size + 1, 1, none⟩ = some (.string ev.t) ∧ w'.cell? ⟨w.heap.size + 1, 2, none⟩ = some (.slice T j cT) ∧ w'.cell? ⟨w.heap.size + 1, 3, none⟩ = some (.slice F nF cF))
          (first | exact ⟨k0, k1, k2, l0, l1, l2, l3⟩ | exact ⟨bcell b20 k0, bcell b20 k1, bcell b20 k2, bcell b20 l0, bcell b20 l1, bcell b20 l2, bcell b20 l3⟩ | exact ⟨bcell b21 k0, bcell b21 k1, bcell b21 k2, bcell b21 l0, bcell b21 l1, bcell b21 l2, bcell b21 l3⟩ | exact ⟨bcell b22 k0, bcell b22 k1, bcell b22 k2, bcell b22 l0, bcell b22 l1, bcell b22 l2, bcell b22 l3⟩)
          (first
            | (go_at_call 18; refine (api.mtch _ _ [⟨[s], []⟩] ⟨ev.s, ev.t, ts, ev.fs⟩ w21 (i3.below d21) (iu.below d21)).mono ?_; rintro e w22 ⟨rfl, bb⟩; rw [M3.out]; have b22 := below_chain b21 bb; clear bb)
            | (go_at_call 18; refine (api.mtch _ _ [⟨[], [s]⟩] ⟨ev.s, ev.t, ts, ev.fs⟩ w20 (i2.below d20) (iu.below d20)).mono ?_; rintro e w21 ⟨rfl, bb⟩; rw [M4.out]; have d21 := below_chain d20 bb; have b21 := below_chain b20 bb; clear bb)
            | (go_at_call 18; refine (api.mtch _ _ (fewQ q ++ [noCl]) ⟨ev.s, ev.t, ts, ev.fs⟩ w15.drew i1 iu).mono ?_; rintro e w20 ⟨rfl, d20⟩; rw [M1.out]; have b20 := below_chain b0 d20))
        all_goals go_wp2_with fail
        all_goals go_ret
        all_goals exact ⟨by simp, below_chain B0 b22⟩

section
variable {H : Type} {enc : TypeId × Value → H}
set_option maxRecDepth 100000 in
theorem all_main' (api : QApi) (W : World) (base : Nat) (v0 v1 v2 : Value) {d0 d1 d2 : DataW H} {p0 p1 p2 : List MemPlace} (o0 : Value.okWide Try.prog W .any base 24 v0) (o1 : Value.okWide Try.prog W .any base 33 v1) (o2 : Value.okWide Try.prog W .any base 9 v2)
    (h0 : DataW.Trod enc Try.prog W 0 (fun _ => true) true 24 v0 d0 p0) (h1 : DataW.Trod enc Try.prog W 0 (fun _ => true) true 33 v1 d1 p1) (h2 : DataW.Trod enc Try.prog W 0 (fun _ => true) true 9 v2 d2 p2) :
    Calls Try.prog 6 #[v0, v1, v2] W fun e W' => e = .returned (.bool true) ∧ Below W.heap.size W W' := by
  obtain ⟨q, hv, _⟩ := op_query o0 h0
  obtain ⟨ev, hu, _⟩ := op_event o1 h1
  obtain ⟨s, rfl, _⟩ := op_string Try.underlying9 o2 h2
  exact allQ_walk api v0 v1 q ev s W hv hu
end

end Go.Proofs.Ytfbooapgjhhjmaa.QlLaw
