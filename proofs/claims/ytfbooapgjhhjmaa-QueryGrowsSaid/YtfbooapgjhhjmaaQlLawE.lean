/-
  Walk of a statement of layer 6: QueryMatches.
-/
import Derived.Test.YtfbooapgjhhjmaaQlCom
import Derived.Test.YtfbooapgjhhjmaaQlMath
import Derived.Deep.RegionLaw
namespace Go.Proofs.Ytfbooapgjhhjmaa.QlLaw
open Go.RowKit Go.WideShapes Go.ChangeShapes Go.Proofs.Ytfbooapgjhhjmaa.MemRow Go.Proofs.Ytfbooapgjhhjmaa.Ev Go.Proofs.Ytfbooapgjhhjmaa.NameMath Go.Proofs.Ytfbooapgjhhjmaa.NameWalk Go.Proofs.Ytfbooapgjhhjmaa.EvWalk Go.Proofs.Ytfbooapgjhhjmaa.Qu Go.Proofs.Ytfbooapgjhhjmaa.QuWalk Go.Proofs.Ytfbooapgjhhjmaa.Open

theorem drop_revQ (l : List Cl) (j : Nat) (h : j < l.length) : (l.drop j).reverse = (l.drop (j + 1)).reverse ++ [l.getD j noCl] := by
  rw [List.drop_eq_getElem_cons h, List.reverse_cons]
  simp [List.getD, List.getElem?_eq_getElem h]

/-- What stands while clauses are laid into a query's box of the walk's own. -/
structure BkAt (w wr wn : World) (B : Option Addr) (nB cB : Nat) (r : List Cl) : Prop where
  bb : QAt wr wn.heap.size (.slice B nB cB)
  ow : OwnQ w wr (wn.heap.size + 1) B nB cB r
  bel : Below wn.heap.size wn wr
section
variable {w wr wn w' : World} {nB cB : Nat} {B : Option Addr} {r : List Cl}
theorem BkAt.below (h : BkAt w wr wn B nB cB r) (hb : Below wr.heap.size wr w') : BkAt w w' wn B nB cB r := ⟨h.bb.below hb, h.ow.below hb, below_chain h.bel hb⟩
theorem BkAt.new (w wn : World) : BkAt w (wn.alloc (.cells #[.slice none 0 0] 24)) wn none 0 0 [] := ⟨QAt.new wn _, OwnQ.nil _ _ _, (Below.refl _ _).alloc (Nat.le_refl _) _⟩
/-- A clause is appended, and the query's cell is written. -/
theorem BkAt.more {cs : List Value} {c : Cl} {T Y : Option Addr} {nT cT nY cY : Nat} {B' : Option Addr} {cB' : Nat} {w8 : World} (h : BkAt w wr wn B nB cB r) (ho : OwnC 2 wr (wn.heap.size + 1) 36 B nB cB cs) (hc : ClsR w r cs) (o1 : RdS w T nT cT c.tags) (o2 : RdS w Y nY cY c.types)
    (ho8 : OwnC 2 w8 (wn.heap.size + 1) 36 B' (nB + 1) cB' (cs ++ [.slice T nT cT, .slice Y nY cY])) (hg : wr.grownBy w8 (B.map (·.block))) :
    w8.frozen? ⟨wn.heap.size, 0, none⟩ = false ∧ w8.cell? ⟨wn.heap.size, 0, none⟩ = some (.slice B nB cB) ∧ BkAt w (w8.setCell ⟨wn.heap.size, 0, none⟩ (.slice B' (nB + 1) cB')) wn B' (nB + 1) cB' (r ++ [c]) := by
  have low : ∀ r, B.map (·.block) = some r → wn.heap.size + 1 ≤ r := fun r e => by
    cases B with
    | none => cases e
    | some a =>
      simp only [Option.map_some, Option.some.injEq] at e
      have := (OwnC.lt ho a rfl).1
      omega
  have hF : ∀ k, k < wn.heap.size + 1 → some k ≠ B.map (·.block) := fun k hk e => by have := low k e.symm; omega
  have e8 := h.bb.grown hg (hF _ (by omega))
  have hs := grownSet w8 wn.heap.size 0 (.slice B' (nB + 1) cB')
  refine ⟨e8.frozen 0, e8.c0, e8.set _, OwnQ.grown (OwnQ.more h.ow.len hc o1 o2 ho8) hs (by omega), ?_⟩
  have b8 := h.bel.grown hg h.bel.size (fun r e => by have := low r e; omega)
  exact b8.setCell (Nat.le_refl _) _
end

/-- A clause of a slice of the walk's own, its rows as the first world has them. -/
theorem ownQ_at {w wr : World} {base : Nat} {A : Option Addr} {n cap : Nat} {q : List Cl} (h : OwnQ w wr base A n cap q) {i : Nat} (hi : i < n) :
    ∃ b o T nT cT Y nY cY, A = some ⟨b, o, none⟩ ∧ wr.cell? ⟨b, o + i * 2, none⟩ = some (.slice T nT cT) ∧ wr.cell? ⟨b, o + i * 2 + 1, none⟩ = some (.slice Y nY cY) ∧ RdS w T nT cT (q.getD i noCl).tags ∧ RdS w Y nY cY (q.getD i noCl).types := by
  obtain ⟨cs, o, hl, hc⟩ := h
  have r := OwnC.rd o
  obtain ⟨b, a, hA, _, hcell⟩ := RdC.at_ r (by omega) (by omega)
  obtain ⟨T, nT, cT, Y, nY, cY, q0, q1, p1, p2⟩ := ClsR.at_ q cs hc i (by omega)
  exact ⟨b, a, T, nT, cT, Y, nY, cY, hA, hcell _ _ q0, by rw [Nat.add_assoc]; exact hcell _ _ q1, p1, p2⟩
theorem normQ_ok {q : List Cl} (h : QOk q) : QOk (normQ q) := fun c hc => by
  obtain ⟨d, hd, rfl⟩ := List.mem_map.1 hc
  exact ⟨fun x hx => (h d hd).tags x ((normTags_mem _ x).1 hx), fun x hx => (h d hd).types x ((normTags_mem _ x).1 hx)⟩
theorem normQ_terms {q : List Cl} {m : Nat} (h : ∀ c ∈ q, c.tags.length ≤ m ∧ c.types.length ≤ m) : ∀ c ∈ normQ q, c.tags.length ≤ m ∧ c.types.length ≤ m := fun c hc => by
  obtain ⟨d, hd, rfl⟩ := List.mem_map.1 hc
  have := h d hd
  exact ⟨Nat.le_trans (normTags_len _) this.1, Nat.le_trans (normTags_len _) this.2⟩

theorem same_true (api : QApi) (v u : Value) (q r : List Cl) (w : World) (hv : IsQ w v q) (hu : IsQ w u r) (hqr : q = r) : Calls Try.prog 17 #[v, u] w fun e w' => e = .returned (.bool true) ∧ Below w.heap.size w w' := by
  refine (api.same v u q r w hv hu).mono ?_
  rintro e w' ⟨R, hR, rfl, b⟩
  exact ⟨by rw [hR.2 hqr], b⟩

set_option maxHeartbeats 8000000 in
set_option maxRecDepth 100000 in
theorem matches_walk (api : QApi) (v u : Value) (q : List Cl) (ev : Ev) (w : World) (hv : IsQ w v q) (hu : IsEv w u ev) (okq : QOk q) :
    Calls Try.prog 4 #[v, u] w fun e w' => e = .returned (.bool true) ∧ Below w.heap.size w w' := by
  have hv0 := hv
  obtain ⟨A0, n0, c0, rfl, _⟩ := hv
  obtain ⟨T, nT, cT, F, nF, cF, rfl, rT, rF⟩ := hu
  have hnT := RdC.le rT
  unfold maxLen at hnT
  have LT := Go.Lib.hid (RdS.len rT)
  have s1 := QeAt.new w (.slice A0 n0 c0) (.string ev.s) (.string ev.t) (.slice T nT cT) (.slice F nF cF)
  go_enter Try.func4, Try.ntmps4
  go_wp2_with fail
  generalize (w.alloc (.cells #[.slice A0 n0 c0] 24)).alloc (.cells #[.string ev.s, .string ev.t, .slice T nT cT, .slice F nF cF] 33) = w1 at *
  refine (shownQ_any api _).mono ?_
  rintro e w2 ⟨rfl, b2⟩
  have s2 := s1.below b2
  have k0 := s2.eq.c0
  have hlt2 := s2.ee.lt
  clear s1 b2
  go_wp2_with fail
  refine (fewQ_any _ q w w2 hv0 s2.bel).mono ?_
  rintro e w3 ⟨A3, n3, c3, rfl, o3, b3⟩
  have s3 := s2.below b3
  have k0 := s3.eq.c0
  have z0 := s3.eq.frozen 0
  have s4 := qe_set0 s3 (.slice A3 n3 c3)
  have o4 := ownQ_set (i := 0) (x := .slice A3 n3 c3) o3 (g := w.heap.size) (by omega)
  clear s2 b3 s3 o3
  go_upto_region 3 with (fail)
  generalize w3.setCell ⟨w.heap.size, 0, none⟩ (.slice A3 n3 c3) = w4 at *
  clear k0 z0
  have j2 := s4.ee.c2
  go_upto_if 16 with (fail)
  go_cut [5] (fun hb wx => hb = .bool true ∧ ∃ nT', QeAt wx w (.slice A3 n3 c3) (.string ev.s) (.string ev.t) (.slice T nT' cT) (.slice F nF cF) ∧ RdS w T nT' cT (ev.tags.take 20) ∧ nT' ≤ 20 ∧ OwnQ w wx (w2.heap.size + 1 + 1 + 1) A3 n3 c3 (fewQ q))
  case first =>
    by_cases h20 : 20 < nT
    · obtain ⟨q1, d1⟩ := slice_hi (P := Try.prog) 30 9 Try.underlying30 elem_strs string_size rT (m := 20) (by omega)
      rw [strs_take] at d1
      have q1' : ∀ W, (Instr.slice 30 (.slice T nT cT) none (some (.int .i64 20)) none).run Try.prog W = .ok (.slice T 20 cT) W := q1
      have i1 : (20 : Int) < nT := by omega
      have z2 := s4.ee.frozen 2
      have s5 := qe_set2 s4 (.slice T 20 cT)
      have o5 := ownQ_set (i := 2) (x := .slice T 20 cT) o4 (g := w.heap.size + 1) (by omega)
      have S5 := Go.Lib.hid s5
      have O5 := Go.Lib.hid o5
      clear q1 s5 o5
      go_wp2_with fail
      go_meet
      exact ⟨rfl, 20, S5.out, d1, Nat.le_refl _, O5.out⟩
    · have i1 : ¬ (20 : Int) < nT := by omega
      have d1 : RdS w T nT cT (ev.tags.take 20) := by rw [List.take_of_length_le (by rw [LT.out]; omega)]; exact rT
      go_wp2_with fail
      go_meet
      exact ⟨rfl, nT, s4, d1, by omega, o4⟩
  case rest =>
    obtain ⟨rfl, nT', s5, rT5, hn20, o5⟩ := hcut
    clear s4 o4 j2 hnT LT
    generalize ev.tags.take 20 = ts at *
    have hu1 : IsEv w (.agg #[.string ev.s, .string ev.t, .slice T nT' cT, .slice F nF cF]) (⟨ev.s, ev.t, ts, ev.fs⟩ : Ev) := ⟨_, _, _, _, _, _, rfl, rT5, rF⟩
    have hql := fewQ_len q
    have htm := fewQ_terms q
    have hok := fewQ_ok okq
    have LQ := Go.Lib.hid o5.len
    have hn8 : n3 ≤ 8 := by rw [← LQ.out]; exact hql
    generalize fewQ q = fq at *
    have TA1 : Hid (∀ c ∈ fq, c.tags.length ≤ 100 ∧ c.types.length ≤ 100) := Go.Lib.hid fun c hc => by have := htm c hc; omega
    have la1 : Hid (fq.length ≤ 100) := Go.Lib.hid (by omega)
    clear htm hql
    have ee : ∃ ee : Ev, ee = ⟨ev.s, ev.t, ts, ev.fs⟩ := ⟨_, rfl⟩
    obtain ⟨ee, hee⟩ := ee
    rw [← hee] at hu1
    clear hee
    have k0 := s5.eq.c0
    have l0 := s5.ee.c0
    have l1 := s5.ee.c1
    have l2 := s5.ee.c2
    have l3 := s5.ee.c3
    go_wp2_with fail
    refine (api.mtch _ _ fq ee wc (OwnQ.isq o5 s5.bel) (hu1.below s5.bel)).mono ?_
    rintro e w6 ⟨rfl, b6⟩
    generalize hR : matchQ fq ee = R
    have HR := Go.Lib.hid hR
    clear hR
    have s6 := s5.below b6
    have o6 := o5.below b6
    clear s5 o5 b6 k0 l0 l1 l2 l3
    have k0 := s6.eq.c0
    go_wp2_with fail
    refine (api.norm _ fq w6 (OwnQ.isq o6 s6.bel) hok la1.out TA1.out).mono ?_
    rintro e w7 ⟨un, rfl, in7, b7⟩
    have s7 := s6.below b7
    have o7 := o6.below b7
    clear s6 o6 b7 k0
    obtain ⟨N, nN, cN, rfl, rN⟩ := in7
    have qa := QAt.new w7 (.slice N nN cN)
    have al : Below w7.heap.size w7 (w7.alloc (.cells #[.slice N nN cN] 24)) := (Below.refl _ _).alloc (Nat.le_refl _) _
    have s8 := s7.below al
    have o8 := o7.below al
    have rN8 := rN.below al
    go_upto_region 7 with (fail)
    generalize w7.alloc (.cells #[.slice N nN cN] 24) = w8 at *
    generalize w7.heap.size = gn at *
    have bk := BkAt.new w w8
    have k0 := (s8.below bk.bel).eq.c0
    clear s7 o7 rN al
    go_wp2_with fail
    generalize w8.alloc (.cells #[.slice none 0 0] 24) = wb at *
    clear k0
    go_loopw [9] (fun i wr => ∃ (j : Nat) (U : Option Addr) (nU cU : Nat), j ≤ n3 ∧ nU + j = n3 ∧ i = .int .i64 ((j : Int) - 1) ∧ BkAt w wr w8 U nU cU (fq.drop j).reverse) (fun i _ => (intOf i + 1).toNat)
    case atStart => exact ⟨n3, none, 0, 0, Nat.le_refl _, by omega, by go_num, by rw [List.drop_of_length_le (by rw [LQ.out]; exact Nat.le_refl _)]; exact bk⟩
    case round =>
      obtain ⟨j, U, nU, cU, hj, hnu, rfl, br⟩ := hrel
      clear bk
      have sr := s8.below br.bel
      have k0 := sr.eq.c0
      have f0 := br.bb.c0
      by_cases hj0 : 0 < j
      · obtain ⟨k, rfl⟩ : ∃ k, j = k + 1 := ⟨j - 1, by omega⟩
        obtain ⟨bt, ot, T1, nT1, cT1, Y1, nY1, cY1, rfl, x0, x1, rU, rY⟩ := ownQ_at (o8.below br.bel) (i := k) (by omega)
        have e1 : ((k + 1 : Nat) : Int) - 1 = (k : Int) := by omega
        have hkl : k < fq.length := by rw [LQ.out]; omega
        have HD := Go.Lib.hid (drop_revQ fq k hkl)
        have i2 : (k : Int) < n3 := by omega
        have i3 : ¬ (k : Int) < 0 := by omega
        have i4 : (0 : Int) ≤ k := by omega
        clear hkl
        generalize fq.getD k noCl = x at *
        rw [e1]
        have al : Below wr.heap.size wr (wr.alloc (.cells #[.slice T1 nT1 cT1, .slice Y1 nY1 cY1] 36)).drew := bel_drew ((Below.refl _ _).alloc (Nat.le_refl _) _)
        have bd := br.below al
        have d9 : RdC 2 (wr.alloc (.cells #[.slice T1 nT1 cT1, .slice Y1 nY1 cY1] 36)).drew (some ⟨wr.heap.size, 0, none⟩) 1 1 [.slice T1 nT1 cT1, .slice Y1 nY1 cY1] := RdC.new wr 36 [.slice T1 nT1 cT1, .slice Y1 nY1 cY1] rfl (by decide)
        have big : w8.heap.size + 1 ≤ (wr.alloc (.cells #[.slice T1 nT1 cT1, .slice Y1 nY1 cY1] 36)).drew.heap.size := bd.bb.lt
        have h63 : nU + 1 ≤ maxLen := by unfold maxLen; omega
        have hsz : (nU + 1) * 48 ≤ 140737488355328 := by omega
        have m2 := bd.bb.c0
        have m3 := (sr.below al).eq.c0
        have m4 := bcell al x0
        have m5 := bcell al x1
        obtain ⟨cs, oc, hcl, hcs⟩ := bd.ow
        go_upto_region 11 with (fail)
        go_region_law (first
          | (refine step_append_cells (by rfl) (.tmp 36) (.tmp 42) 22 rfl 36 (.agg #[.slice none 0 0, .slice none 0 0]) 48 Try.underlying22 clause_info rfl (by decide) rfl rfl oc d9 (cl_one _ _ _ _ _ _) h63 hsz big ?_; intro T8 c8 w9 o9 g9 _; obtain ⟨z8, k8, n8⟩ := bd.more (c := x) oc hcs rU rY o9 g9))
        all_goals
          go_wp2_with fail
          go_roundw
          case rel => exact ⟨k, T8, nU + 1, c8, by omega, by omega, by go_num, by rw [HD.out]; exact n8⟩
          case measure => simp [intOf]
      · obtain rfl : j = 0 := by omega
        obtain rfl : nU = n3 := by omega
        rw [List.drop_zero] at br
        have i2 : ((0 : Nat) : Int) - 1 = -1 := rfl
        have HM1 := Go.Lib.hid (matchQ_norm fq ee)
        have HM2 := Go.Lib.hid (matchQ_reverse fq ee)
        have HNN := Go.Lib.hid (normQ_norm fq)
        have okn := normQ_ok hok
        have b0 : Below wr.heap.size wr wr.drew := bel_drew (Below.refl _ _)
        have bw := below_chain br.bel b0
        have s9 := s8.below bw
        have iq := OwnQ.isq (o8.below bw) s9.bel
        have iu := hu1.below s9.bel
        have jn : IsQ wr.drew (.agg #[.slice N nN cN]) (normQ fq) := ⟨_, _, _, rfl, rN8.below bw⟩
        have jb := OwnQ.isq (br.ow.below b0) s9.bel
        have kn := (qa.below br.bel).c0
        have l0 := sr.ee.c0
        have l1 := sr.ee.c1
        have l2 := sr.ee.c2
        have l3 := sr.ee.c3
        have B0 := sr.bel
        have kb := f0
        generalize w8.heap.size = gb at *
        clear br sr hu1 o8 s8 qa rN8
        have la2 : Hid ((normQ fq).length ≤ 100) := Go.Lib.hid (by unfold normQ; rw [List.length_map]; exact la1.out)
        have TA2 : Hid (∀ c ∈ normQ fq, c.tags.length ≤ 100 ∧ c.types.length ≤ 100) := Go.Lib.hid (normQ_terms TA1.out)
        rw [i2]
        cases R
        all_goals
          go_wp2_with fail
          go_region_held (fun w' => w'.cell? ⟨w.heap.size, 0, none⟩ = some (.slice A3 nU c3) ∧ w'.cell? ⟨gn, 0, none⟩ = some (.slice N nN cN) ∧ w'.cell? ⟨gb, 0, none⟩ = some (.slice U nU cU) ∧ w'.cell? ⟨w.heap.size + 1, 0, none⟩ = some (.string ev.s) ∧ w'.cell? ⟨w.heap.size + 1, 1, none⟩ = some (.string ev.t) ∧ w'.cell? ⟨w.heap.size + 1, 2, none⟩ = some (.slice T nT' cT) ∧ w'.cell? ⟨w.heap.size + 1, 3, none⟩ = some (.slice F nF cF))
            (first | exact ⟨k0, kn, kb, l0, l1, l2, l3⟩ | exact ⟨bcell b10 k0, bcell b10 kn, bcell b10 kb, bcell b10 l0, bcell b10 l1, bcell b10 l2, bcell b10 l3⟩ | exact ⟨bcell b11 k0, bcell b11 kn, bcell b11 kb, bcell b11 l0, bcell b11 l1, bcell b11 l2, bcell b11 l3⟩ | exact ⟨bcell b12 k0, bcell b12 kn, bcell b12 kb, bcell b12 l0, bcell b12 l1, bcell b12 l2, bcell b12 l3⟩ | exact ⟨bcell b13 k0, bcell b13 kn, bcell b13 kb, bcell b13 l0, bcell b13 l1, bcell b13 l2, bcell b13 l3⟩ | exact ⟨bcell b14 k0, bcell b14 kn, bcell b14 kb, bcell b14 l0, bcell b14 l1, bcell b14 l2, bcell b14 l3⟩)
            (first
              | (go_at_call 17; refine (same_true api _ _ (normQ (normQ fq)) (normQ fq) w13 in13 (jn.below d13) HNN.out).mono ?_; rintro e w14 ⟨rfl, bb⟩; have b14 := below_chain b13 bb; clear bb)
              | (go_at_call 13; refine (api.norm _ (normQ fq) w12 (jn.below d12) okn la2.out TA2.out).mono ?_; rintro e w13 ⟨un13, rfl, in13, bb⟩; have d13 := below_chain d12 bb; have b13 := below_chain b12 bb; clear bb)
              | (go_at_call 18; refine (api.mtch _ _ fq.reverse ee w11 (jb.below d11) (iu.below d11)).mono ?_; rintro e w12 ⟨rfl, bb⟩; rw [HM2.out, HR.out]; have d12 := below_chain d11 bb; have b12 := below_chain b11 bb; clear bb)
              | (go_at_call 18; refine (api.mtch _ _ (normQ fq) ee w10 (jn.below d10) (iu.below d10)).mono ?_; rintro e w11 ⟨rfl, bb⟩; rw [HM1.out, HR.out]; have d11 := below_chain d10 bb; have b11 := below_chain b10 bb; clear bb)
              | (go_at_call 19; refine (refMatch_any _ _ fq ee wr.drew iq iu).mono ?_; rintro e w10 ⟨rfl, d10⟩; rw [HR.out]; have b10 := below_chain b0 d10))
        all_goals go_wp2_with fail
        all_goals go_ret
        all_goals exact ⟨by simp, below_chain B0 b14⟩

section
variable {H : Type} {enc : TypeId × Value → H}
set_option maxRecDepth 100000 in
theorem matches_main' (api : QApi) (W : World) (base : Nat) (v0 v1 : Value) {d0 d1 : DataW H} {p0 p1 : List MemPlace} (o0 : Value.okWide Try.prog W .any base 24 v0) (o1 : Value.okWide Try.prog W .any base 33 v1)
    (h0 : DataW.Trod enc Try.prog W 0 (fun _ => true) true 24 v0 d0 p0) (h1 : DataW.Trod enc Try.prog W 0 (fun _ => true) true 33 v1 d1 p1) :
    Calls Try.prog 4 #[v0, v1] W fun e W' => e = .returned (.bool true) ∧ Below W.heap.size W W' := by
  obtain ⟨q, hv, okq⟩ := op_query o0 h0
  obtain ⟨ev, hu, _⟩ := op_event o1 h1
  exact matches_walk api v0 v1 q ev W hv hu okq
end

end Go.Proofs.Ytfbooapgjhhjmaa.QlLaw
