/-
  Walk of a statement of layer 6: QueryBlind.
-/
import Derived.Test.YtfbooapgjhhjmaaQlCom
import Derived.Deep.RegionLaw
namespace Go.Proofs.Ytfbooapgjhhjmaa.QlLaw
open Go.RowKit Go.WideShapes Go.ChangeShapes Go.Proofs.Ytfbooapgjhhjmaa.MemRow Go.Proofs.Ytfbooapgjhhjmaa.Ev Go.Proofs.Ytfbooapgjhhjmaa.NameMath Go.Proofs.Ytfbooapgjhhjmaa.NameWalk Go.Proofs.Ytfbooapgjhhjmaa.EvWalk Go.Proofs.Ytfbooapgjhhjmaa.Qu Go.Proofs.Ytfbooapgjhhjmaa.QuWalk Go.Proofs.Ytfbooapgjhhjmaa.Open

theorem clauseB_blind {a b : Ev} (ht : a.t = b.t) (hh : ∀ x, hasB a.tags x = hasB b.tags x) (c : Cl) : clauseB c a = clauseB c b := by
  unfold clauseB
  rw [ht]
  congr 2
  funext x
  exact hh x
theorem matchQ_blind {a b : Ev} (ht : a.t = b.t) (hh : ∀ x, hasB a.tags x = hasB b.tags x) (q : List Cl) : matchQ q a = matchQ q b := by
  unfold matchQ
  congr 1
  funext c
  exact clauseB_blind ht hh c
theorem hasB_reverse (l : List ByteArray) (x : ByteArray) : hasB l.reverse x = hasB l x := by simp [hasB]
theorem drop_rev (l : List ByteArray) (j : Nat) (h : j < l.length) : (l.drop j).reverse = (l.drop (j + 1)).reverse ++ [l.getD j ByteArray.empty] := by
  rw [List.drop_eq_getElem_cons h, List.reverse_cons]
  simp [List.getD, List.getElem?_eq_getElem h]

/-- The event with twenty tags at most. -/
def cutE (e : Ev) : Ev := ⟨e.s, e.t, e.tags.take 20, e.fs⟩

/-- What stands while the tags are laid the other way round. -/
structure BlAt (wr w : World) (gf : Nat) (vq : Value) (e0 e1 e2 e3 : Value) (f0 f1 : Value) (F : Option Addr) (nF cF : Nat) (us : List ByteArray) (A : Option Addr) (n cap base : Nat) (fq : List Cl) : Prop where
  qe : QeAt wr w vq e0 e1 e2 e3
  ff : EvAt wr gf f0 f1 (.slice F nF cF) (.slice none 0 0)
  ow : OwnC 1 wr (gf + 1) 9 F nF cF (MemRow.strs us)
  oq : OwnQ w wr base A n cap fq
  lt : w.heap.size + 1 < gf
  bl : ∀ a, A = some a → a.block < gf
section
variable {wr w w' : World} {gf nF cF n cap base : Nat} {vq e0 e1 e2 e3 f0 f1 : Value} {F A : Option Addr} {us : List ByteArray} {fq : List Cl}
theorem BlAt.below (h : BlAt wr w gf vq e0 e1 e2 e3 f0 f1 F nF cF us A n cap base fq) (hb : Below wr.heap.size wr w') : BlAt w' w gf vq e0 e1 e2 e3 f0 f1 F nF cF us A n cap base fq :=
  ⟨h.qe.below hb, h.ff.below hb h.ff.lt, OwnC.below h.ow hb, h.oq.below hb, h.lt, h.bl⟩
theorem BlAt.drew (h : BlAt wr w gf vq e0 e1 e2 e3 f0 f1 F nF cF us A n cap base fq) : BlAt wr.drew w gf vq e0 e1 e2 e3 f0 f1 F nF cF us A n cap base fq :=
  ⟨h.qe.drew, h.ff, h.ow, h.oq.below (bel_drew (Below.refl _ _)), h.lt, h.bl⟩
theorem ownQ_grown {w0 : World} {row : Option Nat} (h : OwnQ w0 wr base A n cap fq) (hg : wr.grownBy w' row) (hne : ∀ a, A = some a → some a.block ≠ row) : OwnQ w0 w' base A n cap fq := by
  obtain ⟨cs, o, hl, hc⟩ := h
  exact ⟨cs, OwnC.grown o hg hne, hl, hc⟩
/-- A tag more. -/
theorem BlAt.more {F' : Option Addr} {cF' : Nat} {us' : List ByteArray} {w8 : World} (h : BlAt wr w gf vq e0 e1 e2 e3 f0 f1 F nF cF us A n cap base fq) (ho : OwnC 1 w8 (gf + 1) 9 F' (nF + 1) cF' (MemRow.strs us')) (hg : wr.grownBy w8 (F.map (·.block))) :
    w8.frozen? ⟨gf, 2, none⟩ = false ∧ w8.cell? ⟨gf, 2, none⟩ = some (.slice F nF cF) ∧ BlAt (w8.setCell ⟨gf, 2, none⟩ (.slice F' (nF + 1) cF')) w gf vq e0 e1 e2 e3 f0 f1 F' (nF + 1) cF' us' A n cap base fq := by
  have low : ∀ r, F.map (·.block) = some r → gf + 1 ≤ r := fun r e => by
    cases F with
    | none => cases e
    | some a =>
      simp only [Option.map_some, Option.some.injEq] at e
      have := (OwnC.lt h.ow a rfl).1
      omega
  have lt := h.lt
  have hF : ∀ k, k < gf + 1 → some k ≠ F.map (·.block) := fun k hk e => by have := low k e.symm; omega
  have e8 := h.ff.grown hg (hF _ (by omega))
  have hs := grownSet w8 gf 2 (.slice F' (nF + 1) cF')
  have q8 : QeAt w8 w vq e0 e1 e2 e3 := ⟨h.qe.eq.grown hg (hF _ (by omega)), h.qe.ee.grown hg (hF _ (by omega)), h.qe.bel.grown hg h.qe.bel.size (fun r e => by have := low r e; omega)⟩
  have o8 : OwnQ w w8 base A n cap fq := ownQ_grown h.oq hg (fun a ha e => by have h1 := h.bl a ha; have h2 := low _ e.symm; omega)
  refine ⟨e8.frozen 2, e8.c2, ⟨q8.eq.far (by omega) _, q8.ee.far (by omega) _, q8.bel.setCell (by show w.heap.size ≤ gf; omega) _⟩, e8.set2 _, OwnC.grown ho hs (fun a hA e => by have := (OwnC.lt ho a hA).1; injection e with e; omega), ownQ_grown o8 hs (fun a ha e => by have h1 := h.bl a ha; injection e with e; omega), lt, h.bl⟩
end

set_option maxHeartbeats 8000000 in
set_option maxRecDepth 100000 in
theorem blind_walk (api : QApi) (v u : Value) (q : List Cl) (ev : Ev) (st : ByteArray) (w : World) (hv : IsQ w v q) (hu : IsEv w u ev) :
    Calls Try.prog 9 #[v, u, .string st] w fun e w' => e = .returned (.bool true) ∧ Below w.heap.size w w' := by
  have hv0 := hv
  obtain ⟨A0, n0, c0, rfl, _⟩ := hv
  obtain ⟨T, nT, cT, F, nF, cF, rfl, rT, rF⟩ := hu
  have hnT := RdC.le rT
  unfold maxLen at hnT
  have LT := Go.Lib.hid (RdS.len rT)
  have s1 := QeAt.new w (.slice A0 n0 c0) (.string ev.s) (.string ev.t) (.slice T nT cT) (.slice F nF cF)
  go_enter Try.func9, Try.ntmps9
  go_wp2_with fail
  generalize (w.alloc (.cells #[.slice A0 n0 c0] 24)).alloc (.cells #[.string ev.s, .string ev.t, .slice T nT cT, .slice F nF cF] 33) = w1 at *
  refine (shownQ_any api _).mono ?_
  rintro e w2 ⟨rfl, b2⟩
  have s2 := s1.below b2
  have k0 := s2.eq.c0
  have hlt2 := s2.ee.lt
  clear s1 b2
  go_wp2_with fail
  refine (fewQ_any _ q w w2 hv0 s2.bel).mono ?_
  rintro e w3 ⟨A3, n3, c3, rfl, o3, b3⟩
  have s3 := s2.below b3
  have k0 := s3.eq.c0
  have z0 := s3.eq.frozen 0
  have s4 := qe_set0 s3 (.slice A3 n3 c3)
  have o4 := ownQ_set (i := 0) (x := .slice A3 n3 c3) o3 (g := w.heap.size) (by omega)
  clear s2 b3 s3 o3
  go_upto_region 3 with (fail)
  generalize w3.setCell ⟨w.heap.size, 0, none⟩ (.slice A3 n3 c3) = w4 at *
  clear k0 z0
  have j2 := s4.ee.c2
  go_upto_if 16 with (fail)
  go_cut [7] (fun hb wx => hb = .bool true ∧ ∃ nT', QeAt wx w (.slice A3 n3 c3) (.string ev.s) (.string ev.t) (.slice T nT' cT) (.slice F nF cF) ∧ RdS w T nT' cT (ev.tags.take 20) ∧ nT' ≤ 20 ∧ OwnQ w wx (w2.heap.size + 1 + 1 + 1) A3 n3 c3 (fewQ q))
  case first =>
    by_cases h20 : 20 < nT
    · obtain ⟨q1, d1⟩ := slice_hi (P := Try.prog) 30 9 Try.underlying30 elem_strs string_size rT (m := 20) (by omega)
      rw [strs_take] at d1
      have q1' : ∀ W, (Instr.slice 30 (.slice T nT cT) none (some (.int .i64 20)) none).run Try.prog W = .ok (.slice T 20 cT) W := q1
      have i1 : (20 : Int) < nT := by omega
      have z2 := s4.ee.frozen 2
      have s5 := qe_set2 s4 (.slice T 20 cT)
      have o5 := ownQ_set (i := 2) (x := .slice T 20 cT) o4 (g := w.heap.size + 1) (by omega)
      have S5 := Go.Lib.hid s5
      have O5 := Go.Lib.hid o5
      clear q1 s5 o5
      go_wp2_with fail
      go_meet
      exact ⟨rfl, 20, S5.out, d1, Nat.le_refl _, O5.out⟩
    · have i1 : ¬ (20 : Int) < nT := by omega
      have d1 : RdS w T nT cT (ev.tags.take 20) := by rw [List.take_of_length_le (by rw [LT.out]; omega)]; exact rT
      go_wp2_with fail
      go_meet
      exact ⟨rfl, nT, s4, d1, by omega, o4⟩
  case rest =>
    obtain ⟨rfl, nT', s5, rT5, hn20, o5⟩ := hcut
    clear s4 o4 j2 hnT LT
    have LT := Go.Lib.hid (RdS.len rT5)
    have j1 := s5.ee.c1
    generalize ev.tags.take 20 = ts at *
    go_upto_region 6 with (fail)
    have al : Below wc.heap.size wc (wc.alloc (.cells #[.string st, .string ev.t, .slice none 0 0, .slice none 0 0] 33)) := (Below.refl _ _).alloc (Nat.le_refl _) _
    have b6 : BlAt (wc.alloc (.cells #[.string st, .string ev.t, .slice none 0 0, .slice none 0 0] 33)) w wc.heap.size (.slice A3 n3 c3) (.string ev.s) (.string ev.t) (.slice T nT' cT) (.slice F nF cF) (.string st) (.string ev.t) none 0 0 [] A3 n3 c3 (w2.heap.size + 1 + 1 + 1) (fewQ q) :=
      ⟨s5.below al, EvAt.new wc _ _ _ _, OwnC.nil _ _, o5.below al, s5.ee.lt, fun a ha => by
        obtain ⟨cs, o, _, _⟩ := o5
        exact (OwnC.lt o a ha).2⟩
    generalize wc.alloc (.cells #[.string st, .string ev.t, .slice none 0 0, .slice none 0 0] 33) = w6 at *
    generalize wc.heap.size = gf at *
    clear s5 o5 j1 al
    have j2 := b6.qe.ee.c2
    go_wp2_with fail
    go_loopw [9] (fun i wr => ∃ (j : Nat) (U : Option Addr) (nU cU : Nat), j ≤ nT' ∧ nU + j = nT' ∧ i = .int .i64 ((j : Int) - 1) ∧ BlAt wr w gf (.slice A3 n3 c3) (.string ev.s) (.string ev.t) (.slice T nT' cT) (.slice F nF cF) (.string st) (.string ev.t) U nU cU (ts.drop j).reverse A3 n3 c3 (w2.heap.size + 1 + 1 + 1) (fewQ q)) (fun i _ => (intOf i + 1).toNat)
    case atStart => exact ⟨nT', none, 0, 0, Nat.le_refl _, by omega, by go_num, by rw [List.drop_of_length_le (by rw [LT.out]; exact Nat.le_refl _)]; exact b6⟩
    case round =>
      obtain ⟨j, U, nU, cU, hj, hnu, rfl, br⟩ := hrel
      clear b6 j2
      have j2 := br.qe.ee.c2
      have f2 := br.ff.c2
      by_cases hj0 : 0 < j
      · obtain ⟨k, rfl⟩ : ∃ k, j = k + 1 := ⟨j - 1, by omega⟩
        obtain ⟨bu, ou, rfl, _, ku⟩ := RdS.at_ (RdC.below rT5 br.qe.bel) (by omega)
        have z0 := ku k (by omega)
        have e1 : ((k + 1 : Nat) : Int) - 1 = (k : Int) := by omega
        have hkl : k < ts.length := by rw [LT.out]; omega
        have HD := Go.Lib.hid (drop_rev ts k hkl)
        have i2 : (k : Int) < nT' := by omega
        have i3 : ¬ (k : Int) < 0 := by omega
        have i4 : (0 : Int) ≤ k := by omega
        clear ku hkl
        generalize ts.getD k ByteArray.empty = x at *
        rw [e1]
        have al : Below wr.heap.size wr (wr.alloc (.cells #[.string x] 9)).drew := bel_drew ((Below.refl _ _).alloc (Nat.le_refl _) _)
        have bd := br.below al
        have d9 : RdC 1 (wr.alloc (.cells #[.string x] 9)).drew (some ⟨wr.heap.size, 0, none⟩) 1 1 (MemRow.strs [x]) := RdC.new wr 9 (MemRow.strs [x]) rfl (by decide)
        have big : gf + 1 ≤ (wr.alloc (.cells #[.string x] 9)).drew.heap.size := bd.ff.lt
        have h63 : nU + 1 ≤ maxLen := by unfold maxLen; omega
        have hsz : (nU + 1) * 16 ≤ 140737488355328 := by omega
        have m2 := bd.ff.c2
        have m3 := bd.qe.ee.c2
        have m4 : (wr.alloc (.cells #[.string x] 9)).drew.cell? ⟨bu, ou + k, none⟩ = some (.string x) := bcell al z0
        go_upto_region 9 with (fail)
        go_region_law (first
          | (refine step_append_cells (by rfl) (.tmp 34) (.tmp 40) 30 rfl 9 (.string ByteArray.empty) 16 Try.underlying30 string_info rfl (by decide) rfl rfl bd.ow d9 (strs_one [x]) h63 hsz big ?_; intro T8 c8 w8 o8 g8 _; obtain ⟨z8, k8, n8⟩ := bd.more (us' := (ts.drop k).reverse) (by rw [HD.out, strs_append]; exact o8) g8))
        all_goals
          go_wp2_with fail
          go_roundw
          case rel => exact ⟨k, T8, nU + 1, c8, by omega, by omega, by go_num, n8⟩
          case measure => simp [intOf]
      · obtain rfl : j = 0 := by omega
        obtain rfl : nU = nT' := by omega
        rw [List.drop_zero] at br
        have i2 : ((0 : Nat) : Int) - 1 = -1 := rfl
        have hu1 : IsEv w (.agg #[.string ev.s, .string ev.t, .slice T nU cT, .slice F nF cF]) (⟨ev.s, ev.t, ts, ev.fs⟩ : Ev) := ⟨_, _, _, _, _, _, rfl, rT5, rF⟩
        have hmat := matchQ_blind (a := ⟨ev.s, ev.t, ts, ev.fs⟩) (b := ⟨st, ev.t, ts.reverse, []⟩) rfl (fun x => (hasB_reverse ts x).symm) (fewQ q)
        have HMAT := Go.Lib.hid hmat
        have b0 : Below wr.heap.size wr wr.drew := bel_drew (Below.refl _ _)
        have bd := br.drew
        have iq := OwnQ.isq bd.oq bd.qe.bel
        have iu := hu1.below bd.qe.bel
        have jv : IsEv wr.drew (.agg #[.string st, .string ev.t, .slice U nU cU, .slice none 0 0]) (⟨st, ev.t, ts.reverse, []⟩ : Ev) := ⟨_, _, _, _, _, _, rfl, OwnC.rd bd.ow, RdC.nil _⟩
        have k0 := br.qe.eq.c0
        have l0 := br.qe.ee.c0
        have l1 := br.qe.ee.c1
        have l3 := br.qe.ee.c3
        have m0 := br.ff.c0
        have m1 := br.ff.c1
        have m3 := br.ff.c3
        have B0 := br.qe.bel
        clear hmat hu1 br bd
        rw [i2]
        go_wp2_with fail
        go_region_held (fun w' => w'.cell? ⟨w.heap.size, 0, none⟩ = some (.slice A3 n3 c3) ∧ w'.cell? ⟨w.heap.size + 1, 0, none⟩ = some (.string ev.s) ∧ w'.cell? ⟨w.heap.size + 1, 1, none⟩ = some (.string ev.t) ∧ w'.cell? ⟨w.heap.size + 1, 2, none⟩ = some (.slice T nU cT) ∧ w'.cell? ⟨w.heap.size + 1, 3, none⟩ = some (.slice F nF cF) ∧ w'.cell? ⟨gf, 0, none⟩ = some (.string st) ∧ w'.cell? ⟨gf, 1, none⟩ = some (.string ev.t) ∧ w'.cell? ⟨gf, 2, none⟩ = some (.slice U nU cU) ∧ w'.cell? ⟨gf, 3, none⟩ = some (.slice none 0 0))
          (first | exact ⟨k0, l0, l1, j2, l3, m0, m1, f2, m3⟩ | exact ⟨bcell b8 k0, bcell b8 l0, bcell b8 l1, bcell b8 j2, bcell b8 l3, bcell b8 m0, bcell b8 m1, bcell b8 f2, bcell b8 m3⟩ | exact ⟨bcell b9 k0, bcell b9 l0, bcell b9 l1, bcell b9 j2, bcell b9 l3, bcell b9 m0, bcell b9 m1, bcell b9 f2, bcell b9 m3⟩)
          (first
            | (go_at_call 18; refine (api.mtch _ _ (fewQ q) ⟨st, ev.t, ts.reverse, []⟩ w8 (iq.below bb8) (jv.below bb8)).mono ?_; rintro e w9 ⟨rfl, bb⟩; have b9 := below_chain b8 bb; clear bb)
            | (go_at_call 18; refine (api.mtch _ _ (fewQ q) ⟨ev.s, ev.t, ts, ev.fs⟩ wr.drew iq iu).mono ?_; rintro e w8 ⟨rfl, bb8⟩; rw [HMAT.out]; have b8 := below_chain b0 bb8))
        all_goals go_wp2_with fail
        all_goals go_ret
        all_goals exact ⟨by simp, below_chain B0 b9⟩

section
variable {H : Type} {enc : TypeId × Value → H}
set_option maxRecDepth 100000 in
theorem blind_main' (api : QApi) (W : World) (base : Nat) (v0 v1 v2 : Value) {d0 d1 d2 : DataW H} {p0 p1 p2 : List MemPlace} (o0 : Value.okWide Try.prog W .any base 24 v0) (o1 : Value.okWide Try.prog W .any base 33 v1) (o2 : Value.okWide Try.prog W .any base 9 v2)
    (h0 : DataW.Trod enc Try.prog W 0 (fun _ => true) true 24 v0 d0 p0) (h1 : DataW.Trod enc Try.prog W 0 (fun _ => true) true 33 v1 d1 p1) (h2 : DataW.Trod enc Try.prog W 0 (fun _ => true) true 9 v2 d2 p2) :
    Calls Try.prog 9 #[v0, v1, v2] W fun e W' => e = .returned (.bool true) ∧ Below W.heap.size W W' := by
  obtain ⟨q, hv, _⟩ := op_query o0 h0
  obtain ⟨ev, hu, _⟩ := op_event o1 h1
  obtain ⟨s, rfl, _⟩ := op_string Try.underlying9 o2 h2
  exact blind_walk api v0 v1 q ev s W hv hu
end

end Go.Proofs.Ytfbooapgjhhjmaa.QlLaw
