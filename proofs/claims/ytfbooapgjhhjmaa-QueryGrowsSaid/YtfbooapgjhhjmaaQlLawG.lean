/-
  Walk of a statement of layer 6: QueryGrows.
-/
import Derived.Test.YtfbooapgjhhjmaaQlLawD
import Derived.Test.YtfbooapgjhhjmaaQlLawF
import Derived.Test.YtfbooapgjhhjmaaHeldAt
namespace Go.Proofs.Ytfbooapgjhhjmaa.QlLaw
open Go.RowKit Go.WideShapes Go.ChangeShapes Go.Proofs.Ytfbooapgjhhjmaa.MemRow Go.Proofs.Ytfbooapgjhhjmaa.Ev Go.Proofs.Ytfbooapgjhhjmaa.NameMath Go.Proofs.Ytfbooapgjhhjmaa.NameWalk Go.Proofs.Ytfbooapgjhhjmaa.EvWalk Go.Proofs.Ytfbooapgjhhjmaa.Qu Go.Proofs.Ytfbooapgjhhjmaa.QuWalk Go.Proofs.Ytfbooapgjhhjmaa.Open Go.Proofs.Ytfbooapgjhhjmaa.HeldAt

theorem row_cl {W : World} {g : Nat} {T Y : Option Addr} {nT cT nY cY : Nat} {c : Cl} (a1 : ClAt W g (.slice T nT cT) (.slice Y nY cY)) (rT : RdS W T nT cT c.tags) (rY : RdS W Y nY cY c.types) : RdQ W (some ⟨g, 0, none⟩) 1 1 [c] := by
  refine ⟨rfl, Nat.le_refl _, by decide, fun _ => ⟨g, 0, rfl, a1.lt, fun i hi => ?_⟩⟩
  obtain rfl : i = 0 := by omega
  exact ⟨T, nT, cT, Y, nY, cY, a1.c0, a1.c1, rT, rY⟩
/-- The rows are read in a later world. -/
theorem ownQ_later {w w0 wr : World} {base : Nat} {A : Option Addr} {n cap : Nat} {q : List Cl} (h : OwnQ w wr base A n cap q) (hb : Below w.heap.size w w0) : OwnQ w0 wr base A n cap q := by
  obtain ⟨cs, o, hl, hc⟩ := h
  exact ⟨cs, o, hl, ClsR.below hb q cs hc⟩
theorem geAt_new (w : World) (c0 e0 e1 e2 e3 x0 x1 : Value) : QeAt (((w.alloc (.cells #[c0] 24)).alloc (.cells #[e0, e1, e2, e3] 33)).alloc (.cells #[x0, x1] 36)) w c0 e0 e1 e2 e3 ∧ ClAt (((w.alloc (.cells #[c0] 24)).alloc (.cells #[e0, e1, e2, e3] 33)).alloc (.cells #[x0, x1] 36)) (w.heap.size + 1 + 1) x0 x1 := by
  have s := QeAt.new w c0 e0 e1 e2 e3
  have hs : ((w.alloc (.cells #[c0] 24)).alloc (.cells #[e0, e1, e2, e3] 33)).heap.size = w.heap.size + 1 + 1 := by simp
  generalize (w.alloc (.cells #[c0] 24)).alloc (.cells #[e0, e1, e2, e3] 33) = w1 at *
  have a := ClAt.new w1 x0 x1
  rw [hs] at a
  exact ⟨s.below ((Below.refl _ _).alloc (Nat.le_refl _) _), a⟩

/-- The cells cs are the clauses q; the rows of tags are of the walk's own and lie not in block B, those of types are as world w0 has them. -/
def ClsX (w0 w : World) (base : Nat) (B : Option Nat) : List Cl → List Value → Prop
  | [], cs => cs = []
  | c :: q, cs => ∃ T nT cT Y nY cY cs', cs = .slice T nT cT :: .slice Y nY cY :: cs' ∧ RdS w T nT cT c.tags ∧ RdS w0 Y nY cY c.types ∧ (∀ a, T = some a → base ≤ a.block ∧ a.block < w.heap.size ∧ some a.block ≠ B) ∧ ClsX w0 w base B q cs'
theorem ClsX.below {w0 w w' : World} {base : Nat} {B : Option Nat} (hb : Below w.heap.size w w') : ∀ (q : List Cl) (cs : List Value), ClsX w0 w base B q cs → ClsX w0 w' base B q cs
  | [], _, h => h
  | _ :: q, _, ⟨T, nT, cT, Y, nY, cY, cs', e, o1, o2, t1, h⟩ => ⟨T, nT, cT, Y, nY, cY, cs', e, RdC.below o1 hb, o2, fun a ha => ⟨(t1 a ha).1, Nat.lt_of_lt_of_le (t1 a ha).2.1 hb.size, (t1 a ha).2.2⟩, ClsX.below hb q cs' h⟩
theorem ClsX.grow {w0 w w' : World} {base : Nat} {B B' : Option Nat} (hg : w.grownBy w' B) (hB : B' = B ∨ B' = some w.heap.size) : ∀ (q : List Cl) (cs : List Value), ClsX w0 w base B q cs → ClsX w0 w' base B' q cs
  | [], _, h => h
  | _ :: q, _, ⟨T, nT, cT, Y, nY, cY, cs', e, o1, o2, t1, h⟩ =>
    have far : ∀ a : Addr, a.block < w.heap.size → some a.block ≠ B → some a.block ≠ B' := fun a h1 h2 e => by
      rcases hB with h3 | h3
      · exact h2 (e.trans h3)
      · rw [h3] at e
        injection e with e
        omega
    ⟨T, nT, cT, Y, nY, cY, cs', e, RdC.grown o1 hg (fun b o hA => (t1 ⟨b, o, none⟩ hA).2.2), o2, fun a ha => ⟨(t1 a ha).1, Nat.lt_of_lt_of_le (t1 a ha).2.1 hg.size, far a (t1 a ha).2.1 (t1 a ha).2.2⟩, ClsX.grow hg hB q cs' h⟩
/-- A cell of a block that holds none of the rows is written. -/
theorem ClsX.set {w0 w : World} {base : Nat} {B : Option Nat} {g i : Nat} (hg : g < base) (x : Value) : ∀ (q : List Cl) (cs : List Value), ClsX w0 w base B q cs → ClsX w0 (w.setCell ⟨g, i, none⟩ x) base B q cs
  | [], _, h => h
  | _ :: q, _, ⟨T, nT, cT, Y, nY, cY, cs', e, o1, o2, t1, h⟩ =>
    have sz : (w.setCell ⟨g, i, none⟩ x).heap.size = w.heap.size := by simp [World.setCell]
    ⟨T, nT, cT, Y, nY, cY, cs', e, RdC.off o1 (fun a ha => by have := (t1 a ha).1; omega) x, o2, fun a ha => by rw [sz]; exact t1 a ha, ClsX.set hg x q cs' h⟩
theorem ClsX.snoc {w0 w : World} {base : Nat} {B : Option Nat} {c : Cl} {T Y : Option Addr} {nT cT nY cY : Nat} (o1 : RdS w T nT cT c.tags) (o2 : RdS w0 Y nY cY c.types) (t1 : ∀ a, T = some a → base ≤ a.block ∧ a.block < w.heap.size ∧ some a.block ≠ B) :
    ∀ (q : List Cl) (cs : List Value), ClsX w0 w base B q cs → ClsX w0 w base B (q ++ [c]) (cs ++ [.slice T nT cT, .slice Y nY cY])
  | [], cs, h => by
    obtain rfl : cs = [] := h
    exact ⟨T, nT, cT, Y, nY, cY, [], rfl, o1, o2, t1, rfl⟩
  | x :: q, cs, ⟨T1, n1, c1, F1, m1, d1, cs', hc, p1, p2, u1, h⟩ => by
    subst hc
    exact ⟨T1, n1, c1, F1, m1, d1, cs' ++ [.slice T nT cT, .slice Y nY cY], rfl, p1, p2, u1, ClsX.snoc o1 o2 t1 q cs' h⟩
theorem ClsX.plain {w0 w : World} {base : Nat} {B : Option Nat} (hb : Below w0.heap.size w0 w) : ∀ (q : List Cl) (cs : List Value), ClsX w0 w base B q cs → ClsR w q cs
  | [], _, h => h
  | _ :: q, _, ⟨T, nT, cT, Y, nY, cY, cs', e, o1, o2, _, h⟩ => ⟨T, nT, cT, Y, nY, cY, cs', e, o1, RdC.below o2 hb, ClsX.plain hb q cs' h⟩

/-- What stands while clauses with new tags are laid into a query's box of the walk's own. -/
structure LkAt (w wr wn : World) (B : Option Addr) (nB cB : Nat) (r : List Cl) : Prop where
  bb : QAt wr wn.heap.size (.slice B nB cB)
  ow : ∃ cs, OwnC 2 wr (wn.heap.size + 1) 36 B nB cB cs ∧ r.length = nB ∧ ClsX w wr (wn.heap.size + 1) (B.map (·.block)) r cs
  bel : Below wn.heap.size wn wr
section
variable {w wr wn w' : World} {nB cB : Nat} {B : Option Addr} {r : List Cl}
theorem LkAt.below (h : LkAt w wr wn B nB cB r) (hb : Below wr.heap.size wr w') : LkAt w w' wn B nB cB r := by
  obtain ⟨cs, o, hl, hc⟩ := h.ow
  exact ⟨h.bb.below hb, ⟨cs, OwnC.below o hb, hl, ClsX.below hb r cs hc⟩, below_chain h.bel hb⟩
theorem LkAt.new (w wn : World) : LkAt w (wn.alloc (.cells #[.slice none 0 0] 24)) wn none 0 0 [] := ⟨QAt.new wn _, ⟨[], OwnC.nil _ _, rfl, rfl⟩, (Below.refl _ _).alloc (Nat.le_refl _) _⟩
theorem LkAt.isq (h : LkAt w wr wn B nB cB r) (hb : Below w.heap.size w wr) : IsQ wr (.agg #[.slice B nB cB]) r := by
  obtain ⟨cs, o, hl, hc⟩ := h.ow
  exact OwnQ.isq (w0 := wr) ⟨cs, o, hl, ClsX.plain hb r cs hc⟩ (Below.refl _ _)
/-- A cell of a block that is no row of it is written: one that the clauses' row does not fill, and that is older than the round. -/
theorem LkAt.more {cs : List Value} {c : Cl} {T Y : Option Addr} {nT cT nY cY : Nat} {B' : Option Addr} {cB' : Nat} {w8 : World} (h : LkAt w wr wn B nB cB r) (ho : OwnC 2 wr (wn.heap.size + 1) 36 B nB cB cs) (hl : r.length = nB) (hc : ClsX w wr (wn.heap.size + 1) (B.map (·.block)) r cs) (o1 : RdS wr T nT cT c.tags) (o2 : RdS w Y nY cY c.types) (t1 : ∀ a, T = some a → wn.heap.size + 1 ≤ a.block ∧ a.block < wr.heap.size ∧ some a.block ≠ B.map (·.block))
    (ho8 : OwnC 2 w8 (wn.heap.size + 1) 36 B' (nB + 1) cB' (cs ++ [.slice T nT cT, .slice Y nY cY])) (hg : wr.grownBy w8 (B.map (·.block))) (hB : B'.map (·.block) = B.map (·.block) ∨ B'.map (·.block) = some wr.heap.size) :
    w8.frozen? ⟨wn.heap.size, 0, none⟩ = false ∧ w8.cell? ⟨wn.heap.size, 0, none⟩ = some (.slice B nB cB) ∧ LkAt w (w8.setCell ⟨wn.heap.size, 0, none⟩ (.slice B' (nB + 1) cB')) wn B' (nB + 1) cB' (r ++ [c]) := by
  have low : ∀ r, B.map (·.block) = some r → wn.heap.size + 1 ≤ r := fun r e => by
    cases B with
    | none => cases e
    | some a =>
      simp only [Option.map_some, Option.some.injEq] at e
      have := (OwnC.lt ho a rfl).1
      omega
  have hF : ∀ k, k < wn.heap.size + 1 → some k ≠ B.map (·.block) := fun k hk e => by have := low k e.symm; omega
  have e8 := h.bb.grown hg (hF _ (by omega))
  have hs := grownSet w8 wn.heap.size 0 (.slice B' (nB + 1) cB')
  have b8 := h.bel.grown hg h.bel.size (fun r e => by have := low r e; omega)
  refine ⟨e8.frozen 0, e8.c0, e8.set _, ⟨_, OwnC.grown ho8 hs (fun a hA e => by have := (OwnC.lt ho8 a hA).1; injection e with e; omega), by rw [List.length_append, hl]; rfl, ?_⟩, b8.setCell (Nat.le_refl _) _⟩
  exact ClsX.set (by omega) _ _ _ (ClsX.grow hg hB _ _ (ClsX.snoc o1 o2 t1 r cs hc))
end

set_option maxHeartbeats 8000000 in
set_option maxRecDepth 100000 in
theorem grows_walk (api : QApi) (v u z : Value) (q : List Cl) (ev : Ev) (c : Cl) (w : World) (hv : IsQ w v q) (hu : IsEv w u ev) (hz : IsCl w z c) :
    Calls Try.prog 5 #[v, u, z] w fun e w' => e = .returned (.bool true) ∧ Below w.heap.size w w' := by
  have hv0 := hv
  obtain ⟨A0, n0, c0, rfl, _⟩ := hv
  obtain ⟨T, nT, cT, F, nF, cF, rfl, rT, rF⟩ := hu
  obtain ⟨X, nX, cX, Y, nY, cY, rfl, rX, rY⟩ := hz
  have hnT := RdC.le rT
  unfold maxLen at hnT
  have LT := Go.Lib.hid (RdS.len rT)
  obtain ⟨s1, x1⟩ := geAt_new w (.slice A0 n0 c0) (.string ev.s) (.string ev.t) (.slice T nT cT) (.slice F nF cF) (.slice X nX cX) (.slice Y nY cY)
  go_enter Try.func5, Try.ntmps5
  go_wp2_with fail
  generalize ((w.alloc (.cells #[.slice A0 n0 c0] 24)).alloc (.cells #[.string ev.s, .string ev.t, .slice T nT cT, .slice F nF cF] 33)).alloc (.cells #[.slice X nX cX, .slice Y nY cY] 36) = w1 at *
  refine (shownQ_any api _).mono ?_
  rintro e w2 ⟨rfl, b2⟩
  have s2 := s1.below b2
  have x2 := x1.below b2
  have k0 := s2.eq.c0
  have hlt2 := x2.lt
  clear s1 b2 x1
  go_wp2_with fail
  refine (fewQ_any _ q w w2 hv0 s2.bel).mono ?_
  rintro e w3 ⟨A3, n3, c3, rfl, o3, b3⟩
  have s3 := s2.below b3
  have x3 := x2.below b3
  have k0 := s3.eq.c0
  have z0 := s3.eq.frozen 0
  have s4 := qe_set0 s3 (.slice A3 n3 c3)
  have x4 := x3.far (b := w.heap.size) (i := 0) (by omega) (.slice A3 n3 c3)
  have o4 := ownQ_set (i := 0) (x := .slice A3 n3 c3) o3 (g := w.heap.size) (by omega)
  clear s2 b3 s3 o3 x2 x3
  go_upto_region 3 with (fail)
  generalize w3.setCell ⟨w.heap.size, 0, none⟩ (.slice A3 n3 c3) = w4 at *
  clear k0 z0
  have j2 := s4.ee.c2
  go_upto_if 20 with (fail)
  go_cut [7] (fun hb wx => hb = .bool true ∧ ∃ nT', QeAt wx w (.slice A3 n3 c3) (.string ev.s) (.string ev.t) (.slice T nT' cT) (.slice F nF cF) ∧ ClAt wx (w.heap.size + 1 + 1) (.slice X nX cX) (.slice Y nY cY) ∧ RdS w T nT' cT (ev.tags.take 20) ∧ nT' ≤ 20 ∧ OwnQ w wx (w2.heap.size + 1 + 1 + 1) A3 n3 c3 (fewQ q))
  case first =>
    by_cases h20 : 20 < nT
    · obtain ⟨q1, d1⟩ := slice_hi (P := Try.prog) 30 9 Try.underlying30 elem_strs string_size rT (m := 20) (by omega)
      rw [strs_take] at d1
      have q1' : ∀ W, (Instr.slice 30 (.slice T nT cT) none (some (.int .i64 20)) none).run Try.prog W = .ok (.slice T 20 cT) W := q1
      have i1 : (20 : Int) < nT := by omega
      have z2 := s4.ee.frozen 2
      have s5 := qe_set2 s4 (.slice T 20 cT)
      have x5 := x4.far (b := w.heap.size + 1) (i := 2) (by omega) (.slice T 20 cT)
      have o5 := ownQ_set (i := 2) (x := .slice T 20 cT) o4 (g := w.heap.size + 1) (by omega)
      have S5 := Go.Lib.hid s5
      have X5 := Go.Lib.hid x5
      have O5 := Go.Lib.hid o5
      clear q1 s5 o5 x5
      go_wp2_with fail
      go_meet
      exact ⟨rfl, 20, S5.out, X5.out, d1, Nat.le_refl _, O5.out⟩
    · have i1 : ¬ (20 : Int) < nT := by omega
      have d1 : RdS w T nT cT (ev.tags.take 20) := by rw [List.take_of_length_le (by rw [LT.out]; omega)]; exact rT
      go_wp2_with fail
      go_meet
      exact ⟨rfl, nT, s4, x4, d1, by omega, o4⟩
  case rest =>
    obtain ⟨rfl, nT', s5, x5, rT5, hn20, o5⟩ := hcut
    clear s4 o4 j2 hnT LT x4
    generalize ev.tags.take 20 = ts at *
    have hu1 : IsEv w (.agg #[.string ev.s, .string ev.t, .slice T nT' cT, .slice F nF cF]) (⟨ev.s, ev.t, ts, ev.fs⟩ : Ev) := ⟨_, _, _, _, _, _, rfl, rT5, rF⟩
    have hql := fewQ_len q
    have LQ := Go.Lib.hid o5.len
    have hn8 : n3 ≤ 8 := by rw [← LQ.out]; exact hql
    have HTM := Go.Lib.hid (fewQ_terms q)
    clear hql
    generalize fewQ q = fq at *
    have ee : ∃ ee : Ev, ee = ⟨ev.s, ev.t, ts, ev.fs⟩ := ⟨_, rfl⟩
    obtain ⟨ee, hee⟩ := ee
    rw [← hee] at hu1
    clear hee
    have kx0 := x5.c0
    have kx1 := x5.c1
    have al : Below wc.heap.size wc (wc.alloc (.cells #[.slice X nX cX, .slice Y nY cY] 36)) := (Below.refl _ _).alloc (Nat.le_refl _) _
    have a1 := ClAt.new wc (.slice X nX cX) (.slice Y nY cY)
    have s6 := s5.below al
    have o6 := ownQ_later (o5.below al) s6.bel
    have rq1 := row_cl (c := c) a1 (RdC.below rX s6.bel) (RdC.below rY s6.bel)
    clear s5 x5 o5 al a1 rX rY
    go_wp2_with fail
    generalize wc.alloc (.cells #[.slice X nX cX, .slice Y nY cY] 36) = wR at *
    generalize wc.heap.size = gR at *
    refine (fewQ_any _ [c] wR wR ⟨_, _, _, rfl, rq1⟩ (Below.refl _ _)).mono ?_
    rintro e w7 ⟨A1, n1, c1, rfl, o1, b7⟩
    have hq1 := fewQ_len [c]
    have LF := Go.Lib.hid o1.len
    have hn1 : n1 ≤ 8 := by rw [← LF.out]; exact hq1
    clear hq1
    generalize fewQ [c] = f1 at *
    have bR := s6.bel
    have s7 := s6.below b7
    have o7 := o6.below b7
    have q8 := QAt.new w7 (.slice A1 n1 c1)
    have al : Below w7.heap.size w7 (w7.alloc (.cells #[.slice A1 n1 c1] 24)) := (Below.refl _ _).alloc (Nat.le_refl _) _
    have s8 := s7.below al
    have o8 := o7.below al
    have p8 := o1.below al
    have bR8 := below_chain b7 al
    clear s6 o6 kx0 kx1 b7 s7 o7 o1 rq1 al
    go_upto_region 6 with (fail)
    generalize w7.alloc (.cells #[.slice A1 n1 c1] 24) = w8 at *
    generalize w7.heap.size = g1 at *
    have k0 := s8.eq.c0
    have k1 := q8.c0
    go_cut [9] (fun p wx => ∃ g A c, p = .pointer (some ⟨g, 0, none⟩) ∧ EndAt wR w8 wx g A (n3 + n1) c (fq ++ f1))
    case first =>
      obtain ⟨cs, oc, hcl, t1⟩ := o8
      obtain ⟨cs1, oc1, hcl1, t2⟩ := p8
      have d1 := OwnC.rd oc
      have d2 := OwnC.rd oc1
      have al : Below w8.heap.size w8 (w8.alloc (.cells #[] 36)).drew := bel_drew ((Below.refl _ _).alloc (Nat.le_refl _) _)
      have o6 : OwnC 2 (w8.alloc (.cells #[] 36)).drew w8.heap.size 36 (some ⟨w8.heap.size, 0, none⟩) 0 0 [] := OwnC.below (OwnC.empty w8 36 (Nat.le_refl _)) (bel_drew (Below.refl _ _))
      have d6 := RdC.below d1 al
      have k6 := bcell al k0
      have l6 := bcell al k1
      have be : Below (w8.alloc (.cells #[] 36)).heap.size (w8.alloc (.cells #[] 36)) ((w8.alloc (.cells #[] 36)).alloc (.cells #[.slice none 0 0] 24)).drew := bel_drew ((Below.refl _ _).alloc (Nat.le_refl _) _)
      have am : Below w8.heap.size w8 ((w8.alloc (.cells #[] 36)).alloc (.cells #[.slice none 0 0] 24)).drew := below_chain ((Below.refl _ _).alloc (Nat.le_refl _) _) be
      have o7 : OwnC 2 ((w8.alloc (.cells #[] 36)).alloc (.cells #[.slice none 0 0] 24)).drew w8.heap.size 36 (some ⟨w8.heap.size, 0, none⟩) 0 0 [] := OwnC.below (OwnC.empty w8 36 (Nat.le_refl _)) be
      have d7 := RdC.below d1 am
      have k7 := bcell am k0
      have l7 := bcell am k1
      have bf : Below w8.heap.size w8 (w8.alloc (.cells #[.slice none 0 0] 24)) := (Below.refl _ _).alloc (Nat.le_refl _) _
      have bg : Below (w8.alloc (.cells #[.slice none 0 0] 24)).heap.size (w8.alloc (.cells #[.slice none 0 0] 24)) ((w8.alloc (.cells #[.slice none 0 0] 24)).alloc (.cells #[] 36)).drew := bel_drew ((Below.refl _ _).alloc (Nat.le_refl _) _)
      have an : Below w8.heap.size w8 ((w8.alloc (.cells #[.slice none 0 0] 24)).alloc (.cells #[] 36)).drew := below_chain bf bg
      have o9 : OwnC 2 ((w8.alloc (.cells #[.slice none 0 0] 24)).alloc (.cells #[] 36)).drew w8.heap.size 36 (some ⟨w8.heap.size + 1, 0, none⟩) 0 0 [] := by
        have h := OwnC.below (OwnC.empty (k := 2) (base := w8.heap.size) (w8.alloc (.cells #[.slice none 0 0] 24)) 36 bf.size) (bel_drew (Below.refl _ _))
        simpa using h
      have d8 := RdC.below d1 an
      have k8 := bcell an k0
      have l8 := bcell an k1
      have h1a : 0 + n3 ≤ maxLen := by unfold maxLen; omega
      have h2a : (0 + n3) * 48 ≤ 140737488355328 := by omega
      have h1c : n3 + n1 ≤ maxLen := by unfold maxLen; omega
      have h2c : (n3 + n1) * 48 ≤ 140737488355328 := by omega
      have q7 : QAt ((w8.alloc (.cells #[] 36)).alloc (.cells #[.slice none 0 0] 24)).drew (w8.heap.size + 1) (.slice none 0 0) := by
        have h := QAt.new (w8.alloc (.cells #[] 36)) (.slice none 0 0)
        have e : (w8.alloc (.cells #[] 36)).heap.size = w8.heap.size + 1 := by simp
        rw [e] at h
        exact h
      have q9 : QAt ((w8.alloc (.cells #[.slice none 0 0] 24)).alloc (.cells #[] 36)).drew w8.heap.size (.slice none 0 0) := (QAt.new w8 (.slice none 0 0)).below bg
      have k9 : (w8.alloc (.cells #[.slice none 0 0] 24)).drew.cell? ⟨w.heap.size, 0, none⟩ = some (.slice A3 n3 c3) := bcell (bel_drew bf) k0
      have l9 : (w8.alloc (.cells #[.slice none 0 0] 24)).drew.cell? ⟨g1, 0, none⟩ = some (.slice A1 n1 c1) := bcell (bel_drew bf) k1
      clear be bf bg
      have hlen : Hid ((fq ++ f1).length = n3 + n1) := Go.Lib.hid (by rw [List.length_append, hcl, hcl1])
      go_region_law (first
          | (refine step_append_cells (by rfl) (.tmp 32) (.tmp 34) 22 rfl 36 (.agg #[.slice none 0 0, .slice none 0 0]) 48 Try.underlying22 clause_info rfl (by decide) rfl rfl o10' d10 (clsF_one _ _ t2) h1c h2c b10.size ?_; intro A12 c12 w12 o12 g12 e12; have b12 := below_grown_own o10' b10 g12 b10.size; have q12 : OwnQ wR w12 w8.heap.size A12 (n3 + n1) c12 (fq ++ f1) := ⟨_, o12, hlen.out, ClsR.append _ _ _ _ t1 t2⟩; first | (have q13 := qb.grown g12 nb; have z13 := q13.frozen 0; have k13 := q13.c0; have EA := EndAt.set q13 q12 b12 gb (grown_off e12 (Ne.symm nb) lb)) | (have EA := EndAt.alloc q12 b12))
          | (refine step_append_cells (by rfl) (.tmp 32) (.tmp 34) 22 rfl 36 (.agg #[.slice none 0 0, .slice none 0 0]) 48 Try.underlying22 clause_info rfl (by decide) rfl rfl o11' d11 (clsF_one _ _ t2) h1c h2c b11.size ?_; intro A12 c12 w12 o12 g12 e12; have b12 := below_grown_own o11' b11 g12 b11.size; have q12 : OwnQ wR w12 w8.heap.size A12 (n3 + n1) c12 (fq ++ f1) := ⟨_, o12, hlen.out, ClsR.append _ _ _ _ t1 t2⟩; have nb : some w10.heap.size ≠ A10.map (·.block) := row_off (fun x hx => Nat.ne_of_lt (OwnC.lt o10 x hx).2); have q13 := qx.grown g12 nb; have z13 := q13.frozen 0; have k13 := q13.c0; have EA := EndAt.set q13 q12 b12 b10.size (grown_off e12 (Ne.symm nb) (by simp)))
          | (refine step_append_cells (by rfl) (.tmp 29) (.tmp 31) 22 rfl 36 (.agg #[.slice none 0 0, .slice none 0 0]) 48 Try.underlying22 clause_info rfl (by decide) rfl rfl o6 d6 (clsF_one _ _ t1) h1a h2a al.size ?_; intro A10 c10 w10 o10 g10 e10; have b10 := below_grown_own o6 al g10 al.size; have k10 := bcell b10 k0; have l10 := bcell b10 k1; have d10 := RdC.below d2 b10; have o10' := o10; rw [Nat.zero_add, List.nil_append] at o10'; have bx := (Below.refl w10.heap.size w10).alloc (Nat.le_refl _) (.cells #[.slice none 0 0] 24); have b11 := below_chain b10 bx; have o11' := OwnC.below o10' bx; have d11 := RdC.below d2 b11; have k11 := bcell b11 k0; have l11 := bcell b11 k1; have qx := QAt.new w10 (.slice none 0 0))
          | (refine step_append_cells (by rfl) (.tmp 29) (.tmp 31) 22 rfl 36 (.agg #[.slice none 0 0, .slice none 0 0]) 48 Try.underlying22 clause_info rfl (by decide) rfl rfl o7 d7 (clsF_one _ _ t1) h1a h2a am.size ?_; intro A10 c10 w10 o10 g10 e10; have b10 := below_grown_own o7 am g10 am.size; have k10 := bcell b10 k0; have l10 := bcell b10 k1; have d10 := RdC.below d2 b10; have o10' := o10; rw [Nat.zero_add, List.nil_append] at o10'; have qb := q7.grown g10 (by simp); have nb : some (w8.heap.size + 1) ≠ A10.map (·.block) := row_off (grown_off e10 (by simp) (by simp)); have gb : w8.heap.size ≤ w8.heap.size + 1 := Nat.le_succ _; have lb : w8.heap.size + 1 ≠ w10.heap.size := Nat.ne_of_lt qb.lt)
          | (refine step_append_cells (by rfl) (.tmp 29) (.tmp 31) 22 rfl 36 (.agg #[.slice none 0 0, .slice none 0 0]) 48 Try.underlying22 clause_info rfl (by decide) rfl rfl o9 d8 (clsF_one _ _ t1) h1a h2a an.size ?_; intro A10 c10 w10 o10 g10 e10; have b10 := below_grown_own o9 an g10 an.size; have k10 := bcell b10 k0; have l10 := bcell b10 k1; have d10 := RdC.below d2 b10; have o10' := o10; rw [Nat.zero_add, List.nil_append] at o10'; have qb := q9.grown g10 (by simp); have nb : some w8.heap.size ≠ A10.map (·.block) := row_off (grown_off e10 (by simp) (by simp; omega)); have gb : w8.heap.size ≤ w8.heap.size := Nat.le_refl _; have lb : w8.heap.size ≠ w10.heap.size := Nat.ne_of_lt qb.lt))
      all_goals
        go_wp2_with fail
        go_meet
        exact ⟨_, _, _, rfl, EA⟩
    case rest =>
      obtain ⟨we, rfl⟩ : ∃ we, we = wc := ⟨_, rfl⟩
      obtain ⟨g, A, cE, rfl, EA⟩ := hcut
      have sE := s8.below EA.bel
      have kq := sE.eq.c0
      have l0 := sE.ee.c0
      have l1 := sE.ee.c1
      have l2 := sE.ee.c2
      have l3 := sE.ee.c3
      have k1E := (q8.below EA.bel).c0
      have kE := EA.qa.c0
      have bRc := below_chain bR8 EA.bel
      have oc9 := o8.below EA.bel
      have iq := OwnQ.isq oc9 bRc
      have iF := OwnQ.isq (p8.below EA.bel) bRc
      have iE := OwnQ.isq EA.oq bRc
      have iu := hu1.below sE.bel
      have b0 : Below we.heap.size we we.drew := bel_drew (Below.refl _ _)
      have iq0 := iq.below b0
      have iF0 := iF.below b0
      have iE0 := iE.below b0
      have iu0 := iu.below b0
      clear s8 q8 o8 p8 k0 k1 bR8 iq iF iE EA
      generalize hMq : matchQ fq ee = Mq
      have HMq := Go.Lib.hid hMq
      have hM : matchQ (fq ++ f1) ee = (Mq || matchQ f1 ee) := by rw [matchQ_append, hMq]
      generalize hM1 : matchQ f1 ee = M1 at *
      have HM1 := Go.Lib.hid hM1
      have HM := Go.Lib.hid hM
      clear hMq hM1 hM
      go_upto_region 7 with (fail)
      go_cut [48] (fun t wx => t = .bool false ∧ Below we.heap.size we wx)
      case first =>
        cases Mq with
        | true =>
          rw [Bool.true_or] at HM
          refine wp_region_held_drew (S := (fun w' => w'.cell? ⟨w.heap.size, 0, none⟩ = some (.slice A3 n3 c3) ∧ w'.cell? ⟨w.heap.size + 1, 0, none⟩ = some (.string ev.s) ∧ w'.cell? ⟨w.heap.size + 1, 1, none⟩ = some (.string ev.t) ∧ w'.cell? ⟨w.heap.size + 1, 2, none⟩ = some (.slice T nT' cT) ∧ w'.cell? ⟨w.heap.size + 1, 3, none⟩ = some (.slice F nF cF) ∧ w'.cell? ⟨g, 0, none⟩ = some (.slice A (n3 + n1) cE))) (by kernel_rfl) ?_ (fun hHeld => ?_)
          · exact ⟨kq, l0, l1, l2, l3, kE⟩
          refine take_at (i := 0) (d := 37) (v := ?_) rfl rfl (by kernel_rfl) (by kernel_rfl) (by kernel_rfl) (fun _ _ _ h => h) (Or.inl ⟨by rfl, ?hy⟩) (by assumption) ?_
          case hy => (intro wS hSw; (try dsimp only at hSw); first | (go_simp; done) | (go_simp; with_reducible rfl))
          simp only [Act.put, List.setIfInBounds_toArray, List.set_cons_zero, List.set_cons_succ]
          refine take_at (i := 1) (d := 38) (v := ?_) rfl rfl (by kernel_rfl) (by kernel_rfl) (by kernel_rfl) (fun _ _ _ h => h) (Or.inl ⟨by rfl, ?hy⟩) (by assumption) ?_
          case hy => (intro wS hSw; (try dsimp only at hSw); first | (go_simp; done) | (go_simp; with_reducible rfl))
          simp only [Act.put, List.setIfInBounds_toArray, List.set_cons_zero, List.set_cons_succ]
          refine take_at (i := 3) (d := 40) (v := ?_) rfl rfl (by kernel_rfl) (by kernel_rfl) (by kernel_rfl) (fun _ _ _ h => h) (Or.inl ⟨by rfl, ?hy⟩) (by assumption) ?_
          case hy => (intro wS hSw; (try dsimp only at hSw); first | (go_simp; done) | (go_simp; with_reducible rfl))
          simp only [Act.put, List.setIfInBounds_toArray, List.set_cons_zero, List.set_cons_succ]
          refine take_at (i := 4) (d := 41) (v := ?_) rfl rfl (by kernel_rfl) (by kernel_rfl) (by kernel_rfl) (fun _ _ _ h => h) (Or.inl ⟨by rfl, ?hy⟩) (by assumption) ?_
          case hy => (intro wS hSw; (try dsimp only at hSw); first | (go_simp; done) | (go_simp; with_reducible rfl))
          simp only [Act.put, List.setIfInBounds_toArray, List.set_cons_zero, List.set_cons_succ]
          refine wpAnyH_ready (rs := [2]) (by kernel_rfl) (by simp) ?_
          refine AllReadyH.cons rfl (fun K2 hK2 => ?_) AllReadyH.nil
          go_simp
          go_wp2_with (go_at_call 18; refine (api.mtch _ (.agg #[.string ev.s, .string ev.t, .slice T nT' cT, .slice F nF cF]) (fq ++ f1) ee we.drew iE0 iu0).mono ?_; rintro e w9 ⟨rfl, bb⟩; rw [HM.out]; have bw9 := bb; have b9 := below_chain b0 bb; clear bb)
          refine hK2.out _ _ ?_ (fun hH2 => ?_)
          · exact ⟨bcell b9 kq, bcell b9 l0, bcell b9 l1, bcell b9 l2, bcell b9 l3, bcell b9 kE⟩
          clear hK2 K2 hHeld
          refine wpAnyH_ready (rs := [5]) (by kernel_rfl) (by simp) ?_
          refine AllReadyH.cons rfl (fun K5 hK5 => ?_) AllReadyH.nil
          go_simp
          go_wp2_with (go_at_call 18; refine (api.mtch _ (.agg #[.string ev.s, .string ev.t, .slice T nT' cT, .slice F nF cF]) fq ee w9 (iq0.below bw9) (iu0.below bw9)).mono ?_; rintro e w10 ⟨rfl, bb⟩; rw [HMq.out]; have b10 := below_chain b9 bb; clear bb)
          refine hK5.out _ _ ?_ (fun hH5 => ?_)
          · exact ⟨bcell b10 kq, bcell b10 l0, bcell b10 l1, bcell b10 l2, bcell b10 l3, bcell b10 kE⟩
          clear hK5 K5 hH2
          refine take_at (i := 6) (d := 43) (v := ?_) rfl rfl (by kernel_rfl) (by kernel_rfl) (by kernel_rfl) (fun _ _ _ h => h) (Or.inl ⟨by rfl, ?hy⟩) (by assumption) ?_
          case hy => (intro wS hSw; (try dsimp only at hSw); first | (go_simp; done) | (go_simp; with_reducible rfl))
          simp only [Act.put, List.setIfInBounds_toArray, List.set_cons_zero, List.set_cons_succ]
          refine take_at (i := 7) (d := 44) (v := undef) rfl rfl (by kernel_rfl) (by kernel_rfl) (by kernel_rfl) (fun _ _ _ h => h) (Or.inr ⟨by rfl, rfl⟩) (by assumption) ?_
          simp only [Act.put, List.setIfInBounds_toArray, List.set_cons_zero, List.set_cons_succ]
          refine take_at (i := 8) (d := 45) (v := undef) rfl rfl (by kernel_rfl) (by kernel_rfl) (by kernel_rfl) (fun _ _ _ h => h) (Or.inr ⟨by rfl, rfl⟩) (by assumption) ?_
          simp only [Act.put, List.setIfInBounds_toArray, List.set_cons_zero, List.set_cons_succ]
          refine take_at (i := 9) (d := 46) (v := undef) rfl rfl (by kernel_rfl) (by kernel_rfl) (by kernel_rfl) (fun _ _ _ h => h) (Or.inr ⟨by rfl, rfl⟩) (by assumption) ?_
          simp only [Act.put, List.setIfInBounds_toArray, List.set_cons_zero, List.set_cons_succ]
          refine take_at (i := 10) (d := 47) (v := ?_) rfl rfl (by kernel_rfl) (by kernel_rfl) (by kernel_rfl) (fun _ _ _ h => h) (Or.inl ⟨by rfl, ?hy⟩) (by assumption) ?_
          case hy => (intro wS hSw; (try dsimp only at hSw); first | (go_simp; done) | (go_simp; with_reducible rfl))
          simp only [Act.put, List.setIfInBounds_toArray, List.set_cons_zero, List.set_cons_succ]
          refine take_at (i := 11) (d := 48) (v := ?_) rfl rfl (by kernel_rfl) (by kernel_rfl) (by kernel_rfl) (fun _ _ _ h => h) (Or.inl ⟨by rfl, ?hy⟩) (by assumption) ?_
          case hy => (intro wS hSw; (try dsimp only at hSw); first | (go_simp; done) | (go_simp; with_reducible rfl))
          simp only [Act.put, List.setIfInBounds_toArray, List.set_cons_zero, List.set_cons_succ]
          refine wpAnyH_done (by kernel_rfl) ?_ _
          go_wp2_with fail
          go_meet
          exact ⟨by simp, b10⟩
        | false =>
          rw [Bool.false_or] at HM
          go_region_held (fun w' => w'.cell? ⟨w.heap.size, 0, none⟩ = some (.slice A3 n3 c3) ∧ w'.cell? ⟨w.heap.size + 1, 0, none⟩ = some (.string ev.s) ∧ w'.cell? ⟨w.heap.size + 1, 1, none⟩ = some (.string ev.t) ∧ w'.cell? ⟨w.heap.size + 1, 2, none⟩ = some (.slice T nT' cT) ∧ w'.cell? ⟨w.heap.size + 1, 3, none⟩ = some (.slice F nF cF) ∧ w'.cell? ⟨g1, 0, none⟩ = some (.slice A1 n1 c1) ∧ w'.cell? ⟨g, 0, none⟩ = some (.slice A (n3 + n1) cE))
            (first | exact ⟨kq, l0, l1, l2, l3, k1E, kE⟩ | exact ⟨bcell b9 kq, bcell b9 l0, bcell b9 l1, bcell b9 l2, bcell b9 l3, bcell b9 k1E, bcell b9 kE⟩ | exact ⟨bcell b10 kq, bcell b10 l0, bcell b10 l1, bcell b10 l2, bcell b10 l3, bcell b10 k1E, bcell b10 kE⟩ | exact ⟨bcell b11 kq, bcell b11 l0, bcell b11 l1, bcell b11 l2, bcell b11 l3, bcell b11 k1E, bcell b11 kE⟩)
            (first
            | (go_at_call 18; refine (api.mtch _ (.agg #[.string ev.s, .string ev.t, .slice T nT' cT, .slice F nF cF]) f1 ee w10 (iF0.below bw10) (iu0.below bw10)).mono ?_; rintro e w11 ⟨rfl, bb⟩; rw [HM1.out]; have b11 := below_chain b10 bb; clear bb)
            | (go_at_call 18; refine (api.mtch _ (.agg #[.string ev.s, .string ev.t, .slice T nT' cT, .slice F nF cF]) fq ee w9 (iq0.below bw9) (iu0.below bw9)).mono ?_; rintro e w10 ⟨rfl, bb⟩; rw [HMq.out]; have bw10 := below_chain bw9 bb; have b10 := below_chain b9 bb; clear bb)
            | (go_at_call 18; refine (api.mtch _ (.agg #[.string ev.s, .string ev.t, .slice T nT' cT, .slice F nF cF]) (fq ++ f1) ee we.drew iE0 iu0).mono ?_; rintro e w9 ⟨rfl, bb⟩; rw [HM.out]; have bw9 := bb; have b9 := below_chain b0 bb; clear bb))
          go_wp2_with fail
          go_meet
          exact ⟨by simp, b11⟩
      case rest =>
        obtain ⟨rfl, b12⟩ := hcut
        have sB := sE.below b12
        have oB := oc9.below b12
        have bRB := below_chain bRc b12
        have lk := LkAt.new wR wc
        have kL := (sB.below lk.bel).eq.c0
        clear sE oc9 bRc b0 iq0 iF0 iE0 iu0 HM HM1 kq l0 l1 l2 l3 k1E kE b12
        go_wp2_with fail
        clear kL
        generalize wc.alloc (.cells #[.slice none 0 0] 24) = wl at *
        obtain ⟨wn, rfl⟩ : ∃ wn, wn = wc := ⟨_, rfl⟩
        go_loopw [11, 12, 13] (fun av i _ wr => ∃ (j : Nat) (R : Bool) (B : Option Addr) (cB : Nat), j ≤ n3 ∧ i = .int .i64 j ∧ av = .bool R ∧ Hid (matchQ (fq.take j) ee = R) ∧ LkAt wR wr wn B j cB ((fq.take j).map (tagged ⟨#[97, 58, 120]⟩))) (fun _ i _ _ => n3 - (intOf i).toNat)
        case atStart => exact ⟨0, false, none, 0, Nat.zero_le _, rfl, rfl, Go.Lib.hid rfl, lk⟩
        case round =>
          obtain ⟨wo, rfl⟩ : ∃ wo, wo = wr := ⟨_, rfl⟩
          obtain ⟨j, R, B, cB, hj, rfl, rfl, HQ, lr⟩ := hrel
          clear lk
          have sr := sB.below lr.bel
          have orr := oB.below lr.bel
          have bRo := below_chain bRB lr.bel
          have k0 := sr.eq.c0
          have l0 := sr.ee.c0
          have l1 := sr.ee.c1
          have l2 := sr.ee.c2
          have l3 := sr.ee.c3
          by_cases hlt : j < n3
          · obtain ⟨bt, ot, U, nU, cU, Z, nZ, cZ, rfl, x0, x1, rU, rZ⟩ := ownQ_at orr hlt
            have i1 : (j : Int) < n3 := by omega
            have hjl : j < fq.length := by rw [LQ.out]; exact hlt
            have HS : Hid (matchQ (fq.take (j + 1)) ee = (matchQ (fq.take j) ee || clauseB (fq.getD j noCl) ee)) := Go.Lib.hid (by rw [cl_take fq j hjl, matchQ_append]; simp [matchQ])
            have HTG : Hid ((fq.take (j + 1)).map (tagged ⟨#[97, 58, 120]⟩) = (fq.take j).map (tagged ⟨#[97, 58, 120]⟩) ++ [tagged ⟨#[97, 58, 120]⟩ (fq.getD j noCl)]) := Go.Lib.hid (by rw [cl_take fq j hjl, List.map_append]; rfl)
            have hnU : nU ≤ 8 := by rw [← rU.len]; exact (HTM.out _ (cl_get hjl)).1
            clear hjl
            generalize fq.getD j noCl = x at *
            have al : Below wo.heap.size wo (wo.alloc (.cells #[.slice U nU cU, .slice Z nZ cZ] 36)) := (Below.refl _ _).alloc (Nat.le_refl _) _
            have e14 := ClAt.new wo (.slice U nU cU) (.slice Z nZ cZ)
            have s14 := sr.below al
            go_upto_region 15 with (fail)
            generalize wo.alloc (.cells #[.slice U nU cU, .slice Z nZ cZ] 36) = w14 at *
            clear k0 l0 l1 l2 l3 x0 x1
            go_cut [11] (fun av wx => av = .bool (R || clauseB x ee) ∧ Below w14.heap.size w14 wx)
            case first =>
              cases R with
              | true =>
                go_wp2_with fail
                go_meet
                exact ⟨rfl, Below.refl _ _⟩
              | false =>
                have a2 : Below w14.heap.size w14 (w14.alloc (.cells #[.slice U nU cU, .slice Z nZ cZ] 36)) := (Below.refl _ _).alloc (Nat.le_refl _) _
                have e15 := ClAt.new w14 (.slice U nU cU) (.slice Z nZ cZ)
                have b15 := below_chain al a2
                have s15 := s14.below a2
                have bR15 := below_chain bRo b15
                have rq := row_cl (c := x) e15 (RdC.below rU bR15) (RdC.below rZ bR15)
                have k0 := e14.c0
                have k1 := e14.c1
                have l0 := s15.ee.c0
                have l1 := s15.ee.c1
                have l2 := s15.ee.c2
                have l3 := s15.ee.c3
                have cm := Go.Lib.hid (api.mtch _ (.agg #[.string ev.s, .string ev.t, .slice T nT' cT, .slice F nF cF]) [x] ee _ ⟨_, _, _, rfl, rq⟩ (hu1.below s15.bel))
                have HX : Hid (matchQ [x] ee = clauseB x ee) := Go.Lib.hid (by simp [matchQ])
                clear e15 b15 s15 bR15 rq
                go_wp2_with (refine (cm.out).mono ?_; rintro e w16 ⟨rfl, b16⟩; rw [HX.out]; have b17 := below_chain a2 b16; clear cm a2 b16)
                go_meet
                exact ⟨rfl, b17⟩
            case rest =>
              obtain ⟨rfl, b15⟩ := hcut
              have e15 := e14.below b15
              have bo := below_chain al b15
              have hgo := e15.lt
              have rU0 := RdC.below rU (below_chain bRo bo)
              clear al e14 s14 sr orr b15
              generalize hco : clauseB x ee = co at *
              have HCO := Go.Lib.hid hco
              clear hco
              have a1 : Below wc.heap.size wc (wc.alloc (.cells #[] 9)) := (Below.refl _ _).alloc (Nat.le_refl _) _
              have o16 : OwnC 1 (wc.alloc (.cells #[] 9)) wc.heap.size 9 (some ⟨wc.heap.size, 0, none⟩) 0 0 [] := OwnC.empty wc 9 (Nat.le_refl _)
              have r16 := RdC.below rU0 a1
              have k16 := bcell a1 e15.c0
              have h63 : 0 + nU ≤ maxLen := by unfold maxLen; omega
              have hsz : (0 + nU) * 16 ≤ 140737488355328 := by omega
              have h63b : nU + 1 ≤ maxLen := by unfold maxLen; omega
              have hszb : (nU + 1) * 16 ≤ 140737488355328 := by omega
              have h63c : j + 1 ≤ maxLen := by unfold maxLen; omega
              have hszc : (j + 1) * 48 ≤ 140737488355328 := by omega
              have HB : Hid (∀ b, B = some b → b.block < wo.heap.size) := Go.Lib.hid fun b hb => by
                obtain ⟨cs, oc, _, _⟩ := lr.ow
                exact (OwnC.lt oc b hb).2
              have hnl : wn.heap.size < wo.heap.size := lr.bb.lt
              have HQ' : Hid (matchQ (fq.take (j + 1)) ee = (R || co)) := Go.Lib.hid (by rw [HS.out, HQ.out])
              clear HS HQ
              go_wp2_with (first
                | (at_builtin; refine wpList_append_cells rfl (.tmp 70) (.tmp 72) 30 rfl 9 (.string ByteArray.empty) 16 Try.underlying30 string_info rfl (by decide) rfl rfl o16 r16 (strs_one _) h63 hsz a1.size ?_; intro A16 c16 w16 o17x g16 _
                   have o17 := o17x
                   rw [Nat.zero_add, List.nil_append] at o17
                   have b16 := below_grown_own o16 a1 g16 a1.size
                   have al : Below w16.heap.size w16 (w16.alloc (.cells #[.string ⟨#[97, 58, 120]⟩] 9)) := (Below.refl _ _).alloc (Nat.le_refl _) _
                   have o18 := OwnC.below o17 al
                   have d18 : RdC 1 (w16.alloc (.cells #[.string ⟨#[97, 58, 120]⟩] 9)) (some ⟨w16.heap.size, 0, none⟩) 1 1 (MemRow.strs [⟨#[97, 58, 120]⟩]) := RdC.new w16 9 (MemRow.strs [⟨#[97, 58, 120]⟩]) rfl (by decide)
                   have b17 := below_chain b16 al
                   have k17 := bcell b17 e15.c0
                   clear o16 r16 k16 o17x o17 g16 b16 al a1)
                | (at_builtin; refine wpList_append_cells rfl (.tmp 73) (.tmp 74) 30 rfl 9 (.string ByteArray.empty) 16 Try.underlying30 string_info rfl (by decide) rfl rfl o18 d18 (strs_one _) h63b hszb b17.size ?_; intro A17 c17 w17 o19 g17 _
                   have b17' := below_grown_own o18 b17 g17 b17.size
                   have e17 := e15.below b17'
                   have z17 := e17.frozen 0
                   have kk := e17.c0
                   have e18 := e17.set0 (.slice A17 (nU + 1) c17)
                   have f0 := e18.c0
                   have f1 := e18.c1
                   have lt17 := OwnC.lt o19
                   have rT18 : RdS (w17.setCell ⟨wo.heap.size, 0, none⟩ (.slice A17 (nU + 1) c17)) A17 (nU + 1) c17 (x.tags ++ [⟨#[97, 58, 120]⟩]) := by
                     have h := RdC.off (g := wo.heap.size) (i := 0) (OwnC.rd o19) (fun a ha => by have := (lt17 a ha).1; omega) (.slice A17 (nU + 1) c17)
                     unfold RdS
                     rw [strs_append]
                     exact h
                   have b18 := (below_chain bo b17').setCell (p := ⟨wo.heap.size, 0, none⟩) (Nat.le_refl _) (.slice A17 (nU + 1) c17)
                   have hs18 : (w17.setCell ⟨wo.heap.size, 0, none⟩ (.slice A17 (nU + 1) c17)).heap.size = w17.heap.size := by simp [World.setCell]
                   have lr18 := lr.below b18
                   have kl := lr18.bb.c0
                   have al : Below (w17.setCell ⟨wo.heap.size, 0, none⟩ (.slice A17 (nU + 1) c17)).heap.size (w17.setCell ⟨wo.heap.size, 0, none⟩ (.slice A17 (nU + 1) c17)) ((w17.setCell ⟨wo.heap.size, 0, none⟩ (.slice A17 (nU + 1) c17)).alloc (.cells #[.slice A17 (nU + 1) c17, .slice Z nZ cZ] 36)) := (Below.refl _ _).alloc (Nat.le_refl _) _
                   have b19 := below_chain b18 al
                   have lr19 := lr.below b19
                   have km := lr19.bb.c0
                   have rT19 : RdS ((w17.setCell ⟨wo.heap.size, 0, none⟩ (.slice A17 (nU + 1) c17)).alloc (.cells #[.slice A17 (nU + 1) c17, .slice Z nZ cZ] 36)) A17 (nU + 1) c17 (tagged ⟨#[97, 58, 120]⟩ x).tags := RdC.below rT18 al
                   have d19 : RdC 2 ((w17.setCell ⟨wo.heap.size, 0, none⟩ (.slice A17 (nU + 1) c17)).alloc (.cells #[.slice A17 (nU + 1) c17, .slice Z nZ cZ] 36)) (some ⟨(w17.setCell ⟨wo.heap.size, 0, none⟩ (.slice A17 (nU + 1) c17)).heap.size, 0, none⟩) 1 1 [.slice A17 (nU + 1) c17, .slice Z nZ cZ] := RdC.new (w17.setCell ⟨wo.heap.size, 0, none⟩ (.slice A17 (nU + 1) c17)) 36 [.slice A17 (nU + 1) c17, .slice Z nZ cZ] rfl (by decide)
                   rw [hs18] at d19
                   have T19 : Hid (∀ a, A17 = some a → wn.heap.size + 1 ≤ a.block ∧ a.block < ((w17.setCell ⟨wo.heap.size, 0, none⟩ (.slice A17 (nU + 1) c17)).alloc (.cells #[.slice A17 (nU + 1) c17, .slice Z nZ cZ] 36)).heap.size ∧ some a.block ≠ B.map (·.block)) := Go.Lib.hid fun a ha => ⟨by have := (lt17 a ha).1; omega, by have h2 := (lt17 a ha).2; have h3 := al.size; rw [hs18] at h3; exact Nat.lt_of_lt_of_le h2 h3, fun e => by
                     cases B with
                     | none => cases e
                     | some b =>
                       simp only [Option.map_some, Option.some.injEq] at e
                       have h1 := HB.out b rfl
                       have h2 := (lt17 a ha).1
                       omega⟩
                   have big : wn.heap.size + 1 ≤ ((w17.setCell ⟨wo.heap.size, 0, none⟩ (.slice A17 (nU + 1) c17)).alloc (.cells #[.slice A17 (nU + 1) c17, .slice Z nZ cZ] 36)).heap.size := lr19.bb.lt
                   obtain ⟨cs, oc, hcl, hcs⟩ := lr19.ow
                   clear o18 d18 b17 g17 b17' e17 e18 o19 lt17 rT18 b18 lr18 al k17 hs18 b19)
                | (at_builtin; refine wpList_append_cells rfl (.tmp 78) (.tmp 80) 22 rfl 36 (.agg #[.slice none 0 0, .slice none 0 0]) 48 Try.underlying22 clause_info rfl (by decide) rfl rfl oc d19 (cl_one _ _ _ _ _ _) h63c hszc big ?_; intro B' cB' w20 o20 g20 e20
                   obtain ⟨z20, k20, n20⟩ := lr19.more (c := tagged ⟨#[97, 58, 120]⟩ x) oc hcl hcs rT19 rZ T19.out o20 g20 e20
                   have N20 := Go.Lib.hid n20
                   clear n20 lr19 oc hcl hcs d19 rT19 T19 o20 g20 e20))
              go_roundw
              case rel => exact ⟨j + 1, _, B', cB', hlt, by go_num, rfl, HQ', by rw [HTG.out]; exact N20.out⟩
              case measure => simp [intOf]; omega
          · obtain rfl : j = n3 := by omega
            have i1 : ¬ (j : Int) < j := by omega
            have HRM : Mq = R := by
              have h := HQ.out
              rw [List.take_of_length_le (by rw [LQ.out]; exact Nat.le_refl _)] at h
              rw [← HMq.out, h]
            subst HRM
            have iq := OwnQ.isq orr bRo
            have il := lr.isq bRo
            have iu := hu1.below sr.bel
            have B0 := sr.bel
            have kl := lr.bb.c0
            have hft : fq.take j = fq := List.take_of_length_le (by rw [LQ.out]; exact Nat.le_refl _)
            rw [hft] at il
            have HI := Go.Lib.hid (matchQ_tagged (s := ⟨#[97, 58, 120]⟩) (q := fq) (e := ee))
            generalize hL : matchQ (fq.map (tagged ⟨#[97, 58, 120]⟩)) ee = L at *
            have HL := Go.Lib.hid hL
            have c1 := api.mtch _ (.agg #[.string ev.s, .string ev.t, .slice T nT' cT, .slice F nF cF]) fq ee wo iq iu
            rw [HMq.out] at c1 HI
            have C1 := Go.Lib.hid c1
            clear c1 hft hL HQ lr sr orr sB oB bRo
            go_wp2_with (refine (C1.out).mono ?_; rintro e w21 ⟨rfl, b21⟩; have c2 := api.mtch _ (.agg #[.string ev.s, .string ev.t, .slice T nT' cT, .slice F nF cF]) (fq.map (tagged ⟨#[97, 58, 120]⟩)) ee w21 (il.below b21) (iu.below b21); rw [HL.out] at c2; have C2 := Go.Lib.hid c2; have k0 := bcell b21 k0; have l0 := bcell b21 l0; have l1 := bcell b21 l1; have l2 := bcell b21 l2; have l3 := bcell b21 l3; have kl := bcell b21 kl; have B1 := below_chain B0 b21; clear c2 C1)
            cases L with
            | false =>
              go_wp2_with (refine (C2.out).mono ?_; rintro e w22 ⟨rfl, b22⟩; have B2 := below_chain B1 b22; clear C2)
              go_ret
              exact ⟨by simp, B2⟩
            | true =>
              have hM : Mq = true := by simpa using HI.out
              subst hM
              go_wp2_with (refine (C2.out).mono ?_; rintro e w22 ⟨rfl, b22⟩; have c3 := api.mtch _ (.agg #[.string ev.s, .string ev.t, .slice T nT' cT, .slice F nF cF]) fq ee w22 ((iq.below b21).below b22) ((iu.below b21).below b22); rw [HMq.out] at c3; have C3 := Go.Lib.hid c3; have k0 := bcell b22 k0; have l0 := bcell b22 l0; have l1 := bcell b22 l1; have l2 := bcell b22 l2; have l3 := bcell b22 l3; have B2 := below_chain B1 b22; clear c3 C2)
              go_wp2_with (refine (C3.out).mono ?_; rintro e w23 ⟨rfl, b23⟩; have B3 := below_chain B2 b23; clear C3)
              go_ret
              exact ⟨by simp, B3⟩

section
variable {H : Type} {enc : TypeId × Value → H}
set_option maxRecDepth 100000 in
theorem grows_main (W : World) (base : Nat) (v0 v1 v2 : Value) {d0 d1 d2 : DataW H} {p0 p1 p2 : List MemPlace} (o0 : Value.okWide Try.prog W .any base 24 v0) (o1 : Value.okWide Try.prog W .any base 33 v1) (o2 : Value.okWide Try.prog W .any base 36 v2)
    (h0 : DataW.Trod enc Try.prog W 0 (fun _ => true) true 24 v0 d0 p0) (h1 : DataW.Trod enc Try.prog W 0 (fun _ => true) true 33 v1 d1 p1) (h2 : DataW.Trod enc Try.prog W 0 (fun _ => true) true 36 v2 d2 p2) :
    Calls Try.prog 5 #[v0, v1, v2] W fun e W' => e = .returned (.bool true) ∧ Below W.heap.size W W' := by
  obtain ⟨q, hv, _⟩ := op_query o0 h0
  obtain ⟨ev, hu, _⟩ := op_event o1 h1
  obtain ⟨c, hz, _⟩ := op_clause o2 h2
  exact grows_walk qApi v0 v1 v2 q ev c W hv hu hz
end

end Go.Proofs.Ytfbooapgjhhjmaa.QlLaw
