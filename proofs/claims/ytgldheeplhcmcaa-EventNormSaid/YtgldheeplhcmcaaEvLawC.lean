/-
  Walks of the statements of layer 4: EventSame.
-/
import Derived.Test.YtgldheeplhcmcaaEvLawB
import Derived.Deep.DeepCutAuto
import Derived.Deep.RegionHeld
namespace Go.Proofs.Ytgldheeplhcmcaa.EvLaw
open Go.RowKit Go.WideShapes Go.ChangeShapes Go.Proofs.Ytgldheeplhcmcaa.MemRow Go.Proofs.Ytgldheeplhcmcaa.Ev Go.Proofs.Ytgldheeplhcmcaa.NameMath Go.Proofs.Ytgldheeplhcmcaa.NameWalk Go.Proofs.Ytgldheeplhcmcaa.EvWalk Go.Proofs.Ytgldheeplhcmcaa.Open

theorem sameB_comm (a b : Ev) : sameB a b = sameB b a := by
  unfold sameB
  simp only [eq_comm]
theorem sameB_s (a : Ev) (x : ByteArray) : sameB a ⟨x, a.t, a.tags, a.fs⟩ = (a.s.toList == x.toList) := by
  unfold sameB
  by_cases h : a.s = x
  · subst h; simp
  · rw [str_ne h]; simp [h]
theorem sameB_t (a : Ev) (x : ByteArray) : sameB a ⟨a.s, x, a.tags, a.fs⟩ = (a.t.toList == x.toList) := by
  unfold sameB
  by_cases h : a.t = x
  · subst h; simp
  · rw [str_ne h]; simp [h]
theorem sameB_tags (a : Ev) (x : ByteArray) : sameB a ⟨a.s, a.t, a.tags ++ [x], a.fs⟩ = false :=
  sameB_no (.inr (.inr (.inl fun h => by have := congrArg List.length h; simp at this)))
theorem sameB_fs (a : Ev) (x : ByteArray) : sameB a ⟨a.s, a.t, a.tags, a.fs ++ [(x, 0)]⟩ = false :=
  sameB_no (.inr (.inr (.inr fun h => by have := congrArg List.length h; simp at this)))

/-- A box whose cells stand in one array. -/
def Box (w : World) (g : Nat) (vs : Array Value) : Prop := ∃ v0 v1 v2 v3, vs = #[v0, v1, v2, v3] ∧ EvAt w g v0 v1 v2 v3
theorem Box.below {w w' : World} {g : Nat} {vs : Array Value} (h : Box w g vs) (hb : Below w.heap.size w w') : Box w' g vs := by
  obtain ⟨v0, v1, v2, v3, rfl, e⟩ := h
  exact ⟨v0, v1, v2, v3, rfl, e.below hb e.lt⟩
theorem Box.at_ {w : World} {g : Nat} {v0 v1 v2 v3 : Value} (h : Box w g #[v0, v1, v2, v3]) : EvAt w g v0 v1 v2 v3 := by
  obtain ⟨u0, u1, u2, u3, e, h⟩ := h
  simp only [Array.mk.injEq, List.cons.injEq, and_true] at e
  obtain ⟨rfl, rfl, rfl, rfl⟩ := e
  exact h
/-- The boxes of six events. -/
structure SixAt (wr w : World) (ga gb gc gd gf gg : Nat) (a b c d f g : Array Value) : Prop where
  ea : Box wr ga a
  eb : Box wr gb b
  ec : Box wr gc c
  ed : Box wr gd d
  ef : Box wr gf f
  eg : Box wr gg g
  bel : Below w.heap.size w wr
theorem SixAt.below {wr w w' : World} {ga gb gc gd gf gg : Nat} {a b c d f g : Array Value} (h : SixAt wr w ga gb gc gd gf gg a b c d f g) (hb : Below wr.heap.size wr w') : SixAt w' w ga gb gc gd gf gg a b c d f g :=
  ⟨h.ea.below hb, h.eb.below hb, h.ec.below hb, h.ed.below hb, h.ef.below hb, h.eg.below hb, below_chain h.bel hb⟩
theorem SixAt.cells {wr w : World} {ga gb gc gd gf gg : Nat} {a0 a1 a2 a3 b0 b1 b2 b3 c0 c1 c2 c3 d0 d1 d2 d3 f0 f1 f2 f3 g0 g1 g2 g3 : Value} (h : SixAt wr w ga gb gc gd gf gg #[a0, a1, a2, a3] #[b0, b1, b2, b3] #[c0, c1, c2, c3] #[d0, d1, d2, d3] #[f0, f1, f2, f3] #[g0, g1, g2, g3]) :
    wr.cell? ⟨ga, 0, none⟩ = some a0 ∧ wr.cell? ⟨ga, 1, none⟩ = some a1 ∧ wr.cell? ⟨ga, 2, none⟩ = some a2 ∧ wr.cell? ⟨ga, 3, none⟩ = some a3 ∧ wr.cell? ⟨gb, 0, none⟩ = some b0 ∧ wr.cell? ⟨gb, 1, none⟩ = some b1 ∧ wr.cell? ⟨gb, 2, none⟩ = some b2 ∧ wr.cell? ⟨gb, 3, none⟩ = some b3 ∧ wr.cell? ⟨gc, 0, none⟩ = some c0 ∧ wr.cell? ⟨gc, 1, none⟩ = some c1 ∧ wr.cell? ⟨gc, 2, none⟩ = some c2 ∧ wr.cell? ⟨gc, 3, none⟩ = some c3 ∧ wr.cell? ⟨gd, 0, none⟩ = some d0 ∧ wr.cell? ⟨gd, 1, none⟩ = some d1 ∧ wr.cell? ⟨gd, 2, none⟩ = some d2 ∧ wr.cell? ⟨gd, 3, none⟩ = some d3 ∧ wr.cell? ⟨gf, 0, none⟩ = some f0 ∧ wr.cell? ⟨gf, 1, none⟩ = some f1 ∧ wr.cell? ⟨gf, 2, none⟩ = some f2 ∧ wr.cell? ⟨gf, 3, none⟩ = some f3 ∧ wr.cell? ⟨gg, 0, none⟩ = some g0 ∧ wr.cell? ⟨gg, 1, none⟩ = some g1 ∧ wr.cell? ⟨gg, 2, none⟩ = some g2 ∧ wr.cell? ⟨gg, 3, none⟩ = some g3 :=
  ⟨h.ea.at_.c0, h.ea.at_.c1, h.ea.at_.c2, h.ea.at_.c3, h.eb.at_.c0, h.eb.at_.c1, h.eb.at_.c2, h.eb.at_.c3, h.ec.at_.c0, h.ec.at_.c1, h.ec.at_.c2, h.ec.at_.c3, h.ed.at_.c0, h.ed.at_.c1, h.ed.at_.c2, h.ed.at_.c3, h.ef.at_.c0, h.ef.at_.c1, h.ef.at_.c2, h.ef.at_.c3, h.eg.at_.c0, h.eg.at_.c1, h.eg.at_.c2, h.eg.at_.c3⟩

/-- The boxes of two events. -/
structure TwoAt (wr w : World) (a0 a1 a2 a3 b0 b1 b2 b3 : Value) : Prop where
  e0 : EvAt wr w.heap.size a0 a1 a2 a3
  e1 : EvAt wr (w.heap.size + 1) b0 b1 b2 b3
  bel : Below w.heap.size w wr
section
variable {wr w w' : World} {a0 a1 a2 a3 b0 b1 b2 b3 : Value}
theorem TwoAt.below (h : TwoAt wr w a0 a1 a2 a3 b0 b1 b2 b3) (hb : Below wr.heap.size wr w') : TwoAt w' w a0 a1 a2 a3 b0 b1 b2 b3 := ⟨h.e0.below hb h.e0.lt, h.e1.below hb h.e1.lt, below_chain h.bel hb⟩
theorem TwoAt.new (w : World) (a0 a1 a2 a3 b0 b1 b2 b3 : Value) :
    TwoAt ((w.alloc (.cells #[a0, a1, a2, a3] 25)).alloc (.cells #[b0, b1, b2, b3] 25)) w a0 a1 a2 a3 b0 b1 b2 b3 := by
  have e1 := EvAt.new w a0 a1 a2 a3
  have b1' : Below w.heap.size w (w.alloc (.cells #[a0, a1, a2, a3] 25)) := (Below.refl _ _).alloc (Nat.le_refl _) _
  generalize hw1 : w.alloc (.cells #[a0, a1, a2, a3] 25) = w1 at *
  have s1 : w1.heap.size = w.heap.size + 1 := by rw [← hw1]; simp
  have e2 := EvAt.new w1 b0 b1 b2 b3
  have b2' : Below w1.heap.size w1 (w1.alloc (.cells #[b0, b1, b2, b3] 25)) := (Below.refl _ _).alloc (Nat.le_refl _) _
  rw [s1] at e2
  exact ⟨e1.below b2' e1.lt, e2, below_chain b1' b2'⟩
theorem TwoAt.far (h : TwoAt wr w a0 a1 a2 a3 b0 b1 b2 b3) {g : Nat} (hg : w.heap.size + 1 < g) (i : Nat) (x : Value) : TwoAt (wr.setCell ⟨g, i, none⟩ x) w a0 a1 a2 a3 b0 b1 b2 b3 :=
  ⟨h.e0.far (by omega) x, h.e1.far (by omega) x, h.bel.setCell (by show w.heap.size ≤ g; omega) x⟩
theorem TwoAt.set0 (h : TwoAt wr w a0 a1 a2 a3 b0 b1 b2 b3) (x0 x1 x2 x3 : Value) : TwoAt ((((wr.setCell ⟨w.heap.size, 0, none⟩ x0).setCell ⟨w.heap.size, 1, none⟩ x1).setCell ⟨w.heap.size, 2, none⟩ x2).setCell ⟨w.heap.size, 3, none⟩ x3) w x0 x1 x2 x3 b0 b1 b2 b3 :=
  ⟨h.e0.all x0 x1 x2 x3, evAway h.e1 (by omega) x0 x1 x2 x3, bel_all h.bel (Nat.le_refl _) x0 x1 x2 x3⟩
theorem TwoAt.set1 (h : TwoAt wr w a0 a1 a2 a3 b0 b1 b2 b3) (x0 x1 x2 x3 : Value) : TwoAt ((((wr.setCell ⟨w.heap.size + 1, 0, none⟩ x0).setCell ⟨w.heap.size + 1, 1, none⟩ x1).setCell ⟨w.heap.size + 1, 2, none⟩ x2).setCell ⟨w.heap.size + 1, 3, none⟩ x3) w a0 a1 a2 a3 x0 x1 x2 x3 :=
  ⟨evAway h.e0 (by omega) x0 x1 x2 x3, h.e1.all x0 x1 x2 x3, bel_all h.bel (by omega) x0 x1 x2 x3⟩
end

set_option maxHeartbeats 8000000 in
set_option maxRecDepth 100000 in
theorem same_walk (v u : Value) (ea eb : Ev) (x : ByteArray) (w : World) (hv : IsEv w v ea) (hu : IsEv w u eb) :
    Calls Try.prog 7 #[v, u, .string x] w fun e w' => e = .returned (.bool true) ∧ Below w.heap.size w w' := by
  have hv0 := hv
  have hu0 := hu
  have hft := fewE_tags ea
  have hff := fewE_fs ea
  obtain ⟨A0, n0, ca0, B0, m0, cb0, rfl, _, _⟩ := hv
  obtain ⟨A1, n1, ca1, B1, m1, cb1, rfl, _, _⟩ := hu
  have st := TwoAt.new w (.string ea.s) (.string ea.t) (.slice A0 n0 ca0) (.slice B0 m0 cb0) (.string eb.s) (.string eb.t) (.slice A1 n1 ca1) (.slice B1 m1 cb1)
  go_enter Try.func7, Try.ntmps7
  go_wp2_with fail
  generalize (w.alloc (.cells #[.string ea.s, .string ea.t, .slice A0 n0 ca0, .slice B0 m0 cb0] 25)).alloc (.cells #[.string eb.s, .string eb.t, .slice A1 n1 ca1, .slice B1 m1 cb1] 25) = w1 at *
  refine (shown_any _).mono ?_
  rintro e w2 ⟨rfl, b2⟩
  have st2 := st.below b2
  have k0 := st2.e0.c0
  have k1 := st2.e0.c1
  have k2 := st2.e0.c2
  have k3 := st2.e0.c3
  clear st b2
  go_wp2_with fail
  refine (few_any _ ea w _ hv0).mono ?_
  rintro e w3 ⟨u1, rfl, hv1, b3⟩
  have st3 := st2.below b3
  clear st2 b3 k0 k1 k2 k3
  have hv2 := hv1
  obtain ⟨C0, p0, cc0, D0, q0, cd0, rfl, rC, rD⟩ := hv1
  have st4 := st3.set0 (.string (fewE ea).s) (.string (fewE ea).t) (.slice C0 p0 cc0) (.slice D0 q0 cd0)
  have k0 := st3.e0.c0
  have k1 := st3.e0.c1
  have k2 := st3.e0.c2
  have k3 := st3.e0.c3
  have z0 := st3.e0.frozen 0
  have z1 := st3.e0.frozen 1
  have z2 := st3.e0.frozen 2
  have z3 := st3.e0.frozen 3
  have j0 := st4.e1.c0
  have j1 := st4.e1.c1
  have j2 := st4.e1.c2
  have j3 := st4.e1.c3
  clear st3
  go_wp2_with fail
  generalize ((((w3.setCell ⟨w.heap.size, 0, none⟩ (.string (fewE ea).s)).setCell ⟨w.heap.size, 1, none⟩ (.string (fewE ea).t)).setCell ⟨w.heap.size, 2, none⟩ (.slice C0 p0 cc0)).setCell ⟨w.heap.size, 3, none⟩ (.slice D0 q0 cd0)) = w4 at *
  clear k0 k1 k2 k3 z0 z1 z2 z3 j0 j1 j2 j3
  refine (few_any _ eb w _ hu0).mono ?_
  rintro e w5 ⟨u1, rfl, hu1, b5⟩
  have st5 := st4.below b5
  clear st4 b5
  have hu2 := hu1
  obtain ⟨C1, p1, cc1, D1, q1, cd1, rfl, _, _⟩ := hu1
  have st6 := st5.set1 (.string (fewE eb).s) (.string (fewE eb).t) (.slice C1 p1 cc1) (.slice D1 q1 cd1)
  have k0 := st5.e1.c0
  have k1 := st5.e1.c1
  have k2 := st5.e1.c2
  have k3 := st5.e1.c3
  have z0 := st5.e1.frozen 0
  have z1 := st5.e1.frozen 1
  have z2 := st5.e1.frozen 2
  have z3 := st5.e1.frozen 3
  clear st5
  generalize fewE ea = fa at *
  generalize fewE eb = fb at *
  go_upto_region 4 with (fail)
  generalize ((((w5.setCell ⟨w.heap.size + 1, 0, none⟩ (.string fb.s)).setCell ⟨w.heap.size + 1, 1, none⟩ (.string fb.t)).setCell ⟨w.heap.size + 1, 2, none⟩ (.slice C1 p1 cc1)).setCell ⟨w.heap.size + 1, 3, none⟩ (.slice D1 q1 cd1)) = w6 at *
  clear k0 k1 k2 k3 z0 z1 z2 z3
  have hp := rC.len
  have hq := rD.len
  have hp12 : p0 ≤ 12 := by omega
  have hq12 : q0 ≤ 12 := by omega
  clear hft hff hp hq
  have L0 := st6.e1.lt
  have k0 := st6.e0.c0
  have k1 := st6.e0.c1
  have k2 := st6.e0.c2
  have k3 := st6.e0.c3
  go_upto_region 6 with (fail)
  have al : Below w6.heap.size w6 (w6.alloc (.cells #[.string x, .string fa.t, .slice C0 p0 cc0, .slice D0 q0 cd0] 25)) := (Below.refl _ _).alloc (Nat.le_refl _) _
  have E6 := EvAt.new w6 (.string x) (.string fa.t) (.slice C0 p0 cc0) (.slice D0 q0 cd0)
  have L6 := E6.lt
  have st7 := st6.below al
  generalize w6.alloc (.cells #[.string x, .string fa.t, .slice C0 p0 cc0, .slice D0 q0 cd0] 25) = w7 at *
  clear al k0 k1 k2 k3
  have k0 := st7.e0.c0
  have k1 := st7.e0.c1
  have k2 := st7.e0.c2
  have k3 := st7.e0.c3
  go_upto_region 8 with (fail)
  have al : Below w7.heap.size w7 (w7.alloc (.cells #[.string fa.s, .string x, .slice C0 p0 cc0, .slice D0 q0 cd0] 25)) := (Below.refl _ _).alloc (Nat.le_refl _) _
  have E7 := EvAt.new w7 (.string fa.s) (.string x) (.slice C0 p0 cc0) (.slice D0 q0 cd0)
  have L7 := E7.lt
  have st8 := st7.below al
  have E6' := E6.below al E6.lt
  generalize w7.alloc (.cells #[.string fa.s, .string x, .slice C0 p0 cc0, .slice D0 q0 cd0] 25) = w8 at *
  clear al k0 k1 k2 k3
  clear E6
  have E6 := E6'
  clear E6'
  have k0 := st8.e0.c0
  have k1 := st8.e0.c1
  have k2 := st8.e0.c2
  have k3 := st8.e0.c3
  go_upto_region 9 with (fail)
  have al : Below w8.heap.size w8 (w8.alloc (.cells #[.string fa.s, .string fa.t, .slice C0 p0 cc0, .slice D0 q0 cd0] 25)) := (Below.refl _ _).alloc (Nat.le_refl _) _
  have E8 := EvAt.new w8 (.string fa.s) (.string fa.t) (.slice C0 p0 cc0) (.slice D0 q0 cd0)
  have L8 := E8.lt
  have st9 := st8.below al
  have E6' := E6.below al E6.lt
  have E7' := E7.below al E7.lt
  generalize w8.alloc (.cells #[.string fa.s, .string fa.t, .slice C0 p0 cc0, .slice D0 q0 cd0] 25) = w9 at *
  clear al k0 k1 k2 k3
  clear E6
  have E6 := E6'
  clear E6'
  clear E7
  have E7 := E7'
  clear E7'
  have k0 := st9.e0.c0
  have k1 := st9.e0.c1
  have k2 := st9.e0.c2
  have k3 := st9.e0.c3
  have al1 : Below w9.heap.size w9 (w9.alloc (.cells #[] 9)) := (Below.refl _ _).alloc (Nat.le_refl _) _
  have k2' := bcell al1 k2
  have o1 : OwnC 1 (w9.alloc (.cells #[] 9)) w9.heap.size 9 (some ⟨w9.heap.size, 0, none⟩) 0 0 [] := OwnC.empty w9 9 (Nat.le_refl _)
  have d1 := RdC.below rC (below_chain st9.bel al1)
  go_upto_region 10 with (first
    | (at_builtin; refine wpList_copy_cells rfl (.tmp 24) (.tmp 26) 22 rfl 9 (.string ByteArray.empty) 16 Try.underlying22 string_info rfl (by decide) rfl rfl o1 d1 (strs_one _) (by unfold maxLen; omega) (by omega) al1.size al1 ?_; intro A10 c10 w10 o10 b10; have bc := (Below.refl w10.heap.size w10).alloc (Nat.le_refl _) (.cells #[.string x] 9); have o11 := o10.below bc; have d11 : RdC 1 (w10.alloc (.cells #[.string x] 9)) (some ⟨w10.heap.size, 0, none⟩) 1 1 (strs [x]) := RdC.new w10 9 (strs [x]) rfl (by decide); have b11 := below_chain b10 bc)
    | (at_builtin; refine wpList_more_cells rfl (.tmp 27) (.tmp 29) 22 rfl 9 (.string ByteArray.empty) 16 Try.underlying22 string_info rfl (by decide) rfl rfl o11 d11 (strs_one _) (by unfold maxLen; omega) (by omega) b11.size b11 ?_; intro A12 c12 w12 o12 b12 g12; have z2 := (E8.below b12 E8.lt).frozen 2; have kk := (E8.below b12 E8.lt).c2))
  have st13 := (st9.below b12).far (g := w8.heap.size) (by omega) 2 (.slice A12 (p0 + 1) c12)
  have F6 := EvAt.far (i := 2) (b := w8.heap.size) (E6.below b12 E6.lt) (by omega) (.slice A12 (p0 + 1) c12)
  have F7 := EvAt.far (i := 2) (b := w8.heap.size) (E7.below b12 E7.lt) (by omega) (.slice A12 (p0 + 1) c12)
  have F8 := (E8.below b12 E8.lt).set2 (.slice A12 (p0 + 1) c12)
  have rT : RdS (w12.setCell ⟨w8.heap.size, 2, none⟩ (.slice A12 (p0 + 1) c12)) A12 (p0 + 1) c12 (fa.tags ++ [x]) := by
    have h := OwnC.rd o12
    rw [← strs_append] at h
    exact RdC.off h (fun a hA => by have := (OwnC.lt o12 a hA).1; omega) _
  have hTb : ∀ a, A12 = some a → a.block < w12.heap.size := fun a hA => (OwnC.lt o12 a hA).2
  generalize hw13 : w12.setCell ⟨w8.heap.size, 2, none⟩ (.slice A12 (p0 + 1) c12) = w13 at *
  have s13 : w13.heap.size = w12.heap.size := by rw [← hw13]; simp [World.setCell]
  have hTb' : ∀ a, A12 = some a → a.block < w13.heap.size := fun a hA => by rw [s13]; exact hTb a hA
  have L9 := F8.lt
  clear hw13 s13 hTb z2 kk o12 b12 g12 b11 d11 o11 bc b10 o10 d1 o1 k2' al1 E6 E7 E8 st9 k0 k1 k2 k3
  have k0 := st13.e0.c0
  have k1 := st13.e0.c1
  have k2 := st13.e0.c2
  have k3 := st13.e0.c3
  have al : Below w13.heap.size w13 (w13.alloc (.cells #[.string fa.s, .string fa.t, .slice C0 p0 cc0, .slice D0 q0 cd0] 25)) := (Below.refl _ _).alloc (Nat.le_refl _) _
  go_upto_region 11 with (fail)
  have G9 := EvAt.new w13 (.string fa.s) (.string fa.t) (.slice C0 p0 cc0) (.slice D0 q0 cd0)
  have st14 := st13.below al
  have G6 := F6.below al F6.lt
  have G7 := F7.below al F7.lt
  have G8 := F8.below al F8.lt
  have rT4 := RdC.below rT al
  generalize w13.alloc (.cells #[.string fa.s, .string fa.t, .slice C0 p0 cc0, .slice D0 q0 cd0] 25) = w14 at *
  clear al st13 F6 F7 F8 rT k0 k1 k2 k3
  have k3 := st14.e0.c3
  have al1 : Below w14.heap.size w14 (w14.alloc (.cells #[] 38)) := (Below.refl _ _).alloc (Nat.le_refl _) _
  have k3' := bcell al1 k3
  have o1 : OwnC 2 (w14.alloc (.cells #[] 38)) w14.heap.size 38 (some ⟨w14.heap.size, 0, none⟩) 0 0 [] := OwnC.empty w14 38 (Nat.le_refl _)
  have d1 := RdC.below rD (below_chain st14.bel al1)
  have L10 := G9.lt
  go_upto_region 12 with (first
    | (at_builtin; refine wpList_copy_cells rfl (.tmp 33) (.tmp 35) 23 rfl 38 (.agg #[.string ⟨#[]⟩, .int .i64 0]) 24 Try.underlying23 field_info rfl (by decide) rfl rfl o1 d1 (flds_one _) (by unfold maxLen; omega) (by omega) al1.size al1 ?_; intro A15 c15 w15 o15 b15; have bc := (Below.refl w15.heap.size w15).alloc (Nat.le_refl _) (.cells #[.string x, .int .i64 0] 38); have o16 := o15.below bc; have d16 : RdC 2 (w15.alloc (.cells #[.string x, .int .i64 0] 38)) (some ⟨w15.heap.size, 0, none⟩) 1 1 (flds [(x, 0)]) := RdC.new w15 38 (flds [(x, 0)]) rfl (by decide); have b16 := below_chain b15 bc)
    | (at_builtin; refine wpList_more_cells rfl (.tmp 36) (.tmp 39) 23 rfl 38 (.agg #[.string ⟨#[]⟩, .int .i64 0]) 24 Try.underlying23 field_info rfl (by decide) rfl rfl o16 d16 (flds_one _) (by unfold maxLen; omega) (by omega) b16.size b16 ?_; intro A17 c17 w17 o17 b17 g17; have z3 := (G9.below b17 G9.lt).frozen 3; have kk := (G9.below b17 G9.lt).c3))
  have st18 := (st14.below b17).far (g := w13.heap.size) (by omega) 3 (.slice A17 (q0 + 1) c17)
  have H6 := EvAt.far (i := 3) (b := w13.heap.size) (G6.below b17 G6.lt) (by omega) (.slice A17 (q0 + 1) c17)
  have H7 := EvAt.far (i := 3) (b := w13.heap.size) (G7.below b17 G7.lt) (by omega) (.slice A17 (q0 + 1) c17)
  have H8 := EvAt.far (i := 3) (b := w13.heap.size) (G8.below b17 G8.lt) (by omega) (.slice A17 (q0 + 1) c17)
  have H9 := (G9.below b17 G9.lt).set3 (.slice A17 (q0 + 1) c17)
  have rT8 : RdS (w17.setCell ⟨w13.heap.size, 3, none⟩ (.slice A17 (q0 + 1) c17)) A12 (p0 + 1) c12 (fa.tags ++ [x]) := RdC.off (RdC.below rT4 b17) (fun a hA => by have := hTb' a hA; omega) _
  have rF8 : RdF (w17.setCell ⟨w13.heap.size, 3, none⟩ (.slice A17 (q0 + 1) c17)) A17 (q0 + 1) c17 (fa.fs ++ [(x, 0)]) := by
    have h := OwnC.rd o17
    rw [← flds_append] at h
    exact RdC.off h (fun a hA => by have := (OwnC.lt o17 a hA).1; omega) _
  generalize w17.setCell ⟨w13.heap.size, 3, none⟩ (.slice A17 (q0 + 1) c17) = w18 at *
  have ja := hv2.below st18.bel
  have jb := hu2.below st18.bel
  have jc : IsEv w18 (.agg #[.string x, .string fa.t, .slice C0 p0 cc0, .slice D0 q0 cd0]) ⟨x, fa.t, fa.tags, fa.fs⟩ := ⟨_, _, _, _, _, _, rfl, RdC.below rC st18.bel, RdC.below rD st18.bel⟩
  have jd : IsEv w18 (.agg #[.string fa.s, .string x, .slice C0 p0 cc0, .slice D0 q0 cd0]) ⟨fa.s, x, fa.tags, fa.fs⟩ := ⟨_, _, _, _, _, _, rfl, RdC.below rC st18.bel, RdC.below rD st18.bel⟩
  have jf : IsEv w18 (.agg #[.string fa.s, .string fa.t, .slice A12 (p0 + 1) c12, .slice D0 q0 cd0]) ⟨fa.s, fa.t, fa.tags ++ [x], fa.fs⟩ := ⟨_, _, _, _, _, _, rfl, rT8, RdC.below rD st18.bel⟩
  have jg : IsEv w18 (.agg #[.string fa.s, .string fa.t, .slice C0 p0 cc0, .slice A17 (q0 + 1) c17]) ⟨fa.s, fa.t, fa.tags, fa.fs ++ [(x, 0)]⟩ := ⟨_, _, _, _, _, _, rfl, RdC.below rC st18.bel, rF8⟩
  have s0 : SixAt w18.drew w18 w.heap.size (w.heap.size + 1) w6.heap.size w7.heap.size w8.heap.size w13.heap.size #[.string fa.s, .string fa.t, .slice C0 p0 cc0, .slice D0 q0 cd0] #[.string fb.s, .string fb.t, .slice C1 p1 cc1, .slice D1 q1 cd1] #[.string x, .string fa.t, .slice C0 p0 cc0, .slice D0 q0 cd0] #[.string fa.s, .string x, .slice C0 p0 cc0, .slice D0 q0 cd0] #[.string fa.s, .string fa.t, .slice A12 (p0 + 1) c12, .slice D0 q0 cd0] #[.string fa.s, .string fa.t, .slice C0 p0 cc0, .slice A17 (q0 + 1) c17] :=
    ⟨⟨_, _, _, _, rfl, st18.e0⟩, ⟨_, _, _, _, rfl, st18.e1⟩, ⟨_, _, _, _, rfl, H6⟩, ⟨_, _, _, _, rfl, H7⟩, ⟨_, _, _, _, rfl, H8⟩, ⟨_, _, _, _, rfl, H9⟩, bel_drew (Below.refl _ _)⟩
  generalize hX : sameB fa fb = X at *
  have HX := Go.Lib.hid hX
  have B18 := st18.bel
  clear hX G6 G7 G8 G9 H6 H7 H8 H9 st14 st18 rT8 rF8 rT4 z3 kk g17 b17 o17 b16 d16 o16 bc b15 o15 d1 o1 k3' al1 k3
  go_region_held (fun w' => w'.cell? ⟨w.heap.size, 0, none⟩ = some (.string fa.s) ∧ w'.cell? ⟨w.heap.size, 1, none⟩ = some (.string fa.t) ∧ w'.cell? ⟨w.heap.size, 2, none⟩ = some (.slice C0 p0 cc0) ∧ w'.cell? ⟨w.heap.size, 3, none⟩ = some (.slice D0 q0 cd0) ∧ w'.cell? ⟨w.heap.size + 1, 0, none⟩ = some (.string fb.s) ∧ w'.cell? ⟨w.heap.size + 1, 1, none⟩ = some (.string fb.t) ∧ w'.cell? ⟨w.heap.size + 1, 2, none⟩ = some (.slice C1 p1 cc1) ∧ w'.cell? ⟨w.heap.size + 1, 3, none⟩ = some (.slice D1 q1 cd1) ∧ w'.cell? ⟨w6.heap.size, 0, none⟩ = some (.string x) ∧ w'.cell? ⟨w6.heap.size, 1, none⟩ = some (.string fa.t) ∧ w'.cell? ⟨w6.heap.size, 2, none⟩ = some (.slice C0 p0 cc0) ∧ w'.cell? ⟨w6.heap.size, 3, none⟩ = some (.slice D0 q0 cd0) ∧ w'.cell? ⟨w7.heap.size, 0, none⟩ = some (.string fa.s) ∧ w'.cell? ⟨w7.heap.size, 1, none⟩ = some (.string x) ∧ w'.cell? ⟨w7.heap.size, 2, none⟩ = some (.slice C0 p0 cc0) ∧ w'.cell? ⟨w7.heap.size, 3, none⟩ = some (.slice D0 q0 cd0) ∧ w'.cell? ⟨w8.heap.size, 0, none⟩ = some (.string fa.s) ∧ w'.cell? ⟨w8.heap.size, 1, none⟩ = some (.string fa.t) ∧ w'.cell? ⟨w8.heap.size, 2, none⟩ = some (.slice A12 (p0 + 1) c12) ∧ w'.cell? ⟨w8.heap.size, 3, none⟩ = some (.slice D0 q0 cd0) ∧ w'.cell? ⟨w13.heap.size, 0, none⟩ = some (.string fa.s) ∧ w'.cell? ⟨w13.heap.size, 1, none⟩ = some (.string fa.t) ∧ w'.cell? ⟨w13.heap.size, 2, none⟩ = some (.slice C0 p0 cc0) ∧ w'.cell? ⟨w13.heap.size, 3, none⟩ = some (.slice A17 (q0 + 1) c17))
    (first | exact s0.cells | exact s1.cells | exact s2.cells | exact s3.cells | exact s4.cells | exact s5.cells | exact s6.cells | exact s7.cells)
    (first
      | (go_at_call 18; refine (evSame_any _ _ fa ⟨fa.s, fa.t, fa.tags, fa.fs ++ [(x, 0)]⟩ _ (ja.below s6.bel) (jg.below s6.bel)).mono ?_; rintro e w36 ⟨rfl, bb⟩; rw [sameB_fs fa x]; have s7 := s6.below bb; clear bb)
      | (go_at_call 18; refine (evSame_any _ _ fa ⟨fa.s, fa.t, fa.tags ++ [x], fa.fs⟩ _ (ja.below s5.bel) (jf.below s5.bel)).mono ?_; rintro e w35 ⟨rfl, bb⟩; rw [sameB_tags fa x]; have s6 := s5.below bb; clear bb)
      | (go_at_call 18; refine (evSame_any _ _ fa ⟨fa.s, x, fa.tags, fa.fs⟩ _ (ja.below s4.bel) (jd.below s4.bel)).mono ?_; rintro e w34 ⟨rfl, bb⟩; rw [sameB_t fa x]; have s5 := s4.below bb; clear bb)
      | (go_at_call 18; refine (evSame_any _ _ fa ⟨x, fa.t, fa.tags, fa.fs⟩ _ (ja.below s3.bel) (jc.below s3.bel)).mono ?_; rintro e w33 ⟨rfl, bb⟩; rw [sameB_s fa x]; have s4 := s3.below bb; clear bb)
      | (go_at_call 18; refine (evSame_any _ _ fb fa _ (jb.below s2.bel) (ja.below s2.bel)).mono ?_; rintro e w32 ⟨rfl, bb⟩; rw [sameB_comm, HX.out]; have s3 := s2.below bb; clear bb)
      | (go_at_call 18; refine (evSame_any _ _ fa fb _ (ja.below s1.bel) (jb.below s1.bel)).mono ?_; rintro e w31 ⟨rfl, bb⟩; rw [HX.out]; have s2 := s1.below bb; clear bb)
      | (go_at_call 18; refine (evSame_any _ _ fa fa _ (ja.below s0.bel) (ja.below s0.bel)).mono ?_; rintro e w30 ⟨rfl, bb⟩; rw [sameB_refl]; have s1 := s0.below bb; clear bb))
  all_goals go_wp2_with fail
  all_goals go_ret
  all_goals exact ⟨by simp, below_chain B18 s7.bel⟩

section
variable {H : Type} {enc : TypeId × Value → H}
set_option maxRecDepth 100000 in
theorem same_main (W : World) (base : Nat) (v0 v1 v2 : Value) {d0 d1 d2 : DataW H} {p0 p1 p2 : List MemPlace} (o0 : Value.okWide Try.prog W .any base 25 v0) (o1 : Value.okWide Try.prog W .any base 25 v1) (o2 : Value.okWide Try.prog W .any base 9 v2)
    (h0 : DataW.Trod enc Try.prog W 0 (fun _ => true) true 25 v0 d0 p0) (h1 : DataW.Trod enc Try.prog W 0 (fun _ => true) true 25 v1 d1 p1) (h2 : DataW.Trod enc Try.prog W 0 (fun _ => true) true 9 v2 d2 p2) :
    Calls Try.prog 7 #[v0, v1, v2] W fun e W' => e = .returned (.bool true) ∧ Below W.heap.size W W' := by
  obtain ⟨ea, ha, _⟩ := op_event o0 h0
  obtain ⟨eb, hb, _⟩ := op_event o1 h1
  obtain ⟨x, rfl, _⟩ := op_string Try.underlying9 o2 h2
  exact same_walk v0 v1 ea eb x W ha hb
end

end Go.Proofs.Ytgldheeplhcmcaa.EvLaw
