/-
  Walks of the statements of layer 4: EventHas.
-/
import Derived.Test.YtgldheeplhcmcaaEvShown
import Derived.Test.YtgldheeplhcmcaaOpenS
import Derived.Deep.RegionHeld
namespace Go.Proofs.Ytgldheeplhcmcaa.EvLaw
open Go.RowKit Go.WideShapes Go.ChangeShapes Go.Proofs.Ytgldheeplhcmcaa.MemRow Go.Proofs.Ytgldheeplhcmcaa.Ev Go.Proofs.Ytgldheeplhcmcaa.NameMath Go.Proofs.Ytgldheeplhcmcaa.NameWalk Go.Proofs.Ytgldheeplhcmcaa.EvWalk Go.Proofs.Ytgldheeplhcmcaa.Open

/-- The boxes of two events and two texts. -/
structure HasAt (wr w : World) (a0 a1 a2 a3 b0 b1 b2 b3 : Value) (x y : ByteArray) : Prop where
  e0 : EvAt wr w.heap.size a0 a1 a2 a3
  e1 : EvAt wr (w.heap.size + 1) b0 b1 b2 b3
  e2 : wr.heap[w.heap.size + 1 + 1]? = some (.cells #[.string x, .string y] 32 (0, 0))
  bel : Below w.heap.size w wr

variable {wr w w' : World} {a0 a1 a2 a3 b0 b1 b2 b3 : Value} {x y : ByteArray}
theorem HasAt.lt (h : HasAt wr w a0 a1 a2 a3 b0 b1 b2 b3 x y) : w.heap.size + 1 + 1 < wr.heap.size := (Array.getElem?_eq_some_iff.1 h.e2).1
theorem HasAt.below (h : HasAt wr w a0 a1 a2 a3 b0 b1 b2 b3 x y) (hb : Below wr.heap.size wr w') : HasAt w' w a0 a1 a2 a3 b0 b1 b2 b3 x y :=
  ⟨h.e0.below hb h.e0.lt, h.e1.below hb h.e1.lt, (hb.block _ h.lt).trans h.e2, below_chain h.bel hb⟩
theorem HasAt.drew (h : HasAt wr w a0 a1 a2 a3 b0 b1 b2 b3 x y) : HasAt wr.drew w a0 a1 a2 a3 b0 b1 b2 b3 x y := ⟨h.e0, h.e1, h.e2, bel_drew h.bel⟩
theorem HasAt.new (w : World) (a0 a1 a2 a3 b0 b1 b2 b3 : Value) (x y : ByteArray) :
    HasAt (((w.alloc (.cells #[a0, a1, a2, a3] 25)).alloc (.cells #[b0, b1, b2, b3] 25)).alloc (.cells #[.string x, .string y] 32)) w a0 a1 a2 a3 b0 b1 b2 b3 x y := by
  have e1 := EvAt.new w a0 a1 a2 a3
  have b1' : Below w.heap.size w (w.alloc (.cells #[a0, a1, a2, a3] 25)) := (Below.refl _ _).alloc (Nat.le_refl _) _
  generalize hw1 : w.alloc (.cells #[a0, a1, a2, a3] 25) = w1 at *
  have s1 : w1.heap.size = w.heap.size + 1 := by rw [← hw1]; simp
  have e2 := EvAt.new w1 b0 b1 b2 b3
  have b2' : Below w1.heap.size w1 (w1.alloc (.cells #[b0, b1, b2, b3] 25)) := (Below.refl _ _).alloc (Nat.le_refl _) _
  generalize hw2 : w1.alloc (.cells #[b0, b1, b2, b3] 25) = w2 at *
  have s2 : w2.heap.size = w.heap.size + 1 + 1 := by rw [← hw2]; simp [s1]
  have e3 : (w2.alloc (.cells #[.string x, .string y] 32)).heap[w2.heap.size]? = some (.cells #[.string x, .string y] 32 (0, 0)) := heap_alloc_new w2 _
  have b3' : Below w2.heap.size w2 (w2.alloc (.cells #[.string x, .string y] 32)) := (Below.refl _ _).alloc (Nat.le_refl _) _
  rw [s1] at e2
  rw [s2] at e3
  exact ⟨(e1.below b2' e1.lt).below b3' (by rw [s2]; omega), e2.below b3' (by rw [s2]; omega), e3, below_chain (below_chain b1' b2') b3'⟩
theorem evAway {g g' : Nat} {v0 v1 v2 v3 : Value} (h : EvAt w g v0 v1 v2 v3) (hne : g ≠ g') (x0 x1 x2 x3 : Value) : EvAt ((((w.setCell ⟨g', 0, none⟩ x0).setCell ⟨g', 1, none⟩ x1).setCell ⟨g', 2, none⟩ x2).setCell ⟨g', 3, none⟩ x3) g v0 v1 v2 v3 :=
  (((h.far hne x0).far hne x1).far hne x2).far hne x3
theorem bel_all {a : World} (h : Below a.heap.size a w) {g : Nat} (hg : a.heap.size ≤ g) (x0 x1 x2 x3 : Value) : Below a.heap.size a ((((w.setCell ⟨g, 0, none⟩ x0).setCell ⟨g, 1, none⟩ x1).setCell ⟨g, 2, none⟩ x2).setCell ⟨g, 3, none⟩ x3) :=
  (((h.setCell hg _).setCell hg _).setCell hg _).setCell hg _
theorem two_away {g g' : Nat} {c : Obj} (h : w.heap[g]? = some c) (hne : g ≠ g') (x0 x1 x2 x3 : Value) : ((((w.setCell ⟨g', 0, none⟩ x0).setCell ⟨g', 1, none⟩ x1).setCell ⟨g', 2, none⟩ x2).setCell ⟨g', 3, none⟩ x3).heap[g]? = some c := by
  simp only [World.setCell, Array.getElem?_modify]
  rw [if_neg (fun e => hne e.symm), if_neg (fun e => hne e.symm), if_neg (fun e => hne e.symm), if_neg (fun e => hne e.symm)]
  exact h
theorem HasAt.set0 (h : HasAt wr w a0 a1 a2 a3 b0 b1 b2 b3 x y) (x0 x1 x2 x3 : Value) : HasAt ((((wr.setCell ⟨w.heap.size, 0, none⟩ x0).setCell ⟨w.heap.size, 1, none⟩ x1).setCell ⟨w.heap.size, 2, none⟩ x2).setCell ⟨w.heap.size, 3, none⟩ x3) w x0 x1 x2 x3 b0 b1 b2 b3 x y :=
  ⟨h.e0.all x0 x1 x2 x3, evAway h.e1 (by omega) x0 x1 x2 x3, two_away h.e2 (by omega) x0 x1 x2 x3, bel_all h.bel (Nat.le_refl _) x0 x1 x2 x3⟩
theorem HasAt.set1 (h : HasAt wr w a0 a1 a2 a3 b0 b1 b2 b3 x y) (x0 x1 x2 x3 : Value) : HasAt ((((wr.setCell ⟨w.heap.size + 1, 0, none⟩ x0).setCell ⟨w.heap.size + 1, 1, none⟩ x1).setCell ⟨w.heap.size + 1, 2, none⟩ x2).setCell ⟨w.heap.size + 1, 3, none⟩ x3) w a0 a1 a2 a3 x0 x1 x2 x3 x y :=
  ⟨evAway h.e0 (by omega) x0 x1 x2 x3, h.e1.all x0 x1 x2 x3, two_away h.e2 (by omega) x0 x1 x2 x3, bel_all h.bel (by omega) x0 x1 x2 x3⟩
/-- What the walk reads. -/
def HasC (wr w : World) (a0 a1 a2 a3 b0 b1 b2 b3 : Value) (x y : ByteArray) : Prop :=
  wr.cell? ⟨w.heap.size, 0, none⟩ = some a0 ∧ wr.cell? ⟨w.heap.size, 1, none⟩ = some a1 ∧ wr.cell? ⟨w.heap.size, 2, none⟩ = some a2 ∧ wr.cell? ⟨w.heap.size, 3, none⟩ = some a3 ∧
  wr.cell? ⟨w.heap.size + 1, 0, none⟩ = some b0 ∧ wr.cell? ⟨w.heap.size + 1, 1, none⟩ = some b1 ∧ wr.cell? ⟨w.heap.size + 1, 2, none⟩ = some b2 ∧ wr.cell? ⟨w.heap.size + 1, 3, none⟩ = some b3 ∧
  wr.cell? ⟨w.heap.size + 1 + 1, 0, none⟩ = some (.string x) ∧ wr.cell? ⟨w.heap.size + 1 + 1, 1, none⟩ = some (.string y)
theorem HasAt.cells (h : HasAt wr w a0 a1 a2 a3 b0 b1 b2 b3 x y) : HasC wr w a0 a1 a2 a3 b0 b1 b2 b3 x y :=
  ⟨h.e0.c0, h.e0.c1, h.e0.c2, h.e0.c3, h.e1.c0, h.e1.c1, h.e1.c2, h.e1.c3, by rw [cell_of_row wr _ 0 _ _ _ h.e2]; rfl, by rw [cell_of_row wr _ 1 _ _ _ h.e2]; rfl⟩

set_option maxHeartbeats 8000000 in
set_option maxRecDepth 100000 in
theorem has_walk (v u : Value) (ea eb : Ev) (x y : ByteArray) (w : World) (hv : IsEv w v ea) (hu : IsEv w u eb) :
    Calls Try.prog 4 #[v, u, .agg #[.string x, .string y]] w fun e w' => e = .returned (.bool true) ∧ Below w.heap.size w w' := by
  have hv0 := hv
  have hu0 := hu
  obtain ⟨A0, n0, ca0, B0, m0, cb0, rfl, ha, hb⟩ := hv
  obtain ⟨A1, n1, ca1, B1, m1, cb1, rfl, hc, hd⟩ := hu
  have st := HasAt.new w (.string ea.s) (.string ea.t) (.slice A0 n0 ca0) (.slice B0 m0 cb0) (.string eb.s) (.string eb.t) (.slice A1 n1 ca1) (.slice B1 m1 cb1) x y
  clear ha hb hc hd
  go_enter Try.func4, Try.ntmps4
  go_wp2_with fail
  generalize ((w.alloc (.cells #[.string ea.s, .string ea.t, .slice A0 n0 ca0, .slice B0 m0 cb0] 25)).alloc (.cells #[.string eb.s, .string eb.t, .slice A1 n1 ca1, .slice B1 m1 cb1] 25)).alloc (.cells #[.string x, .string y] 32) = w1 at *
  refine (shown_any _).mono ?_
  rintro e w2 ⟨rfl, b2⟩
  have st2 := st.below b2
  obtain ⟨k0, k1, k2, k3, _⟩ := st2.cells
  clear st b2
  go_wp2_with fail
  refine (few_any _ ea w _ hv0).mono ?_
  rintro e w3 ⟨u1, rfl, hv1, b3⟩
  have st3 := st2.below b3
  clear st2 b3 k0 k1 k2 k3
  have hv2 := hv1
  obtain ⟨C0, p0, cc0, D0, q0, cd0, rfl, _, _⟩ := hv1
  have st4 := st3.set0 (.string (fewE ea).s) (.string (fewE ea).t) (.slice C0 p0 cc0) (.slice D0 q0 cd0)
  obtain ⟨k0, k1, k2, k3, _⟩ := st3.cells
  have z0 := st3.e0.frozen 0
  have z1 := st3.e0.frozen 1
  have z2 := st3.e0.frozen 2
  have z3 := st3.e0.frozen 3
  obtain ⟨_, _, _, _, j0, j1, j2, j3, _⟩ := st4.cells
  clear st3
  go_wp2_with fail
  generalize ((((w3.setCell ⟨w.heap.size, 0, none⟩ (.string (fewE ea).s)).setCell ⟨w.heap.size, 1, none⟩ (.string (fewE ea).t)).setCell ⟨w.heap.size, 2, none⟩ (.slice C0 p0 cc0)).setCell ⟨w.heap.size, 3, none⟩ (.slice D0 q0 cd0)) = w4 at *
  clear k0 k1 k2 k3 z0 z1 z2 z3 j0 j1 j2 j3
  refine (few_any _ eb w _ hu0).mono ?_
  rintro e w5 ⟨u1, rfl, hu1, b5⟩
  have st5 := st4.below b5
  clear st4 b5
  have hu2 := hu1
  obtain ⟨C1, p1, cc1, D1, q1, cd1, rfl, _, _⟩ := hu1
  have st6 := st5.set1 (.string (fewE eb).s) (.string (fewE eb).t) (.slice C1 p1 cc1) (.slice D1 q1 cd1)
  obtain ⟨_, _, _, _, k0, k1, k2, k3, _⟩ := st5.cells
  have z0 := st5.e1.frozen 0
  have z1 := st5.e1.frozen 1
  have z2 := st5.e1.frozen 2
  have z3 := st5.e1.frozen 3
  clear st5
  obtain ⟨j0, j1, j2, j3, _, _, _, _, j8, j9⟩ := st6.cells
  have hva := hv2.below st6.bel
  go_wp2_with fail
  generalize ((((w5.setCell ⟨w.heap.size + 1, 0, none⟩ (.string (fewE eb).s)).setCell ⟨w.heap.size + 1, 1, none⟩ (.string (fewE eb).t)).setCell ⟨w.heap.size + 1, 2, none⟩ (.slice C1 p1 cc1)).setCell ⟨w.heap.size + 1, 3, none⟩ (.slice D1 q1 cd1)) = w6 at *
  clear k0 k1 k2 k3 z0 z1 z2 z3 j0 j1 j2 j3 j8 j9
  refine (evValue_any _ (fewE ea) y _ hva).mono ?_
  rintro e w7 ⟨rfl, b7⟩
  have st7 := st6.below b7
  clear st6 b7 hva
  obtain ⟨j0, j1, j2, j3, _, _, _, _, j8, j9⟩ := st7.cells
  have hva := hv2.below st7.bel
  go_wp2_with fail
  refine (refValue_any _ (fewE ea) y _ hva).mono ?_
  rintro e w8 ⟨rfl, b8⟩
  have st8 := st7.below b8
  clear st7 b8 hva j0 j1 j2 j3 j8 j9
  have va := hv2.below st8.bel
  have ub := hu2.below st8.bel
  generalize fewE ea = fa at *
  generalize fewE eb = fb at *
  generalize valueF fa.fs y = V at *
  generalize hX : sameB fa fb = X at *
  have HX := Go.Lib.hid hX
  generalize hY : hasB fa.tags x = Y at *
  have HY := Go.Lib.hid hY
  clear hX hY
  go_wp2_with fail
  go_region_held (fun w' => w'.cell? ⟨w.heap.size, 0, none⟩ = some (.string fa.s) ∧ w'.cell? ⟨w.heap.size, 1, none⟩ = some (.string fa.t) ∧ w'.cell? ⟨w.heap.size, 2, none⟩ = some (.slice C0 p0 cc0) ∧ w'.cell? ⟨w.heap.size, 3, none⟩ = some (.slice D0 q0 cd0) ∧ w'.cell? ⟨w.heap.size + 1, 0, none⟩ = some (.string fb.s) ∧ w'.cell? ⟨w.heap.size + 1, 1, none⟩ = some (.string fb.t) ∧ w'.cell? ⟨w.heap.size + 1, 2, none⟩ = some (.slice C1 p1 cc1) ∧ w'.cell? ⟨w.heap.size + 1, 3, none⟩ = some (.slice D1 q1 cd1) ∧ w'.cell? ⟨w.heap.size + 1 + 1, 0, none⟩ = some (.string x) ∧ w'.cell? ⟨w.heap.size + 1 + 1, 1, none⟩ = some (.string y))
    (first | exact st8.drew.cells | exact st9.cells | exact st10.cells | exact st11.cells | exact st12.cells)
    (first
      | (go_at_call 18; refine (evSame_any _ _ fa fb _ ?_ ?_).mono ?_; exact hv2.below st8.drew.bel; exact hu2.below st8.drew.bel; rintro e w9 ⟨rfl, b9⟩; rw [HX.out]; have st9 := st8.drew.below b9; clear b9)
      | (go_at_call 11; refine (refSame_any _ _ fa fb _ ?_ ?_).mono ?_; exact hv2.below st9.bel; exact hu2.below st9.bel; rintro e w10 ⟨rfl, b10⟩; rw [HX.out]; have st10 := st9.below b10; clear b10)
      | (go_at_call 19; refine (evHas_any _ fa x _ ?_).mono ?_; exact hv2.below st10.bel; rintro e w11 ⟨rfl, b11⟩; rw [HY.out]; have st11 := st10.below b11; clear b11)
      | (go_at_call 20; refine (refHas_any _ fa x _ ?_).mono ?_; exact hv2.below st11.bel; rintro e w12 ⟨rfl, b12⟩; rw [HY.out]; have st12 := st11.below b12; clear b12))
  all_goals go_wp2_with fail
  all_goals go_ret
  all_goals exact ⟨by simp, st12.bel⟩

section
variable {H : Type} {enc : TypeId × Value → H}
set_option maxRecDepth 100000 in
theorem has_main (W : World) (base : Nat) (v0 v1 v2 : Value) {d0 d1 d2 : DataW H} {p0 p1 p2 : List MemPlace} (o0 : Value.okWide Try.prog W .any base 25 v0) (o1 : Value.okWide Try.prog W .any base 25 v1) (o2 : Value.okWide Try.prog W .any base 32 v2)
    (h0 : DataW.Trod enc Try.prog W 0 (fun _ => true) true 25 v0 d0 p0) (h1 : DataW.Trod enc Try.prog W 0 (fun _ => true) true 25 v1 d1 p1) (h2 : DataW.Trod enc Try.prog W 0 (fun _ => true) true 32 v2 d2 p2) :
    Calls Try.prog 4 #[v0, v1, v2] W fun e W' => e = .returned (.bool true) ∧ Below W.heap.size W W' := by
  obtain ⟨ea, ha, _⟩ := op_event o0 h0
  obtain ⟨eb, hb, _⟩ := op_event o1 h1
  obtain ⟨x, y, rfl, hx, hy⟩ := op_strs2 Try.underlying32 Try.underlying9 (by kernel_rfl) (by kernel_rfl) o2 h2
  exact has_walk v0 v1 ea eb x y W ha hb
end

end Go.Proofs.Ytgldheeplhcmcaa.EvLaw
