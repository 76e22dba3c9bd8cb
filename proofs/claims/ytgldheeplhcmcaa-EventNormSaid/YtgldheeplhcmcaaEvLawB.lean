/-
  Walks of the statements of layer 4: EventMay.
-/
import Derived.Test.YtgldheeplhcmcaaEvLawA
namespace Go.Proofs.Ytgldheeplhcmcaa.EvLaw
open Go.RowKit Go.WideShapes Go.ChangeShapes Go.Proofs.Ytgldheeplhcmcaa.MemRow Go.Proofs.Ytgldheeplhcmcaa.Ev Go.Proofs.Ytgldheeplhcmcaa.NameMath Go.Proofs.Ytgldheeplhcmcaa.NameWalk Go.Proofs.Ytgldheeplhcmcaa.EvWalk Go.Proofs.Ytgldheeplhcmcaa.Open

/-- The box of one event. -/
structure BoxAt (wr w : World) (a0 a1 a2 a3 : Value) : Prop where
  e0 : EvAt wr w.heap.size a0 a1 a2 a3
  bel : Below w.heap.size w wr
section
variable {wr w w' : World} {a0 a1 a2 a3 : Value}
theorem BoxAt.below (h : BoxAt wr w a0 a1 a2 a3) (hb : Below wr.heap.size wr w') : BoxAt w' w a0 a1 a2 a3 := ⟨h.e0.below hb h.e0.lt, below_chain h.bel hb⟩
theorem BoxAt.drew (h : BoxAt wr w a0 a1 a2 a3) : BoxAt wr.drew w a0 a1 a2 a3 := ⟨h.e0, bel_drew h.bel⟩
theorem BoxAt.new (w : World) (a0 a1 a2 a3 : Value) : BoxAt (w.alloc (.cells #[a0, a1, a2, a3] 25)) w a0 a1 a2 a3 := ⟨EvAt.new w a0 a1 a2 a3, (Below.refl _ _).alloc (Nat.le_refl _) _⟩
theorem BoxAt.set0 (h : BoxAt wr w a0 a1 a2 a3) (x0 x1 x2 x3 : Value) : BoxAt ((((wr.setCell ⟨w.heap.size, 0, none⟩ x0).setCell ⟨w.heap.size, 1, none⟩ x1).setCell ⟨w.heap.size, 2, none⟩ x2).setCell ⟨w.heap.size, 3, none⟩ x3) w x0 x1 x2 x3 := ⟨h.e0.all x0 x1 x2 x3, bel_all h.bel (Nat.le_refl _) x0 x1 x2 x3⟩
theorem BoxAt.cells (h : BoxAt wr w a0 a1 a2 a3) : wr.cell? ⟨w.heap.size, 0, none⟩ = some a0 ∧ wr.cell? ⟨w.heap.size, 1, none⟩ = some a1 ∧ wr.cell? ⟨w.heap.size, 2, none⟩ = some a2 ∧ wr.cell? ⟨w.heap.size, 3, none⟩ = some a3 := ⟨h.e0.c0, h.e0.c1, h.e0.c2, h.e0.c3⟩
end

set_option maxHeartbeats 8000000 in
set_option maxRecDepth 100000 in
theorem may_walk (v : Value) (ea : Ev) (w : World) (hv : IsEv w v ea) (hok : EvOk ea) :
    Calls Try.prog 3 #[v] w fun e w' => e = .returned (.bool true) ∧ Below w.heap.size w w' := by
  have hv0 := hv
  have hfo := fewE_ok hok
  have hft := fewE_tags ea
  have hff := fewE_fs ea
  obtain ⟨A0, n0, ca0, B0, m0, cb0, rfl, _, _⟩ := hv
  have st := BoxAt.new w (.string ea.s) (.string ea.t) (.slice A0 n0 ca0) (.slice B0 m0 cb0)
  go_enter Try.func3, Try.ntmps3
  go_wp2_with fail
  generalize w.alloc (.cells #[.string ea.s, .string ea.t, .slice A0 n0 ca0, .slice B0 m0 cb0] 25) = w1 at *
  refine (shown_any _).mono ?_
  rintro e w2 ⟨rfl, b2⟩
  have st2 := st.below b2
  obtain ⟨k0, k1, k2, k3⟩ := st2.cells
  clear st b2
  go_wp2_with fail
  refine (few_any _ ea w _ hv0).mono ?_
  rintro e w3 ⟨u1, rfl, hv1, b3⟩
  have st3 := st2.below b3
  clear st2 b3 k0 k1 k2 k3
  have hv2 := hv1
  obtain ⟨C0, p0, cc0, D0, q0, cd0, rfl, _, _⟩ := hv1
  have st4 := st3.set0 (.string (fewE ea).s) (.string (fewE ea).t) (.slice C0 p0 cc0) (.slice D0 q0 cd0)
  obtain ⟨k0, k1, k2, k3⟩ := st3.cells
  have z0 := st3.e0.frozen 0
  have z1 := st3.e0.frozen 1
  have z2 := st3.e0.frozen 2
  have z3 := st3.e0.frozen 3
  clear st3
  go_wp2_with fail
  generalize ((((w3.setCell ⟨w.heap.size, 0, none⟩ (.string (fewE ea).s)).setCell ⟨w.heap.size, 1, none⟩ (.string (fewE ea).t)).setCell ⟨w.heap.size, 2, none⟩ (.slice C0 p0 cc0)).setCell ⟨w.heap.size, 3, none⟩ (.slice D0 q0 cd0)) = w4 at *
  clear k0 k1 k2 k3 z0 z1 z2 z3
  have ht : (fewE ea).tags.length ≤ 1000 := by omega
  have hf : (fewE ea).fs.length ≤ 1000 := by omega
  generalize fewE ea = fa at *
  clear hft hff
  go_region_held (fun w' => w'.cell? ⟨w.heap.size, 0, none⟩ = some (.string fa.s) ∧ w'.cell? ⟨w.heap.size, 1, none⟩ = some (.string fa.t) ∧ w'.cell? ⟨w.heap.size, 2, none⟩ = some (.slice C0 p0 cc0) ∧ w'.cell? ⟨w.heap.size, 3, none⟩ = some (.slice D0 q0 cd0))
    (first | exact st4.drew.cells | exact st5.cells | exact st6.cells | exact st7.cells)
    (first
      | (go_at_call 12; refine (evNorm_any _ fa _ ?_ hfo ht hf).mono ?_; exact hv2.below st4.drew.bel; rintro e w5 ⟨u5, rfl, hu5, b5⟩; have st5 := st4.drew.below b5; clear b5)
      | (go_at_call 13; refine (refNorm_any _ fa _ ?_ ht hf).mono ?_; exact hv2.below st5.bel; rintro e w6 ⟨u6, rfl, hu6, b6⟩; have st6 := st5.below b6; have hu7 := hu5.below b6; clear b6)
      | (go_at_call 11; refine (refSame_any _ _ (normE fa) (normE fa) _ ?_ ?_).mono ?_; exact hu7; exact hu6; rintro e w7 ⟨rfl, b7⟩; rw [sameB_refl]; have st7 := st6.below b7; clear b7))
  all_goals go_wp2_with fail
  all_goals go_region_held (fun w' => w'.cell? ⟨w.heap.size, 0, none⟩ = some (.string fa.s) ∧ w'.cell? ⟨w.heap.size, 1, none⟩ = some (.string fa.t) ∧ w'.cell? ⟨w.heap.size, 2, none⟩ = some (.slice C0 p0 cc0) ∧ w'.cell? ⟨w.heap.size, 3, none⟩ = some (.slice D0 q0 cd0))
    (first | exact st7.drew.cells | exact st8.cells | exact st9.cells)
    (first
      | (go_at_call 14; refine (evMay_any _ fa _ ?_ hfo).mono ?_; exact hv2.below st7.drew.bel; rintro e w8 ⟨rfl, b8⟩; have st8 := st7.drew.below b8; clear b8)
      | (go_at_call 15; refine (refMayE_any _ fa _ ?_ hfo).mono ?_; exact hv2.below st8.bel; rintro e w9 ⟨rfl, b9⟩; have st9 := st8.below b9; clear b9))
  all_goals go_wp2_with fail
  all_goals go_ret
  all_goals exact ⟨by simp, st9.bel⟩

section
variable {H : Type} {enc : TypeId × Value → H}
set_option maxRecDepth 100000 in
theorem may_main (W : World) (base : Nat) (v0 : Value) {d0 : DataW H} {p0 : List MemPlace} (o0 : Value.okWide Try.prog W .any base 25 v0)
    (h0 : DataW.Trod enc Try.prog W 0 (fun _ => true) true 25 v0 d0 p0) :
    Calls Try.prog 3 #[v0] W fun e W' => e = .returned (.bool true) ∧ Below W.heap.size W W' := by
  obtain ⟨ea, ha, hok⟩ := op_event o0 h0
  exact may_walk v0 ea W ha hok
end

end Go.Proofs.Ytgldheeplhcmcaa.EvLaw
