/-
  Walk of a statement of layer 6: QueryMay.
-/
import Derived.Test.YtfbooapgjhhjmaaQlCom
namespace Go.Proofs.Ytfbooapgjhhjmaa.QlLaw
open Go.RowKit Go.WideShapes Go.ChangeShapes Go.Proofs.Ytfbooapgjhhjmaa.MemRow Go.Proofs.Ytfbooapgjhhjmaa.Ev Go.Proofs.Ytfbooapgjhhjmaa.NameMath Go.Proofs.Ytfbooapgjhhjmaa.NameWalk Go.Proofs.Ytfbooapgjhhjmaa.EvWalk Go.Proofs.Ytfbooapgjhhjmaa.Qu Go.Proofs.Ytfbooapgjhhjmaa.QuWalk Go.Proofs.Ytfbooapgjhhjmaa.Open

set_option maxHeartbeats 8000000 in
set_option maxRecDepth 100000 in
theorem mayQ_walk (api : QApi) (v u : Value) (qa qb : List Cl) (w : World) (hv : IsQ w v qa) (hu : IsQ w u qb) (oka : QOk qa) :
    Calls Try.prog 3 #[v, u] w fun e w' => e = .returned (.bool true) ∧ Below w.heap.size w w' := by
  have hv0 := hv
  have hu0 := hu
  have oka' := fewQ_ok oka
  have la := fewQ_len qa
  have ta := fewQ_terms qa
  obtain ⟨A0, n0, c0, rfl, _⟩ := hv
  obtain ⟨B0, m0, d0, rfl, _⟩ := hu
  have st := QqAt.new w (.slice A0 n0 c0) (.slice B0 m0 d0)
  go_enter Try.func3, Try.ntmps3
  go_wp2_with fail
  generalize (w.alloc (.cells #[.slice A0 n0 c0] 24)).alloc (.cells #[.slice B0 m0 d0] 24) = w1 at *
  refine (shownQ_any api _).mono ?_
  rintro e w2 ⟨rfl, b2⟩
  have st2 := st.below b2
  have k0 := st2.eq.c0
  have hlt2 := st2.er.lt
  clear st b2
  go_wp2_with fail
  refine (fewQ_any _ qa w w2 hv0 st2.bel).mono ?_
  rintro e w3 ⟨A3, n3, c3, rfl, o3, b3⟩
  have st3 := st2.below b3
  have k0 := st3.eq.c0
  have z0 := st3.eq.frozen 0
  have k1 := st3.er.c0
  have st4 := qq_set0 st3 (.slice A3 n3 c3)
  have o4 := ownQ_set (i := 0) (x := .slice A3 n3 c3) o3 (g := w.heap.size) (by omega)
  have j1 := st4.er.c0
  clear st2 b3 st3 o3
  go_wp2_with fail
  generalize w3.setCell ⟨w.heap.size, 0, none⟩ (.slice A3 n3 c3) = w4 at *
  clear k0 z0 k1 j1
  have hlt4 := st4.er.lt
  refine (fewQ_any _ qb w w4 hu0 st4.bel).mono ?_
  rintro e w5 ⟨B5, m5, d5, rfl, p5, b5⟩
  have st5 := st4.below b5
  have o5 := o4.below b5
  have k1 := st5.er.c0
  have z1 := st5.er.frozen 0
  have st6 := qq_set1 st5 (.slice B5 m5 d5)
  have o6 := ownQ_set (i := 0) (x := .slice B5 m5 d5) o5 (g := w.heap.size + 1) (by omega)
  have p6 := ownQ_set (i := 0) (x := .slice B5 m5 d5) p5 (g := w.heap.size + 1) (by omega)
  clear st4 b5 st5 o4 o5 p5
  go_upto_region 4 with (fail)
  generalize w5.setCell ⟨w.heap.size + 1, 0, none⟩ (.slice B5 m5 d5) = w6 at *
  clear k1 z1
  generalize fewQ qa = fa at *
  generalize fewQ qb = fb at *
  have k0 := st6.eq.c0
  have b0 : Below w6.heap.size w6 w6.drew := bel_drew (Below.refl _ _)
  have ia := (OwnQ.isq o6 st6.bel).below b0
  have la' : fa.length ≤ 100 := by omega
  have la2 : fa.length ≤ 1000 := by omega
  have ta' : ∀ c ∈ fa, c.tags.length ≤ 100 ∧ c.types.length ≤ 100 := fun c hc => by have := ta c hc; omega
  have ta2 : ∀ c ∈ fa, c.tags.length ≤ 1000 ∧ c.types.length ≤ 1000 := fun c hc => by have := ta c hc; omega
  have TA1 := Go.Lib.hid ta'
  have TA2 := Go.Lib.hid ta2
  clear ta ta' ta2
  go_region_held (fun w' => w'.cell? ⟨w.heap.size, 0, none⟩ = some (.slice A3 n3 c3))
    (first | exact k0 | exact bcell b7 k0 | exact bcell b8 k0 | exact bcell b9 k0)
    (first
      | (go_at_call 12; refine (refSameQ_any u7 u8 (normQ fa) (normQ fa) w8 (i7.below b78) i8).mono ?_; rintro e w9 ⟨R9, hR9, rfl, bb⟩; obtain rfl : R9 = true := hR9.2 rfl; have b9 := below_chain b8 bb; clear bb)
      | (go_at_call 14; refine (refNormQ_any _ fa w7 (ia.below b77) la2 TA2.out).mono ?_; rintro e w8 ⟨u8, rfl, i8, b78⟩; have b8 := below_chain b7 b78)
      | (go_at_call 13; refine (api.norm _ fa w6.drew ia oka' la' TA1.out).mono ?_; rintro e w7 ⟨u7, rfl, i7, b77⟩; have b7 := below_chain b0 b77))
  have st9 := st6.below b9
  have o9 := o6.below b9
  have p9 := p6.below b9
  have B9 := st9.bel
  have l0 := st9.eq.c0
  have l1 := st9.er.c0
  have c0' : Below w9.heap.size w9 w9.drew := bel_drew (Below.refl _ _)
  have ia9 := (OwnQ.isq o9 B9).below c0'
  have ib9 := (OwnQ.isq p9 B9).below c0'
  clear k0 b0 ia st6 o6 p6 b9
  go_wp2_with fail
  go_region_held (fun w' => w'.cell? ⟨w.heap.size, 0, none⟩ = some (.slice A3 n3 c3) ∧ w'.cell? ⟨w.heap.size + 1, 0, none⟩ = some (.slice B5 m5 d5))
    (first | exact ⟨l0, l1⟩ | exact ⟨bcell b10 l0, bcell b10 l1⟩ | exact ⟨bcell b11 l0, bcell b11 l1⟩ | exact ⟨bcell b12 l0, bcell b12 l1⟩ | exact ⟨bcell b13 l0, bcell b13 l1⟩)
    (first
      | (go_at_call 12; refine (refSameQ_any _ _ fa fb w12 (ia9.below d12) (ib9.below d12)).mono ?_; rintro e w13 ⟨R13, hR13, rfl, bb⟩; obtain rfl : R13 = R12 := (by cases R13 <;> cases R12 <;> simp_all); have b13 := below_chain b12 bb; clear bb)
      | (go_at_call 17; refine (api.same _ _ fa fb w11 (ia9.below d11) (ib9.below d11)).mono ?_; rintro e w12 ⟨R12, hR12, rfl, bb⟩; have d12 := below_chain d11 bb; have b12 := below_chain b11 bb; clear bb)
      | (go_at_call 16; refine (refMayQ_any _ fa w10 (ia9.below d10) oka').mono ?_; rintro e w11 ⟨rfl, bb⟩; have d11 := below_chain d10 bb; have b11 := below_chain b10 bb; clear bb)
      | (go_at_call 15; refine (api.may _ fa w9.drew ia9 oka').mono ?_; rintro e w10 ⟨rfl, bb⟩; have d10 := bb; have b10 := below_chain c0' bb; clear bb))
  all_goals go_wp2_with fail
  all_goals go_ret
  all_goals exact ⟨by simp, below_chain B9 b13⟩

section
variable {H : Type} {enc : TypeId × Value → H}
set_option maxRecDepth 100000 in
theorem mayQ_main' (api : QApi) (W : World) (base : Nat) (v0 v1 : Value) {d0 d1 : DataW H} {p0 p1 : List MemPlace} (o0 : Value.okWide Try.prog W .any base 24 v0) (o1 : Value.okWide Try.prog W .any base 24 v1)
    (h0 : DataW.Trod enc Try.prog W 0 (fun _ => true) true 24 v0 d0 p0) (h1 : DataW.Trod enc Try.prog W 0 (fun _ => true) true 24 v1 d1 p1) :
    Calls Try.prog 3 #[v0, v1] W fun e W' => e = .returned (.bool true) ∧ Below W.heap.size W W' := by
  obtain ⟨q, hv, okq⟩ := op_query o0 h0
  obtain ⟨r, hu, _⟩ := op_query o1 h1
  exact mayQ_walk api v0 v1 q r W hv hu okq
end

end Go.Proofs.Ytfbooapgjhhjmaa.QlLaw
