/-
  Walk of a statement of layer 5: EvcodeApart.
-/
import Derived.Test.YtjglpmakjampjaaEeCom
namespace Go.Proofs.Ytjglpmakjampjaa.EeLaw
open Go.RowKit Go.WideShapes Go.ChangeShapes Go.Proofs.Ytjglpmakjampjaa.MemRow Go.Proofs.Ytjglpmakjampjaa.Ev Go.Proofs.Ytjglpmakjampjaa.NameMath Go.Proofs.Ytjglpmakjampjaa.NameWalk Go.Proofs.Ytjglpmakjampjaa.EvWalk Go.Proofs.Ytjglpmakjampjaa.NumMath Go.Proofs.Ytjglpmakjampjaa.NumMem Go.Proofs.Ytjglpmakjampjaa.NumWalk Go.Proofs.Ytjglpmakjampjaa.EcWalk Go.Proofs.Ytjglpmakjampjaa.EdWalk Go.Proofs.Ytjglpmakjampjaa.Open

theorem nil_app (l : List UInt8) : ([] : List UInt8) ++ l = l := rfl

set_option maxHeartbeats 8000000 in
set_option maxRecDepth 100000 in
theorem apart_walk (v u : Value) (ea eb : Ev) (w : World) (hv : IsEv w v ea) (hu : IsEv w u eb) (oka : EvOk ea) (okb : EvOk eb) :
    Calls Try.prog 6 #[v, u] w fun e w' => e = .returned (.bool true) ∧ Below w.heap.size w w' := by
  have hv0 := hv
  have hu0 := hu
  have oka' := fewE_ok oka
  have okb' := fewE_ok okb
  obtain ⟨A0, n0, ca0, B0, m0, cb0, rfl, _, _⟩ := hv
  obtain ⟨A1, n1, ca1, B1, m1, cb1, rfl, _, _⟩ := hu
  have st := TwoAt.new w (.string ea.s) (.string ea.t) (.slice A0 n0 ca0) (.slice B0 m0 cb0) (.string eb.s) (.string eb.t) (.slice A1 n1 ca1) (.slice B1 m1 cb1)
  go_enter Try.func6, Try.ntmps6
  go_wp2_with fail
  generalize (w.alloc (.cells #[.string ea.s, .string ea.t, .slice A0 n0 ca0, .slice B0 m0 cb0] 26)).alloc (.cells #[.string eb.s, .string eb.t, .slice A1 n1 ca1, .slice B1 m1 cb1] 26) = w1 at *
  refine (shown5_any _).mono ?_
  rintro e w2 ⟨rfl, b2⟩
  have st2 := st.below b2
  have k0 := st2.e0.c0
  have k1 := st2.e0.c1
  have k2 := st2.e0.c2
  have k3 := st2.e0.c3
  clear st b2
  go_wp2_with fail
  refine (few_any _ ea w _ hv0).mono ?_
  rintro e w3 ⟨u1, rfl, hv1, b3⟩
  have st3 := st2.below b3
  clear st2 b3 k0 k1 k2 k3
  have hv2 := hv1
  obtain ⟨C0, p0, cc0, D0, q0, cd0, rfl, _, _⟩ := hv1
  have st4 := st3.set0 (.string (fewE ea).s) (.string (fewE ea).t) (.slice C0 p0 cc0) (.slice D0 q0 cd0)
  have k0 := st3.e0.c0
  have k1 := st3.e0.c1
  have k2 := st3.e0.c2
  have k3 := st3.e0.c3
  have z0 := st3.e0.frozen 0
  have z1 := st3.e0.frozen 1
  have z2 := st3.e0.frozen 2
  have z3 := st3.e0.frozen 3
  have j0 := st4.e1.c0
  have j1 := st4.e1.c1
  have j2 := st4.e1.c2
  have j3 := st4.e1.c3
  clear st3
  go_wp2_with fail
  generalize ((((w3.setCell ⟨w.heap.size, 0, none⟩ (.string (fewE ea).s)).setCell ⟨w.heap.size, 1, none⟩ (.string (fewE ea).t)).setCell ⟨w.heap.size, 2, none⟩ (.slice C0 p0 cc0)).setCell ⟨w.heap.size, 3, none⟩ (.slice D0 q0 cd0)) = w4 at *
  clear k0 k1 k2 k3 z0 z1 z2 z3 j0 j1 j2 j3
  refine (few_any _ eb w _ hu0).mono ?_
  rintro e w5 ⟨u1, rfl, hu1, b5⟩
  have st5 := st4.below b5
  clear st4 b5
  have hu2 := hu1
  obtain ⟨C1, p1, cc1, D1, q1, cd1, rfl, _, _⟩ := hu1
  have st6 := st5.set1 (.string (fewE eb).s) (.string (fewE eb).t) (.slice C1 p1 cc1) (.slice D1 q1 cd1)
  have k0 := st5.e1.c0
  have k1 := st5.e1.c1
  have k2 := st5.e1.c2
  have k3 := st5.e1.c3
  have z0 := st5.e1.frozen 0
  have z1 := st5.e1.frozen 1
  have z2 := st5.e1.frozen 2
  have z3 := st5.e1.frozen 3
  clear st5
  generalize fewE ea = fa at *
  generalize fewE eb = fb at *
  go_upto_region 4 with (fail)
  generalize ((((w5.setCell ⟨w.heap.size + 1, 0, none⟩ (.string fb.s)).setCell ⟨w.heap.size + 1, 1, none⟩ (.string fb.t)).setCell ⟨w.heap.size + 1, 2, none⟩ (.slice C1 p1 cc1)).setCell ⟨w.heap.size + 1, 3, none⟩ (.slice D1 q1 cd1)) = w6 at *
  clear k0 k1 k2 k3 z0 z1 z2 z3
  have k0 := st6.e0.c0
  have k1 := st6.e0.c1
  have k2 := st6.e0.c2
  have k3 := st6.e0.c3
  have hva := hv2.below st6.bel
  go_wp2_with fail
  refine (putE_any none 0 0 [] _ fa w6 (Rd.nil w6) (by simp) hva oka').mono ?_
  rintro e w7 ⟨hpa, b7⟩
  have st7 := st6.below b7
  have hub := hu2.below st7.bel
  clear st6 b7 k0 k1 k2 k3 hva
  have k0 := st7.e1.c0
  have k1 := st7.e1.c1
  have k2 := st7.e1.c2
  have k3 := st7.e1.c3
  rcases hpa with ⟨ha0, va, rfl, Aa, caa, rfl, owna⟩ | ⟨ha0, rfl⟩
  · rw [nil_app] at owna
    rw [nil_app]
    have ha := owna.rd
    have HA0 := Go.Lib.hid ha0
    clear owna ha0
    go_wp2_with fail
    refine (putE_any none 0 0 [] _ fb w7 (Rd.nil w7) (by simp) hub okb').mono ?_
    rintro e w8 ⟨hpb, b8⟩
    have st8 := st7.below b8
    clear st7 k0 k1 k2 k3 hub
    rcases hpb with ⟨hb0, vb, rfl, Ab, cab, rfl, ownb⟩ | ⟨hb0, rfl⟩
    · rw [nil_app] at ownb
      rw [nil_app]
      have hb := ownb.rd
      have ha8 := ha.below b8
      have HB0 := Go.Lib.hid hb0
      clear ownb hb0 ha b8
      have k0 := st8.e0.c0
      have k1 := st8.e0.c1
      have k2 := st8.e0.c2
      have k3 := st8.e0.c3
      have j0 := st8.e1.c0
      have j1 := st8.e1.c1
      have j2 := st8.e1.c2
      have j3 := st8.e1.c3
      have va8 := hv2.below st8.bel
      have ub8 := hu2.below st8.bel
      go_wp2_with fail
      refine (refSame_any _ _ fa fb w8 va8 ub8).mono ?_
      rintro e w9 ⟨rfl, b9⟩
      have B9 := below_chain st8.bel b9
      have ra := ha8.below b9
      have rb := hb.below b9
      clear k0 k1 k2 k3 j0 j1 j2 j3 st8 ha8 hb b9 va8 ub8
      have sa := fun n => rd_str (ra.drewN n)
      have sb := fun n => rd_str (rb.drewN n)
      have hbeg := fun r h => encE_begin HA0.out HB0.out (r := r) h
      have HBEG := Go.Lib.hid hbeg
      clear hbeg
      have hsm : sameB fa fb = true ↔ fa = fb := sameB_eq
      have HSM := Go.Lib.hid hsm
      clear hsm
      generalize hS : sameB fa fb = S at *
      clear hS
      cases S with
      | true =>
        obtain rfl := HSM.out.1 rfl
        clear HSM HBEG HA0 HB0 hu2 hv2 oka' okb'
        have qs := slice_upto Ab (encE fa).length cab (encE fa).length rb.le_cap
        clear ra rb
        generalize encE fa = x at *
        generalize x.length = n at *
        go_wp2_with fail
        go_quiet (fail)
        go_wp2_with fail
        go_ret
        exact ⟨rfl, bel_drewN B9 _⟩
      | false =>
        have hne : fa ≠ fb := fun h => by have := HSM.out.2 h; cases this
        have hxy : encE fa ≠ encE fb := fun h => hne (HBEG.out [] (by rw [List.append_nil]; exact h.symm)).1
        have b1 := bytes_ne hxy
        by_cases hle : (encE fa).length ≤ (encE fb).length
        · have hxt : (encE fb).take (encE fa).length ≠ encE fa := fun h => hne (HBEG.out ((encE fb).drop (encE fa).length) (by
            have h2 := List.take_append_drop (encE fa).length (encE fb)
            rw [h] at h2
            exact h2.symm)).1
          have b2 := bytes_ne hxt
          have rf := rb.first hle
          have s3 := fun n => rd_str (rf.drewN n)
          have qs := slice_upto Ab (encE fb).length cab (encE fa).length (Nat.le_trans hle rb.le_cap)
          clear HSM HBEG HA0 HB0 hu2 hv2 oka' okb' hne hxy hxt ra rb rf
          generalize (encE fb).take (encE fa).length = yt at *
          generalize encE fa = x at *
          generalize encE fb = y at *
          generalize x.length = n at *
          generalize y.length = m at *
          go_wp2_with fail
          go_quiet (fail)
          go_wp2_with fail
          go_ret
          exact ⟨rfl, bel_drewN B9 _⟩
        · clear HSM HBEG HA0 HB0 hu2 hv2 oka' okb' hne hxy ra rb
          generalize encE fa = x at *
          generalize encE fb = y at *
          generalize x.length = n at *
          generalize y.length = m at *
          go_wp2_with fail
          go_quiet (fail)
          go_wp2_with fail
          go_ret
          exact ⟨rfl, bel_drewN B9 _⟩
    · have m0 : (mayE fb != 0) = true := by rw [bne_iff_ne]; exact hb0
      have B8 := st8.bel
      generalize mayE fb = MB at *
      clear hb0 ha
      go_wp2_with fail
      go_ret
      exact ⟨rfl, B8⟩
  · have m0 : (mayE fa != 0) = true := by rw [bne_iff_ne]; exact ha0
    generalize mayE fa = MA at *
    clear ha0
    go_wp2_with fail
    refine (putE_any none 0 0 [] _ fb w7 (Rd.nil w7) (by simp) hub okb').mono ?_
    rintro e w8 ⟨hpb, b8⟩
    have B8 := (st7.below b8).bel
    clear st7 k0 k1 k2 k3 hub
    rcases hpb with ⟨hb0, vb, rfl, Ab, cab, rfl, ownb⟩ | ⟨hb0, rfl⟩
    · clear ownb
      go_wp2_with fail
      go_ret
      exact ⟨rfl, B8⟩
    · go_wp2_with fail
      go_ret
      exact ⟨rfl, B8⟩

section
variable {H : Type} {enc : TypeId × Value → H}
set_option maxRecDepth 100000 in
theorem apart_main (W : World) (base : Nat) (v0 v1 : Value) {d0 d1 : DataW H} {p0 p1 : List MemPlace} (o0 : Value.okWide Try.prog W .any base 26 v0) (o1 : Value.okWide Try.prog W .any base 26 v1)
    (h0 : DataW.Trod enc Try.prog W 0 (fun _ => true) true 26 v0 d0 p0) (h1 : DataW.Trod enc Try.prog W 0 (fun _ => true) true 26 v1 d1 p1) :
    Calls Try.prog 6 #[v0, v1] W fun e W' => e = .returned (.bool true) ∧ Below W.heap.size W W' := by
  obtain ⟨ea, hv, oka⟩ := op_event o0 h0
  obtain ⟨eb, hu, okb⟩ := op_event o1 h1
  exact apart_walk v0 v1 ea eb W hv hu oka okb
end

end Go.Proofs.Ytjglpmakjampjaa.EeLaw
