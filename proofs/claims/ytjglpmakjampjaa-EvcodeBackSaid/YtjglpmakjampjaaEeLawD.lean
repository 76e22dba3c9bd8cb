/-
  Walk of a statement of layer 5: EvcodeMore.
-/
import Derived.Test.YtjglpmakjampjaaEeLawC
import Derived.Test.YtjglpmakjampjaaEdAll
import Derived.Deep.CutBlock
namespace Go.Proofs.Ytjglpmakjampjaa.EeLaw
open Go.RowKit Go.WideShapes Go.ChangeShapes Go.Proofs.Ytjglpmakjampjaa.MemRow Go.Proofs.Ytjglpmakjampjaa.Ev Go.Proofs.Ytjglpmakjampjaa.NameMath Go.Proofs.Ytjglpmakjampjaa.NameWalk Go.Proofs.Ytjglpmakjampjaa.EvWalk Go.Proofs.Ytjglpmakjampjaa.NumMath Go.Proofs.Ytjglpmakjampjaa.NumMem Go.Proofs.Ytjglpmakjampjaa.NumWalk Go.Proofs.Ytjglpmakjampjaa.EcWalk Go.Proofs.Ytjglpmakjampjaa.EdWalk Go.Proofs.Ytjglpmakjampjaa.Open

/-- Bytes that are events, one behind the other, each of which may be. -/
structure LaidEs (x : List UInt8) (ys : List Ev) : Prop where
  eq : x = ys.flatMap encE
  may : ∀ e ∈ ys, mayE e = 0
theorem LaidEs.nil : LaidEs [] [] := ⟨rfl, by simp⟩
theorem LaidEs.more {x : List UInt8} {ys : List Ev} {e : Ev} (h : LaidEs x ys) (he : mayE e = 0) : LaidEs (x ++ encE e) (ys ++ [e]) :=
  ⟨by rw [h.eq]; simp, fun z hz => by
    rcases List.mem_append.1 hz with hz | hz
    · exact h.may z hz
    · rw [List.mem_singleton.1 hz]; exact he⟩
theorem LaidEs.le {x : List UInt8} {ys : List Ev} (h : LaidEs x ys) : x.length ≤ 20000 * ys.length := by
  obtain ⟨rfl, hm⟩ := h
  induction ys with
  | nil => simp
  | cons y ys ih =>
    have h1 := encE_le (may_smallE (hm y (by simp)))
    have h2 := ih fun e he => hm e (by simp [he])
    rw [List.flatMap_cons, List.length_append, List.length_cons]
    omega
theorem LaidEs.all {x : List UInt8} {ys : List Ev} (h : LaidEs x ys) : allF x = some ys := by
  rw [h.eq]
  exact allF_encs ys h.may
/-- All events of such bytes. -/
theorem LaidEs.out {x : List UInt8} {ys : List Ev} {w : World} {e : Ending} {w' : World} (h : LaidEs x ys) (ho : AllOut x w e w') : ∃ A m c, e = .returned (.tuple #[.slice A m c, .int .i64 0]) ∧ m = ys.length ∧ RdE w' A m c ys ∧ Below w.heap.size w w' := by
  obtain ⟨hb, ho⟩ := ho
  rcases ho with ⟨es, A, m, c, h1, rfl, hr⟩ | ⟨h1, _⟩
  · rw [h.all] at h1
    injection h1 with h1
    subst h1
    exact ⟨A, m, c, rfl, hr.len.symm, hr.rd, hb⟩
  · rw [h.all] at h1
    cases h1

set_option maxHeartbeats 8000000 in
set_option maxRecDepth 100000 in
theorem more_walk (A : Option Addr) (n cap : Nat) (es : List Ev) (v : Value) (ea : Ev) (w : World) (hl : RdE w A n cap es) (oks : ∀ x ∈ es, EvOk x) (hv : IsEv w v ea) (oka : EvOk ea) :
    Calls Try.prog 7 #[.slice A n cap, v] w fun e w' => e = .returned (.bool true) ∧ Below w.heap.size w w' := by
  have hv0 := hv
  have oka' := fewE_ok oka
  have hn := hl.le
  unfold maxLen at hn
  have LE := Go.Lib.hid hl.len
  obtain ⟨A0, n0, ca0, B0, m0, cb0, rfl, _, _⟩ := hv
  have st := BoxAt.new w (.string ea.s) (.string ea.t) (.slice A0 n0 ca0) (.slice B0 m0 cb0)
  go_enter Try.func7, Try.ntmps7
  go_wp2_with fail
  generalize w.alloc (.cells #[.string ea.s, .string ea.t, .slice A0 n0 ca0, .slice B0 m0 cb0] 26) = w1 at *
  refine (shown5_any _).mono ?_
  rintro e w2 ⟨rfl, b2⟩
  have st2 := st.below b2
  have al : Below w2.heap.size w2 (w2.alloc (.cells #[] 5)) := (Below.refl _ _).alloc (Nat.le_refl _) _
  have r3 : Rd (w2.alloc (.cells #[] 5)) (some ⟨w2.heap.size, 0, none⟩) 0 0 [] := Rd.empty _ _ (Nat.zero_le _)
  have st3 := st2.below al
  clear st b2 st2 al
  go_upto_block 0 with (fail)
  go_cut [6, 7, 8, 9, 10] (fun bv nv _ _ _ wx => ∃ (B : Option Addr) (m c : Nat) (x : List UInt8) (ys : List Ev), bv = .slice B m c ∧ nv = .int .i64 (ys.length : Nat) ∧ ys.length ≤ 8 ∧ Rd wx B m c x ∧ Hid (LaidEs x ys) ∧ BoxAt wx w (.string ea.s) (.string ea.t) (.slice A0 n0 ca0) (.slice B0 m0 cb0))
  case first =>
    go_wp2_with fail
    go_loopw [6, 7, 8, 9, 10] (fun bv nv i _ _ wr => ∃ (j q : Nat) (B : Option Addr) (m c : Nat) (x : List UInt8) (ys : List Ev), i = .int .i64 j ∧ j ≤ n ∧ j ≤ 8 ∧ bv = .slice B m c ∧ nv = .int .i64 q ∧ q ≤ j ∧ Hid (ys.length = q) ∧ Rd wr B m c x ∧ Hid (LaidEs x ys) ∧ BoxAt wr w (.string ea.s) (.string ea.t) (.slice A0 n0 ca0) (.slice B0 m0 cb0)) (fun _ _ i _ _ _ => n - (intOf i).toNat)
    case atStart => exact ⟨0, 0, _, 0, 0, [], [], rfl, Nat.zero_le _, by omega, rfl, rfl, Nat.le_refl _, Go.Lib.hid rfl, r3, Go.Lib.hid LaidEs.nil, st3⟩
    case round =>
      obtain ⟨j, q, B, m, c, x, ys, rfl, hjn, hj8, rfl, rfl, hqj, HYS, rb, HX, sq⟩ := hrel
      clear r3 st3
      by_cases hlt : j < n ∧ j < 8
      · obtain ⟨h1, h2⟩ := hlt
        have i1 : (j : Int) < n := by omega
        have i2 : (j : Int) < 8 := by omega
        obtain ⟨be, oe, rfl, _, ke⟩ := RdE.at_ (hl.below sq.bel) (by omega)
        have ke1 := ke j h1
        have hok := fewE_ok (oks _ (ev_get (l := es) (j := j) (by rw [LE.out]; exact h1)))
        clear ke
        generalize es.getD j noEv = ev at *
        obtain ⟨A1, n1, k1, B1, m1, q1, x0, x1, x2, x3, rx1, rx2⟩ := ke1
        have vx : IsEv wr (.agg #[.string ev.s, .string ev.t, .slice A1 n1 k1, .slice B1 m1 q1]) ev := ⟨_, _, _, _, _, _, rfl, rx1, rx2⟩
        have hxl : x.length ≤ 1000000 := by have h3 := HX.out.le; have h4 := HYS.out; omega
        go_wp2_with fail
        refine (few_any _ ev wr wr vx).mono ?_
        rintro e w4 ⟨u4, rfl, hv4, b4⟩
        have s4 := sq.below b4
        have rb4 := rb.below b4
        clear x0 x1 x2 x3 rx1 rx2 vx
        go_wp2_with fail
        refine (putE_any B m c x u4 (fewE ev) w4 rb4 hxl (hv4.below b4) hok).mono ?_
        rintro e w5 hp5
        obtain ⟨A5, m5, c5, x5, rfl, r5, H5, b5⟩ := put_one hp5
        have s5 := s4.below b5
        have rb5 := rb4.below b5
        clear hp5 s4 rb4 b4 hv4 b5 sq rb
        by_cases h0 : mayE (fewE ev) = 0
        · rw [h0]
          have hx5 : LaidEs x5 (ys ++ [fewE ev]) := by
            have h6 := H5.out
            rw [if_pos h0] at h6
            rw [h6]
            exact HX.out.more h0
          have HX5 := Go.Lib.hid hx5
          clear hx5 h0
          go_wp2_with fail
          go_roundw
          case rel => exact ⟨j + 1, q + 1, A5, m5, c5, x5, ys ++ [fewE ev], by go_num, by omega, by omega, rfl, by go_num, by omega, Go.Lib.hid (by rw [List.length_append, HYS.out]; rfl), r5, HX5, s5⟩
          case measure => simp [intOf]; omega
        · have m0' : (mayE (fewE ev) == 0) = false := by rw [beq_eq_false_iff_ne]; exact h0
          clear h0 H5
          generalize mayE (fewE ev) = M at *
          go_wp2_with fail
          go_roundw
          case rel => exact ⟨j + 1, q, B, m, c, x, ys, by go_num, by omega, by omega, rfl, rfl, by omega, HYS, rb5, HX, s5⟩
          case measure => simp [intOf]; omega
      · have hys8 : ys.length ≤ 8 := by rw [HYS.out]; omega
        have hqy : q = ys.length := HYS.out.symm
        subst hqy
        by_cases h1 : j < n
        · have i2 : ¬ (j : Int) < 8 := by omega
          have i1 : (j : Int) < n := by omega
          clear hlt
          go_wp2_with fail
          go_meet
          exact ⟨B, m, c, x, ys, rfl, rfl, hys8, rb, HX, sq⟩
        · have i1 : ¬ (j : Int) < n := by omega
          clear hlt
          go_wp2_with fail
          go_meet
          exact ⟨B, m, c, x, ys, rfl, rfl, hys8, rb, HX, sq⟩
  case rest =>
    obtain ⟨B, m, c, x, ys, rfl, rfl, hys8, rb, HX, sq⟩ := hcut
    clear r3 st3
    obtain ⟨k0, k1, k2, k3⟩ := sq.cells
    have hxl : x.length ≤ 1000000 := by have h3 := HX.out.le; omega
    go_wp2_with fail
    refine (few_any _ ea w _ hv0).mono ?_
    rintro e w4 ⟨u4, rfl, hv4, b4⟩
    have s4 := sq.below b4
    have rb4 := rb.below b4
    have hv5 := hv4.below s4.bel
    clear k0 k1 k2 k3 sq rb b4
    go_wp2_with fail
    refine (putE_any B m c x u4 (fewE ea) w4 rb4 hxl hv5 oka').mono ?_
    rintro e w5 hp5
    obtain ⟨A5, m5, c5, x5, rfl, r5, H5, b5⟩ := put_one hp5
    have s5 := s4.below b5
    have rb5 := rb4.below b5
    clear hp5 s4 rb4 hv5 b5 hv4
    by_cases h0 : mayE (fewE ea) = 0
    · rw [h0]
      have hx5 : LaidEs x5 (ys ++ [fewE ea]) := by
        have h6 := H5.out
        rw [if_pos h0] at h6
        rw [h6]
        exact HX.out.more h0
      have HX5 := Go.Lib.hid hx5
      have hl5 : x5.length ≤ 100000000 := by
        have h3 := hx5.le
        rw [List.length_append] at h3
        simp only [List.length_singleton] at h3
        omega
      clear hx5 h0 H5 rb5
      go_wp2_with fail
      refine (all5_any A5 m5 c5 x5 w5 r5 hl5).mono ?_
      rintro e w6 ho
      obtain ⟨A6, m6, c6, rfl, hm6, r6, b6⟩ := HX5.out.out ho
      have s6 := s5.below b6
      rw [List.length_append] at hm6
      simp only [List.length_singleton] at hm6
      subst hm6
      clear ho s5 r5 b6
      go_wp2_with fail
      refine (all5_any none 0 0 [] w6 (Rd.nil w6) (by simp)).mono ?_
      rintro e w7 ho
      obtain ⟨A7, m7, c7, rfl, hm7, r7, b7⟩ := LaidEs.nil.out ho
      obtain rfl : m7 = 0 := hm7
      have s7 := s6.below b7
      have r8 := r6.below b7
      clear ho s6 r6 r7 b7
      obtain ⟨b8, o8, rfl, _, k8⟩ := r8.at_ (by omega)
      have k9 := k8 ys.length (by omega)
      have hg : (ys ++ [fewE ea]).getD ys.length noEv = fewE ea := by simp [List.getD]
      rw [hg] at k9
      have HMO := Go.Lib.hid (fun (w' : World) (h : IsEv w' u4 (fewE ea)) => h)
      clear hg k8 r8 HX5 HX HMO
      obtain ⟨k0, k1, k2, k3⟩ := s7.cells
      generalize hfa : fewE ea = fa at *
      have HFA := Go.Lib.hid hfa
      clear hfa
      obtain ⟨A1, n1, q1, B1, m1, q2, y0, y1, y2, y3, ry1, ry2⟩ := k9
      have s8 := s7.drew
      have b0 : Below w7.heap.size w7 w7.drew := bel_drew (Below.refl _ _)
      have vy : IsEv w7.drew (.agg #[.string fa.s, .string fa.t, .slice A1 n1 q1, .slice B1 m1 q2]) fa := ⟨_, _, _, _, _, _, rfl, RdC.below ry1 b0, RdC.below ry2 b0⟩
      have hsr : sameB fa fa = true := sameB_refl fa
      have HSR := Go.Lib.hid hsr
      clear ry1 ry2 hsr
      generalize ys.length = q at *
      have uq : IntKind.i64.wrap (q : Int) = (q : Int) := IntWalk.i64_in _ (by omega)
      have uq1 : IntKind.i64.wrap ((q : Int) + 1 - 1) = (q : Int) := by rw [IntWalk.i64_in _ (by omega)]; omega
      have uq2 : (q : Int) < (q : Int) + 1 := by omega
      have uq3 : ¬ (q : Int) < 0 := by omega
      have uq4 : (0 : Int) ≤ q := by omega
      go_wp2_with fail
      go_region_held (fun w' => w'.cell? ⟨b8, o8 + q * 4, none⟩ = some (.string fa.s) ∧ w'.cell? ⟨b8, o8 + q * 4 + 1, none⟩ = some (.string fa.t) ∧ w'.cell? ⟨b8, o8 + q * 4 + 2, none⟩ = some (.slice A1 n1 q1) ∧ w'.cell? ⟨b8, o8 + q * 4 + 3, none⟩ = some (.slice B1 m1 q2) ∧ w'.cell? ⟨w.heap.size, 0, none⟩ = some (.string ea.s) ∧ w'.cell? ⟨w.heap.size, 1, none⟩ = some (.string ea.t) ∧ w'.cell? ⟨w.heap.size, 2, none⟩ = some (.slice A0 n0 ca0) ∧ w'.cell? ⟨w.heap.size, 3, none⟩ = some (.slice B0 m0 cb0))
        (first | exact ⟨y0, y1, y2, y3, k0, k1, k2, k3⟩ | exact ⟨bcell b9 y0, bcell b9 y1, bcell b9 y2, bcell b9 y3, bcell b9 k0, bcell b9 k1, bcell b9 k2, bcell b9 k3⟩ | exact ⟨bcell b10 y0, bcell b10 y1, bcell b10 y2, bcell b10 y3, bcell b10 k0, bcell b10 k1, bcell b10 k2, bcell b10 k3⟩)
        (first
          | (go_at_call 18; refine (refSame_any _ _ fa fa w9 (vy.below bb9) hv10).mono ?_; rintro e w10 ⟨rfl, bb⟩; rw [HSR.out]; have b10 := below_chain b9 bb; have s10 := s9.below bb; clear bb)
          | (go_at_call 11; refine (few_any _ ea w w7.drew hv0).mono ?_; rintro e w9 ⟨u9, rfl, hv9, bb9⟩; rw [HFA.out] at hv9; have b9 := below_chain b0 bb9; have s9 := s8.below bb9; have hv10 := hv9.below s9.bel))
      all_goals go_wp2_with fail
      all_goals go_ret
      all_goals exact ⟨by simp, s10.bel⟩
    · have m0' : (mayE (fewE ea) != 0) = true := by rw [bne_iff_ne]; exact h0
      clear h0 H5 r5
      generalize mayE (fewE ea) = M at *
      go_wp2_with fail
      refine (all5_any B m c x w5 rb5 (by omega)).mono ?_
      rintro e w6 ho
      obtain ⟨A6, m6, c6, rfl, hm6, r6, b6⟩ := HX.out.out ho
      have s6 := s5.below b6
      subst hm6
      clear ho s5 rb5 b6 r6
      go_wp2_with fail
      refine (all5_any none 0 0 [] w6 (Rd.nil w6) (by simp)).mono ?_
      rintro e w7 ho
      obtain ⟨A7, m7, c7, rfl, hm7, r7, b7⟩ := LaidEs.nil.out ho
      obtain rfl : m7 = 0 := hm7
      have s7 := s6.below b7
      clear ho s6 r7 b7 HX
      generalize ys.length = q at *
      go_wp2_with fail
      go_quiet (fail)
      go_wp2_with fail
      go_ret
      exact ⟨by simp, bel_drewN s7.bel _⟩

section
variable {H : Type} {enc : TypeId × Value → H}
set_option maxRecDepth 100000 in
theorem more_main (W : World) (base : Nat) (v0 v1 : Value) {d0 d1 : DataW H} {p0 p1 : List MemPlace} (o0 : Value.okWide Try.prog W .any base 41 v0) (o1 : Value.okWide Try.prog W .any base 26 v1)
    (h0 : DataW.Trod enc Try.prog W 0 (fun _ => true) true 41 v0 d0 p0) (h1 : DataW.Trod enc Try.prog W 0 (fun _ => true) true 26 v1 d1 p1) :
    Calls Try.prog 7 #[v0, v1] W fun e W' => e = .returned (.bool true) ∧ Below W.heap.size W W' := by
  obtain ⟨A, n, cap, es, rfl, hl, oks⟩ := op_events o0 h0
  obtain ⟨ea, hv, oka⟩ := op_event o1 h1
  exact more_walk A n cap es v1 ea W hl oks hv oka
end

end Go.Proofs.Ytjglpmakjampjaa.EeLaw
