/-
  Walk of A.
-/
import Derived.Deep.QuietTactic
import Derived.BigQuiet
import Derived.Test.YtppidbdkejkopaaGreatDoorMh9
namespace Go.Proofs.YtppidbdkejkopaaGreatDoor.WlWalk
open Go.RowKit MemRow Ev NameMath NameWalk EvWalk NumMem DkWalk FrMath BtWalk EcWalk EdWalk
theorem open_any {D : Dk} {cs : List (List UInt8 × Nat)} (hg : DkGo D) (hl : D.left = -1) (hs : SegsD D cs) :
    (openW D).1 = 0 ∧ DkGo (openW D).2.1 ∧ (openW D).2.1.left = -1 ∧ Chained (openW D).2.2.all 0 ∧ (openW D).2.2.last = (tot (openW D).2.2.all : Int) ∧
    (openW (openW D).2.1).1 = 0 ∧ (openW (openW D).2.1).2.2.all = (openW D).2.2.all ∧ usedF (openW (openW D).2.1).2.1.fs = usedF (openW D).2.1.fs ∧ DkGo (openW (openW D).2.1).2.1 := by
  obtain ⟨o1, o2, o3, o4, o5, o6, o7, o8⟩ := openW_segs hg hl hs
  obtain ⟨q1, q2, q3, q4, q5, q6, q7, q8⟩ := openW_segs o3 o4 o2
  rw [bts_safed] at q2 q6
  refine ⟨o1, o3, o4, by rw [o6]; exact readW_chained _ _, by rw [o8, o6], q1, by rw [q6, o6, readW_fix], ?_, q3⟩
  rw [segs_used q3 q2, segs_used o3 o2, fixW_fix]
end Go.Proofs.YtppidbdkejkopaaGreatDoor.WlWalk
namespace Go.Proofs.YtppidbdkejkopaaGreatDoor.WlWalk
open Go.RowKit MemRow Ev NameMath NameWalk EvWalk NumMem DkWalk FrMath BtWalk EcWalk EdWalk
open FrWalk (RdB BsCell)
structure AnyD (D : Dk) (cs : List (List UInt8 × Nat)) : Prop where
  go : DkGo D
  left : D.left = -1
  quota : D.quota = 1048576
  segs : SegsD D cs
  used : usedF D.fs ≤ 3000 * cs.length
theorem AnyD.new : AnyD (newD 1048576) [] := ⟨new_go (by decide), rfl, by rw [newD_pos (by decide)], SegsD.new _, by rw [newD_pos (by decide)]; exact Nat.le_refl _⟩
theorem any_app {D : Dk} {cs : List (List UInt8 × Nat)} {b : List UInt8} (h : AnyD D cs) (hc : cs.length < 8) (hb : b.length ≤ 3000) :
    (appendD D (segN (cs.length + 1)) b).1 = 0 ∧ AnyD (appendD D (segN (cs.length + 1)) b).2 (cs ++ [(b, 0)]) := by
  have hl0 : D.left ≠ 0 := by have := h.left; omega
  have hno := h.segs.no (i := cs.length) (Nat.le_refl _)
  have hlen := segs_len h.go h.segs
  have hu := h.used
  have hq := h.quota
  have h1 : (appendD D (segN (cs.length + 1)) b).1 = 0 := by
    refine append_ok_if hl0 _ _ (segN_may (by omega) (by omega)) ?_ (.inr (by omega)) (by omega)
    rw [hno]
    simp only [Option.map_none, Option.getD_none, List.length_nil]
    omega
  obtain ⟨_, a2, _, a4⟩ := append_yes h.go hl0 _ _ h1
  have hg := append_go h.go (segN (cs.length + 1)) b
  rw [hno] at a4
  have hs : SegsD (appendD D (segN (cs.length + 1)) b).2 (cs ++ [(b, 0)]) := h.segs.push (by omega) fun t => by
    rw [a4 t]
    rfl
  refine ⟨h1, hg, by rw [a2.left, left_off h.left], by rw [a2.quota, hq], hs, ?_⟩
  have e1 := segs_used h.go h.segs
  rw [segs_used hg hs, bts_append, List.map_append, List.sum_append, ← e1, List.length_append]
  have e2 : ((bts [(b, 0)]).map List.length).sum = b.length := by simp [bts]
  rw [e2, List.length_singleton]
  omega
theorem chained_at : ∀ (xs : List Bat) (l : Int), Chained xs l → ∀ j, j < xs.length → (xs.getD j noBat).a = l + (tot (xs.take j) : Int) ∧ mayX (xs.getD j noBat) = 0
  | [], _, _, j, hj => by simp at hj
  | x :: xs, l, ⟨h1, _, h3, h4⟩, 0, _ => by
    refine ⟨?_, h1⟩
    show x.a = l + ((tot [] : Nat) : Int)
    rw [h3, tot_nil]
    omega
  | x :: xs, l, ⟨_, _, _, h4⟩, j + 1, hj => by
    obtain ⟨i1, i2⟩ := chained_at xs _ h4 j (by simpa using hj)
    refine ⟨?_, i2⟩
    show (xs.getD j noBat).a = l + ((tot (x :: xs.take j) : Nat) : Int)
    rw [i1, tot_cons]
    push_cast
    omega
theorem may_ok {x : Bat} (h : mayX x = 0) : BOk x := by
  obtain ⟨_, _, h3, h4, h5⟩ := (mayX_zero x).1 h
  exact ⟨fun e he => evOk_may (h3 e he), by omega, by omega⟩
set_option maxHeartbeats 8000000 in
set_option maxRecDepth 100000 in
theorem any_walk (A : Option Addr) (n cap : Nat) (xs : List (List UInt8)) (w0 : World) (h0 : RdB w0 A n cap xs) (ht : TabB w0.heap.size w0) :
    Calls Tryz.prog 5 #[.slice A n cap] w0 fun e w' => e = .returned (.bool true) ∧ Below w0.heap.size w0 w' := by
  have hn := h0.le
  unfold maxLen at hn
  have H0 := Go.Lib.hid h0
  clear h0
  go_enter Tryz.func5, Tryz.ntmps5
  go_wp2_with fail
  refine (shown11_any w0 ht).mono ?_
  rintro e w1 ⟨rfl, b1⟩
  have hb1 := b1.size
  go_wp2_with fail
  refine (pr_first (base := w0.heap.size) hb1 1048576).mono ?_
  rintro e w3 ⟨g, rfl, p3, b3⟩
  have B3 := b1.trans (bel_up hb1 b3)
  have AN := AnyD.new
  generalize newD 1048576 = D3 at *
  clear b1 b3 hb1
  go_wp2_with fail
  go_loopw [5, 6] (fun iv _ wr => ∃ (i : Nat) (D : Dk) (cs : List (List UInt8 × Nat)), iv = .int .i64 (i : Int) ∧ i ≤ n ∧ i ≤ 8 ∧ cs.length = i ∧ Hid (AnyD D cs) ∧ Pair w0.heap.size wr (LdT g D) NoT ∧ Below w0.heap.size w0 wr) (fun iv _ _ => n - (intOf iv).toNat)
  case atStart => exact ⟨0, D3, [], rfl, Nat.zero_le _, by omega, rfl, Go.Lib.hid AN, p3, B3⟩
  case round =>
    obtain ⟨i, D, cs, rfl, hin, hi8, hcl, HA, pj, Bj⟩ := hrel
    clear p3 B3 AN
    have hbj := Bj.size
    have hgo := HA.out.go
    go_upto_region 6 with (fail)
    go_cut [32] (fun v wx => v = .bool (decide (i < n ∧ i < 8)) ∧ wr = wx)
    case first =>
      by_cases h1 : i < n
      · have i1 : (i : Int) < n := by omega
        by_cases h2 : i < 8
        · have i2 : (i : Int) < 8 := by omega
          go_wp2_with fail
          go_meet
          exact ⟨by simp [h1, h2], rfl⟩
        · have i2 : ¬ (i : Int) < 8 := by omega
          go_wp2_with fail
          go_meet
          exact ⟨by simp [h1, h2], rfl⟩
      · have i1 : ¬ (i : Int) < n := by omega
        go_wp2_with fail
        go_meet
        exact ⟨by simp [h1], rfl⟩
    obtain ⟨rfl, rfl⟩ := hcut
    by_cases hc : i < n ∧ i < 8
    · rw [show decide (i < n ∧ i < 8) = true by simpa using hc]
      obtain ⟨h1, h2⟩ := hc
      have i1 : (i : Int) < n := by omega
      obtain ⟨b, o, rfl, _, kc⟩ := H0.out.at_ (by omega)
      obtain ⟨C, nC, cC, x0, rC⟩ := kc i h1
      have y0 := bcell Bj x0
      have rJ := rC.below Bj
      generalize xs.getD i [] = l at *
      clear kc x0 rC
      have hC := rJ.le_cap
      have hCc := rJ.2.2.1
      have hCl := rJ.len
      unfold maxLen at hCc
      have RJ := Go.Lib.hid rJ
      clear rJ
      go_upto_if 41 with (fail)
      go_cut [6] (fun v wx => ∃ m, m ≤ 3000 ∧ v = .slice C m cC ∧ Rd wr C m cC (l.take m) ∧ wr = wx)
      case first =>
        by_cases h3 : nC > 3000
        · have i3 : (nC : Int) > 3000 := by omega
          have hs : ∀ W, (Instr.slice 58 (.slice C nC cC) none (some (.int .i64 3000)) none).run Tryz.prog W = .ok (.slice C 3000 cC) W := fun W => DkWalk.slice_upto C nC cC 3000 (by omega) W
          go_wp2_with fail
          go_meet
          exact ⟨3000, Nat.le_refl _, rfl, RJ.out.first (by omega), rfl⟩
        · have i3 : ¬ (nC : Int) > 3000 := by omega
          go_wp2_with fail
          go_meet
          exact ⟨nC, by omega, rfl, by rw [List.take_of_length_le (by omega)]; exact RJ.out, rfl⟩
      case rest =>
        obtain ⟨m, hm3, rfl, rm, rfl⟩ := hcut
        have hml : (l.take m).length ≤ 3000 := by have := rm.len; omega
        have hsg := refSeg_any ((i : Int) + 1) wr (ht.on Bj).here
        have hse : segZ ((i : Int) + 1) = segN (i + 1) := by first | rfl | (unfold segZ; congr 1)
        rw [hse] at hsg
        go_wp2_with fail
        refine hsg.mono ?_
        rintro e w5 ⟨rfl, b5⟩
        have p5 := pj.below (ldT_keeps g D) noT_keeps b5
        have B5 := Bj.trans (bel_up hbj b5)
        have hb5 := B5.size
        have r5 := rm.below b5
        obtain ⟨a1, a2⟩ := any_app HA.out (by omega) hml
        rw [hcl] at a1 a2
        go_wp2_with fail
        refine (pr_append p5 noT_keeps hb5 hgo (seg_size _) r5 (by omega)).mono ?_
        rw [a1]
        rintro e w6 ⟨rfl, p6, b6⟩
        go_wp2_with fail
        go_roundw
        case rel => exact ⟨i + 1, _, _, by go_num, by omega, by omega, by rw [List.length_append, hcl]; rfl, Go.Lib.hid a2, p6, B5.trans b6⟩
        case measure => simp [intOf]; omega
    · rw [show decide (i < n ∧ i < 8) = false by simpa using hc]
      have hl := HA.out.left
      have hs := HA.out.segs
      obtain ⟨o1, o2, o3, o4, o5, o6, o7, o8, o9⟩ := open_any hgo hl hs
      have ho := openL_any pj noT_keeps hbj hgo (ht.on Bj)
      clear hc hl hs
      generalize openW D = R at *
      obtain ⟨rc, D1, rd⟩ := R
      simp only at o1 o2 o3 o4 o5 o6 o7 o8 o9
      go_wp2_with fail
      refine ho.mono ?_
      rintro e w4 ⟨h14, b4⟩
      rcases h14 with ⟨_, gl, A4, m, c, rfl, p4⟩ | ⟨h1, _⟩
      rotate_left
      · exact absurd o1 h1
      have B4 := Bj.trans b4
      have hb4 := B4.size
      simp only at p4
      rw [o5] at p4
      generalize rd.all = ys at *
      generalize rd.many = mm at *
      generalize rd.last = lx at *
      have hyl : ys.length = m := (pair_bs p4).rd.len
      have hym := (pair_bs p4).rd.le
      unfold maxLen at hym
      have htl := chained_le ys 0 o4 (by omega) (by omega)
      have HC := Go.Lib.hid (chained_at ys 0 o4)
      have kq4 := with_keeps (with_keeps noT_keeps (bxT_keeps gl (llV g mm (tot ys : Int)) 81)) (bsT_keeps w0.heap.size A4 m c ys)
      clear pj ho b4 o4 o5 HA hbj Bj
      go_wp2_with fail
      go_loopw [10, 11] (fun lv iv wr => ∃ (j : Nat), lv = .int .i64 (tot (ys.take j) : Int) ∧ iv = .int .i64 (j : Int) ∧ j ≤ m ∧ Pair w0.heap.size wr (LdT g D1) (With (With NoT (LlT gl g mm (tot ys : Int))) (BsT w0.heap.size A4 m c ys)) ∧ Below w0.heap.size w0 wr) (fun _ iv _ => m - (intOf iv).toNat)
      case atStart => exact ⟨0, rfl, rfl, Nat.zero_le _, p4, B4⟩
      case round =>
        obtain ⟨j, rfl, rfl, hjm, pj, Bj⟩ := hrel
        clear p4 B4 hb4
        have hbj := Bj.size
        by_cases hc : j < m
        · have i1 : (j : Int) < m := by omega
          have rY := (pair_bs pj).rd
          obtain ⟨b, o, rfl, _, kc⟩ := rY.at_ (by omega)
          have kx := kc j hc
          obtain ⟨c1, c2⟩ := HC.out j (by omega)
          rw [Int.zero_add] at c1
          have ta := bat_take ys j (by omega)
          have tt : tot (ys.take (j + 1)) = tot (ys.take j) + (ys.getD j noBat).es.length := by rw [ta, tot_append, tot_cons, tot_nil]; rfl
          have tle : tot (ys.take (j + 1)) ≤ tot ys := by
            have : tot (ys.take (j + 1) ++ ys.drop (j + 1)) = tot ys := by rw [List.take_append_drop]
            rw [tot_append] at this
            omega
          clear kc ta rY
          generalize ys.getD j noBat = x at *
          obtain ⟨C, nC, cC, x0, x1, rC⟩ := kx
          have hxl := rC.len
          have hok := may_ok c2
          have vx : IsB wr (.agg #[.int .i64 x.a, .slice C nC cC]) x := ⟨_, _, _, rfl, rC⟩
          have hmay := refMayX_any _ x wr vx hok
          rw [c2] at hmay
          rw [c1] at x0
          clear vx rC hok c2
          go_wp2_with fail
          rw [c1] at hmay
          refine hmay.mono ?_
          rintro e w8 ⟨rfl, b8⟩
          have p8 := pj.below (ldT_keeps g D1) kq4 b8
          have B8 := Bj.trans (bel_up hbj b8)
          have y1 := bcell b8 x1
          go_wp2_with fail
          go_roundw
          case rel => exact ⟨j + 1, by rw [tt, hxl]; go_num, by go_num, by omega, p8, B8⟩
          case measure => simp [intOf]; omega
        · obtain rfl : j = m := by omega
          have et : ys.take j = ys := List.take_of_length_le (by omega)
          rw [et]
          clear HC
          go_wp2_with fail
          refine (pr_used pj kq4 o2).mono ?_
          rintro e w5 ⟨rfl, p5, b5⟩
          have B5 := Bj.trans (bel_up hbj b5)
          have hb5 := B5.size
          go_wp2_with fail
          refine (openL_any p5 kq4 hb5 o2 (ht.on B5)).mono ?_
          rintro e w6 ⟨h14, b6⟩
          rcases h14 with ⟨_, gl2, A6, m6, c6, rfl, p6⟩ | ⟨h1, _⟩
          rotate_left
          · exact absurd o6 h1
          rw [o7] at p6
          have B6 := B5.trans b6
          have hb6 := B6.size
          have kq6 := with_keeps (with_keeps kq4 (bxT_keeps gl2 (llV g (openW D1).2.2.many (openW D1).2.2.last) 81)) (bsT_keeps w0.heap.size A6 m6 c6 ys)
          have rA := (pair_bs (pair_first (pair_first p6))).rd
          have rB := (pair_bs p6).rd
          have hsame := sameBs_true rA rB
          generalize (openW D1).2.2.many = mm2 at *
          generalize (openW D1).2.2.last = lx2 at *
          generalize (openW D1).2.1 = D6 at *
          clear rA rB p5 b5 b6 pj Bj hbj o6 o7
          go_wp2_with fail
          refine hsame.mono ?_
          rintro e w8 ⟨rfl, b8⟩
          have p8 := p6.below (ldT_keeps g D6) kq6 b8
          have B8 := B6.trans (bel_up hb6 b8)
          have hb8 := B8.size
          have hlast := lastL_any (pair_first (pair_first (pair_first p8)))
          have hused := pr_used p8 kq6 o9
          rw [o8] at hused
          go_wp2_with (first
            | (go_at_call 18; refine hlast.mono ?_; rintro e w9 ⟨rfl, rfl⟩)
            | (go_at_call 32; refine hused.mono ?_; rintro e w10 ⟨rfl, p10, b10⟩))
          go_ret
          exact ⟨by simp, B8.trans (bel_up hb8 b10)⟩
end Go.Proofs.YtppidbdkejkopaaGreatDoor.WlWalk
namespace Go.Proofs.YtppidbdkejkopaaGreatDoor.WlWalk
open Go.RowKit Go.WideShapes Go.ChangeShapes NumMem Go.Proofs.YtppidbdkejkopaaGreatDoor.Open BtWalk FrWalk
section
variable {H : Type} {enc : TypeId × Value → H}
set_option maxRecDepth 100000 in
theorem any_main (W : World) (base : Nat) (v0 : Value) {d0 : DataW H} {p0 : List MemPlace} (o0 : Value.okWide Tryz.prog W .any base 57 v0)
    (h0 : DataW.Trod enc Tryz.prog W 0 (fun _ => true) true 57 v0 d0 p0)
    (ht : Lib.TabIs Tryz.prog W "internal/strconv.uint64pow10" .u64 Lib.pow10Tab) :
    Calls Tryz.prog 5 #[v0] W fun e W' => e = .returned (.bool true) ∧ Below W.heap.size W W' := by
  obtain ⟨A, n, cap, xs, rfl, r⟩ := op_rows o0 h0
  exact any_walk A n cap xs W r (TabW.from ht)
end
end Go.Proofs.YtppidbdkejkopaaGreatDoor.WlWalk
