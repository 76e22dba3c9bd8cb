/-
  Walk of B.
-/
import Derived.Deep.QuietTactic
import Derived.BigQuiet
import Derived.Test.YtppidbdkejkopaaGreatDoorMh9
namespace Go.Proofs.YtppidbdkejkopaaGreatDoor.WlWalk
open Go.RowKit MemRow Ev NameMath NameWalk EvWalk NumMem DkWalk FrMath BtWalk EcWalk EdWalk
structure CalmD (D : Dk) (ss : List (List Bat)) : Prop where
  log : LogD D ss
  left : D.left = -1
theorem calm_app {D : Dk} {ss : List (List Bat)} (x : Bat) (h : CalmD D ss) :
    ((appendL D ss.length (tot ss.flatten : Int) x).1 ≠ 0 ∧ CalmD (appendL D ss.length (tot ss.flatten : Int) x).2.1 ss ∧ (appendL D ss.length (tot ss.flatten : Int) x).2.2 = (ss.length, (tot ss.flatten : Int))) ∨
    ((appendL D ss.length (tot ss.flatten : Int) x).1 = 0 ∧ ∃ ss', CalmD (appendL D ss.length (tot ss.flatten : Int) x).2.1 ss' ∧ ss'.flatten = ss.flatten ++ [x] ∧ (appendL D ss.length (tot ss.flatten : Int) x).2.2 = (ss'.length, (tot ss'.flatten : Int))) := by
  obtain ⟨a1, a2, a3, a4⟩ := appendL_eq D ss.length (tot ss.flatten : Int) x
  have e22 : ∀ (m : Nat) (l : Int), (appendL D ss.length (tot ss.flatten : Int) x).2.2.1 = m → (appendL D ss.length (tot ss.flatten : Int) x).2.2.2 = l → (appendL D ss.length (tot ss.flatten : Int) x).2.2 = (m, l) := fun m l h1 h2 => Prod.ext h1 h2
  rw [a1, a2]
  rcases appendW_log x h.log with ⟨h1, h2, h3, h4, h5⟩ | ⟨h1, ss', h2, h3, h4, h5⟩ | ⟨_, h2, _⟩
  · left
    refine ⟨h1, ⟨h2, h5 h.left⟩, e22 _ _ ?_ ?_⟩
    · rw [a4, if_neg h1]
    · rw [a3, h4]
  · right
    refine ⟨h1, ss', ⟨h2, h5 h.left⟩, h3, e22 _ _ ?_ ?_⟩
    · rw [a4, if_pos h1, h4]
    · rw [a3, h4]
  · exact absurd h.left h2
theorem calm_no {D : Dk} {ss : List (List Bat)} {x : Bat} (h : CalmD D ss) (hx : x.a ≠ (tot ss.flatten : Int)) :
    (appendL D ss.length (tot ss.flatten : Int) x).1 ≠ 0 ∧ CalmD (appendL D ss.length (tot ss.flatten : Int) x).2.1 ss ∧ (appendL D ss.length (tot ss.flatten : Int) x).2.2 = (ss.length, (tot ss.flatten : Int)) := by
  rcases calm_app x h with h1 | ⟨h1, _⟩
  · exact h1
  · exfalso
    obtain ⟨a1, _⟩ := appendL_eq D ss.length (tot ss.flatten : Int) x
    rw [a1] at h1
    unfold appendW at h1
    by_cases hm : mayX x ≠ 0
    · rw [if_pos hm] at h1
      exact hm h1
    · rw [if_neg hm, if_pos hx] at h1
      exact absurd h1 Int.one_ne_zero
theorem few_ok2 {q : Wop} (h : WopOk q) {z : Int} (hz : 0 ≤ z ∧ z ≤ 2000000) : BOk ⟨z, few6 q.x.es⟩ := ⟨(few_ok h (z := 0) (by omega)).1, (by show -9223372036854775808 ≤ z; omega), (by show z ≤ 9223372036854775807; omega)⟩
set_option maxHeartbeats 8000000 in
set_option maxRecDepth 100000 in
theorem back_walk (A : Option Addr) (n cap : Nat) (os : List Wop) (w0 : World) (h0 : RdW w0 A n cap os) (hok : ∀ d ∈ os, WopOk d) (ht : TabB w0.heap.size w0) :
    Calls Tryz.prog 6 #[.slice A n cap] w0 fun e w' => e = .returned (.bool true) ∧ Below w0.heap.size w0 w' := by
  have hn := h0.le
  unfold maxLen at hn
  have H0 := Go.Lib.hid h0
  have HN := Go.Lib.hid h0.len
  clear h0
  go_enter Tryz.func6, Tryz.ntmps6
  go_wp2_with fail
  refine (shown11_any w0 ht).mono ?_
  rintro e w1 ⟨rfl, b1⟩
  have hb1 := b1.size
  go_wp2_with fail
  refine (pr_first (base := w0.heap.size) hb1 1048576).mono ?_
  rintro e w3 ⟨g, rfl, p3, b3⟩
  have B3 := b1.trans (bel_up hb1 b3)
  have hb3 := Nat.le_trans hb1 b3.size
  have hL : LogD (newD 1048576) [] := LogD.new (by omega)
  go_wp2_with fail
  refine (openL_log p3 noT_keeps hb3 (ht.on B3) hL rfl).mono ?_
  rintro e w4 ⟨D4, gl, A4, n4, c4, rfl, l4, f4, q4, p4, b4⟩
  have B4 := B3.trans b4
  have hb4 := Nat.le_trans hb3 b4.size
  have R4 : CalmD D4 [] := ⟨l4, f4⟩
  have al : Below w4.heap.size w4 (w4.alloc (.cells #[] 39)) := (Below.refl _ _).alloc (Nat.le_refl _) _
  have p5 := pair_place (pair_more (R := InT w0 (some ⟨w4.heap.size, 0, none⟩) 0 0 []) (pair_first p4) (ldT_keeps g D4) (with_keeps noT_keeps (bxT_keeps _ _ _)) hb4 al (inT_new w0 w4 hb4))
  have B5 := B4.trans (bel_up hb4 al)
  clear p3 p4 b1 b3 b4 B3 B4 hb1 hb3 hL l4 f4 q4 al
  go_wp2_with fail
  generalize w4.alloc (.cells #[] 39) = w5 at *
  go_loopw [8, 9, 10] (fun iv jv _ wr => ∃ (B : Option Addr) (m c j : Nat) (D : Dk) (ss : List (List Bat)), iv = .slice B m c ∧ jv = .int .i64 (j : Int) ∧ j ≤ n ∧ j ≤ 30 ∧ m ≤ j ∧ Hid (CalmD D ss) ∧ Pair w0.heap.size wr (LdT g D) (RnS w0 gl g ss.length (tot ss.flatten : Int) B m c ss.flatten) ∧ Below w0.heap.size w0 wr) (fun _ jv _ _ => n - (intOf jv).toNat)
  case atStart => exact ⟨_, 0, 0, 0, D4, [], rfl, rfl, Nat.zero_le _, by omega, Nat.le_refl _, Go.Lib.hid R4, p5, B5⟩
  case round =>
    obtain ⟨B, m, c, j, D, ss, rfl, rfl, hjn, hj, hmj, HR, pj, Bj⟩ := hrel
    clear p5 B5 R4 hb4
    have hbj := Bj.size
    go_upto_region 8 with (fail)
    go_cut [45] (fun v wx => v = .bool (decide (j < n ∧ j < 30)) ∧ wr = wx)
    case first =>
      by_cases h1 : j < n
      · have i1 : (j : Int) < n := by omega
        by_cases h2 : j < 30
        · have i2 : (j : Int) < 30 := by omega
          go_wp2_with fail
          go_meet
          exact ⟨by simp [h1, h2], rfl⟩
        · have i2 : ¬ (j : Int) < 30 := by omega
          go_wp2_with fail
          go_meet
          exact ⟨by simp [h1, h2], rfl⟩
      · have i1 : ¬ (j : Int) < n := by omega
        go_wp2_with fail
        go_meet
        exact ⟨by simp [h1], rfl⟩
    obtain ⟨rfl, rfl⟩ := hcut
    by_cases hc : j < n ∧ j < 30
    · rw [show decide (j < n ∧ j < 30) = true by simpa using hc]
      obtain ⟨h1, h2⟩ := hc
      have i1 : (j : Int) < n := by omega
      obtain ⟨b, o, rfl, _, kc⟩ := H0.out.at_ (by omega)
      obtain ⟨C, nC, cC, x0, x1, x2, x3, x4, rC⟩ := kc j h1
      have hw : WopOk (os.getD j noWop) := hok _ (wop_get (by rw [HN.out]; exact h1))
      have y0 := bcell Bj x0
      have y1 := bcell Bj x1
      have y2 := bcell Bj x2
      have y3 := bcell Bj x3
      have y4 := bcell Bj x4
      generalize os.getD j noWop = q at *
      have iw : IsWop w0 (.agg #[.int .i64 q.kind, .int .i64 q.n, .int .i64 q.file, .int .i64 q.x.a, .slice C nC cC]) q := ⟨C, nC, cC, rfl, rC⟩
      clear x0 x1 x2 x3 x4 kc rC
      go_wp2_with fail
      refine (few11_any _ q w0 wr iw Bj).mono ?_
      rintro e w6 ⟨E, ie, de, rfl, oE, b6⟩
      have hpos := HR.out.log.tot_le
      have hmany := HR.out.log.many_le
      obtain ⟨p7, b7⟩ := rn_box pj (ldT_keeps g D) hbj b6 oE q.x.a
      have B7 := Bj.trans b7
      clear pj Bj hbj b6 oE b7 y0 y1 y2 y3 y4
      have rf := fun W => run_fieldB q.kind q.n q.file q.x.a (.slice E ie de) W
      go_upto_region 11 with (fail)
      generalize w6.alloc (.cells #[.int .i64 q.x.a, .slice E ie de] 39) = w7 at *
      generalize w6.heap.size = gb at *
      have hlast := lastL_any p7
      obtain ⟨_, _, fz⟩ := rn_cells p7
      have cz := (rn_cells p7).1
      obtain ⟨p8, b8⟩ := rn_set p7 (ldT_keeps g D) ((tot ss.flatten : Int) + 1)
      have B8 := Go.Lib.hid (B7.trans b8)
      have P8 := Go.Lib.hid p8
      clear p8 b8 B7
      go_upto_region 12 with (go_at_call 18; refine hlast.mono ?_; rintro e w8 ⟨rfl, rfl⟩)
      generalize w7.setCell ⟨gb, 0, none⟩ (.int .i64 ((tot ss.flatten : Int) + 1)) = w8 at *
      have B8' := B8.out
      have hb8 := B8'.size
      have p8 := P8.out
      clear p7 hlast cz fz rf P8 B8
      obtain ⟨k0, k1, _⟩ := rn_cells p8
      have iv := rn_isb p8 B8' ((tot ss.flatten : Int) + 1)
      go_wp2_with fail
      refine (appL_any p8 (rnQ_keeps _ _ _ _ _ _ _ _ _ _ _) hb8 HR.out.log.go (ht.on B8') iv (few_ok2 hw ⟨by omega, by omega⟩) (by omega) ⟨by omega, hpos⟩).mono ?_
      have hno := calm_no (x := ⟨(tot ss.flatten : Int) + 1, few6 q.x.es⟩) HR.out (by show (tot ss.flatten : Int) + 1 ≠ _; omega)
      generalize appendL D ss.length (tot ss.flatten : Int) ⟨(tot ss.flatten : Int) + 1, few6 q.x.es⟩ = R at *
      obtain ⟨rc, D', mm, ll⟩ := R
      obtain ⟨r1, r2, r4⟩ := hno
      simp only at r1 r2 r4
      obtain ⟨rfl, rfl⟩ := Prod.mk.inj r4
      rintro e w9 ⟨rfl, p9', b9⟩
      have p9 : Pair w0.heap.size w9 (LdT g D') (With (RnQ w0 B m c ss.flatten E ie de (few6 q.x.es) gb ((tot ss.flatten : Int) + 1)) (LlT gl g ss.length (tot ss.flatten : Int))) := p9'
      have B9 := B8'.trans b9
      have HR2 := Go.Lib.hid r2
      have i2 : (rc == 0) = false := by rw [beq_eq_false_iff_ne]; exact r1
      clear p8 p9' B8' b9 hb8 k0 k1 iv r2 r4 HR
      have hlast := lastL_any p9
      obtain ⟨_, _, fz⟩ := rn_cells p9
      have cz := (rn_cells p9).1
      obtain ⟨p8, b8⟩ := rn_set p9 (ldT_keeps g D') (tot ss.flatten : Int)
      have B8 := Go.Lib.hid (B9.trans b8)
      have P8 := Go.Lib.hid p8
      clear p8 b8 B9
      go_upto_region 15 with (go_at_call 18; refine hlast.mono ?_; rintro e w8 ⟨rfl, rfl⟩)
      generalize w9.setCell ⟨gb, 0, none⟩ (.int .i64 (tot ss.flatten : Int)) = w10 at *
      have B10' := B8.out
      have hb10 := B10'.size
      have p10 := P8.out
      clear p9 hlast cz fz P8 B8 r1 i2
      obtain ⟨k0, k1, _⟩ := rn_cells p10
      have iv := rn_isb p10 B10' (tot ss.flatten : Int)
      go_wp2_with fail
      refine (appL_any p10 (rnQ_keeps _ _ _ _ _ _ _ _ _ _ _) hb10 HR2.out.log.go (ht.on B10') iv (few_ok hw ⟨by omega, hpos⟩) (by omega) ⟨by omega, hpos⟩).mono ?_
      have hra := calm_app ⟨(tot ss.flatten : Int), few6 q.x.es⟩ HR2.out
      generalize appendL D' ss.length (tot ss.flatten : Int) ⟨(tot ss.flatten : Int), few6 q.x.es⟩ = R at *
      obtain ⟨rc, D', mm, ll⟩ := R
      rintro e w11 ⟨rfl, p11', b11⟩
      have p11 : Pair w0.heap.size w11 (LdT g D') (With (RnQ w0 B m c ss.flatten E ie de (few6 q.x.es) gb (tot ss.flatten : Int)) (LlT gl g mm ll)) := p11'
      have B11 := B10'.trans b11
      have hb11 := B11.size
      have hmm : ss.flatten.length = m := by
        obtain ⟨_, _, _, ⟨_, _, ⟨_, _, ⟨_, _, ⟨_, _, _, ⟨_, _, _, hl, _⟩, _⟩, _⟩, _⟩, _⟩, _⟩ := p11
        exact hl
      clear p10 p11' B10' b11 hb10 k0 k1 iv HR2
      rcases hra with ⟨r1, r2, r4⟩ | ⟨r1, ss', r2, r3, r4⟩
      · simp only at r1 r2 r4
        obtain ⟨rfl, rfl⟩ := Prod.mk.inj r4
        have i2 : (rc == 0) = false := by rw [beq_eq_false_iff_ne]; exact r1
        have p12 := rn_drop p11
        go_wp2_with fail
        go_roundw
        case rel => exact ⟨B, m, c, j + 1, D', ss, rfl, by go_num, by omega, by omega, by omega, Go.Lib.hid r2, p12, B11⟩
        case measure => simp [intOf]; omega
      · simp only at r1 r2 r3 r4
        subst r1
        obtain ⟨rfl, rfl⟩ := Prod.mk.inj r4
        have HR2 := Go.Lib.hid r2
        obtain ⟨k0, k1, _⟩ := rn_cells p11
        have al := batch_bel w11 (.int .i64 (tot ss.flatten : Int)) (.slice E ie de)
        have kk := with_keeps (rnQ_keeps w0 B m c ss.flatten E ie de (few6 q.x.es) gb (tot ss.flatten : Int)) (bxT_keeps gl (llV g ss'.length (tot ss'.flatten : Int)) 81)
        have p12 := p11.below (ldT_keeps g D') kk al
        have B12 := B11.trans (bel_up hb11 al)
        have hb12 := B12.size
        obtain ⟨cs, oc, hlc, hmore⟩ := rn_more p12 (ldT_keeps g D') hb12
        have d5 : RdC 2 (w11.alloc (.cells #[.int .i64 (tot ss.flatten : Int), .slice E ie de] 39)) (some ⟨w11.heap.size, 0, none⟩) 1 1 [.int .i64 (tot ss.flatten : Int), .slice E ie de] := RdC.new w11 39 [.int .i64 (tot ss.flatten : Int), .slice E ie de] rfl (by decide)
        have h63 : m + 1 ≤ maxLen := by unfold maxLen; omega
        have hsz : (m + 1) * 32 ≤ 140737488355328 := by omega
        have one := bat_one ⟨(tot ss.flatten : Int), few6 q.x.es⟩ E ie de
        have HM := Go.Lib.hid hmore
        have E3 := Go.Lib.hid r3
        clear p11 p12 B11 hb11 al hmore r2 r3 r4
        go_wp2_with (at_builtin; refine wpList_append_cells rfl (.tmp 69) (.tmp 71) 30 rfl 39 (.agg #[.int .i64 0, .slice none 0 0]) 32 Tryz.underlying30 batch_info rfl (by decide) rfl rfl oc d5 one h63 hsz hb12 ?_; intro A8 c8 w12 o8 g8 hA8)
        obtain ⟨p13, b13⟩ := HM.out A8 c8 w12 o8 g8 hA8
        rw [← E3.out] at p13
        have B13 := B12.trans b13
        go_roundw
        case rel => exact ⟨A8, m + 1, c8, j + 1, D', ss', rfl, by go_num, by omega, by omega, by omega, HR2, p13, B13⟩
        case measure => simp [intOf]; omega
    · rw [show decide (j < n ∧ j < 30) = false by simpa using hc]
      obtain ⟨hlog, hleft⟩ := HR.out
      have hgo := hlog.go
      clear hc
      go_wp2_with fail
      refine (openL_log pj (rnS_keeps _ _ _ _ _ _ _ _ _) hbj (ht.on Bj) hlog hleft).mono ?_
      rintro e w7 ⟨D7, gl7, A7, n7, c7, rfl, l7, f7, q7, p7, b7⟩
      have B7 := Bj.trans b7
      have hb7 := B7.size
      have rA := (pair_bs p7).rd
      have rB := pair_ins (pair_first (pair_first (pair_first p7))) B7
      have hsame := sameBs_true rA rB
      have hgo7 := l7.go
      have hlen : (names D7.fs).length = ss.length := by rw [names, List.length_map, l7.len]
      have kk7 := with_keeps (with_keeps (rnS_keeps w0 gl g ss.length (tot ss.flatten : Int) B m c ss.flatten) (bxT_keeps gl7 (llV g ss.length (tot ss.flatten : Int)) 81)) (bsT_keeps w0.heap.size A7 n7 c7 ss.flatten)
      clear rA rB pj b7 hlog hleft l7 f7 q7 hbj HR
      go_wp2_with fail
      refine hsame.mono ?_
      rintro e w8 ⟨rfl, b8⟩
      have p8 := p7.below (ldT_keeps g D7) kk7 b8
      have B8 := B7.trans (bel_up hb7 b8)
      have hb8 := Nat.le_trans hb7 b8.size
      have hla := lastL_any (pair_first p8)
      have hlb := lastL_any (pair_first (pair_first p8))
      have hsa := segsL_any (pair_first p8)
      have hsb := segsL_any (pair_first (pair_first p8))
      go_wp2_with (first
        | (go_at_call 18; first | (refine hla.mono ?_; rintro e w9 ⟨rfl, rfl⟩) | (refine hlb.mono ?_; rintro e w9 ⟨rfl, rfl⟩))
        | (go_at_call 19; first | (refine hsa.mono ?_; rintro e w9 ⟨rfl, rfl⟩) | (refine hsb.mono ?_; rintro e w9 ⟨rfl, rfl⟩) | (refine hsc.mono ?_; rintro e w10 ⟨rfl, rfl⟩))
        | (go_at_call 33; refine (pr_list p8 kk7 hgo7).mono ?_; rintro e w9 ⟨BL, mL, cL, rfl, rL, p9, b9⟩; obtain rfl : mL = ss.length := (by rw [← hlen]; exact rL.len.symm); have hsc := segsL_any (pair_first (pair_first p9))))
      go_ret
      exact ⟨rfl, B8.trans (bel_up hb8 b9)⟩
end Go.Proofs.YtppidbdkejkopaaGreatDoor.WlWalk
namespace Go.Proofs.YtppidbdkejkopaaGreatDoor.WlWalk
open Go.RowKit Go.WideShapes Go.ChangeShapes NumMem Go.Proofs.YtppidbdkejkopaaGreatDoor.Open BtWalk
section
variable {H : Type} {enc : TypeId × Value → H}
set_option maxRecDepth 100000 in
theorem back_main (W : World) (base : Nat) (v0 : Value) {d0 : DataW H} {p0 : List MemPlace} (o0 : Value.okWide Tryz.prog W .any base 22 v0)
    (h0 : DataW.Trod enc Tryz.prog W 0 (fun _ => true) true 22 v0 d0 p0)
    (ht : Lib.TabIs Tryz.prog W "internal/strconv.uint64pow10" .u64 Lib.pow10Tab) :
    Calls Tryz.prog 6 #[v0] W fun e W' => e = .returned (.bool true) ∧ Below W.heap.size W W' := by
  obtain ⟨A, n, cap, os, rfl, r, hok⟩ := op_wops o0 h0
  exact back_walk A n cap os W r hok (TabW.from ht)
end
end Go.Proofs.YtppidbdkejkopaaGreatDoor.WlWalk
