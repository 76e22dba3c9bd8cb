/-
  Walk of S.
-/
import Derived.Deep.QuietTactic
import Derived.BigQuiet
import Derived.Test.YtppidbdkejkopaaGreatDoorMh9
namespace Go.Proofs.YtppidbdkejkopaaGreatDoor.WlWalk
open Go.RowKit MemRow Ev NameMath NameWalk EvWalk NumMem DkWalk FrMath BtWalk EcWalk EdWalk
structure RoomD (q : Int) (D : Dk) (ss : List (List Bat)) : Prop where
  log : LogD D ss
  left : D.left = -1
  quota : D.quota = q
  room : ((usedF D.fs : Nat) : Int) ≤ q
theorem room_app {q : Int} {D : Dk} {ss : List (List Bat)} (x : Bat) (h : RoomD q D ss) :
    ((appendL D ss.length (tot ss.flatten : Int) x).1 ≠ 0 ∧ RoomD q (appendL D ss.length (tot ss.flatten : Int) x).2.1 ss ∧ (appendL D ss.length (tot ss.flatten : Int) x).2.1.fs = D.fs ∧ (appendL D ss.length (tot ss.flatten : Int) x).2.2 = (ss.length, (tot ss.flatten : Int))) ∨
    ((appendL D ss.length (tot ss.flatten : Int) x).1 = 0 ∧ ∃ ss', RoomD q (appendL D ss.length (tot ss.flatten : Int) x).2.1 ss' ∧ ss'.flatten = ss.flatten ++ [x] ∧ (appendL D ss.length (tot ss.flatten : Int) x).2.2 = (ss'.length, (tot ss'.flatten : Int))) := by
  obtain ⟨a1, a2, a3, a4⟩ := appendL_eq D ss.length (tot ss.flatten : Int) x
  obtain ⟨q1, q2⟩ := appendW_quota D ss.length (tot ss.flatten : Int) x h.log.go
  have e22 : ∀ (m : Nat) (l : Int), (appendL D ss.length (tot ss.flatten : Int) x).2.2.1 = m → (appendL D ss.length (tot ss.flatten : Int) x).2.2.2 = l → (appendL D ss.length (tot ss.flatten : Int) x).2.2 = (m, l) := fun m l h1 h2 => Prod.ext h1 h2
  rw [a1, a2]
  rcases appendW_log x h.log with ⟨h1, h2, h3, h4, h5⟩ | ⟨h1, ss', h2, h3, h4, h5⟩ | ⟨_, h2, _⟩
  · left
    refine ⟨h1, ⟨h2, h5 h.left, by rw [q1, h.quota], by rw [h3]; exact h.room⟩, h3, e22 _ _ ?_ ?_⟩
    · rw [a4, if_neg h1]
    · rw [a3, h4]
  · right
    obtain ⟨_, _, _, hr⟩ := q2 h1
    refine ⟨h1, ss', ⟨h2, h5 h.left, by rw [q1, h.quota], ?_⟩, h3, e22 _ _ ?_ ?_⟩
    · rw [h2.used, h3, bytesW_append, bytesW_one, List.length_append, ← h.log.used]
      rw [h.quota] at hr
      exact hr
    · rw [a4, if_pos h1, h4]
    · rw [a3, h4]
  · exact absurd h.left h2
set_option maxHeartbeats 8000000 in
set_option maxRecDepth 100000 in
theorem space_walk (A : Option Addr) (n cap : Nat) (os : List Wop) (z : Int) (w0 : World) (h0 : RdW w0 A n cap os) (hok : ∀ d ∈ os, WopOk d) (hz : -9223372036854775808 ≤ z ∧ z ≤ 9223372036854775807) (ht : TabB w0.heap.size w0) :
    Calls Tryz.prog 7 #[.slice A n cap, .int .i64 z] w0 fun e w' => e = .returned (.bool true) ∧ Below w0.heap.size w0 w' := by
  have hn := h0.le
  unfold maxLen at hn
  have H0 := Go.Lib.hid h0
  have HN := Go.Lib.hid h0.len
  have HQ := kindN_lt z (n := 1000) (by omega)
  generalize hkq : kindN z 1000 = kq at *
  have KD := Go.Lib.hid (fun (W : World) => by have := kind11_any z 1000 W hz (by omega) (by omega); rw [hkq] at this; exact this)
  clear h0 hkq
  go_enter Tryz.func7, Tryz.ntmps7
  go_wp2_with fail
  refine (shown11_any w0 ht).mono ?_
  rintro e w1 ⟨rfl, b1⟩
  have hb1 := b1.size
  go_wp2_with fail
  refine (KD.out w1).mono ?_
  rintro e w2 ⟨rfl, rfl⟩
  go_wp2_with fail
  refine (pr_first (base := w0.heap.size) hb1 (kq : Int)).mono ?_
  rintro e w3 ⟨g, rfl, p3, b3⟩
  have B3 := b1.trans (bel_up hb1 b3)
  have hb3 := Nat.le_trans hb1 b3.size
  have hL : RoomD (kq : Int) (newD (kq : Int)) [] := by
    have hl : LogD (newD (kq : Int)) [] := LogD.new (by omega)
    refine ⟨hl, rfl, ?_, ?_⟩
    · rw [newD_pos (by omega)]
    · rw [hl.used]; show ((0 : Nat) : Int) ≤ _; omega
  go_wp2_with fail
  refine (openL_log p3 noT_keeps hb3 (ht.on B3) hL.log hL.left).mono ?_
  rintro e w4 ⟨D4, gl, A4, n4, c4, rfl, l4, f4, q4, p4, b4⟩
  have B4 := B3.trans b4
  have hb4 := Nat.le_trans hb3 b4.size
  have R4 : RoomD (kq : Int) D4 [] := ⟨l4, f4, q4.trans hL.quota, by rw [l4.used]; show ((0 : Nat) : Int) ≤ _; omega⟩
  have al : Below w4.heap.size w4 (w4.alloc (.cells #[] 39)) := (Below.refl _ _).alloc (Nat.le_refl _) _
  have p5 := pair_place (pair_more (R := InT w0 (some ⟨w4.heap.size, 0, none⟩) 0 0 []) (pair_first p4) (ldT_keeps g D4) (with_keeps noT_keeps (bxT_keeps _ _ _)) hb4 al (inT_new w0 w4 hb4))
  have B5 := B4.trans (bel_up hb4 al)
  clear p3 p4 b1 b3 b4 B3 B4 hb1 hb3 hL l4 f4 q4 al
  go_wp2_with fail
  generalize w4.alloc (.cells #[] 39) = w5 at *
  go_loopw [10, 11, 12, 13, 14] (fun iv jv _ _ _ wr => ∃ (B : Option Addr) (m c j : Nat) (D : Dk) (ss : List (List Bat)), iv = .slice B m c ∧ jv = .int .i64 (j : Int) ∧ j ≤ n ∧ j ≤ 30 ∧ m ≤ j ∧ Hid (RoomD (kq : Int) D ss) ∧ Pair w0.heap.size wr (LdT g D) (RnS w0 gl g ss.length (tot ss.flatten : Int) B m c ss.flatten) ∧ Below w0.heap.size w0 wr) (fun _ jv _ _ _ _ => n - (intOf jv).toNat)
  case atStart => exact ⟨_, 0, 0, 0, D4, [], rfl, rfl, Nat.zero_le _, by omega, Nat.le_refl _, Go.Lib.hid R4, p5, B5⟩
  case round =>
    obtain ⟨B, m, c, j, D, ss, rfl, rfl, hjn, hj, hmj, HR, pj, Bj⟩ := hrel
    clear p5 B5 R4 hb4
    have hbj := Bj.size
    go_upto_region 8 with (fail)
    go_cut [50] (fun v wx => v = .bool (decide (j < n ∧ j < 30)) ∧ wr = wx)
    case first =>
      by_cases h1 : j < n
      · have i1 : (j : Int) < n := by omega
        by_cases h2 : j < 30
        · have i2 : (j : Int) < 30 := by omega
          go_wp2_with fail
          go_meet
          exact ⟨by simp [h1, h2], rfl⟩
        · have i2 : ¬ (j : Int) < 30 := by omega
          go_wp2_with fail
          go_meet
          exact ⟨by simp [h1, h2], rfl⟩
      · have i1 : ¬ (j : Int) < n := by omega
        go_wp2_with fail
        go_meet
        exact ⟨by simp [h1], rfl⟩
    obtain ⟨rfl, rfl⟩ := hcut
    by_cases hc : j < n ∧ j < 30
    · rw [show decide (j < n ∧ j < 30) = true by simpa using hc]
      obtain ⟨h1, h2⟩ := hc
      have i1 : (j : Int) < n := by omega
      obtain ⟨b, o, rfl, _, kc⟩ := H0.out.at_ (by omega)
      obtain ⟨C, nC, cC, x0, x1, x2, x3, x4, rC⟩ := kc j h1
      have hw : WopOk (os.getD j noWop) := hok _ (wop_get (by rw [HN.out]; exact h1))
      have y0 := bcell Bj x0
      have y1 := bcell Bj x1
      have y2 := bcell Bj x2
      have y3 := bcell Bj x3
      have y4 := bcell Bj x4
      generalize os.getD j noWop = q at *
      have iw : IsWop w0 (.agg #[.int .i64 q.kind, .int .i64 q.n, .int .i64 q.file, .int .i64 q.x.a, .slice C nC cC]) q := ⟨C, nC, cC, rfl, rC⟩
      clear x0 x1 x2 x3 x4 kc rC
      go_wp2_with fail
      refine (few11_any _ q w0 wr iw Bj).mono ?_
      rintro e w6 ⟨E, ie, de, rfl, oE, b6⟩
      have hpos := HR.out.log.tot_le
      have hmany := HR.out.log.many_le
      obtain ⟨p7, b7⟩ := rn_box pj (ldT_keeps g D) hbj b6 oE q.x.a
      have B7 := Bj.trans b7
      clear pj Bj hbj b6 oE b7 y0 y1 y2 y3 y4
      have rf := fun W => run_fieldB q.kind q.n q.file q.x.a (.slice E ie de) W
      go_upto_region 11 with (fail)
      generalize w6.alloc (.cells #[.int .i64 q.x.a, .slice E ie de] 39) = w7 at *
      generalize w6.heap.size = gb at *
      have hlast := lastL_any p7
      obtain ⟨_, _, fz⟩ := rn_cells p7
      have cz := (rn_cells p7).1
      obtain ⟨p8, b8⟩ := rn_set p7 (ldT_keeps g D) (tot ss.flatten : Int)
      have B8 := Go.Lib.hid (B7.trans b8)
      have P8 := Go.Lib.hid p8
      clear p8 b8 B7
      go_wp2_with (go_at_call 18; refine hlast.mono ?_; rintro e w8 ⟨rfl, rfl⟩)
      generalize w7.setCell ⟨gb, 0, none⟩ (.int .i64 (tot ss.flatten : Int)) = w8 at *
      have B8' := B8.out
      have hb8 := B8'.size
      clear p7 hlast cz fz rf
      refine (pr_used P8.out (with_keeps (rnQ_keeps _ _ _ _ _ _ _ _ _ _ _) (bxT_keeps _ _ _)) HR.out.log.go).mono ?_
      rintro e w9 ⟨rfl, p9, b9⟩
      have B9 := B8'.trans (bel_up hb8 b9)
      have hb9 := B9.size
      obtain ⟨k0, k1, _⟩ := rn_cells p9
      have iv := rn_isb p9 B9 (tot ss.flatten : Int)
      clear P8 B8 B8' hb8 b9
      go_wp2_with fail
      refine (appL_any p9 (rnQ_keeps _ _ _ _ _ _ _ _ _ _ _) hb9 HR.out.log.go (ht.on B9) iv (few_ok hw ⟨by omega, hpos⟩) (by omega) ⟨by omega, hpos⟩).mono ?_
      have hra := room_app ⟨(tot ss.flatten : Int), few6 q.x.es⟩ HR.out
      generalize appendL D ss.length (tot ss.flatten : Int) ⟨(tot ss.flatten : Int), few6 q.x.es⟩ = R at *
      obtain ⟨rc, D', mm, ll⟩ := R
      rintro e w10 ⟨rfl, p10', b10⟩
      have p10 : Pair w0.heap.size w10 (LdT g D') (With (RnQ w0 B m c ss.flatten E ie de (few6 q.x.es) gb (tot ss.flatten : Int)) (LlT gl g mm ll)) := p10'
      have B10 := B9.trans b10
      have hb10 := B10.size
      have hmm : ss.flatten.length = m := by
        obtain ⟨_, _, _, ⟨_, _, ⟨_, _, ⟨_, _, ⟨_, _, _, ⟨_, _, _, hl, _⟩, _⟩, _⟩, _⟩, _⟩, _⟩ := p10
        exact hl
      have HU := Go.Lib.hid (rfl : ((usedF D.fs : Nat) : Int) = ((usedF D.fs : Nat) : Int))
      clear p9 p10' B9 b10 hb9 k0 k1 iv
      rcases hra with ⟨r1, r2, r3, r4⟩ | ⟨r1, ss', r2, r3, r4⟩
      · simp only at r1 r2 r3 r4
        obtain ⟨rfl, rfl⟩ := Prod.mk.inj r4
        have i2 : (rc == 0) = false := by rw [beq_eq_false_iff_ne]; exact r1
        have HR2 := Go.Lib.hid r2
        have hgo := r2.log.go
        have hlast := lastL_any p10
        have eu : usedF D'.fs = usedF D.fs := by rw [r3]
        have bd : Below w10.heap.size w10 w10.drew := bel_drew (Below.refl _ _)
        have kk := with_keeps (rnQ_keeps w0 B m c ss.flatten E ie de (few6 q.x.es) gb (tot ss.flatten : Int)) (bxT_keeps gl (llV g ss.length (tot ss.flatten : Int)) 81)
        have pd := p10.below (ldT_keeps g D') kk bd
        have Bd := B10.trans (bel_up hb10 bd)
        have k0 := (rn_cells p10).1
        generalize usedF D.fs = uu at *
        go_upto_region 16 with (fail)
        go_region_held (fun w' => w'.cell? ⟨gb, 0, none⟩ = some (.int .i64 (tot ss.flatten : Int)))
          (first | exact k0 | exact (rn_cells p11).1)
          (first
            | (go_at_call 32; refine (pr_used pd kk hgo).mono ?_; rw [eu]; rintro e w11 ⟨rfl, p11, b11⟩; have hl2 := lastL_any p11)
            | (go_at_call 18; refine hl2.mono ?_; rintro e w12 ⟨rfl, rfl⟩))
        have p12 := rn_drop p11
        have B12 := Bd.trans (bel_up (Nat.le_trans hb10 bd.size) b11)
        clear p10 pd p11 B10 Bd hl2 hlast b11 k0 bd eu r3 r2 hgo
        go_wp2_with fail
        go_roundw
        case rel => exact ⟨B, m, c, j + 1, D', ss, rfl, by go_num, by omega, by omega, by omega, HR2, p12, B12⟩
        case measure => simp [intOf]; omega
      · simp only at r1 r2 r3 r4
        subst r1
        obtain ⟨rfl, rfl⟩ := Prod.mk.inj r4
        have HR2 := Go.Lib.hid r2
        obtain ⟨k0, k1, _⟩ := rn_cells p10
        have al := batch_bel w10 (.int .i64 (tot ss.flatten : Int)) (.slice E ie de)
        have kk := with_keeps (rnQ_keeps w0 B m c ss.flatten E ie de (few6 q.x.es) gb (tot ss.flatten : Int)) (bxT_keeps gl (llV g ss'.length (tot ss'.flatten : Int)) 81)
        have p11 := p10.below (ldT_keeps g D') kk al
        have B11 := B10.trans (bel_up hb10 al)
        have hb11 := B11.size
        obtain ⟨cs, oc, hlc, hmore⟩ := rn_more p11 (ldT_keeps g D') hb11
        have d5 : RdC 2 (w10.alloc (.cells #[.int .i64 (tot ss.flatten : Int), .slice E ie de] 39)) (some ⟨w10.heap.size, 0, none⟩) 1 1 [.int .i64 (tot ss.flatten : Int), .slice E ie de] := RdC.new w10 39 [.int .i64 (tot ss.flatten : Int), .slice E ie de] rfl (by decide)
        have h63 : m + 1 ≤ maxLen := by unfold maxLen; omega
        have hsz : (m + 1) * 32 ≤ 140737488355328 := by omega
        have one := bat_one ⟨(tot ss.flatten : Int), few6 q.x.es⟩ E ie de
        have HM := Go.Lib.hid hmore
        have E3 := Go.Lib.hid r3
        clear p10 p11 B10 hb10 al hmore r2 r3 r4
        go_wp2_with (at_builtin; refine wpList_append_cells rfl (.tmp 69) (.tmp 71) 30 rfl 39 (.agg #[.int .i64 0, .slice none 0 0]) 32 Tryz.underlying30 batch_info rfl (by decide) rfl rfl oc d5 one h63 hsz hb11 ?_; intro A8 c8 w12 o8 g8 hA8)
        obtain ⟨p12, b12⟩ := HM.out A8 c8 w12 o8 g8 hA8
        rw [← E3.out] at p12
        have B12 := B11.trans b12
        go_roundw
        case rel => exact ⟨A8, m + 1, c8, j + 1, D', ss', rfl, by go_num, by omega, by omega, by omega, HR2, p12, B12⟩
        case measure => simp [intOf]; omega
    · rw [show decide (j < n ∧ j < 30) = false by simpa using hc]
      obtain ⟨hlog, hleft, hquota, hroom⟩ := HR.out
      obtain ⟨lc, fc, qc⟩ := hlog.crash 0
      have hgo := hlog.go
      clear hc
      go_wp2_with fail
      refine (pr_crash pj (rnS_keeps _ _ _ _ _ _ _ _ _) hbj hgo (keep := 0) (by decide)).mono ?_
      rintro e w6 ⟨rfl, p6, b6⟩
      have B6 := Bj.trans b6
      have hb6 := B6.size
      generalize crashD D 0 = D6 at *
      clear pj Bj hbj b6
      go_wp2_with fail
      refine (openL_log p6 (rnS_keeps _ _ _ _ _ _ _ _ _) hb6 (ht.on B6) lc fc).mono ?_
      rintro e w7 ⟨D7, gl7, A7, n7, c7, rfl, l7, f7, q7, p7, b7⟩
      have B7 := B6.trans b7
      have hb7 := B7.size
      have rA := (pair_bs p7).rd
      have rB := pair_ins (pair_first (pair_first (pair_first p7))) B7
      have hsame := sameBs_true rA rB
      have hle : ((usedF D7.fs : Nat) : Int) ≤ (kq : Int) := by rw [l7.used, ← hlog.used]; exact hroom
      have hgo7 := l7.go
      have kk7 := with_keeps (with_keeps (rnS_keeps w0 gl g ss.length (tot ss.flatten : Int) B m c ss.flatten) (bxT_keeps gl7 (llV g ss.length (tot ss.flatten : Int)) 81)) (bsT_keeps w0.heap.size A7 n7 c7 ss.flatten)
      clear rA rB p6 b7 hlog hleft hquota hroom lc fc qc l7 f7 q7 hb6 HR
      go_wp2_with (first
        | (go_at_call 26; refine hsame.mono ?_; rintro e w8 ⟨rfl, b8⟩; have p8 := p7.below (ldT_keeps g D7) kk7 b8; have B8 := B7.trans (bel_up hb7 b8); have hb8 := B8.size)
        | (go_at_call 32; refine (pr_used p8 kk7 hgo7).mono ?_; rintro e w9 ⟨rfl, p9, b9⟩)
        | (go_at_call 11; refine (KD.out _).mono ?_; rintro e w10 ⟨rfl, rfl⟩))
      go_ret
      exact ⟨rfl, B8.trans (bel_up hb8 b9)⟩
end Go.Proofs.YtppidbdkejkopaaGreatDoor.WlWalk
namespace Go.Proofs.YtppidbdkejkopaaGreatDoor.WlWalk
open Go.RowKit Go.WideShapes Go.ChangeShapes NumMem Go.Proofs.YtppidbdkejkopaaGreatDoor.Open BtWalk
section
variable {H : Type} {enc : TypeId × Value → H}
set_option maxRecDepth 100000 in
theorem space_main (W : World) (base : Nat) (v0 v1 : Value) {d0 d1 : DataW H} {p0 p1 : List MemPlace} (o0 : Value.okWide Tryz.prog W .any base 22 v0) (o1 : Value.okWide Tryz.prog W .any base 3 v1)
    (h0 : DataW.Trod enc Tryz.prog W 0 (fun _ => true) true 22 v0 d0 p0) (h1 : DataW.Trod enc Tryz.prog W 0 (fun _ => true) true 3 v1 d1 p1)
    (ht : Lib.TabIs Tryz.prog W "internal/strconv.uint64pow10" .u64 Lib.pow10Tab) :
    Calls Tryz.prog 7 #[v0, v1] W fun e W' => e = .returned (.bool true) ∧ Below W.heap.size W W' := by
  obtain ⟨A, n, cap, os, rfl, r, hok⟩ := op_wops o0 h0
  obtain ⟨z, rfl, wz⟩ := op_i64 Tryz.underlying3 o1 h1
  exact space_walk A n cap os z W r hok wz (TabW.from ht)
end
end Go.Proofs.YtppidbdkejkopaaGreatDoor.WlWalk
