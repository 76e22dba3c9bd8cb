/-
  Walk of a statement of layer 14: IndexWhole. (Written by genwhole.py.)
-/
import Derived.Deep.RegionHeldLaw
import Derived.ArgAppend
import Derived.Maps.OwnSet
import Derived.Maps.Ext
import Derived.Maps.RangeWalk
import Derived.Sort.KeysCollected
import Derived.Test.YtiplfhmimpkplaaMg3
namespace Go.Proofs.Ytiplfhmimpkplaa.IxWalk
open Go.Proofs.Ytiplfhmimpkplaa.HeldAt Go.RowKit Go.WideShapes Go.ChangeShapes Go.Proofs.Ytiplfhmimpkplaa.MemRow Go.Proofs.Ytiplfhmimpkplaa.Ev Go.Proofs.Ytiplfhmimpkplaa.Open Go.Proofs.Ytiplfhmimpkplaa.NameMath Go.Proofs.Ytiplfhmimpkplaa.NameWalk Go.Proofs.Ytiplfhmimpkplaa.EvWalk Go.Proofs.Ytiplfhmimpkplaa.NumMem Go.Proofs.Ytiplfhmimpkplaa.Qu Go.Proofs.Ytiplfhmimpkplaa.QuWalk Go.Proofs.Ytiplfhmimpkplaa.SmWalk Go.Proofs.Ytiplfhmimpkplaa.BtWalk Go.Proofs.Ytiplfhmimpkplaa.DkWalk

section
variable {Ix : Nat → List Ev → Thing}
set_option maxHeartbeats 16000000 in
set_option maxRecDepth 100000 in
theorem whole_walk (api : IApi Ix) (A1 : Option Addr) (n1 c1 : Nat) (l : List Bat) (z : Int) (w0 : World) (r1 : RdBs w0 A1 n1 c1 l) (o1 : ∀ x ∈ l, BOk x) (hz : -9223372036854775808 ≤ z ∧ z ≤ 9223372036854775807) :
    Calls Try.prog 4 #[.slice A1 n1 c1, .int .i64 z] w0 fun e w' => e = .returned (.bool true) ∧ Below w0.heap.size w0 w' := by
  have hn1 := r1.le
  unfold maxLen at hn1
  have HN1 := Go.Lib.hid r1.len
  have HOK1 := Go.Lib.hid (bats_ok o1)
  have HP1 := Go.Lib.hid (playN_ok logOk_nil (by simp) l)
  have HLL := Go.Lib.hid (HP1.out 15 (by omega))
  have hww : w0.heap.size ≤ w0.heap.size := Nat.le_refl _
  clear o1
  go_enter Try.func4, Try.ntmps4
  go_wp2_with fail
  refine (shown14_any api w0).mono ?_
  rintro e w2 ⟨rfl, B2⟩
  go_wp2_with fail
  refine (api.new (base := w0.heap.size) (Q := NoT) (G := fun _ => False) (fun k h => h) noT_keeps (fun k h => h.elim) B2.size).mono ?_
  rintro e w3 ⟨g, rfl, p3, b3⟩
  have B3 := below_chain B2 b3
  have one := one_of api g
  obtain ⟨p4, b4⟩ := ss_new p3 (one.keeps _) noT_keeps B3.size
  have B4 := below_chain B3 b4
  have hba := B4.size
  have hE0 : ([] : List Ev).length = 0 := rfl
  have HW4 := Go.Lib.hid B4
  clear B2 p3 b3 B3 b4
  go_upto_region 6 with (fail)
  generalize w3.alloc (.cells #[] 9) = wa at *
  generalize w3.heap.size = ga at *
  go_wp2_with fail
  go_loopw [7, 8, 9, 10, 11, 12] (fun nv iv _ _ _ _ wr => ∃ (j : Nat) (An : Option Addr) (nn cn : Nat), nv = .slice An nn cn ∧ iv = .int .i64 (j : Int) ∧ j ≤ n1 ∧ j ≤ 15 ∧ Pair w0.heap.size wr (Ix g (playN [] l j)) (SsT An nn cn (normTags (strs (playN [] l j)))) ∧ Below w0.heap.size wa wr) (fun _ iv _ _ _ _ _ => n1 - (intOf iv).toNat)
  case atStart => exact ⟨0, _, 0, 0, rfl, rfl, Nat.zero_le _, by omega, p4, Below.refl _ _⟩
  case round =>
    obtain ⟨j1, An, nn, cn, rfl, rfl, hjn1, hjK1, pj, Bj⟩ := hrel
    clear p4
    go_upto_region 7 with (fail)
    go_cut [34] (fun v wx => v = .bool (decide (j1 < n1 ∧ j1 < 15)) ∧ wr = wx)
    case first =>
      by_cases h1 : j1 < n1
      · have i1 : (j1 : Int) < n1 := by omega
        by_cases h2 : j1 < 15
        · have i2 : (j1 : Int) < 15 := by omega
          go_wp2_with fail
          go_meet
          exact ⟨by simp [h1, h2], rfl⟩
        · have i2 : ¬ (j1 : Int) < 15 := by omega
          go_wp2_with fail
          go_meet
          exact ⟨by simp [h1, h2], rfl⟩
      · have i1 : ¬ (j1 : Int) < n1 := by omega
        go_wp2_with fail
        go_meet
        exact ⟨by simp [h1], rfl⟩
    obtain ⟨rfl, rfl⟩ := hcut
    have hbr : w0.heap.size ≤ wr.heap.size := Nat.le_trans hba Bj.size
    by_cases hc : j1 < n1 ∧ j1 < 15
    · rw [show decide (j1 < n1 ∧ j1 < 15) = true by simpa using hc]
      obtain ⟨h1, h2⟩ := hc
      obtain ⟨bi, oi, rfl, _, kk⟩ := RdBs.at_ r1 (by omega)
      obtain ⟨E, nE, cE, y0', y1', rE⟩ := kk j1 h1
      have BB := HW4.out.trans (Bj.mono hww)
      have y0 := bcell BB y0'
      have y1 := bcell BB y1'
      have hxo := HOK1.out j1
      obtain ⟨hok1, hle1⟩ := HP1.out j1 (by omega)
      have HS := Go.Lib.hid (playN_step [] (xs := l) (j := j1) (by rw [HN1.out]; exact h1))
      clear kk y0' y1'
      generalize l.getD j1 noBat = x at *
      generalize playN [] l j1 = ej at *
      have i1 : (j1 : Int) < n1 := by omega
      have CF := Go.Lib.hid (few14_any (.agg #[.int .i64 x.a, .slice E nE cE]) x w0 wr ⟨E, nE, cE, rfl, rE⟩ BB)
      have HXO := Go.Lib.hid hxo
      have HO1 := Go.Lib.hid hok1
      have HL1 := Go.Lib.hid hle1
      have HBB := Go.Lib.hid BB
      clear rE hxo BB hok1 hle1
      go_wp2_with fail
      refine (CF.out).mono ?_
      rintro e w4 ⟨A4, n4, c4, rfl, o4, b4⟩
      have p4 := pair_more pj (one.keeps _) (ssT_keeps An nn cn (normTags (strs ej))) hbr b4 (evK_of o4 (by omega))
      have k4 := with_keeps (ssT_keeps An nn cn (normTags (strs ej))) (evK_keeps w0 A4 n4 c4 (few8 x.es))
      have B4 := Bj.trans (bel_up hbr b4)
      have hb4 := Nat.le_trans hbr b4.size
      obtain ⟨p5, b5⟩ := bx_new (one.keeps _) k4 hb4 p4 #[.int .i64 x.a, .slice A4 n4 c4] 33
      have x5 := BxAt.new w4 (.int .i64 x.a) (.slice A4 n4 c4)
      have B5 := B4.trans (bel_up hb4 b5)
      have BB5 := Go.Lib.hid (below_chain (below_chain HBB.out b4) b5)
      have hb5 := Nat.le_trans hb4 b5.size
      have hlen8 := few8_len x.es
      have XK := Go.Lib.hid (fewD_all HXO.out)
      clear pj Bj CF b4 p4 B4 o4 b5 y0 y1 HXO HBB hbr hb4
      generalize few8 x.es = xe at *
      go_upto_region 10 with (fail)
      generalize w4.alloc (.cells #[.int .i64 x.a, .slice A4 n4 c4] 33) = w5 at *
      generalize w4.heap.size = gc at *
      go_wp2_with fail
      refine (one.last p5 (with_keeps k4 (bxT_keeps _ _ _)) HO1.out).mono ?_
      rintro e w6 ⟨rfl, p6, b6⟩
      have x6 := x5.below b6
      have B6 := B5.trans (bel_up hb5 b6)
      have BB6 := Go.Lib.hid (below_chain BB5.out b6)
      have hb6 := Nat.le_trans hb5 b6.size
      have k0 := x6.c0
      have z0 := x6.frozen 0
      have x7 := x6.set0 (.int .i64 (ej.length : Nat))
      obtain ⟨p7, b7⟩ := lg_put (v := .int .i64 (ej.length : Nat)) (i := 0) (one.keeps _) k4 p6 x7
      have B7 := B6.trans b7
      have BB7 := Go.Lib.hid (BB6.out.trans (b7.mono hww))
      have hb7 := Nat.le_trans hb6 b7.size
      have X7 := Go.Lib.hid x7
      clear p5 B5 x5 p6 b6 x6 B6 b7 x7 BB5 BB6 hb5 hb6
      go_upto_region 11 with (fail)
      generalize w6.setCell ⟨gc, 0, none⟩ (.int .i64 (ej.length : Nat)) = w7 at *
      have k0 := X7.out.c0
      have k1 := X7.out.c1
      have hle1 := HL1.out
      have CA := Go.Lib.hid (one.add (x := ⟨(ej.length : Nat), xe⟩) p7 (with_keeps k4 (bxT_keeps _ _ _)) hb7 HO1.out (by simp only; omega) (fun _ _ hq hb' => evk_isb hq (BB7.out.trans (hb'.mono hww))) ⟨XK.out, by simp only; omega, by simp only; omega⟩)
      clear p7 z0 X7 BB7 hle1 k4
      go_wp2_with fail
      refine (CA.out).mono ?_
      rintro e w8 ⟨A8, n8, c8, rfl, p8, b8⟩
      have p9 := pair_imp th_drop (pair_first (pair_place p8))
      have B9 := B7.trans b8
      have hb9 := Nat.le_trans hb7 b8.size
      obtain ⟨fs, g1, g2, g3⟩ := addB_grows ej ⟨(ej.length : Nat), xe⟩
      have hfs : fs.length ≤ 8 := by
        rcases g3 with rfl | rfl
        · exact Nat.zero_le _
        · exact hlen8
      have hej : ej.length ≤ 120 := by
        have := HL1.out
        simp only [List.length_nil] at this
        omega
      have HS2 : Hid (playN [] l (j1 + 1) = ej ++ fs) := Go.Lib.hid (HS.out.trans g1)
      rw [g1, g2] at p9
      generalize (addB ej ⟨(ej.length : Nat), xe⟩).1 = re at *
      have p10 := side_out (one.keeps _) p9
      have hn8 : fs.length = n8 := by
        have := (pair_ro p9).len
        rwa [newR_len] at this
      have hn84 : n8 ≤ 8 := by omega
      have HFS := Go.Lib.hid hn8
      clear p8 B7 b8 CA HS p9 g1 g2 g3 hfs hn8 HL1 XK hlen8
      go_wp2_with fail
      go_loopw [7, 12] (fun nv kv wr => ∃ (k : Nat) (An : Option Addr) (nn cn : Nat), nv = .slice An nn cn ∧ kv = .int .i64 (k : Int) ∧ k ≤ n8 ∧ Pair w0.heap.size wr (With (Ix g (ej ++ fs)) (RoT A8 n8 c8 (newR ej fs))) (SsT An nn cn (namesF ej fs k)) ∧ Below w0.heap.size wa wr) (fun _ kv _ => n8 - (intOf kv).toNat)
      case atStart => exact ⟨0, An, nn, cn, rfl, rfl, Nat.zero_le _, by rw [names_zero]; exact p10, B9⟩
      case round =>
        obtain ⟨k, An2, nn2, cn2, rfl, rfl, hk, pk, Bk⟩ := hrel
        clear p10 B9
        by_cases hlt : k < n8
        · have i1 : (k : Int) < n8 := by omega
          have hkf : k < fs.length := by rw [HFS.out]; exact hlt
          obtain ⟨bp, op, e1, _, ks⟩ := (pair_ro (side_in (ssT_keeps _ _ _ _) pk)).at_ (by omega)
          obtain ⟨T, nT, cT, F, nF, cF, z0, z1, z2, z3, z4, z5, _, _⟩ := ks k hlt
          rw [newR_get ej fs hkf] at z2
          have hsm : nn2 ≤ 1000000 := by
            have h1 := (pair_ss pk).len
            have h2 := names_len ej fs k
            omega
          have CP := Go.Lib.hid (refPut_any An2 nn2 cn2 (namesF ej fs k) (fs.getD k noEv).s wr (pair_ss pk) hsm)
          have hbk := Nat.le_trans hba Bk.size
          have HNS := Go.Lib.hid (names_succ ej hkf)
          have PK := Go.Lib.hid pk
          have BK := Go.Lib.hid Bk
          subst e1
          clear z0 z1 z3 z4 z5 ks pk Bk hkf hsm
          go_wp2_with fail
          refine (CP.out).mono ?_
          rintro e w9 ⟨A9, n9, c9, rfl, r9, b9, f9⟩
          have pp := ss_put PK.out (with_keeps (one.keeps _) (roT_keeps _ _ _ _)) hbk r9 b9 f9
          rw [HNS.out] at pp
          have Bp := BK.out.trans (bel_up hbk b9)
          clear r9 f9 b9 PK BK CP HNS z2
          go_wp2_with fail
          go_roundw
          case rel => exact ⟨k + 1, A9, n9, c9, rfl, by go_num, by omega, pp, Bp⟩
          case measure => simp [intOf]; omega
        · have i1 : ¬ (k : Int) < n8 := by omega
          have pi := pair_first (side_in (ssT_keeps _ _ _ _) pk)
          rw [names_all ej (by rw [HFS.out]; omega), ← HS2.out] at pi
          clear pk HFS
          go_wp2_with fail
          go_roundw
          case rel => exact ⟨j1 + 1, An2, nn2, cn2, rfl, by go_num, by omega, by omega, pi, Bk⟩
          case measure => simp [intOf]; omega
    · rw [show decide (j1 < n1 ∧ j1 < 15) = false by simpa using hc]
      have e : playN [] l j1 = playN [] l 15 := by
        by_cases h8 : j1 = 15
        · rw [h8]
        · exact playN_all [] l (by rw [HN1.out]; omega) (by rw [HN1.out]; omega)
      rw [e] at pj
      clear hc e
      have lo := HLL.out.1
      have hl := HLL.out.2
      rw [List.length_nil, Nat.zero_add] at hl
      generalize playN [] l 15 = es at *
      have hnn := (pair_ss pj).len
      have HNS := Go.Lib.hid hnn
      have HVA := Go.Lib.hid (vers_all es)
      have HVS := Go.Lib.hid (fun (j : Nat) (hj : j < (normTags (strs es)).length) => vers_succ es hj)
      have HVL := Go.Lib.hid (fun (j : Nat) => vers_le es (normTags (strs es)) j)
      have HSZ := Go.Lib.hid (fun (j : Nat) => name_size lo j)
      have hnl : nn ≤ 120 := by
        have := normTags_len (strs es)
        have h2 : (strs es).length = es.length := by simp [strs]
        omega
      generalize normTags (strs es) = ns at *
      have BW := HW4.out.trans Bj
      have kS := ssT_keeps An nn cn ns
      have HL := Go.Lib.hid lo
      clear hnn HN1 HOK1 HP1 HLL B4 HW4 Bj hbr hba lo
      go_wp2_with fail
      go_loopw [13, 14] (fun nv iv wr => ∃ (j : Nat), nv = .int .i64 ((versF es ns j : Nat) : Int) ∧ iv = .int .i64 (j : Int) ∧ j ≤ nn ∧ Pair w0.heap.size wr (Ix g es) (SsT An nn cn ns) ∧ Below w0.heap.size w0 wr) (fun _ iv _ => nn - (intOf iv).toNat)
      case atStart => exact ⟨0, rfl, rfl, Nat.zero_le _, pj, BW⟩
      case round =>
        obtain ⟨j, rfl, rfl, hj, pk, Bk⟩ := hrel
        clear pj BW
        by_cases hlt : j < nn
        · have i1 : (j : Int) < nn := by omega
          have bd : Below wr.heap.size wr wr.drew := ⟨rfl, rfl, rfl, Nat.le_refl _, fun _ _ => rfl⟩
          have pd := pk.below (one.keeps _) kS bd
          have Bd := below_chain Bk bd
          obtain ⟨bn, on, e1, _, ks⟩ := RdS.at_ (pair_ss pd) (by omega)
          have gx := ks j hlt
          have hs := HSZ.out j
          have h1 := HVS.out j (by rw [HNS.out]; exact hlt)
          have h2 := HVL.out (j + 1)
          rw [HNS.out] at h2
          have h3 := HVA.out
          rw [HNS.out] at h3
          subst e1
          generalize ns.getD j ByteArray.empty = s at *
          have hw : IntKind.i64.wrap (((versF es ns j : Nat) : Int) + ((strF es s (es.length : Nat)).length : Nat)) = ((versF es ns (j + 1) : Nat) : Int) := by rw [IntWalk.i64_in _ (by omega)]; omega
          have HW := Go.Lib.hid hw
          clear ks pk Bk bd h1 h2 h3 hw
          go_upto_region 20 with (fail)
          refine wp_region_held_drew (S := (fun w' => w'.cell? ⟨bn, on + j, none⟩ = some (.string s))) (by kernel_rfl) ?_ (fun hHeld => ?_)
          · exact gx
          refine take_at (i := 0) (d := 71) (v := ?_) rfl rfl (by kernel_rfl) (by kernel_rfl) (by kernel_rfl) (fun _ _ _ h => h) (Or.inl ⟨by rfl, ?hy⟩) (by assumption) ?_
          case hy => (intro wS hSw; (try dsimp only at hSw); first | (go_simp; done) | (go_simp; with_reducible rfl))
          simp only [Act.put, List.setIfInBounds_toArray, List.set_cons_zero, List.set_cons_succ]
          refine take_at (i := 1) (d := 72) (v := ?_) rfl rfl (by kernel_rfl) (by kernel_rfl) (by kernel_rfl) (fun _ _ _ h => h) (Or.inl ⟨by rfl, ?hy⟩) (by assumption) ?_
          case hy => (intro wS hSw; (try dsimp only at hSw); first | (go_simp; done) | (go_simp; with_reducible rfl))
          simp only [Act.put, List.setIfInBounds_toArray, List.set_cons_zero, List.set_cons_succ]
          refine take_at (i := 2) (d := 73) (v := ?_) rfl rfl (by kernel_rfl) (by kernel_rfl) (by kernel_rfl) (fun _ _ _ h => h) (Or.inl ⟨by rfl, ?hy⟩) (by assumption) ?_
          case hy => (intro wS hSw; (try dsimp only at hSw); first | (go_simp; done) | (go_simp; with_reducible rfl))
          simp only [Act.put, List.setIfInBounds_toArray, List.set_cons_zero, List.set_cons_succ]
          refine take_at (i := 3) (d := 74) (v := ?_) rfl rfl (by kernel_rfl) (by kernel_rfl) (by kernel_rfl) (fun _ _ _ h => h) (Or.inl ⟨by rfl, ?hy⟩) (by assumption) ?_
          case hy => (intro wS hSw; (try dsimp only at hSw); first | (go_simp; done) | (go_simp; with_reducible rfl))
          simp only [Act.put, List.setIfInBounds_toArray, List.set_cons_zero, List.set_cons_succ]
          refine take_at (i := 4) (d := 75) (v := ?_) rfl rfl (by kernel_rfl) (by kernel_rfl) (by kernel_rfl) (fun _ _ _ h => h) (Or.inl ⟨by rfl, ?hy⟩) (by assumption) ?_
          case hy => (intro wS hSw; (try dsimp only at hSw); first | (go_simp; done) | (go_simp; with_reducible rfl))
          simp only [Act.put, List.setIfInBounds_toArray, List.set_cons_zero, List.set_cons_succ]
          refine take_at (i := 5) (d := 76) (v := ?_) rfl rfl (by kernel_rfl) (by kernel_rfl) (by kernel_rfl) (fun _ _ _ h => h) (Or.inl ⟨by rfl, ?hy⟩) (by assumption) ?_
          case hy => (intro wS hSw; (try dsimp only at hSw); first | (go_simp; done) | (go_simp; with_reducible rfl))
          simp only [Act.put, List.setIfInBounds_toArray, List.set_cons_zero, List.set_cons_succ]
          refine take_at (i := 6) (d := 77) (v := ?_) rfl rfl (by kernel_rfl) (by kernel_rfl) (by kernel_rfl) (fun _ _ _ h => h) (Or.inl ⟨by rfl, ?hy⟩) (by assumption) ?_
          case hy => (intro wS hSw; (try dsimp only at hSw); first | (go_simp; done) | (go_simp; with_reducible rfl))
          simp only [Act.put, List.setIfInBounds_toArray, List.set_cons_zero, List.set_cons_succ]
          refine wpAnyH_ready (rs := [7]) (by kernel_rfl) (by simp) ?_
          refine AllReadyH.cons rfl (fun K7 hK7 => ?_) AllReadyH.nil
          go_simp
          go_wp2_with (go_at_call 11; refine (api.last pd kS HL.out).mono ?_; rintro e w16 ⟨rfl, p16, b16⟩; have B16 := below_chain Bd b16; have gx16 := bcell b16 gx; have CV := Go.Lib.hid (api.ver (s := s) (u := (es.length : Nat)) p16 kS HL.out hs (by omega)))
          refine hK7.out _ _ ?_ (fun hH7 => ?_)
          · exact gx16
          clear hK7 K7 hHeld
          refine wpAnyH_ready (rs := [8]) (by kernel_rfl) (by simp) ?_
          refine AllReadyH.cons rfl (fun K8 hK8 => ?_) AllReadyH.nil
          go_simp
          go_wp2_with (go_at_call 20; refine (CV.out).mono ?_; rintro e w17 ⟨rfl, p17, b17⟩; have B17 := below_chain B16 b17; have gx17 := bcell b17 gx16)
          refine hK8.out _ _ ?_ (fun hH8 => ?_)
          · exact gx17
          clear hK8 K8 hH7
          refine take_at (i := 9) (d := 80) (v := ?_) rfl rfl (by kernel_rfl) (by kernel_rfl) (by kernel_rfl) (fun _ _ _ h => h) (Or.inl ⟨by rfl, ?hy⟩) (by assumption) ?_
          case hy => (intro wS hSw; (try dsimp only at hSw); first | (go_simp; done) | (go_simp; with_reducible rfl))
          simp only [Act.put, List.setIfInBounds_toArray, List.set_cons_zero, List.set_cons_succ]
          refine take_at (i := 10) (d := 13) (v := ?_) rfl rfl (by kernel_rfl) (by kernel_rfl) (by kernel_rfl) (fun _ _ _ h => h) (Or.inl ⟨by rfl, ?hy⟩) (by assumption) ?_
          case hy => (intro wS hSw; (try dsimp only at hSw); first | (go_simp; done) | (go_simp; with_reducible rfl))
          simp only [Act.put, List.setIfInBounds_toArray, List.set_cons_zero, List.set_cons_succ]
          refine wpAnyH_done (by kernel_rfl) ?_ _
          clear gx pd Bd p16 b16 B16 gx16 CV gx17
          go_wp2_with fail
          go_roundw
          case rel => exact ⟨j + 1, by rw [HW.out], by go_num, by omega, p17, B17⟩
          case measure => simp [intOf]; omega
        · have hjn : j = nn := by omega
          have i1 : ¬ (j : Int) < nn := by omega
          have hsum : versF es ns j = es.length := by have := HVA.out; rwa [HNS.out, ← hjn] at this
          rw [hsum]
          clear hsum hjn hlt HVA HVS HVL HSZ HNS
          go_wp2_with fail
          refine (api.last pk kS HL.out).mono ?_
          rintro e w5 ⟨rfl, p5, b5⟩
          have B5 := below_chain Bk b5
          have CA := Go.Lib.hid (api.all (u := (es.length : Nat)) p5 kS B5.size HL.out (by omega))
          clear pk Bk b5 p5
          go_wp2_with fail
          refine (CA.out).mono ?_
          rintro e w6 ⟨Aa, na, ca, rfl, p6, b6⟩
          have B6 := below_chain B5 b6
          have kR := with_keeps kS (roT_keeps Aa na ca (allF es (es.length : Nat)))
          have rA := pair_ro p6
          have hna : na = es.length := by
            have := rA.len
            rw [all_all es (Int.le_refl _), rec_len] at this
            exact this.symm
          subst hna
          have c7 : Below w6.heap.size w6 (w6.alloc (.cells #[.slice none 0 0, .slice none 0 0] 57)) := (Below.refl _ w6).alloc (Nat.le_refl _) _
          have q7 := one_clause (heap_alloc_new w6 (.cells #[.slice none 0 0, .slice none 0 0] 57))
          have hs7 : (w6.alloc (.cells #[.slice none 0 0, .slice none 0 0] 57)).heap.size = w6.heap.size + 1 := by simp
          have c8 : Below (w6.alloc (.cells #[.slice none 0 0, .slice none 0 0] 57)).heap.size (w6.alloc (.cells #[.slice none 0 0, .slice none 0 0] 57)) ((w6.alloc (.cells #[.slice none 0 0, .slice none 0 0] 57)).alloc (.cells #[.slice (some ⟨w6.heap.size, 0, none⟩) 1 1] 25)) := (Below.refl _ _).alloc (Nat.le_refl _) _
          have b7 := below_chain c7 c8
          have q8 := RdQ.below q7 c8
          have gx : ((w6.alloc (.cells #[.slice none 0 0, .slice none 0 0] 57)).alloc (.cells #[.slice (some ⟨w6.heap.size, 0, none⟩) 1 1] 25)).cell? ⟨w6.heap.size + 1, 0, none⟩ = some (.slice (some ⟨w6.heap.size, 0, none⟩) 1 1) := by
            have h := heap_alloc_new (w6.alloc (.cells #[.slice none 0 0, .slice none 0 0] 57)) (.cells #[.slice (some ⟨w6.heap.size, 0, none⟩) 1 1] 25)
            rw [hs7] at h
            rw [cell_of_row _ (w6.heap.size + 1) 0 _ _ _ h]; rfl
          have p7 := p6.below (one.keeps _) kR b7
          have B7 := below_chain B6 b7
          clear CA B5 rA p6 b6 B6 c7 q7 c8 hs7 b7
          go_upto_region 23 with (fail)
          generalize (w6.alloc (.cells #[.slice none 0 0, .slice none 0 0] 57)).alloc (.cells #[.slice (some ⟨w6.heap.size, 0, none⟩) 1 1] 25) = w7 at *
          generalize w6.heap.size = gc at *
          have bd : Below w7.heap.size w7 w7.drew := ⟨rfl, rfl, rfl, Nat.le_refl _, fun _ _ => rfl⟩
          have pd := p7.below (one.keeps _) kR bd
          have Bd := below_chain B7 bd
          have qd := RdQ.below q8 bd
          have gd := bcell bd gx
          clear p7 B7 q8 gx bd
          refine wp_region_held_drew (S := (fun w' => w'.cell? ⟨gc + 1, 0, none⟩ = some (.slice (some ⟨gc, 0, none⟩) 1 1))) (by kernel_rfl) ?_ (fun hHeld => ?_)
          · exact gd
          refine take_at (i := 0) (d := 88) (v := ?_) rfl rfl (by kernel_rfl) (by kernel_rfl) (by kernel_rfl) (fun _ _ _ h => h) (Or.inl ⟨by rfl, ?hy⟩) (by assumption) ?_
          case hy => (intro wS hSw; (try dsimp only at hSw); first | (go_simp; done) | (go_simp; with_reducible rfl))
          simp only [Act.put, List.setIfInBounds_toArray, List.set_cons_zero, List.set_cons_succ]
          refine take_at (i := 1) (d := 89) (v := ?_) rfl rfl (by kernel_rfl) (by kernel_rfl) (by kernel_rfl) (fun _ _ _ h => h) (Or.inl ⟨by rfl, ?hy⟩) (by assumption) ?_
          case hy => (intro wS hSw; (try dsimp only at hSw); first | (go_simp; done) | (go_simp; with_reducible rfl))
          simp only [Act.put, List.setIfInBounds_toArray, List.set_cons_zero, List.set_cons_succ]
          refine take_at (i := 2) (d := 90) (v := ?_) rfl rfl (by kernel_rfl) (by kernel_rfl) (by kernel_rfl) (fun _ _ _ h => h) (Or.inl ⟨by rfl, ?hy⟩) (by assumption) ?_
          case hy => (intro wS hSw; (try dsimp only at hSw); first | (go_simp; done) | (go_simp; with_reducible rfl))
          simp only [Act.put, List.setIfInBounds_toArray, List.set_cons_zero, List.set_cons_succ]
          refine take_at (i := 3) (d := 91) (v := ?_) rfl rfl (by kernel_rfl) (by kernel_rfl) (by kernel_rfl) (fun _ _ _ h => h) (Or.inl ⟨by rfl, ?hy⟩) (by assumption) ?_
          case hy => (intro wS hSw; (try dsimp only at hSw); first | (go_simp; done) | (go_simp; with_reducible rfl))
          simp only [Act.put, List.setIfInBounds_toArray, List.set_cons_zero, List.set_cons_succ]
          refine wpAnyH_ready (rs := [4]) (by kernel_rfl) (by simp) ?_
          refine AllReadyH.cons rfl (fun K4 hK4 => ?_) AllReadyH.nil
          go_simp
          go_wp2_with (go_at_call 11; refine (api.last pd kR HL.out).mono ?_; rintro e w8 ⟨rfl, p8, b8⟩; have B8 := below_chain Bd b8; have gx8 := bcell b8 gd; have q8 := RdQ.below qd b8; have CQ := Go.Lib.hid (api.qry (q := [⟨[], []⟩]) (u := (es.length : Nat)) p8 kR B8.size HL.out ⟨some ⟨gc, 0, none⟩, 1, 1, rfl, q8⟩ one_few (by omega)))
          refine hK4.out _ _ ?_ (fun hH4 => ?_)
          · exact gx8
          clear hK4 K4 hHeld
          refine wpAnyH_ready (rs := [5]) (by kernel_rfl) (by simp) ?_
          refine AllReadyH.cons rfl (fun K5 hK5 => ?_) AllReadyH.nil
          go_simp
          go_wp2_with (go_at_call 15; refine (CQ.out).mono ?_; rintro e w9 ⟨Ab, nb, cb, rfl, p9, b9⟩; have B9 := below_chain B8 b9; have gx9 := bcell b9 gx8; have q9 := RdQ.below q8 b9; have CS := Go.Lib.hid (refSame14_any Aa Ab es.length nb ca cb (allF es (es.length : Nat)) w9 (pair_ro (pair_first p9)) (by have := pair_ro p9; rwa [qry_all] at this)))
          refine hK5.out _ _ ?_ (fun hH5 => ?_)
          · exact gx9
          clear hK5 K5 hH4
          refine wpAnyH_ready (rs := [6]) (by kernel_rfl) (by simp) ?_
          refine AllReadyH.cons rfl (fun K6 hK6 => ?_) AllReadyH.nil
          go_simp
          go_wp2_with (go_at_call 16; refine (CS.out).mono ?_; rintro e w10 ⟨rfl, b10⟩; have gx10 := bcell b10 gx9; have q10 := RdQ.below q9 b10)
          refine hK6.out _ _ ?_ (fun hH6 => ?_)
          · exact gx10
          clear hK6 K6 hH5
          refine take_at (i := 7) (d := 17) (v := ?_) rfl rfl (by kernel_rfl) (by kernel_rfl) (by kernel_rfl) (fun _ _ _ h => h) (Or.inl ⟨by rfl, ?hy⟩) (by assumption) ?_
          case hy => (intro wS hSw; (try dsimp only at hSw); first | (go_simp; done) | (go_simp; with_reducible rfl))
          simp only [Act.put, List.setIfInBounds_toArray, List.set_cons_zero, List.set_cons_succ]
          refine wpAnyH_done (by kernel_rfl) ?_ _
          have p10 := (pair_first p9).below (one.keeps _) kR b10
          have B10 := below_chain B9 b10
          have HSI := Go.Lib.hid (since_all es z)
          have HQ0 := Go.Lib.hid (qry_none es (es.length : Nat))
          clear pd Bd qd gd p8 b8 B8 gx8 q8 CQ p9 b9 B9 gx9 q9 CS b10
          by_cases h2 : z < (es.length : Int)
          · by_cases h3 : (0 : Int) < (es.length : Int)
            · have HS : Hid (sinceF es [⟨[], []⟩] z = true) := Go.Lib.hid (by rw [HSI.out]; exact decide_eq_true ⟨h2, by omega⟩)
              go_wp2_with fail
              refine (api.last p10 kR HL.out).mono ?_
              rintro e w11 ⟨rfl, p11, b11⟩
              have B11 := below_chain B10 b11
              have gx11 := bcell b11 gx10
              have CE := Go.Lib.hid (api.since (q := [⟨[], []⟩]) (a := z) p11 kR HL.out ⟨some ⟨gc, 0, none⟩, 1, 1, rfl, RdQ.below q10 b11⟩ one_few hz)
              rw [HS.out] at CE
              clear p10 B10 gx10 q10 b11 p11
              go_wp2_with fail
              refine (CE.out).mono ?_
              rintro e w12 ⟨rfl, p12, b12⟩
              have B12 := below_chain B11 b12
              clear CE B11 gx11 b12
              go_wp2_with fail
              refine (api.last p12 kR HL.out).mono ?_
              rintro e w13 ⟨rfl, p13, b13⟩
              have B13 := below_chain B12 b13
              clear p12 b13 B12
              go_wp2_with fail
              refine (api.last p13 kR HL.out).mono ?_
              rintro e w14 ⟨rfl, p14, b14⟩
              have B14 := below_chain B13 b14
              clear p13 b14 B13
              go_wp2_with fail
              refine (api.qry (q := []) (u := (es.length : Nat)) p14 kR B14.size HL.out ⟨none, 0, 0, rfl, RdQ.nil _⟩ none_few (by omega)).mono ?_
              rintro e w15 ⟨Ax, nx, cx, rfl, p15, b15⟩
              have B15 := below_chain B14 b15
              obtain rfl : nx = 0 := by
                have := (pair_ro p15).len
                rw [HQ0.out] at this
                exact this.symm
              clear p15 b15 p14 B14
              go_wp2_with fail
              go_ret
              exact ⟨by simp, B15⟩
            · have hz0 : es.length = 0 := by omega
              have hz2 : z < 0 := by omega
              have HS : Hid (sinceF es [⟨[], []⟩] z = false) := Go.Lib.hid (by rw [HSI.out]; exact decide_eq_false (fun h => by omega))
              have CL := Go.Lib.hid (fun (w : World) (Q : Thing) (p : Pair w0.heap.size w (Ix g es) Q) (kq : Keeps Q) => show Calls Try.prog 11 #[.pointer (some ⟨g, 0, none⟩)] w fun e w' => e = .returned (.int .i64 0) ∧ Pair w0.heap.size w' (Ix g es) Q ∧ Below w.heap.size w w' from by have h := api.last p kq HL.out; rw [hz0] at h; exact h)
              rw [hz0]
              have HQ0 : Hid (qryF es [] 0 = []) := Go.Lib.hid (qry_none es 0)
              clear h2 h3 hz0 i1
              have i0 : ((0 : Nat) : Int) = 0 := rfl
              rw [i0]
              clear i0
              go_wp2_with fail
              refine (CL.out _ _ p10 kR).mono ?_
              rintro e w11 ⟨rfl, p11, b11⟩
              have B11 := below_chain B10 b11
              have gx11 := bcell b11 gx10
              have CE := Go.Lib.hid (api.since (q := [⟨[], []⟩]) (a := z) p11 kR HL.out ⟨some ⟨gc, 0, none⟩, 1, 1, rfl, RdQ.below q10 b11⟩ one_few hz)
              rw [HS.out] at CE
              clear p10 B10 gx10 q10 b11 p11
              go_wp2_with fail
              refine (CE.out).mono ?_
              rintro e w12 ⟨rfl, p12, b12⟩
              have B12 := below_chain B11 b12
              clear CE B11 gx11 b12
              go_wp2_with fail
              refine (CL.out _ _ p12 kR).mono ?_
              rintro e w13 ⟨rfl, p13, b13⟩
              have B13 := below_chain B12 b13
              clear p12 b13 B12
              go_wp2_with fail
              refine (CL.out _ _ p13 kR).mono ?_
              rintro e w14 ⟨rfl, p14, b14⟩
              have B14 := below_chain B13 b14
              clear p13 b14 B13
              go_wp2_with fail
              refine (api.qry (q := []) (u := 0) p14 kR B14.size HL.out ⟨none, 0, 0, rfl, RdQ.nil _⟩ none_few (by decide)).mono ?_
              rintro e w15 ⟨Ax, nx, cx, rfl, p15, b15⟩
              have B15 := below_chain B14 b15
              obtain rfl : nx = 0 := by
                have := (pair_ro p15).len
                rw [HQ0.out] at this
                exact this.symm
              clear p15 b15 p14 B14
              go_wp2_with fail
              go_ret
              exact ⟨by simp, B15⟩
          · have HS : Hid (sinceF es [⟨[], []⟩] z = false) := Go.Lib.hid (by rw [HSI.out]; exact decide_eq_false (fun h => h2 h.1))
            have hd : decide ((es.length : Int) > z) = false := decide_eq_false h2
            clear h2
            go_wp2_with fail
            refine (api.last p10 kR HL.out).mono ?_
            rintro e w11 ⟨rfl, p11, b11⟩
            have B11 := below_chain B10 b11
            have gx11 := bcell b11 gx10
            have CE := Go.Lib.hid (api.since (q := [⟨[], []⟩]) (a := z) p11 kR HL.out ⟨some ⟨gc, 0, none⟩, 1, 1, rfl, RdQ.below q10 b11⟩ one_few hz)
            rw [HS.out] at CE
            clear p10 B10 gx10 q10 b11 p11
            go_wp2_with fail
            refine (CE.out).mono ?_
            rintro e w12 ⟨rfl, p12, b12⟩
            have B12 := below_chain B11 b12
            clear CE B11 gx11 b12
            go_wp2_with fail
            refine (api.last p12 kR HL.out).mono ?_
            rintro e w13 ⟨rfl, p13, b13⟩
            have B13 := below_chain B12 b13
            clear p12 b13 B12
            go_wp2_with fail
            refine (api.qry (q := []) (u := (es.length : Nat)) p13 kR B13.size HL.out ⟨none, 0, 0, rfl, RdQ.nil _⟩ none_few (by omega)).mono ?_
            rintro e w15 ⟨Ax, nx, cx, rfl, p15, b15⟩
            have B15 := below_chain B13 b15
            obtain rfl : nx = 0 := by
              have := (pair_ro p15).len
              rw [HQ0.out] at this
              exact this.symm
            clear p15 b15 p13 B13
            go_wp2_with fail
            go_ret
            exact ⟨by simp, B15⟩
end

end Go.Proofs.Ytiplfhmimpkplaa.IxWalk

/-
  The laws' word of layer 14: alike.
-/
namespace Go.Proofs.Ytiplfhmimpkplaa.IxWalk
open Go.RowKit Go.WideShapes Go.ChangeShapes Go.Proofs.Ytiplfhmimpkplaa.MemRow Go.Proofs.Ytiplfhmimpkplaa.Ev Go.Proofs.Ytiplfhmimpkplaa.Open Go.Proofs.Ytiplfhmimpkplaa.NameMath Go.Proofs.Ytiplfhmimpkplaa.NameWalk Go.Proofs.Ytiplfhmimpkplaa.EvWalk Go.Proofs.Ytiplfhmimpkplaa.NumMem Go.Proofs.Ytiplfhmimpkplaa.Qu Go.Proofs.Ytiplfhmimpkplaa.QuWalk Go.Proofs.Ytiplfhmimpkplaa.SmWalk Go.Proofs.Ytiplfhmimpkplaa.BtWalk Go.Proofs.Ytiplfhmimpkplaa.DkWalk

section
variable {Ix : Nat → List Ev → Thing}
end

end Go.Proofs.Ytiplfhmimpkplaa.IxWalk

/-
  Walk of a statement of layer 14: IndexPlays.
-/
namespace Go.Proofs.Ytiplfhmimpkplaa.IxWalk
open Go.RowKit Go.WideShapes Go.ChangeShapes Go.Proofs.Ytiplfhmimpkplaa.MemRow Go.Proofs.Ytiplfhmimpkplaa.Ev Go.Proofs.Ytiplfhmimpkplaa.Open Go.Proofs.Ytiplfhmimpkplaa.NameMath Go.Proofs.Ytiplfhmimpkplaa.NameWalk Go.Proofs.Ytiplfhmimpkplaa.EvWalk Go.Proofs.Ytiplfhmimpkplaa.NumMem Go.Proofs.Ytiplfhmimpkplaa.Qu Go.Proofs.Ytiplfhmimpkplaa.QuWalk Go.Proofs.Ytiplfhmimpkplaa.SmWalk Go.Proofs.Ytiplfhmimpkplaa.BtWalk Go.Proofs.Ytiplfhmimpkplaa.DkWalk

/-- Events in a row of the law's own, their rows older than W0. -/
def OoT (W0 : World) (lo : Nat) (E : Option Addr) (i d : Nat) (es : List Ev) : Thing := fun w G => OwnO W0 w lo E i d es ∧ (∀ a, E = some a → G a.block) ∧ ∀ k, G k → k < w.heap.size
theorem ooT_keeps (W0 : World) (lo : Nat) (E : Option Addr) (i d : Nat) (es : List Ev) : Keeps (OoT W0 lo E i d es) :=
  ⟨fun ⟨⟨cs, o, hl, hc⟩, hi, h⟩ hs hk => ⟨⟨cs, own_keep o fun a ha => hk _ (hi a ha), hl, hc⟩, hi, fun k hg => Nat.lt_of_lt_of_le (h k hg) hs⟩, fun h => h.2.2⟩
theorem ooT_of {W0 w w' : World} {lo : Nat} {E : Option Addr} {i d : Nat} {es : List Ev} (h : OwnO W0 w' lo E i d es) (hlo : w.heap.size ≤ lo) : OoT W0 lo E i d es w' (fun k => w.heap.size ≤ k ∧ k < w'.heap.size) :=
  ⟨h, fun a ha => ⟨Nat.le_trans hlo (ownO_lt h a ha).1, (ownO_lt h a ha).2⟩, fun _ hk => hk.2⟩
theorem oo_isb {W0 w : World} {G : Nat → Prop} {Q R : Thing} {lo : Nat} {E : Option Addr} {i d : Nat} {es : List Ev} {a : Int} (h : With (With Q (OoT W0 lo E i d es)) R w G) (hB : Below W0.heap.size W0 w) : IsB w (.agg #[.int .i64 a, .slice E i d]) ⟨a, es⟩ := by
  obtain ⟨_, _, ⟨_, _, _, h, _⟩, _⟩ := h
  exact h.1.isb hB
theorem pair_oo {base : Nat} {W0 w : World} {P Q R : Thing} {lo : Nat} {E : Option Addr} {i d : Nat} {es : List Ev} (h : Pair base w P (With (With Q (OoT W0 lo E i d es)) R)) : OwnO W0 w lo E i d es := by
  obtain ⟨_, _, _, ⟨_, _, ⟨_, _, _, h, _⟩, _⟩, _⟩ := h
  exact h.1
def evZ14 : Ev := ⟨⟨#[122]⟩, ⟨#[122]⟩, [], []⟩
theorem z_ok (a : Int) (ha : -9223372036854775808 ≤ a ∧ a ≤ 9223372036854775807) : BOk ⟨a, [evZ14]⟩ :=
  ⟨by intro e he; simp only [List.mem_cons, List.not_mem_nil, or_false] at he; subst he; exact ⟨by decide, by decide, (fun _ h => by cases h), (fun _ h => by cases h), (fun _ h => by cases h)⟩, ha.1, ha.2⟩
theorem z_isb (w : World) (g : Nat) (a : Int) (hg : w.heap[g]? = some (.cells #[.string ⟨#[122]⟩, .string ⟨#[122]⟩, .slice none 0 0, .slice none 0 0] 47 (0, 0))) : IsB w (.agg #[.int .i64 a, .slice (some ⟨g, 0, none⟩) 1 1]) ⟨a, [evZ14]⟩ := by
  refine ⟨_, _, _, rfl, rfl, Nat.le_refl _, by decide, fun _ => ⟨g, 0, rfl, (Array.getElem?_eq_some_iff.1 hg).1, fun i hi => ?_⟩⟩
  have h : ∀ k, w.cell? ⟨g, k, none⟩ = (#[.string ⟨#[122]⟩, .string ⟨#[122]⟩, .slice none 0 0, .slice none 0 0] : Array Value)[k]? := fun k => cell_of_row w g k _ _ _ hg
  obtain rfl : i = 0 := by omega
  exact ⟨none, 0, 0, none, 0, 0, h 0, h 1, h 2, h 3, RdC.nil _, RdC.nil _⟩

section
variable {Ix : Nat → List Ev → Thing} {It : Nat → List Ev → Nat → List Ev → Thing}
end

end Go.Proofs.Ytiplfhmimpkplaa.IxWalk

/-
  The laws' word of layer 14: spoil; rows of events whose own rows may be changed.
-/
namespace Go.Proofs.Ytiplfhmimpkplaa.IxWalk
open Go.RowKit Go.WideShapes Go.ChangeShapes Go.Proofs.Ytiplfhmimpkplaa.MemRow Go.Proofs.Ytiplfhmimpkplaa.Ev Go.Proofs.Ytiplfhmimpkplaa.Open Go.Proofs.Ytiplfhmimpkplaa.NameMath Go.Proofs.Ytiplfhmimpkplaa.NameWalk Go.Proofs.Ytiplfhmimpkplaa.EvWalk Go.Proofs.Ytiplfhmimpkplaa.NumMem Go.Proofs.Ytiplfhmimpkplaa.Qu Go.Proofs.Ytiplfhmimpkplaa.QuWalk Go.Proofs.Ytiplfhmimpkplaa.SmWalk Go.Proofs.Ytiplfhmimpkplaa.BtWalk Go.Proofs.Ytiplfhmimpkplaa.DkWalk

/-- The blocks G hold as many cells of their kind as they did. -/
def Sh (G : Nat → Prop) (w w' : World) : Prop := ∀ b, G b → ∀ cur t, w.heap[b]? = some (.cells cur t (0, 0)) → ∃ cur', w'.heap[b]? = some (.cells cur' t (0, 0)) ∧ cur'.size = cur.size
theorem Sh.refl (G : Nat → Prop) (w : World) : Sh G w w := fun _ _ cur _ h => ⟨cur, h, rfl⟩
theorem Sh.trans {G : Nat → Prop} {w w1 w2 : World} (h1 : Sh G w w1) (h2 : Sh G w1 w2) : Sh G w w2 := fun b hb cur t h => by
  obtain ⟨c1, e1, s1⟩ := h1 b hb cur t h
  obtain ⟨c2, e2, s2⟩ := h2 b hb c1 t e1
  exact ⟨c2, e2, s2.trans s1⟩
theorem Sh.set (G : Nat → Prop) (w : World) (g i : Nat) (v : Value) : Sh G w (w.setCell ⟨g, i, none⟩ v) := fun b _ cur t h => by
  by_cases e : g = b
  · subst e
    exact ⟨cur.setIfInBounds i v, by simp only [World.setCell, Array.getElem?_modify, h]; rfl, by simp⟩
  · exact ⟨cur, by simp only [World.setCell, Array.getElem?_modify, if_neg e]; exact h, rfl⟩
theorem Sh.same {G : Nat → Prop} {w w' : World} (h : ∀ k, G k → w'.heap[k]? = w.heap[k]?) : Sh G w w' := fun b hb cur _ hc => ⟨cur, (h b hb).trans hc, rfl⟩
theorem Wr.sh {w w' : World} {G : Nat → Prop} {A : Option Addr} {n k : Nat} {t : TypeId} (h : Wr w G A n k t) (hs : Sh G w w') : Wr w' G A n k t := fun hn => by
  obtain ⟨b, o, cur, e, hg, hb, hz⟩ := h hn
  obtain ⟨cur', e', s'⟩ := hs b hg cur t hb
  exact ⟨b, o, cur', e, hg, e', by rw [s']; exact hz⟩
theorem Wr.wide {w : World} {G G' : Nat → Prop} {A : Option Addr} {n k : Nat} {t : TypeId} (h : Wr w G A n k t) (hs : ∀ k, G k → G' k) : Wr w G' A n k t := fun hn => by
  obtain ⟨b, o, cur, e, hg, hb, hz⟩ := h hn
  exact ⟨b, o, cur, e, hs b hg, hb, hz⟩
theorem ch_set {F : Nat → Prop} {w w1 : World} (h : Ch F w w1) {g : Nat} (hg : F g) (i : Nat) (v : Value) : Ch F w (w1.setCell ⟨g, i, none⟩ v) :=
  h.then_grown (boxGrown w1 g i v) fun r e => by injection e with e; subst e; exact .inl (.inl hg)
set_option maxHeartbeats 4000000 in
set_option maxRecDepth 100000 in
theorem spoil_any {w : World} {G : Nat → Prop} {s t : ByteArray} {T F : Option Addr} {nT cT nF cF : Nat} (hT : Wr w G T nT 1 9) (hF : Wr w G F nF 2 86) (lT : nT ≤ maxLen) (lF : nF ≤ maxLen) (hG : ∀ k, G k → k < w.heap.size) :
    Calls Try.prog 23 #[.agg #[.string s, .string t, .slice T nT cT, .slice F nF cF]] w fun e w' => e = .returned (.tuple #[]) ∧ Ch G w w' ∧ Sh G w w' := by
  unfold maxLen at lT lF
  have b1 := (Below.refl w.heap.size w).alloc (Nat.le_refl _) (.cells #[.string s, .string t, .slice T nT cT, .slice F nF cF] 47)
  have x1 := heap_alloc_new w (.cells #[.string s, .string t, .slice T nT cT, .slice F nF cF] 47)
  have hsz : (w.alloc (.cells #[.string s, .string t, .slice T nT cT, .slice F nF cF] 47)).heap.size = w.heap.size + 1 := by simp
  have sh1 : Sh G w (w.alloc (.cells #[.string s, .string t, .slice T nT cT, .slice F nF cF] 47)) := Sh.same fun k hk => b1.block k (hG k hk)
  go_enter Try.func23, Try.ntmps23
  go_upto_region 1 with (fail)
  generalize w.alloc (.cells #[.string s, .string t, .slice T nT cT, .slice F nF cF] 47) = w1 at *
  have hT1 := Go.Lib.hid (hT.sh sh1)
  have hF1 := Go.Lib.hid (hF.sh sh1)
  have HB := Go.Lib.hid (fun (wx : World) (c : Ch G w1 wx) => (c.block w.heap.size (by omega) (fun hg => by have := hG _ hg; omega)).trans x1)
  have FIN := Go.Lib.hid (fun (wx : World) (c : Ch G w1 wx) (h : Sh G w1 wx) => (⟨(Ch.of_below b1).trans (c.wide fun k hk => .inl hk), sh1.trans h⟩ : Ch G w wx ∧ Sh G w wx))
  clear hT hF b1 x1 hsz sh1 hG
  go_wp2_with fail
  go_loopw [2] (fun iv wr => ∃ j : Nat, iv = .int .i64 (j : Int) ∧ j ≤ nT ∧ Hid (Ch G w1 wr ∧ Sh G w1 wr)) (fun iv _ => nT - (intOf iv).toNat)
  case atStart => exact ⟨0, rfl, Nat.zero_le _, Go.Lib.hid ⟨Ch.refl _ _, Sh.refl _ _⟩⟩
  case round =>
    obtain ⟨j, rfl, hj, HC⟩ := hrel
    have k2 : wr.cell? ⟨w.heap.size, 2, none⟩ = some (.slice T nT cT) := by rw [cell_of_row wr _ 2 _ _ _ (HB.out _ HC.out.1)]; rfl
    by_cases hlt : j < nT
    · obtain ⟨b, o, cur, rfl, hg, hb, hz⟩ := hT1.out.sh HC.out.2 (by omega)
      have y0 : wr.cell? ⟨b, o + j, none⟩ = some (cur[o + j]'(by omega)) := by rw [cell_of_row wr b (o + j) _ _ _ hb, Array.getElem?_eq_getElem (by omega)]
      have z0 : wr.frozen? ⟨b, o + j, none⟩ = false := by simp [World.frozen?, hb]
      have HC2 := Go.Lib.hid (fun v => (⟨ch_set HC.out.1 hg (o + j) v, HC.out.2.trans (Sh.set G wr b (o + j) v)⟩ : Ch G w1 (wr.setCell ⟨b, o + j, none⟩ v) ∧ Sh G w1 (wr.setCell ⟨b, o + j, none⟩ v)))
      have i1 : (j : Int) < nT := by omega
      generalize cur[o + j]'(by omega) = cv at *
      clear hb hz hg
      go_wp2_with fail
      go_roundw
      case rel => exact ⟨j + 1, by go_num, by omega, Go.Lib.hid (HC2.out _)⟩
      case measure => simp [intOf]; omega
    · have i1 : ¬ (j : Int) < nT := by omega
      clear hlt hj
      go_wp2_with fail
      go_loopw [3] (fun iv wr => ∃ j : Nat, iv = .int .i64 (j : Int) ∧ j ≤ nF ∧ Hid (Ch G w1 wr ∧ Sh G w1 wr)) (fun iv _ => nF - (intOf iv).toNat)
      case atStart => exact ⟨0, rfl, Nat.zero_le _, HC⟩
      case round =>
        obtain ⟨j2, rfl, hj, HC⟩ := hrel
        clear k2 i1
        have k3 : wr.cell? ⟨w.heap.size, 3, none⟩ = some (.slice F nF cF) := by rw [cell_of_row wr _ 3 _ _ _ (HB.out _ HC.out.1)]; rfl
        by_cases hlt : j2 < nF
        · obtain ⟨b, o, cur, rfl, hg, hb, hz⟩ := hF1.out.sh HC.out.2 (by omega)
          have y0 : wr.cell? ⟨b, o + j2 * 2 + 1, none⟩ = some (cur[o + j2 * 2 + 1]'(by omega)) := by rw [cell_of_row wr b (o + j2 * 2 + 1) _ _ _ hb, Array.getElem?_eq_getElem (by omega)]
          have z0 : wr.frozen? ⟨b, o + j2 * 2 + 1, none⟩ = false := by simp [World.frozen?, hb]
          have HC2 := Go.Lib.hid (fun v => (⟨ch_set HC.out.1 hg (o + j2 * 2 + 1) v, HC.out.2.trans (Sh.set G wr b (o + j2 * 2 + 1) v)⟩ : Ch G w1 (wr.setCell ⟨b, o + j2 * 2 + 1, none⟩ v) ∧ Sh G w1 (wr.setCell ⟨b, o + j2 * 2 + 1, none⟩ v)))
          have i1 : (j2 : Int) < nF := by omega
          generalize cur[o + j2 * 2 + 1]'(by omega) = cv at *
          clear hb hz hg
          go_wp2_with fail
          go_roundw
          case rel => exact ⟨j2 + 1, by go_num, by omega, Go.Lib.hid (HC2.out _)⟩
          case measure => simp [intOf]; omega
        · have i1 : ¬ (j2 : Int) < nF := by omega
          clear hlt hj
          go_wp2_with fail
          go_end0
          exact ⟨rfl, FIN.out _ HC.out.1 HC.out.2⟩

end Go.Proofs.Ytiplfhmimpkplaa.IxWalk

/-
  Layer 14, IndexOwn: rows of events (or of records) whose own rows may be changed; copies of events; what is wanted; as things.
-/
namespace Go.Proofs.Ytiplfhmimpkplaa.IxWalk
open Go.RowKit Go.WideShapes Go.ChangeShapes Go.Proofs.Ytiplfhmimpkplaa.MemRow Go.Proofs.Ytiplfhmimpkplaa.Ev Go.Proofs.Ytiplfhmimpkplaa.Open Go.Proofs.Ytiplfhmimpkplaa.NameMath Go.Proofs.Ytiplfhmimpkplaa.NameWalk Go.Proofs.Ytiplfhmimpkplaa.EvWalk Go.Proofs.Ytiplfhmimpkplaa.NumMem Go.Proofs.Ytiplfhmimpkplaa.Qu Go.Proofs.Ytiplfhmimpkplaa.QuWalk Go.Proofs.Ytiplfhmimpkplaa.SmWalk Go.Proofs.Ytiplfhmimpkplaa.BtWalk Go.Proofs.Ytiplfhmimpkplaa.DkWalk

/-! ### Rows whose events' rows may be changed -/
def SpC (w : World) (G2 : Nat → Prop) (b o : Nat) : Prop := ∃ s t T nT cT F nF cF, w.cell? ⟨b, o, none⟩ = some (.string s) ∧ w.cell? ⟨b, o + 1, none⟩ = some (.string t) ∧ w.cell? ⟨b, o + 2, none⟩ = some (.slice T nT cT) ∧ w.cell? ⟨b, o + 3, none⟩ = some (.slice F nF cF) ∧ Wr w G2 T nT 1 9 ∧ Wr w G2 F nF 2 86 ∧ nT ≤ maxLen ∧ nF ≤ maxLen
def SpR (w : World) (G1 G2 : Nat → Prop) (A : Option Addr) (n c st off : Nat) (hd : Nat → List Value) : Prop :=
  n ≤ c ∧ c ≤ maxLen ∧ (0 < n → ∃ b o, A = some ⟨b, o, none⟩ ∧ b < w.heap.size ∧ G1 b ∧ ∀ i, i < n → (∀ (j : Nat) (v : Value), (hd i)[j]? = some v → w.cell? ⟨b, o + i * st + j, none⟩ = some v) ∧ SpC w G2 b (o + i * st + off))
theorem SpR.sh {w w' : World} {G1 G2 : Nat → Prop} {A : Option Addr} {n c st off : Nat} {hd : Nat → List Value} (h : SpR w G1 G2 A n c st off hd) (hs : w.heap.size ≤ w'.heap.size) (h1 : ∀ k, G1 k → w'.heap[k]? = w.heap[k]?) (h2 : Sh G2 w w') : SpR w' G1 G2 A n c st off hd :=
  ⟨h.1, h.2.1, fun hn => by
    obtain ⟨b, o, hA, hlt, hg, hc⟩ := h.2.2 hn
    have kk : ∀ (j : Nat) (v : Value), w.cell? ⟨b, j, none⟩ = some v → w'.cell? ⟨b, j, none⟩ = some v := fun j v hv => by
      have e := h1 b hg
      exact (World.cell?_of_block (w := w) (a := ⟨b, j, none⟩) e).trans hv
    refine ⟨b, o, hA, Nat.lt_of_lt_of_le hlt hs, hg, fun i hi => ?_⟩
    obtain ⟨k0, s, t, T, nT, cT, F, nF, cF, k1, k2, k3, k4, k5, k6, k7, k8⟩ := hc i hi
    exact ⟨fun j v hv => kk _ _ (k0 j v hv), s, t, T, nT, cT, F, nF, cF, kk _ _ k1, kk _ _ k2, kk _ _ k3, kk _ _ k4, k5.sh h2, k6.sh h2, k7, k8⟩⟩
def SpT (A : Option Addr) (n c st off : Nat) (hd : Nat → List Value) : Thing := fun w G => ∃ G1 G2 : Nat → Prop, SpR w G1 G2 A n c st off hd ∧ (∀ k, G1 k → G k) ∧ (∀ k, G2 k → G k) ∧ (∀ k, G1 k → ¬ G2 k) ∧ ∀ k, G k → k < w.heap.size
theorem spT_keeps (A : Option Addr) (n c st off : Nat) (hd : Nat → List Value) : Keeps (SpT A n c st off hd) :=
  ⟨fun ⟨G1, G2, h, i1, i2, i3, i4⟩ hs hk => ⟨G1, G2, h.sh hs (fun k hk1 => hk k (i1 k hk1)) (Sh.same fun k hk2 => hk k (i2 k hk2)), i1, i2, i3, fun k hg => Nat.lt_of_lt_of_le (i4 k hg) hs⟩, fun ⟨_, _, _, _, _, _, h⟩ => h⟩
/-- The i-th one: its cells, and what spoil makes of it. -/
theorem sp_at {base : Nat} {w : World} {P Q : Thing} {A : Option Addr} {n c st off : Nat} {hd : Nat → List Value} (h : Pair base w P (With Q (SpT A n c st off hd))) (kp : Keeps P) (kq : Keeps Q) (hb : base ≤ w.heap.size) {i : Nat} (hi : i < n) :
    ∃ b o s t T nT cT F nF cF, A = some ⟨b, o, none⟩ ∧ (∀ (j : Nat) (v : Value), (hd i)[j]? = some v → w.cell? ⟨b, o + i * st + j, none⟩ = some v) ∧ w.cell? ⟨b, o + i * st + off, none⟩ = some (.string s) ∧ w.cell? ⟨b, o + i * st + off + 1, none⟩ = some (.string t) ∧ w.cell? ⟨b, o + i * st + off + 2, none⟩ = some (.slice T nT cT) ∧ w.cell? ⟨b, o + i * st + off + 3, none⟩ = some (.slice F nF cF) ∧
      Calls Try.prog 23 #[.agg #[.string s, .string t, .slice T nT cT, .slice F nF cF]] w fun e w' => e = .returned (.tuple #[]) ∧ Pair base w' P (With Q (SpT A n c st off hd)) ∧ Below base w w' := by
  obtain ⟨FF, G, hp, ⟨Ga, Gb, hq, ⟨G1, G2, hr, i1, i2, i3, i4⟩, j1, j2, jl, jx⟩, hF, hG, hx⟩ := h
  obtain ⟨b, o, hA, _, _, hc⟩ := hr.2.2 (by omega)
  obtain ⟨k0, s, t, T, nT, cT, F, nF, cF, k1, k2, k3, k4, k5, k6, k7, k8⟩ := hc i hi
  refine ⟨b, o, s, t, T, nT, cT, F, nF, cF, hA, k0, k1, k2, k3, k4, (spoil_any k5 k6 k7 k8 (fun k hk => i4 k (i2 k hk))).mono ?_⟩
  rintro e w' ⟨rfl, ch, sh⟩
  have hs := ch.size
  have kn : ∀ k, k < w.heap.size → ¬ G2 k → w'.heap[k]? = w.heap[k]? := ch.block
  exact ⟨rfl, ⟨FF, G, kp.keep hp hs fun k hk => kn k (kp.lt hp k hk) fun hg => hx k hk (j2 k (i2 k hg)),
    ⟨Ga, Gb, kq.keep hq hs fun k hk => kn k (kq.lt hq k hk) fun hg => jx k hk (i2 k hg), ⟨G1, G2, hr.sh hs (fun k hk => kn k (i4 k (i1 k hk)) (i3 k hk)) sh, i1, i2, i3, fun k hk => Nat.lt_of_lt_of_le (i4 k hk) hs⟩, j1, j2, fun k hk => Nat.lt_of_lt_of_le (jl k hk) hs, jx⟩, hF, hG, hx⟩,
    ch_below (Below.refl _ _) ch (fun k hk => hG k (j2 k (i2 k hk))) hb⟩
/-- Records that a call gave may be changed. -/
theorem sp_ro (A : Option Addr) (n c : Nat) (rs : List Rc) : Imp (RoT A n c rs) (SpT A n c 6 2 (fun i => [.int .i64 (rs.getD i noRc).pos, .int .i64 (rs.getD i noRc).ver])) := fun w G ⟨G1, G2, h, i1, i2, i3, i4⟩ =>
  ⟨G1, G2, ⟨h.2.1, h.2.2.1, fun hn => by
    obtain ⟨b, o, hA, hlt, hg, hc⟩ := h.2.2.2 hn
    refine ⟨b, o, hA, hlt, hg, fun i hi => ?_⟩
    obtain ⟨T, nT, cT, F, nF, cF, k0, k1, k2, k3, k4, k5, k6, k7, k8, k9⟩ := hc i hi
    refine ⟨fun j v hv => ?_, _, _, T, nT, cT, F, nF, cF, k2, k3, k4, k5, k8, k9, RdC.le k6, RdC.le k7⟩
    match j with
    | 0 => injection hv with hv; rw [← hv]; exact k0
    | 1 => injection hv with hv; rw [← hv]; exact k1
    | j + 2 => cases hv⟩, i1, i2, i3, i4⟩

/-! ### Copies of events -/
/-- Cells of events whose rows are the law's own, in the blocks G2. -/
def EwR (w : World) (G2 : Nat → Prop) : List Ev → List Value → Prop
  | [], cs => cs = []
  | e :: es, cs => ∃ T nT cT F nF cF cs', cs = .string e.s :: .string e.t :: .slice T nT cT :: .slice F nF cF :: cs' ∧ RdS w T nT cT e.tags ∧ RdF w F nF cF e.fs ∧ Wr w G2 T nT 1 9 ∧ Wr w G2 F nF 2 86 ∧ EwR w G2 es cs'
theorem EwR.keep {w w' : World} {G2 G3 : Nat → Prop} (hk : ∀ k, G2 k → w'.heap[k]? = w.heap[k]?) (hw : ∀ k, G2 k → G3 k) : ∀ (es : List Ev) (cs : List Value), EwR w G2 es cs → EwR w' G3 es cs
  | [], _, h => h
  | _ :: es, _, ⟨T, nT, cT, F, nF, cF, cs', e, h1, h2, h3, h4, h⟩ => ⟨T, nT, cT, F, nF, cF, cs', e, h3.rd h1 hk, h4.rd h2 hk, (h3.keep hk).wide hw, (h4.keep hk).wide hw, EwR.keep hk hw es cs' h⟩
theorem EwR.snoc {w : World} {G2 : Nat → Prop} {e : Ev} {T F : Option Addr} {nT cT nF cF : Nat} (h1 : RdS w T nT cT e.tags) (h2 : RdF w F nF cF e.fs) (h3 : Wr w G2 T nT 1 9) (h4 : Wr w G2 F nF 2 86) :
    ∀ (es : List Ev) (cs : List Value), EwR w G2 es cs → EwR w G2 (es ++ [e]) (cs ++ [.string e.s, .string e.t, .slice T nT cT, .slice F nF cF])
  | [], cs, h => by
    obtain rfl : cs = [] := h
    exact ⟨T, nT, cT, F, nF, cF, [], rfl, h1, h2, h3, h4, rfl⟩
  | x :: es, cs, ⟨T1, n1, c1, F1, m1, d1, cs', hc, p1, p2, p3, p4, h⟩ => by
    subst hc
    exact ⟨T1, n1, c1, F1, m1, d1, cs' ++ [.string e.s, .string e.t, .slice T nT cT, .slice F nF cF], rfl, p1, p2, p3, p4, EwR.snoc h1 h2 h3 h4 es cs' h⟩
theorem EwR.at_ {w : World} {G2 : Nat → Prop} : ∀ (es : List Ev) (cs : List Value), EwR w G2 es cs → ∀ i, i < es.length →
    ∃ T nT cT F nF cF, cs[i * 4]? = some (.string (es.getD i noEv).s) ∧ cs[i * 4 + 1]? = some (.string (es.getD i noEv).t) ∧ cs[i * 4 + 2]? = some (.slice T nT cT) ∧ cs[i * 4 + 3]? = some (.slice F nF cF) ∧ RdS w T nT cT (es.getD i noEv).tags ∧ RdF w F nF cF (es.getD i noEv).fs ∧ Wr w G2 T nT 1 9 ∧ Wr w G2 F nF 2 86
  | [], _, _, i, hi => by simp at hi
  | e :: es, cs, ⟨T, nT, cT, F, nF, cF, cs', hc, o1, o2, o3, o4, h⟩, i, hi => by
    subst hc
    cases i with
    | zero => exact ⟨T, nT, cT, F, nF, cF, rfl, rfl, rfl, rfl, o1, o2, o3, o4⟩
    | succ i =>
      obtain ⟨T1, n1, c1, F1, m1, d1, q0, q1, q2, q3, p1, p2, p3, p4⟩ := EwR.at_ es cs' h i (by simpa using hi)
      have e4 : (i + 1) * 4 = i * 4 + 4 := by omega
      rw [e4]
      exact ⟨T1, n1, c1, F1, m1, d1, by simpa using q0, by simpa using q1, by simpa using q2, by simpa using q3, by simpa using p1, by simpa using p2, p3, p4⟩
def EwT (lo : Nat) (E : Option Addr) (n c : Nat) (es : List Ev) : Thing := fun w G => ∃ (G2 : Nat → Prop) (cs : List Value), OwnC 4 w lo 47 E n c cs ∧ es.length = n ∧ EwR w G2 es cs ∧ (∀ a, E = some a → G a.block ∧ ¬ G2 a.block) ∧ (∀ k, G2 k → G k) ∧ ∀ k, G k → k < w.heap.size
theorem ewT_keeps (lo : Nat) (E : Option Addr) (n c : Nat) (es : List Ev) : Keeps (EwT lo E n c es) :=
  ⟨fun ⟨G2, cs, o, hl, hr, h1, h2, h3⟩ hs hk => ⟨G2, cs, own_keep o fun a ha => hk _ (h1 a ha).1, hl, EwR.keep (fun k hg => hk k (h2 k hg)) (fun _ h => h) es cs hr, h1, h2, fun k hg => Nat.lt_of_lt_of_le (h3 k hg) hs⟩, fun ⟨_, _, _, _, _, _, _, h⟩ => h⟩
theorem ew_rd {w : World} {G : Nat → Prop} {lo : Nat} {E : Option Addr} {n c : Nat} {es : List Ev} (h : EwT lo E n c es w G) : RdE w E n c es := by
  obtain ⟨G2, cs, o, hl, hr, _⟩ := h
  have r := OwnC.rd o
  refine ⟨hl, r.2.1, r.2.2.1, fun hn => ?_⟩
  obtain ⟨b, a, hA, hlt, hcell⟩ := RdC.at_ r (by omega) hn
  refine ⟨b, a, hA, hlt, fun i hi => ?_⟩
  obtain ⟨T, nT, cT, F, nF, cF, q0, q1, q2, q3, p1, p2, _⟩ := EwR.at_ es cs hr i (by omega)
  exact ⟨T, nT, cT, F, nF, cF, hcell _ _ q0, hcell _ _ q1, hcell _ _ q2, hcell _ _ q3, p1, p2⟩
theorem sp_ew (lo : Nat) (E : Option Addr) (n c : Nat) (es : List Ev) : Imp (EwT lo E n c es) (SpT E n c 4 0 (fun _ => [])) := fun w G ⟨G2, cs, o, hl, hr, h1, h2, h3⟩ => by
  have r := OwnC.rd o
  refine ⟨fun k => ∃ a, E = some a ∧ a.block = k, G2, ⟨r.2.1, r.2.2.1, fun hn => ?_⟩, fun k ⟨a, e, hk⟩ => by rw [← hk]; exact (h1 a e).1, h2, fun k ⟨a, e, hk⟩ => by rw [← hk]; exact (h1 a e).2, h3⟩
  obtain ⟨b, a, hA, hlt, hcell⟩ := RdC.at_ r (by omega) hn
  refine ⟨b, a, hA, hlt, ⟨_, hA, rfl⟩, fun i hi => ?_⟩
  obtain ⟨T, nT, cT, F, nF, cF, q0, q1, q2, q3, p1, p2, p3, p4⟩ := EwR.at_ es cs hr i (by omega)
  exact ⟨fun j v hv => (by cases hv), _, _, T, nT, cT, F, nF, cF, hcell _ _ q0, hcell _ _ q1, hcell _ _ q2, hcell _ _ q3, p3, p4, RdC.le p1, RdC.le p2⟩

/-! ### What is wanted -/
/-- Records in a row of the law's own, their rows older than W0. -/
def WnT (W0 : World) (lo : Nat) (A : Option Addr) (n c : Nat) (rs : List Rc) : Thing := fun w G => OwnR W0 w lo A n c rs ∧ (∀ a, A = some a → G a.block) ∧ ∀ k, G k → k < w.heap.size
theorem wnT_keeps (W0 : World) (lo : Nat) (A : Option Addr) (n c : Nat) (rs : List Rc) : Keeps (WnT W0 lo A n c rs) :=
  ⟨fun ⟨⟨cs, o, hl, hc⟩, hi, h⟩ hs hk => ⟨⟨cs, own_keep o fun a ha => hk _ (hi a ha), hl, hc⟩, hi, fun k hg => Nat.lt_of_lt_of_le (h k hg) hs⟩, fun h => h.2.2⟩
theorem pair_wn {base : Nat} {W0 w : World} {P Q : Thing} {lo : Nat} {A : Option Addr} {n c : Nat} {rs : List Rc} (h : Pair base w P (With Q (WnT W0 lo A n c rs))) : OwnR W0 w lo A n c rs := by
  obtain ⟨_, _, _, ⟨_, _, _, hr, _⟩, _⟩ := h
  exact hr.1

end Go.Proofs.Ytiplfhmimpkplaa.IxWalk

/-
  Layer 14, IndexOwn: events that are being copied; what is wanted grows.
-/
namespace Go.Proofs.Ytiplfhmimpkplaa.IxWalk
open Go.RowKit Go.WideShapes Go.ChangeShapes Go.Proofs.Ytiplfhmimpkplaa.MemRow Go.Proofs.Ytiplfhmimpkplaa.Ev Go.Proofs.Ytiplfhmimpkplaa.Open Go.Proofs.Ytiplfhmimpkplaa.NameMath Go.Proofs.Ytiplfhmimpkplaa.NameWalk Go.Proofs.Ytiplfhmimpkplaa.EvWalk Go.Proofs.Ytiplfhmimpkplaa.NumMem Go.Proofs.Ytiplfhmimpkplaa.Qu Go.Proofs.Ytiplfhmimpkplaa.QuWalk Go.Proofs.Ytiplfhmimpkplaa.SmWalk Go.Proofs.Ytiplfhmimpkplaa.BtWalk Go.Proofs.Ytiplfhmimpkplaa.DkWalk

theorem few8_ten {es : List Ev} {e : Ev} (h : e ∈ few8 es) : e.tags.length ≤ 10 ∧ e.fs.length ≤ 10 := by
  obtain ⟨d, _, rfl⟩ := List.mem_map.1 h
  simp only [fewD, List.length_take]
  omega
/-- Copies of the first events, in the batch whose box is g8; what was there at w8 stands, but for that box. hi: all of it is older. -/
structure EwI (w8 wr : World) (hi g8 : Nat) (a : Int) (es : List Ev) (E : Option Addr) (n c : Nat) : Prop where
  ch : Ch (fun k => k = g8) w8 wr
  bx : BxAt wr g8 (.int .i64 a) (.slice E n c)
  lo : g8 < w8.heap.size
  hi8 : w8.heap.size ≤ hi
  hir : hi ≤ wr.heap.size
  ew : ∃ (G2 : Nat → Prop) (cs : List Value), OwnC 4 wr w8.heap.size 47 E n c cs ∧ es.length = n ∧ EwR wr G2 es cs ∧ (∀ k, G2 k → w8.heap.size ≤ k ∧ k < hi) ∧ ∀ b, E = some b → b.block < hi ∧ ¬ G2 b.block
section
variable {w8 wr w' w1 : World} {hi g8 : Nat} {a : Int} {es : List Ev} {E : Option Addr} {n c : Nat}
theorem EwI.start (h : BxAt w8 g8 (.int .i64 a) (.slice none 0 0)) : EwI w8 w8 w8.heap.size g8 a [] none 0 0 :=
  ⟨Ch.refl _ _, h, h.lt, Nat.le_refl _, Nat.le_refl _, fun _ => False, [], OwnC.nil _ _, rfl, rfl, fun _ h => h.elim, fun _ h => by cases h⟩
theorem EwI.below (h : EwI w8 wr hi g8 a es E n c) (b : Below wr.heap.size wr w') : EwI w8 w' hi g8 a es E n c := by
  obtain ⟨G2, cs, o, hl, hr, hG, hE⟩ := h.ew
  have := h.hir
  exact ⟨h.ch.then_below b, h.bx.below b, h.lo, h.hi8, Nat.le_trans h.hir b.size, G2, cs, OwnC.below o b, hl, EwR.keep (fun k hk => b.block k (by have := (hG k hk).2; omega)) (fun _ h => h) es cs hr, hG, hE⟩
theorem EwI.raise (h : EwI w8 wr hi g8 a es E n c) : EwI w8 wr wr.heap.size g8 a es E n c := by
  obtain ⟨G2, cs, o, hl, hr, hG, hE⟩ := h.ew
  have := h.hir
  exact ⟨h.ch, h.bx, h.lo, Nat.le_trans h.hi8 h.hir, Nat.le_refl _, G2, cs, o, hl, hr, fun k hk => ⟨(hG k hk).1, by have := (hG k hk).2; omega⟩, fun b hb => ⟨by have := (hE b hb).1; omega, (hE b hb).2⟩⟩
/-- A store into a newer box. -/
theorem EwI.other (h : EwI w8 wr hi g8 a es E n c) {g : Nat} (h1 : hi ≤ g) (h2 : g < wr.heap.size) (i : Nat) (v : Value) : EwI w8 (wr.setCell ⟨g, i, none⟩ v) hi g8 a es E n c := by
  obtain ⟨G2, cs, o, hl, hr, hG, hE⟩ := h.ew
  have hg := boxGrown wr g i v
  have := h.lo
  have := h.hi8
  refine ⟨h.ch.then_grown hg fun r e => ?_, h.bx.grown hg (fun e => by injection e with e; omega), h.lo, h.hi8, Nat.le_trans h.hir hg.size, G2, cs, OwnC.grown o hg (fun b hb e => ?_), hl, EwR.keep (fun k hk => hg.block k ?_ ?_) (fun _ h => h) es cs hr, hG, hE⟩
  · injection e with e
    subst e
    exact .inl (.inr ⟨by omega, h2⟩)
  · injection e with e
    have := (hE b hb).1
    omega
  · have := (hG k hk).2
    have := h.hir
    omega
  · intro e
    injection e with e
    have := (hG k hk).2
    omega
theorem EwI.box {w : World} (h : EwI w8 w hi g8 a es E n c) {cs : List Value} (oc : OwnC 4 w w8.heap.size 47 E n c cs) (hg : w.grownBy w1 (E.map (·.block))) : BxAt w1 g8 (.int .i64 a) (.slice E n c) :=
  h.bx.grown hg fun er => by
    have := h.lo
    cases E with
    | none => cases er
    | some b =>
      injection er with er
      have er : g8 = b.block := er
      have := (OwnC.lt oc b rfl).1
      omega
/-- One more copy. -/
theorem EwI.push {w : World} (h : EwI w8 w hi g8 a es E n c) {G2 : Nat → Prop} {cs : List Value} (hl : es.length = n) (hr : EwR w G2 es cs) (hG : ∀ k, G2 k → w8.heap.size ≤ k ∧ k < hi) (hE : ∀ b, E = some b → b.block < hi ∧ ¬ G2 b.block) (oc : OwnC 4 w w8.heap.size 47 E n c cs)
    {e : Ev} {T F : Option Addr} {nT cT nF cF : Nat} {G3 : Nat → Prop} (h1 : RdS w T nT cT e.tags) (h2 : RdF w F nF cF e.fs) (h3 : Wr w G3 T nT 1 9) (h4 : Wr w G3 F nF 2 86) (hG3 : ∀ k, G3 k → hi ≤ k ∧ k < w.heap.size)
    {A8 : Option Addr} {c8 : Nat} (o : OwnC 4 w1 w8.heap.size 47 A8 (n + 1) c8 (cs ++ [.string e.s, .string e.t, .slice T nT cT, .slice F nF cF])) (hg : w.grownBy w1 (E.map (·.block))) (hbl : A8.map (·.block) = E.map (·.block) ∨ A8.map (·.block) = some w.heap.size) :
    EwI w8 (w1.setCell ⟨g8, 1, none⟩ (.slice A8 (n + 1) c8)) (w1.setCell ⟨g8, 1, none⟩ (.slice A8 (n + 1) c8)).heap.size g8 a (es ++ [e]) A8 (n + 1) c8 := by
  have hb := boxGrown w1 g8 1 (.slice A8 (n + 1) c8)
  have l0 := h.lo
  have l1 := h.hi8
  have l2 := h.hir
  have s1 := hg.size
  have s2 := hb.size
  have hEb : ∀ r, E.map (·.block) = some r → w8.heap.size ≤ r ∧ r < hi ∧ ¬ G2 r := fun r er => by
    cases E with
    | none => cases er
    | some b =>
      injection er with er
      subst er
      exact ⟨(OwnC.lt oc b rfl).1, hE b rfl⟩
  have ch1 : Ch (fun k => k = g8) w8 w1 := h.ch.then_grown hg fun r er => by
    have := hEb r er
    exact .inl (.inr ⟨this.1, by omega⟩)
  have bx1 : BxAt w1 g8 (.int .i64 a) (.slice E n c) := h.bx.grown hg fun er => by
    have := hEb g8 er.symm
    omega
  have hA8 : ∀ b, A8 = some b → w8.heap.size ≤ b.block ∧ b.block < w1.heap.size := fun b e => OwnC.lt o b e
  have kp : ∀ k, (G2 k ∨ G3 k) → (w1.setCell ⟨g8, 1, none⟩ (.slice A8 (n + 1) c8)).heap[k]? = w.heap[k]? := fun k hk => by
    have hk2 : w8.heap.size ≤ k ∧ k < w.heap.size ∧ some k ≠ E.map (·.block) := by
      rcases hk with hk | hk
      · have := hG k hk
        exact ⟨this.1, by omega, fun er => (hEb k er.symm).2.2 hk⟩
      · have := hG3 k hk
        exact ⟨by omega, this.2, fun er => by have := (hEb k er.symm).2.1; omega⟩
    exact (hb.block k (by omega) (fun er => by injection er with er; omega)).trans (hg.block k hk2.2.1 hk2.2.2)
  refine ⟨ch1.then_grown hb fun r er => by injection er with er; subst er; exact .inl (.inl rfl), bx1.set1 _, l0, by omega, Nat.le_refl _, fun k => G2 k ∨ G3 k, _, OwnC.grown o hb (fun b e er => ?_), by rw [List.length_append, hl]; rfl, EwR.keep kp (fun _ h => h) _ _ (EwR.snoc h1 h2 (h3.wide fun _ h => .inr h) (h4.wide fun _ h => .inr h) es cs (EwR.keep (fun _ _ => rfl) (fun _ h => .inl h) es cs hr)), fun k hk => ?_, fun b e => ⟨by have := (hA8 b e).2; omega, fun hk => ?_⟩⟩
  · injection er with er
    have := (hA8 b e).1
    omega
  · rcases hk with hk | hk
    · have := hG k hk
      omega
    · have := hG3 k hk
      omega
  · rw [e] at hbl
    rcases hbl with q | q
    · have := hEb b.block q.symm
      rcases hk with hk | hk
      · exact this.2.2 hk
      · have := hG3 _ hk
        omega
    · injection q with q
      have q : b.block = w.heap.size := q
      rcases hk with hk | hk
      · have := hG _ hk
        omega
      · have := hG3 _ hk
        omega
end
theorem wn_push {base lo : Nat} {W0 w : World} {P Z : Thing} {A : Option Addr} {n c : Nat} {rs : List Rc} (hp : Pair base w P (With Z (WnT W0 lo A n c rs))) (kp : Keeps P) (kz : Keeps Z) (hb : base ≤ w.heap.size) {A' : Option Addr} {n' c' : Nat} {rs' : List Rc} {w' : World}
    (oo : OwnR W0 w' lo A' n' c' rs') (hg : w.grownBy w' (A.map (·.block))) (hbl : A'.map (·.block) = A.map (·.block) ∨ A'.map (·.block) = some w.heap.size) :
    Pair base w' P (With Z (WnT W0 lo A' n' c' rs')) ∧ Below base w w' := by
  obtain ⟨F, G, hpF, ⟨G1, G2, hz, ⟨o, ha, hlt2⟩, i1, i2, hlt, hx⟩, hF, hG, hd⟩ := hp
  have na : ∀ k, (∀ a, A = some a → a.block ≠ k) → some k ≠ A.map (·.block) := fun k hk e => by
    cases A with
    | none => cases e
    | some a => injection e with e; exact hk a rfl e.symm
  obtain ⟨g1, g2, g3, gs, gb⟩ := hg
  have same : ∀ k, k < w.heap.size → (∀ a, A = some a → a.block ≠ k) → w'.heap[k]? = w.heap[k]? := fun k hk hn => gb k hk (na k hn)
  have hA' : ∀ a, A' = some a → (∃ b, A = some b ∧ b.block = a.block) ∨ a.block = w.heap.size := fun a e => by
    rw [e] at hbl
    rcases hbl with q | q
    · cases A with
      | none => cases q
      | some b => injection q with q; exact .inl ⟨b, rfl, q.symm⟩
    · injection q with q; exact .inr q
  have hA2 : ∀ a, A' = some a → a.block < w'.heap.size := fun a e => by
    obtain ⟨cs, o, _⟩ := oo
    exact (OwnC.lt o a e).2
  refine ⟨⟨F, fun k => G k ∨ k = w.heap.size ∧ k < w'.heap.size, kp.keep hpF gs fun k hf => same k (kp.lt hpF k hf) (fun a e e2 => hd k hf (i2 k (by rw [← e2]; exact ha a e))),
    ⟨G1, fun k => G2 k ∨ ∃ a, A' = some a ∧ a.block = k, kz.keep hz gs fun k hf => same k (kz.lt hz k hf) (fun a e e2 => hx k hf (by rw [← e2]; exact ha a e)), ⟨oo, fun a e => .inr ⟨a, e, rfl⟩, fun k hk => ?_⟩, fun k hk => .inl (i1 k hk), fun k hk => ?_, fun k hk => ?_, fun k h1 h2 => ?_⟩, hF, fun k hk => ?_, fun k hf hk => ?_⟩, ?_⟩
  · rcases hk with hk | ⟨a, e, rfl⟩
    · exact Nat.lt_of_lt_of_le (hlt2 k hk) gs
    · exact hA2 a e
  · rcases hk with hk | ⟨a, e, rfl⟩
    · exact .inl (i2 k hk)
    · rcases hA' a e with ⟨b, hb1, hb2⟩ | q
      · rw [← hb2]; exact .inl (i2 _ (ha b hb1))
      · exact .inr ⟨q, hA2 a e⟩
  · rcases hk with h | ⟨_, h⟩
    · exact Nat.lt_of_lt_of_le (hlt k h) gs
    · exact h
  · rcases h2 with h2 | ⟨a, e, rfl⟩
    · exact hx k h1 h2
    · rcases hA' a e with ⟨b, hb1, hb2⟩ | q
      · exact hx _ h1 (by rw [← hb2]; exact ha b hb1)
      · have := kz.lt hz _ h1; omega
  · rcases hk with hk | ⟨hk, _⟩
    · exact hG k hk
    · omega
  · rcases hk with hk | ⟨hk, _⟩
    · exact hd k hf hk
    · have := kp.lt hpF k hf; omega
  · exact (Below.refl base w).grown ⟨g1, g2, g3, gs, gb⟩ hb fun k e => by
      cases A with
      | none => cases e
      | some a =>
        injection e with e
        rw [← e]
        exact hG _ (i2 _ (ha a rfl))

/-- A row of a call's own may be written. -/
theorem wr_own {w : World} {k base : Nat} {t : TypeId} {A : Option Addr} {n c : Nat} {cs : List Value} {G : Nat → Prop} (h : OwnC k w base t A n c cs) (hG : ∀ a, A = some a → G a.block) : Wr w G A n k t := fun hn => by
  rcases h.2 with ⟨hv, h0⟩ | ⟨g, c', cur, hv, _, hg, hnc, _, hcs, _⟩
  · omega
  · injection hv with e1 _ e3
    subst e1
    refine ⟨g, 0, cur, rfl, hG _ rfl, hg, ?_⟩
    have := Nat.mul_le_mul_right k hnc
    omega

theorem th_comm {A B : Thing} : Imp (With A B) (With B A) := fun _ _ ⟨G1, G2, h1, h2, i1, i2, hl, hx⟩ => ⟨G2, G1, h2, h1, i2, i1, hl, fun k a b => hx k b a⟩
theorem th_assoc {X A B : Thing} : Imp (With X (With A B)) (With (With X A) B) := fun w G ⟨G1, G2, hX, ⟨Ga, Gb, hA, hB, a1, a2, _, a4⟩, i1, i2, hl, hx⟩ =>
  ⟨fun k => G1 k ∨ Ga k, Gb, ⟨G1, Ga, hX, hA, fun _ h => .inl h, fun _ h => .inr h, fun k hk => by rcases hk with hk | hk; exact hl k (i1 k hk); exact hl k (i2 k (a1 k hk)), fun k h1 h2 => hx k h1 (a1 k h2)⟩, hB, fun k hk => by rcases hk with hk | hk; exact i1 k hk; exact i2 k (a1 k hk), fun k hk => i2 k (a2 k hk), hl, fun k hk h2 => by rcases hk with hk | hk; exact hx k hk (a2 k h2); exact a4 k hk h2⟩
theorem th_rght {Q R R' : Thing} (i : Imp R R') : Imp (With Q R) (With Q R') := fun w _ ⟨G1, G2, h1, h2, i1, i2, hl, hx⟩ => ⟨G1, G2, h1, i w G2 h2, i1, i2, hl, hx⟩
/-- The copies and their batch's box, as things. -/
theorem ew_pair {base : Nat} {w8 wr : World} {P Q : Thing} {hi g8 : Nat} {a : Int} {es : List Ev} {E : Option Addr} {n c : Nat} (hp : Pair base w8 P (With Q (BxT g8 #[.int .i64 a, .slice none 0 0] 33))) (kp : Keeps P) (kq : Keeps Q) (hb : base ≤ w8.heap.size) (h : EwI w8 wr hi g8 a es E n c) :
    Pair base wr P (With Q (With (BxT g8 #[.int .i64 a, .slice E n c] 33) (EwT w8.heap.size E n c es))) ∧ Below base w8 wr := by
  obtain ⟨F, G, hbx, hpq, hF, hG, hx⟩ := pair_last kp hp
  have hg : F g8 := hbx.2.1
  have hc : Ch F w8 wr := h.ch.wide fun k e => by rw [e]; exact hg
  obtain ⟨G2, cs, o, hl, hr, hG2, hE⟩ := h.ew
  have l0 := h.lo
  have l2 := h.hir
  have s := h.ch.size
  have hn : With (BxT g8 #[.int .i64 a, .slice E n c] 33) (EwT w8.heap.size E n c es) wr (up F w8 wr) := by
    refine ⟨fun k => k = g8, fun k => w8.heap.size ≤ k ∧ k < wr.heap.size, ⟨h.bx, rfl, fun k e => by rw [e]; omega⟩, ⟨G2, cs, o, hl, hr, fun b e => ⟨OwnC.lt o b e, (hE b e).2⟩, fun k hk => ⟨(hG2 k hk).1, by have := (hG2 k hk).2; omega⟩, fun k hk => hk.2⟩, fun k e => by rw [e]; exact .inl hg, fun k hk => .inr hk, fun k hk => up_lt hbx.2.2 s hk, fun k e hk => by have := hk.1; omega⟩
  exact ⟨pair_imp th_comm (pair_rot (with_keeps (bxT_keeps _ _ _) (ewT_keeps _ _ _ _ _)) (Pair.left hpq (with_keeps kp kq) hF hG hx hb hn hc)), ch_below (Below.refl _ _) hc hF hb⟩

/-- What lies where while the records are taken over. -/
theorem z_facts {base : Nat} {W0 w : World} {P SpO : Thing} {lo lo2 : Nat} {A4 Aw A10 : Option Addr} {n4 c4 nw cw n10 c10 st off g7 g8 : Nat} {xe : List Ev} {rs : List Rc} {cs7 cs8 : Array Value} {t7 t8 : TypeId} {hd : Nat → List Value}
    (h : Pair base w P (With (With (With (With (With (With NoT (OoT W0 lo A4 n4 c4 xe)) (BxT g7 cs7 t7)) (BxT g8 cs8 t8)) (WnT W0 lo2 Aw nw cw rs)) SpO) (SpT A10 n10 c10 st off hd))) :
    OwnO W0 w lo A4 n4 c4 xe ∧ w.heap[g7]? = some (.cells cs7 t7 (0, 0)) ∧ w.heap[g8]? = some (.cells cs8 t8 (0, 0)) ∧ OwnR W0 w lo2 Aw nw cw rs ∧ ∀ a, Aw = some a → a.block ≠ g7 ∧ (∀ b, A4 = some b → b.block ≠ a.block) ∧ (∀ b, A10 = some b → 0 < n10 → b.block ≠ a.block) := by
  obtain ⟨_, _, _, ⟨GA, GR, ⟨GB, GS, ⟨GC, GW, ⟨GD, G8, ⟨GE, G7, ⟨GN, GO, _, hO, _, jO, _, _⟩, h7, jE, j7, _, _⟩, h8, jD, j8, _, _⟩, hW, jC, jW, _, xC⟩, hS, jB, jS, _, _⟩, hR, jA, jR, _, xA⟩, _⟩ := h
  refine ⟨hO.1, h7.1, h8.1, hW.1, fun a ha => ⟨fun e => ?_, fun b hb e => ?_, fun b hb hn e => ?_⟩⟩
  · exact xC g7 (jD _ (j7 _ h7.2.1)) (by rw [← e]; exact hW.2.1 a ha)
  · exact xC b.block (jD _ (jE _ (jO _ (hO.2.1 b hb)))) (by rw [e]; exact hW.2.1 a ha)
  · obtain ⟨G1, G2, hr, i1, _⟩ := hR
    obtain ⟨b', o', e2, _, hg, _⟩ := hr.2.2 hn
    rw [hb] at e2
    injection e2 with e2
    have hg' : G1 b.block := by rw [e2]; exact hg
    exact xA b.block (by rw [e]; exact jB _ (jW _ (hW.2.1 a ha))) (i1 _ hg')

end Go.Proofs.Ytiplfhmimpkplaa.IxWalk

/-
  Walk of a statement of layer 14: IndexOwn.
-/
namespace Go.Proofs.Ytiplfhmimpkplaa.IxWalk
open Go.Proofs.Ytiplfhmimpkplaa.HeldAt Go.RowKit Go.WideShapes Go.ChangeShapes Go.Proofs.Ytiplfhmimpkplaa.MemRow Go.Proofs.Ytiplfhmimpkplaa.Ev Go.Proofs.Ytiplfhmimpkplaa.Open Go.Proofs.Ytiplfhmimpkplaa.NameMath Go.Proofs.Ytiplfhmimpkplaa.NameWalk Go.Proofs.Ytiplfhmimpkplaa.EvWalk Go.Proofs.Ytiplfhmimpkplaa.NumMem Go.Proofs.Ytiplfhmimpkplaa.Qu Go.Proofs.Ytiplfhmimpkplaa.QuWalk Go.Proofs.Ytiplfhmimpkplaa.SmWalk Go.Proofs.Ytiplfhmimpkplaa.BtWalk Go.Proofs.Ytiplfhmimpkplaa.DkWalk

section
variable {Ix : Nat → List Ev → Thing}
set_option maxHeartbeats 16000000 in
set_option maxRecDepth 100000 in
theorem own14_walk (api : IApi Ix) (A1 : Option Addr) (n1 c1 : Nat) (l : List Bat) (w0 : World) (r1 : RdBs w0 A1 n1 c1 l) (o1 : ∀ x ∈ l, BOk x) :
    Calls Try.prog 6 #[.slice A1 n1 c1] w0 fun e w' => e = .returned (.bool true) ∧ Below w0.heap.size w0 w' := by
  have hn1 := r1.le
  unfold maxLen at hn1
  have kP := api.keeps
  have HN1 := Go.Lib.hid r1.len
  have HOK1 := Go.Lib.hid (bats_ok o1)
  have R1 := Go.Lib.hid r1
  clear o1 r1
  go_enter Try.func6, Try.ntmps6
  go_wp2_with fail
  refine (shown14_any api w0).mono ?_
  rintro e w2 ⟨rfl, B2⟩
  go_wp2_with fail
  refine (api.new (base := w0.heap.size) (Q := NoT) (G := fun _ => False) (fun k h => h) noT_keeps (fun k h => h.elim) B2.size).mono ?_
  rintro e w3 ⟨g, rfl, p3, b3⟩
  have B3 := below_chain B2 b3
  have b4 := (Below.refl w3.heap.size w3).alloc (Nat.le_refl _) (.cells #[] 49)
  have p4 := pair_more (R := WnT w0 w0.heap.size (some ⟨w3.heap.size, 0, none⟩) 0 0 (recF [])) p3 (kP _ _) noT_keeps B3.size b4 ⟨⟨[], OwnC.empty w3 _ B3.size, rfl, rfl⟩, fun a e => by injection e with e; subst e; exact ⟨Nat.le_refl _, by simp⟩, fun k hk => hk.2⟩
  have B4 := below_chain B3 b4
  clear B2 p3 b3 B3 b4
  go_upto_region 6 with (fail)
  generalize w3.alloc (.cells #[] 49) = w4 at *
  generalize w3.heap.size = gw at *
  go_wp2_with fail
  go_loopw [5, 6, 7, 8, 9, 10, 11, 12, 13, 14, 15] (fun ov iv _ _ _ _ _ _ _ _ _ wr => ∃ (Aw : Option Addr) (nw cw j : Nat) (es : List Ev), ov = .slice Aw nw cw ∧ iv = .int .i64 (j : Int) ∧ j ≤ n1 ∧ j ≤ 10 ∧ Hid (LogOk es ∧ es.length ≤ 8 * j) ∧ Pair w0.heap.size wr (Ix g es) (With NoT (WnT w0 w0.heap.size Aw nw cw (recF es))) ∧ Below w0.heap.size w0 wr) (fun _ iv _ _ _ _ _ _ _ _ _ _ => n1 - (intOf iv).toNat)
  case atStart => exact ⟨_, 0, 0, 0, [], rfl, rfl, Nat.zero_le _, by omega, Go.Lib.hid ⟨logOk_nil, Nat.zero_le _⟩, p4, B4⟩
  case round =>
    obtain ⟨Aw, nw, cw, j, es, rfl, rfl, hjn, hjK, HL, pj, Bj⟩ := hrel
    clear p4 B4
    go_upto_region 7 with (fail)
    go_cut [32] (fun v wx => v = .bool (decide (j < n1 ∧ j < 10)) ∧ wr = wx)
    case first =>
      by_cases h1 : j < n1
      · have i1 : (j : Int) < n1 := by omega
        by_cases h2 : j < 10
        · have i2 : (j : Int) < 10 := by omega
          go_wp2_with fail
          go_meet
          exact ⟨by simp [h1, h2], rfl⟩
        · have i2 : ¬ (j : Int) < 10 := by omega
          go_wp2_with fail
          go_meet
          exact ⟨by simp [h1, h2], rfl⟩
      · have i1 : ¬ (j : Int) < n1 := by omega
        go_wp2_with fail
        go_meet
        exact ⟨by simp [h1], rfl⟩
    obtain ⟨rfl, rfl⟩ := hcut
    have kW := with_keeps noT_keeps (wnT_keeps w0 w0.heap.size Aw nw cw (recF es))
    by_cases hc : j < n1 ∧ j < 10
    · rw [show decide (j < n1 ∧ j < 10) = true by simpa using hc]
      obtain ⟨hj1, hj2⟩ := hc
      have i1 : (j : Int) < n1 := by omega
      obtain ⟨bi, oi, rfl, _, kk⟩ := RdBs.at_ R1.out (by omega)
      obtain ⟨E, nE, cE, y0', y1', rE⟩ := kk j hj1
      have y0 := bcell Bj y0'
      have y1 := bcell Bj y1'
      have hxo := HOK1.out j
      generalize l.getD j noBat = x at *
      have CF := Go.Lib.hid (few14_any (.agg #[.int .i64 x.a, .slice E nE cE]) x w0 wr ⟨E, nE, cE, rfl, rE⟩ Bj)
      have HXO := Go.Lib.hid hxo
      clear kk y0' y1' rE hxo
      go_wp2_with fail
      refine (CF.out).mono ?_
      rintro e w4 ⟨A4, n4, c4, rfl, o4, b4⟩
      have p4 := pair_more pj (kP _ _) kW Bj.size b4 (ooT_of o4 (by omega))
      have k4 := with_keeps kW (ooT_keeps w0 (wr.heap.size + 1 + 1 + 1) A4 n4 c4 (few8 x.es))
      have B4 := below_chain Bj b4
      obtain ⟨p5, b5⟩ := bx_new (kP _ _) k4 B4.size p4 #[.int .i64 x.a, .slice A4 n4 c4] 33
      have B5 := below_chain B4 b5
      have hlen8 := few8_len x.es
      have hten := fun e (he : e ∈ few8 x.es) => few8_ten he
      have HA4 := Go.Lib.hid (fun a ha => (ownO_lt o4 a ha).2)
      have XK := Go.Lib.hid (fewD_all HXO.out)
      have x5 := BxAt.new w4 (.int .i64 x.a) (.slice A4 n4 c4)
      have hn4 : (few8 x.es).length = n4 := o4.len
      have TEN := Go.Lib.hid hten
      have HN4 := Go.Lib.hid hn4
      generalize few8 x.es = xe at *
      generalize wr.heap.size + 1 + 1 + 1 = lo at *
      clear pj Bj CF o4 b4 p4 B4 b5 y0 y1 HXO kW hten
      go_upto_region 10 with (fail)
      generalize w4.alloc (.cells #[.int .i64 x.a, .slice A4 n4 c4] 33) = w5 at *
      generalize w4.heap.size = g7 at *
      go_wp2_with fail
      refine (api.last p5 (with_keeps k4 (bxT_keeps _ _ _)) HL.out.1).mono ?_
      rintro e w6 ⟨rfl, p6, b6⟩
      have x6 := x5.below b6
      have B6 := below_chain B5 b6
      have k0 := x6.c0
      have z0 := x6.frozen 0
      have x7 := x6.set0 (.int .i64 (es.length : Nat))
      obtain ⟨p7, b7⟩ := lg_put (v := .int .i64 (es.length : Nat)) (i := 0) (kP _ _) k4 p6 x7
      have B7 := B6.trans b7
      have X7 := Go.Lib.hid x7
      clear p5 B5 x5 p6 b6 x6 B6 b7 x7
      go_upto_region 11 with (fail)
      generalize w6.setCell ⟨g7, 0, none⟩ (.int .i64 (es.length : Nat)) = w7 at *
      clear k0 z0
      have k0 := X7.out.c0
      have k7 := with_keeps k4 (bxT_keeps g7 #[.int .i64 (es.length : Nat), .slice A4 n4 c4] 33)
      obtain ⟨p8, b8⟩ := bx_new (kP _ _) k7 B7.size p7 #[.int .i64 (es.length : Nat), .slice none 0 0] 33
      have B8 := below_chain B7 b8
      have x8 := BxAt.new w7 (.int .i64 (es.length : Nat)) (.slice none 0 0)
      have g7lt : g7 < w7.heap.size := X7.out.lt
      have hg80 : w0.heap.size ≤ w7.heap.size := B7.size
      have X8 := Go.Lib.hid (X7.out.below b8)
      have hle8 : n4 ≤ 8 := by omega
      clear p7 B7 X7
      go_upto_region 12 with (fail)
      have s8 : (w7.alloc (.cells #[.int .i64 (es.length : Nat), .slice none 0 0] 33)).heap.size = w7.heap.size + 1 := by simp
      generalize w7.alloc (.cells #[.int .i64 (es.length : Nat), .slice none 0 0] 33) = w8 at *
      have gne : g7 ≠ w7.heap.size := by omega
      have g78 : g7 < w8.heap.size := by omega
      generalize w7.heap.size = g8 at *
      have EI := Go.Lib.hid (EwI.start x8)
      have o8 := Go.Lib.hid (pair_oo (pair_first p8))
      have P8 := Go.Lib.hid p8
      have hl0 : es.length ≤ 80 := by have := HL.out.2; omega
      clear b8 x8 k0 s8 p8
      go_wp2_with fail
      go_loopw [9, 10] (fun kv _ wr => ∃ (k : Nat) (E8 : Option Addr) (n8 c8 : Nat), kv = .int .i64 (k : Int) ∧ k ≤ n4 ∧ n8 = k ∧ Hid (EwI w8 wr wr.heap.size g8 (es.length : Nat) (xe.take k) E8 n8 c8)) (fun kv _ _ => n4 - (intOf kv).toNat)
      case atStart => exact ⟨0, none, 0, 0, rfl, Nat.zero_le _, rfl, EI⟩
      case round =>
        obtain ⟨k, E8, n8, c8, rfl, hk, hn8, HE⟩ := hrel
        clear EI
        have x7 : BxAt wr g7 (.int .i64 (es.length : Nat)) (.slice A4 n4 c4) := (HE.out.ch.block g7 g78 gne).trans X8.out
        have q1 := x7.c1
        by_cases hlt : k < n4
        · have i2 : (k : Int) < n4 := by omega
          obtain ⟨cs4, oc4, hl4, hc4⟩ := o8.out
          obtain ⟨b4, a4, e4, _, kc4⟩ := RdC.at_ (OwnC.rd oc4) (by decide) (by omega)
          obtain ⟨T, nT, cT, F, nF, cF, v0, v1, v2, v3, rT, rF⟩ := EvsO.at_ xe cs4 hc4 k (by omega)
          have hb4 : b4 < g7 := HA4.out _ e4
          have kr : ∀ (i : Nat) (v : Value), cs4[i]? = some v → wr.cell? ⟨b4, a4 + i, none⟩ = some v := fun i v hv => by
            have e := HE.out.ch.block b4 (by omega) (by omega)
            exact (World.cell?_of_block (w := w8) (a := ⟨b4, a4 + i, none⟩) e).trans (kc4 i v hv)
          have u0 : wr.cell? ⟨b4, a4 + k * 4, none⟩ = some (.string (xe.getD k noEv).s) := kr _ _ v0
          have u1 : wr.cell? ⟨b4, a4 + k * 4 + 1, none⟩ = some (.string (xe.getD k noEv).t) := by rw [Nat.add_assoc]; exact kr _ _ v1
          have u2 : wr.cell? ⟨b4, a4 + k * 4 + 2, none⟩ = some (.slice T nT cT) := by rw [Nat.add_assoc]; exact kr _ _ v2
          have u3 : wr.cell? ⟨b4, a4 + k * 4 + 3, none⟩ = some (.slice F nF cF) := by rw [Nat.add_assoc]; exact kr _ _ v3
          have hmem : xe.getD k noEv ∈ xe := by
            have hk2 : k < xe.length := by omega
            simp only [List.getD, List.getElem?_eq_getElem hk2, Option.getD_some]
            exact List.getElem_mem hk2
          have ht := TEN.out _ hmem
          have hnT := RdS.len rT
          have hnF := RdF.len rF
          have HTK := Go.Lib.hid (show xe.take (k + 1) = xe.take k ++ [xe.getD k noEv] by
            rw [List.take_add_one]
            simp [List.getD, List.getElem?_eq_getElem (show k < xe.length by omega)])
          have Bw := Go.Lib.hid (ch_below B8 HE.out.ch (fun k e => by rw [e]; exact hg80) (Nat.le_refl _))
          have bnT : nT ≤ 10 := by omega
          have bnF : nF ≤ 10 := by omega
          have RT := Go.Lib.hid rT
          have RF := Go.Lib.hid rF
          subst e4
          subst hn8
          clear oc4 hl4 hc4 kc4 v0 v1 v2 v3 kr hmem ht hnT hnF rT rF
          generalize xe.getD n8 noEv = ev at *
          have al := (Below.refl wr.heap.size wr).alloc (Nat.le_refl _) (.cells #[.string ev.s, .string ev.t, .slice T nT cT, .slice F nF cF] 47)
          have c9 := EvAt.new wr (.string ev.s) (.string ev.t) (.slice T nT cT) (.slice F nF cF)
          have E9 := Go.Lib.hid (HE.out.below al)
          have Bw9 := Go.Lib.hid (below_chain Bw.out al)
          have s9 : (wr.alloc (.cells #[.string ev.s, .string ev.t, .slice T nT cT, .slice F nF cF] 47)).heap.size = wr.heap.size + 1 := by simp
          go_upto_region 16 with (fail)
          generalize wr.alloc (.cells #[.string ev.s, .string ev.t, .slice T nT cT, .slice F nF cF] 47) = w9 at *
          have S9 := Go.Lib.hid s9
          have hgk : wr.heap.size < w9.heap.size := by omega
          clear al u0 u1 u2 u3 s9 HE Bw x7 q1 hlt
          generalize wr.heap.size = gk at *
          have k2 := c9.c2
          have al1 := (Below.refl w9.heap.size w9).alloc (Nat.le_refl _) (.cells #[] 9)
          have k2' := bcell al1 k2
          have c9' := c9.below al1 hgk
          have z2' := c9'.frozen 2
          have o1 : OwnC 1 (w9.alloc (.cells #[] 9)) w9.heap.size 9 (some ⟨w9.heap.size, 0, none⟩) 0 0 [] := OwnC.empty w9 9 (Nat.le_refl _)
          have d1 := RdC.below RT.out (below_chain Bw9.out al1)
          go_upto_region 17 with (at_builtin; refine wpList_copy_cells rfl (.tmp 58) (.tmp 60) 44 rfl 9 (.string ByteArray.empty) 16 Try.underlying44 string_info rfl (by decide) rfl rfl o1 d1 (strs_one _) (by unfold maxLen; omega) (by omega) al1.size al1 ?_; intro A10 c10 w10 o10 b10; have x10 := c9.below b10 hgk; have y10 := x10.c2; have z10 := x10.frozen 2)
          have c11 := x10.set2 (.slice A10 nT c10)
          have hA10 := fun a ha => OwnC.lt o10 a ha
          have o11 := OwnC.grown o10 (boxGrown w10 gk 2 (.slice A10 nT c10)) (fun a ha e => by injection e with e; have := (hA10 a ha).1; omega)
          have E11 := Go.Lib.hid ((E9.out.below b10).other (Nat.le_refl _) x10.lt 2 (.slice A10 nT c10))
          have hg0 : w0.heap.size ≤ gk := by
            have h1 := E9.out.lo
            have h2 := E9.out.hi8
            omega
          have Bw11 := Go.Lib.hid ((below_chain Bw9.out b10).setCell (p := ⟨gk, 2, none⟩) hg0 (.slice A10 nT c10))
          have OA := Go.Lib.hid o11
          have HA10 := Go.Lib.hid (fun (a : Addr) (ha : A10 = some a) => (⟨by have := (hA10 a ha).1; omega, (hA10 a ha).2⟩ : gk < a.block ∧ a.block < w10.heap.size))
          have s11 : (w10.setCell ⟨gk, 2, none⟩ (.slice A10 nT c10)).heap.size = w10.heap.size := by simp [World.setCell]
          clear c9 k2 al1 k2' c9' z2' o1 d1 o10 b10 x10 y10 z10 hA10 o11 hgk E9 Bw9 S9
          generalize w10.setCell ⟨gk, 2, none⟩ (.slice A10 nT c10) = w11 at *
          rw [← s11] at HA10
          clear s11
          have hgk : gk < w11.heap.size := c11.lt
          have k3 := c11.c3
          have al1 := (Below.refl w11.heap.size w11).alloc (Nat.le_refl _) (.cells #[] 86)
          have k3' := bcell al1 k3
          have c11' := c11.below al1 hgk
          have z3' := c11'.frozen 3
          have o1 : OwnC 2 (w11.alloc (.cells #[] 86)) w11.heap.size 86 (some ⟨w11.heap.size, 0, none⟩) 0 0 [] := OwnC.empty w11 86 (Nat.le_refl _)
          have d1 := RdC.below RF.out (below_chain Bw11.out al1)
          go_upto_region 18 with (at_builtin; refine wpList_copy_cells rfl (.tmp 63) (.tmp 65) 45 rfl 86 (.agg #[.string ⟨#[]⟩, .int .i64 0]) 24 Try.underlying45 field_info rfl (by decide) rfl rfl o1 d1 (flds_one _) (by unfold maxLen; omega) (by omega) al1.size al1 ?_; intro A12 c12 w12 o12 b12; have x12 := c11.below b12 hgk; have y12 := x12.c3; have z12 := x12.frozen 3)
          have c13 := x12.set3 (.slice A12 nF c12)
          have hA12 := fun a ha => OwnC.lt o12 a ha
          have bg := boxGrown w12 gk 3 (.slice A12 nF c12)
          have o13 := OwnC.grown o12 bg (fun a ha e => by injection e with e; have := (hA12 a ha).1; omega)
          have p13 := OwnC.grown (OwnC.below OA.out b12) bg (fun a ha e => by injection e with e; have := (HA10.out a ha).1; omega)
          have e13 := (E11.out.below b12).other (Nat.le_refl _) x12.lt 3 (.slice A12 nF c12)
          have hz12 := b12.size
          have s13 : (w12.setCell ⟨gk, 3, none⟩ (.slice A12 nF c12)).heap.size = w12.heap.size := by simp [World.setCell]
          have hA12' := Go.Lib.hid (fun (a : Addr) (ha : A12 = some a) => (⟨by have := (hA12 a ha).1; omega, by have := (hA12 a ha).2; omega⟩ : gk < a.block ∧ a.block < (w12.setCell ⟨gk, 3, none⟩ (.slice A12 nF c12)).heap.size))
          have hA10' := Go.Lib.hid (fun (a : Addr) (ha : A10 = some a) => (⟨(HA10.out a ha).1, by have := (HA10.out a ha).2; omega⟩ : gk < a.block ∧ a.block < (w12.setCell ⟨gk, 3, none⟩ (.slice A12 nF c12)).heap.size))
          clear c11 k3 al1 k3' c11' z3' o1 d1 o12 b12 x12 y12 z12 hA12 bg OA HA10 E11 Bw11 hz12 s13 hgk
          generalize w12.setCell ⟨gk, 3, none⟩ (.slice A12 nF c12) = w13 at *
          have al := (Below.refl w13.heap.size w13).alloc (Nat.le_refl _) (.cells #[.string ev.s, .string ev.t, .slice A10 nT c10, .slice A12 nF c12] 47)
          have d14 : RdC 4 (w13.alloc (.cells #[.string ev.s, .string ev.t, .slice A10 nT c10, .slice A12 nF c12] 47)) (some ⟨w13.heap.size, 0, none⟩) 1 1 [.string ev.s, .string ev.t, .slice A10 nT c10, .slice A12 nF c12] := RdC.new w13 47 [.string ev.s, .string ev.t, .slice A10 nT c10, .slice A12 nF c12] rfl (by decide)
          have e14 := e13.below al
          have o14 := OwnC.below o13 al
          have p14 := OwnC.below p13 al
          have k0 := c13.c0
          have k1 := c13.c1
          have k2 := c13.c2
          have k3 := c13.c3
          have q1 := e13.bx.c1
          have hz := al.size
          have E14 := Go.Lib.hid e14
          have O14 := Go.Lib.hid o14
          have P14 := Go.Lib.hid p14
          obtain ⟨G2, cs, oc, hl, hr, hG, hE⟩ := e14.ew
          have HL14 := Go.Lib.hid hl
          have HR14 := Go.Lib.hid hr
          have HG14 := Go.Lib.hid hG
          have HE14 := Go.Lib.hid hE
          have big : w8.heap.size ≤ (w13.alloc (.cells #[.string ev.s, .string ev.t, .slice A10 nT c10, .slice A12 nF c12] 47)).heap.size := Nat.le_trans e14.hi8 e14.hir
          have HZ := Go.Lib.hid hz
          clear e14 o14 p14 e13 o13 p13 c13 al hl hr hG hE hz
          go_wp2_with (at_builtin; refine wpList_append_cells rfl (.tmp 69) (.tmp 71) 31 rfl 47 (.agg #[.string ⟨#[]⟩, .string ⟨#[]⟩, .slice none 0 0, .slice none 0 0]) 80 Try.underlying31 evInfo14 rfl (by decide) rfl rfl oc d14 (ev_one ev _ _ _ _ _ _) (by unfold maxLen; omega) (by omega) big ?_; intro A9 c9 w9' o9 g9 h9; have e9 := E14.out.push HL14.out HR14.out HG14.out HE14.out oc (e := ev) (G3 := fun k => (∃ a, A10 = some a ∧ a.block = k) ∨ ∃ a, A12 = some a ∧ a.block = k) (OwnC.rd P14.out) (OwnC.rd O14.out) (wr_own P14.out fun a ha => .inl ⟨a, ha, rfl⟩) (wr_own O14.out fun a ha => .inr ⟨a, ha, rfl⟩) (fun k hk => by have := HZ.out; rcases hk with ⟨a, ha, rfl⟩ | ⟨a, ha, rfl⟩; exact ⟨Nat.le_of_lt (hA10'.out a ha).1, by have := (hA10'.out a ha).2; omega⟩; exact ⟨Nat.le_of_lt (hA12'.out a ha).1, by have := (hA12'.out a ha).2; omega⟩) o9 g9 h9; have bx9 := E14.out.box oc g9; have y9 := bx9.c1; have z9 := bx9.frozen 1)
          go_roundw
          case rel => exact ⟨n8 + 1, A9, n8 + 1, c9, by go_num, by omega, rfl, Go.Lib.hid (by rw [HTK.out]; exact e9)⟩
          case measure => simp [intOf]; omega
        · have i2 : ¬ (k : Int) < n4 := by omega
          obtain rfl : k = n4 := by omega
          subst hn8
          have he := HE.out
          rw [List.take_of_length_le (by omega)] at he
          obtain ⟨p9, b9⟩ := ew_pair P8.out (kP _ _) k7 B8.size he
          have x8 := he.bx
          have B9 := B8.trans b9
          have k8 := with_keeps (bxT_keeps g8 #[.int .i64 (es.length : Nat), .slice E8 n8 c8] 33) (ewT_keeps w8.heap.size E8 n8 c8 xe)
          have v0 := x8.c0
          have v1 := x8.c1
          have BK : Hid (BOk ⟨(es.length : Nat), xe⟩) := Go.Lib.hid ⟨XK.out, by simp only; omega, by simp only; omega⟩
          have CA := Go.Lib.hid (api.add (x := ⟨(es.length : Nat), xe⟩) p9 (with_keeps k7 k8) B9.size HL.out.1 (by simp only; omega) (fun _ _ hq _ => by obtain ⟨_, _, _, ⟨_, _, _, hw, _⟩, _⟩ := hq; exact ⟨E8, n8, c8, rfl, ew_rd hw⟩) BK.out)
          have HM := Go.Lib.hid (logOk_more (x := ⟨(es.length : Nat), xe⟩) (N := 8 * j) HL.out.1 HL.out.2 hlen8 (by omega))
          have i3 : ¬ (n8 : Int) < (n8 : Int) := i2
          clear HE he P8 p9 b9 hlt hk x8 x7 XK i2
          go_wp2_with fail
          refine (CA.out).mono ?_
          rintro e w10 ⟨A10, n10, c10, rfl, p10, b10⟩
          have B10 := B9.trans b10
          clear CA B9 b10
          by_cases hz : (addB es ⟨(es.length : Nat), xe⟩).1 = 0
          · obtain ⟨hm, _⟩ := addB_zero.1 hz
            have e1 : addB es ⟨(es.length : Nat), xe⟩ = (0, newR es xe, es ++ xe) := addB_yes hm rfl
            rw [e1] at p10 HM ⊢
            simp only at p10 HM ⊢
            have hn10 := (pair_ro p10).len
            rw [newR_len] at hn10
            obtain rfl : n10 = n8 := by omega
            have p11 := pair_imp (th_rght (sp_ro _ _ _ _)) (pair_imp (th_left (th_rght (sp_ew _ _ _ _ _))) (pair_imp (th_left (th_left th_mv3)) (pair_imp (th_left th_assoc) p10)))
            have W0' : recF es = recF es ++ (newR es xe).take 0 := by simp
            rw [W0'] at p11
            have kO := ooT_keeps w0 lo A4 n10 c4 xe
            have kZ := with_keeps (with_keeps (with_keeps noT_keeps kO) (bxT_keeps g7 #[.int .i64 (es.length : Nat), .slice A4 n10 c4] 33)) (bxT_keeps g8 #[.int .i64 (es.length : Nat), .slice E8 n10 c8] 33)
            have kS := spT_keeps E8 n10 c8 4 0 (fun _ => [])
            have kR := spT_keeps A10 n10 c10 6 2 (fun i => [.int .i64 ((newR es xe).getD i noRc).pos, .int .i64 ((newR es xe).getD i noRc).ver])
            have P11 := Go.Lib.hid p11
            clear p10 e1 hm hz v0 v1 q1 k8 i3 hn10
            go_wp2_with fail
            go_loopw [5, 13] (fun ov kv wr => ∃ (Av : Option Addr) (nv cv k : Nat), ov = .slice Av nv cv ∧ kv = .int .i64 (k : Int) ∧ k ≤ n10 ∧ Hid (Pair w0.heap.size wr (Ix g (es ++ xe)) (With (With (With (With (With (With NoT (OoT w0 lo A4 n10 c4 xe)) (BxT g7 #[.int .i64 (es.length : Nat), .slice A4 n10 c4] 33)) (BxT g8 #[.int .i64 (es.length : Nat), .slice E8 n10 c8] 33)) (WnT w0 w0.heap.size Av nv cv (recF es ++ (newR es xe).take k))) (SpT E8 n10 c8 4 0 (fun _ => []))) (SpT A10 n10 c10 6 2 (fun i => [.int .i64 ((newR es xe).getD i noRc).pos, .int .i64 ((newR es xe).getD i noRc).ver])))) ∧ Below w0.heap.size w0 wr) (fun _ kv _ => n10 - (intOf kv).toNat)
            case atStart => exact ⟨Aw, nw, cw, 0, rfl, rfl, Nat.zero_le _, P11, B10⟩
            case round =>
              obtain ⟨Av, nv, cv, k, rfl, rfl, hk, PH, Bk⟩ := hrel
              clear P11 B10 p11
              obtain ⟨zO, z7, z8, zW, zN⟩ := z_facts PH.out
              have q7 : wr.cell? ⟨g7, 1, none⟩ = some (.slice A4 n10 c4) := by rw [cell_of_row wr g7 1 _ _ _ z7]; rfl
              by_cases hlt : k < n10
              · have i2 : (k : Int) < n10 := by omega
                have PH0 := PH.out
                obtain ⟨b10, o10, _, _, _, _, _, _, _, _, e10, hhd, _⟩ := sp_at PH0 (kP _ _) (with_keeps (with_keeps kZ (wnT_keeps _ _ _ _ _ _)) kS) Bk.size hlt
                obtain ⟨cs4, oc4, hl4, hc4⟩ := zO
                obtain ⟨b4, a4, e4, _, kc4⟩ := RdC.at_ (OwnC.rd oc4) (by decide) (by omega)
                obtain ⟨T, nT, cT, F, nF, cF, v0, v1, v2, v3, rT, rF⟩ := EvsO.at_ xe cs4 hc4 k (by omega)
                have hkx : k < xe.length := by omega
                have hre : ((newR es xe).getD k noRc).e = xe.getD k noEv := by
                  have := newR_at es xe k hkx
                  simp [List.getD_eq_getElem?_getD, this]
                have hRK : (newR es xe).take (k + 1) = (newR es xe).take k ++ [(newR es xe).getD k noRc] := by
                  rw [List.take_add_one]
                  have hk2 : k < (newR es xe).length := by rw [newR_len]; exact hkx
                  simp [List.getD_eq_getElem?_getD, List.getElem?_eq_getElem hk2]
                have HRK := Go.Lib.hid hRK
                have t0 : wr.cell? ⟨b10, o10 + k * 6, none⟩ = some (.int .i64 ((newR es xe).getD k noRc).pos) := hhd 0 _ rfl
                have t1 : wr.cell? ⟨b10, o10 + k * 6 + 1, none⟩ = some (.int .i64 ((newR es xe).getD k noRc).ver) := hhd 1 _ rfl
                have t2 : wr.cell? ⟨b4, a4 + k * 4, none⟩ = some (.string (xe.getD k noEv).s) := kc4 _ _ v0
                have t3 : wr.cell? ⟨b4, a4 + k * 4 + 1, none⟩ = some (.string (xe.getD k noEv).t) := by rw [Nat.add_assoc]; exact kc4 _ _ v1
                have t4 : wr.cell? ⟨b4, a4 + k * 4 + 2, none⟩ = some (.slice T nT cT) := by rw [Nat.add_assoc]; exact kc4 _ _ v2
                have t5 : wr.cell? ⟨b4, a4 + k * 4 + 3, none⟩ = some (.slice F nF cF) := by rw [Nat.add_assoc]; exact kc4 _ _ v3
                rw [← hre] at t2 t3 rT rF
                obtain ⟨cw', ocw, hlw, hcw⟩ := zW
                have hnv : nv ≤ 88 := by
                  have h1 : (recF es).length = es.length := rec_len es
                  have h2 : ((newR es xe).take k).length ≤ k := by rw [List.length_take]; omega
                  rw [List.length_append] at hlw
                  omega
                have hN : ∀ a, Av = some a → a.block ≠ g7 ∧ b4 ≠ a.block ∧ b10 ≠ a.block := fun a ha => ⟨(zN a ha).1, (zN a ha).2.1 _ e4, (zN a ha).2.2 _ e10 (by omega)⟩
                subst e4
                have HCW := Go.Lib.hid hcw
                have HLW := Go.Lib.hid hlw
                have RT := Go.Lib.hid rT
                have RF := Go.Lib.hid rF
                have HNN := Go.Lib.hid hN
                clear hhd oc4 hl4 hc4 kc4 v0 v1 v2 v3 rT rF hre hRK hcw hlw zN hN z8
                generalize hrk : (newR es xe).getD k noRc = rk at *
                clear hrk
                have bd : Below wr.heap.size wr wr.drew := ⟨rfl, rfl, rfl, Nat.le_refl _, fun _ _ => rfl⟩
                have pd := PH0.below (kP _ _) (with_keeps (with_keeps (with_keeps kZ (wnT_keeps _ _ _ _ _ _)) kS) kR) bd
                have od := OwnC.below ocw bd
                have Bd := below_chain Bk bd
                have t0 := bcell bd t0
                have t1 := bcell bd t1
                have t2 := bcell bd t2
                have t3 := bcell bd t3
                have t4 := bcell bd t4
                have t5 := bcell bd t5
                have t7 := bcell bd q7
                subst e10
                go_upto_region 24 with (fail)
                refine wp_region_held_drew (S := (fun w' => w'.cell? ⟨b10, o10 + k * 6, none⟩ = some (.int .i64 rk.pos) ∧ w'.cell? ⟨b10, o10 + k * 6 + 1, none⟩ = some (.int .i64 rk.ver) ∧ w'.cell? ⟨g7, 1, none⟩ = some (.slice (some ⟨b4, a4, none⟩) n10 c4) ∧ w'.cell? ⟨b4, a4 + k * 4, none⟩ = some (.string rk.e.s) ∧ w'.cell? ⟨b4, a4 + k * 4 + 1, none⟩ = some (.string rk.e.t) ∧ w'.cell? ⟨b4, a4 + k * 4 + 2, none⟩ = some (.slice T nT cT) ∧ w'.cell? ⟨b4, a4 + k * 4 + 3, none⟩ = some (.slice F nF cF))) (by kernel_rfl) ?_ (fun hHeld => ?_)
                · exact ⟨t0, t1, t7, t2, t3, t4, t5⟩
                generalize wr.drew = wd at *
                refine take_at (i := 0) (d := 89) (v := ?_) rfl rfl (by kernel_rfl) (by kernel_rfl) (by kernel_rfl) (fun _ _ _ h => h) (Or.inl ⟨by rfl, ?hy⟩) (by assumption) ?_
                case hy => (intro wS hSw; (try dsimp only at hSw); first | (go_simp; done) | (go_simp; with_reducible rfl))
                simp only [Act.put, List.setIfInBounds_toArray, List.set_cons_zero, List.set_cons_succ]
                refine take_at (i := 1) (d := 90) (v := ?_) rfl rfl (by kernel_rfl) (by kernel_rfl) (by kernel_rfl) (fun _ _ _ h => h) (Or.inl ⟨by rfl, ?hy⟩) (by assumption) ?_
                case hy => (intro wS hSw; (try dsimp only at hSw); first | (go_simp; done) | (go_simp; with_reducible rfl))
                simp only [Act.put, List.setIfInBounds_toArray, List.set_cons_zero, List.set_cons_succ]
                refine take_at (i := 2) (d := 91) (v := ?_) rfl rfl (by kernel_rfl) (by kernel_rfl) (by kernel_rfl) (fun _ _ _ h => h) (Or.inl ⟨by rfl, ?hy⟩) (by assumption) ?_
                case hy => (intro wS hSw; (try dsimp only at hSw); first | (go_simp; done) | (go_simp; with_reducible rfl))
                simp only [Act.put, List.setIfInBounds_toArray, List.set_cons_zero, List.set_cons_succ]
                refine take_at (i := 3) (d := 92) (v := ?_) rfl rfl (by kernel_rfl) (by kernel_rfl) (by kernel_rfl) (fun _ _ _ h => h) (Or.inl ⟨by rfl, ?hy⟩) (by assumption) ?_
                case hy => (intro wS hSw; (try dsimp only at hSw); first | (go_simp; done) | (go_simp; with_reducible rfl))
                simp only [Act.put, List.setIfInBounds_toArray, List.set_cons_zero, List.set_cons_succ]
                refine take_at (i := 4) (d := 93) (v := ?_) rfl rfl (by kernel_rfl) (by kernel_rfl) (by kernel_rfl) (fun _ _ _ h => h) (Or.inl ⟨by rfl, ?hy⟩) (by assumption) ?_
                case hy => (intro wS hSw; (try dsimp only at hSw); first | (go_simp; done) | (go_simp; with_reducible rfl))
                simp only [Act.put, List.setIfInBounds_toArray, List.set_cons_zero, List.set_cons_succ]
                refine take_at (i := 5) (d := 94) (v := ?_) rfl rfl (by kernel_rfl) (by kernel_rfl) (by kernel_rfl) (fun _ _ _ h => h) (Or.inl ⟨by rfl, ?hy⟩) (by assumption) ?_
                case hy => (intro wS hSw; (try dsimp only at hSw); first | (go_simp; done) | (go_simp; with_reducible rfl))
                simp only [Act.put, List.setIfInBounds_toArray, List.set_cons_zero, List.set_cons_succ]
                refine take_at (i := 6) (d := 95) (v := ?_) rfl rfl (by kernel_rfl) (by kernel_rfl) (by kernel_rfl) (fun _ _ _ h => h) (Or.inl ⟨by rfl, ?hy⟩) (by assumption) ?_
                case hy => (intro wS hSw; (try dsimp only at hSw); first | (go_simp; done) | (go_simp; with_reducible rfl))
                simp only [Act.put, List.setIfInBounds_toArray, List.set_cons_zero, List.set_cons_succ]
                refine take_at (i := 7) (d := 96) (v := ?_) rfl rfl (by kernel_rfl) (by kernel_rfl) (by kernel_rfl) (fun _ _ _ h => h) (Or.inl ⟨by rfl, ?hy⟩) (by assumption) ?_
                case hy => (intro wS hSw; (try dsimp only at hSw); first | (go_simp; done) | (go_simp; with_reducible rfl))
                simp only [Act.put, List.setIfInBounds_toArray, List.set_cons_zero, List.set_cons_succ]
                refine take_at (i := 8) (d := 97) (v := ?_) rfl rfl (by kernel_rfl) (by kernel_rfl) (by kernel_rfl) (fun _ _ _ h => h) (Or.inl ⟨by rfl, ?hy⟩) (by assumption) ?_
                case hy => (intro wS hSw; (try dsimp only at hSw); first | (go_simp; done) | (go_simp; with_reducible rfl))
                simp only [Act.put, List.setIfInBounds_toArray, List.set_cons_zero, List.set_cons_succ]
                refine take_at (i := 9) (d := 98) (v := ?_) rfl rfl (by kernel_rfl) (by kernel_rfl) (by kernel_rfl) (fun _ _ _ h => h) (Or.inl ⟨by rfl, ?hy⟩) (by assumption) ?_
                case hy => (intro wS hSw; (try dsimp only at hSw); first | (go_simp; done) | (go_simp; with_reducible rfl))
                simp only [Act.put, List.setIfInBounds_toArray, List.set_cons_zero, List.set_cons_succ]
                refine take_at (i := 10) (d := 99) (v := ?_) rfl rfl (by kernel_rfl) (by kernel_rfl) (by kernel_rfl) (fun _ _ _ h => h) (Or.inl ⟨by rfl, ?hy⟩) (by assumption) ?_
                case hy => (intro wS hSw; (try dsimp only at hSw); first | (go_simp; done) | (go_simp; with_reducible rfl))
                simp only [Act.put, List.setIfInBounds_toArray, List.set_cons_zero, List.set_cons_succ]
                refine take_at (i := 11) (d := 100) (v := ?_) rfl rfl (by kernel_rfl) (by kernel_rfl) (by kernel_rfl) (fun _ _ _ h => h) (Or.inl ⟨by rfl, ?hy⟩) (by assumption) ?_
                case hy => (intro wS hSw; (try dsimp only at hSw); first | (go_simp; done) | (go_simp; with_reducible rfl))
                simp only [Act.put, List.setIfInBounds_toArray, List.set_cons_zero, List.set_cons_succ]
                refine take_at (i := 12) (d := 101) (v := ?_) rfl rfl (by kernel_rfl) (by kernel_rfl) (by kernel_rfl) (fun _ _ _ h => h) (Or.inl ⟨by rfl, ?hy⟩) (by assumption) ?_
                case hy => (intro wS hSw; (try dsimp only at hSw); first | (go_simp; done) | (go_simp; with_reducible rfl))
                simp only [Act.put, List.setIfInBounds_toArray, List.set_cons_zero, List.set_cons_succ]
                refine take_at (i := 13) (d := 102) (v := ?_) rfl rfl (by kernel_rfl) (by kernel_rfl) (by kernel_rfl) (fun _ _ _ h => h) (Or.inl ⟨by rfl, ?hy⟩) (by assumption) ?_
                case hy => (intro wS hSw; (try dsimp only at hSw); first | (go_simp; done) | (go_simp; with_reducible rfl))
                simp only [Act.put, List.setIfInBounds_toArray, List.set_cons_zero, List.set_cons_succ]
                refine take_at (i := 14) (d := 103) (v := ?_) rfl rfl (by kernel_rfl) (by kernel_rfl) (by kernel_rfl) (fun _ _ _ h => h) (Or.inl ⟨by rfl, ?hy⟩) (by assumption) ?_
                case hy => (intro wS hSw; (try dsimp only at hSw); first | (go_simp; done) | (go_simp; with_reducible rfl))
                simp only [Act.put, List.setIfInBounds_toArray, List.set_cons_zero, List.set_cons_succ]
                refine take_at (i := 15) (d := 104) (v := ?_) rfl rfl (by kernel_rfl) (by kernel_rfl) (by kernel_rfl) (fun _ _ _ h => h) (Or.inl ⟨by rfl, ?hy⟩) (by assumption) ?_
                case hy => (intro wS hSw; (try dsimp only at hSw); first | (go_simp; done) | (go_simp; with_reducible rfl))
                simp only [Act.put, List.setIfInBounds_toArray, List.set_cons_zero, List.set_cons_succ]
                refine take_at (i := 16) (d := 105) (v := ?_) rfl rfl (by kernel_rfl) (by kernel_rfl) (by kernel_rfl) (fun _ _ _ h => h) (Or.inl ⟨by rfl, ?hy⟩) (by assumption) ?_
                case hy => (intro wS hSw; (try dsimp only at hSw); first | (go_simp; done) | (go_simp; with_reducible rfl))
                simp only [Act.put, List.setIfInBounds_toArray, List.set_cons_zero, List.set_cons_succ]
                have al := (Below.refl wd.heap.size wd).alloc (Nat.le_refl _) (.cells #[.int .i64 rk.pos, .int .i64 rk.ver, .string rk.e.s, .string rk.e.t, .slice T nT cT, .slice F nF cF] 49)
                have d17 : RdC 6 (wd.alloc (.cells #[.int .i64 rk.pos, .int .i64 rk.ver, .string rk.e.s, .string rk.e.t, .slice T nT cT, .slice F nF cF] 49)) (some ⟨wd.heap.size, 0, none⟩) 1 1 [.int .i64 rk.pos, .int .i64 rk.ver, .string rk.e.s, .string rk.e.t, .slice T nT cT, .slice F nF cF] := RdC.new wd 49 [.int .i64 rk.pos, .int .i64 rk.ver, .string rk.e.s, .string rk.e.t, .slice T nT cT, .slice F nF cF] rfl (by decide)
                have o17 := OwnC.below od al
                have B17 := below_chain Bd al
                have hone := rc_one rk T F nT cT nF cF
                have p17 := pair_imp th_mv2 (pd.below (kP _ _) (with_keeps (with_keeps (with_keeps kZ (wnT_keeps _ _ _ _ _ _)) kS) kR) al)
                refine wpAnyH_ready (rs := [17]) (by kernel_rfl) (by simp) ?_
                refine AllReadyH.cons rfl (fun K1 hK1 => ?_) AllReadyH.nil
                go_simp
                refine hK1.out _ _ ?_ (fun hH1 => ?_)
                · exact ⟨bcell al t0, bcell al t1, bcell al t7, bcell al t2, bcell al t3, bcell al t4, bcell al t5⟩
                clear hK1 K1
                refine wpAnyH_ready (rs := [18]) (by kernel_rfl) (by simp) ?_
                refine AllReadyH.cons rfl (fun K2 hK2 => ?_) AllReadyH.nil
                refine step_append_cells (by rfl) (.tmp 89) (.tmp 106) 36 rfl 49 (.agg #[.int .i64 0, .int .i64 0, .string ⟨#[]⟩, .string ⟨#[]⟩, .slice none 0 0, .slice none 0 0]) 96 Try.underlying36 rec_info rfl (by decide) rfl rfl o17 d17 hone (by unfold maxLen; omega) (by omega) B17.size ?_
                intro A9 c9 w9 o9 g9 i9
                (try go_simp)
                have hne : ∀ b : Nat, (∀ a, Av = some a → b ≠ a.block) → (some b : Option Nat) ≠ Av.map (·.block) := fun b h e => by
                  cases hv : Av with
                  | none => rw [hv] at e; cases e
                  | some a => rw [hv] at e; injection e with e; exact h a hv e
                have n10' := hne b10 fun a ha => (HNN.out a ha).2.2
                have n7' := hne g7 fun a ha => (HNN.out a ha).1.symm
                have n4' := hne b4 fun a ha => (HNN.out a ha).2.1
                refine hK2.out _ _ ?_ (fun hH2 => ?_)
                · exact ⟨g9.cell (bcell al t0) n10', g9.cell (bcell al t1) n10', g9.cell (bcell al t7) n7', g9.cell (bcell al t2) n4', g9.cell (bcell al t3) n4', g9.cell (bcell al t4) n4', g9.cell (bcell al t5) n4'⟩
                clear hK2 K2
                refine take_at (i := 19) (d := 5) (v := ?_) rfl rfl (by kernel_rfl) (by kernel_rfl) (by kernel_rfl) (fun _ _ _ h => h) (Or.inl ⟨by rfl, ?hy⟩) (by assumption) ?_
                case hy => (intro wS hSw; (try dsimp only at hSw); first | (go_simp; done) | (go_simp; with_reducible rfl))
                simp only [Act.put, List.setIfInBounds_toArray, List.set_cons_zero, List.set_cons_succ]
                refine wpAnyH_done (by kernel_rfl) ?_ _
                obtain ⟨p24, B24⟩ := wn_push (rs' := recF es ++ (newR es xe).take (k + 1)) p17 (kP _ _) (with_keeps (with_keeps kZ kS) kR) B17.size ⟨_, o9, by rw [HRK.out, ← List.append_assoc, List.length_append, HLW.out]; rfl, by rw [HRK.out, ← List.append_assoc]; exact RcsO.snoc RT.out RF.out _ _ HCW.out⟩ g9 i9
                have B25 := B17.trans B24
                have p25 := pair_imp th_mv2' p24
                have q8 : w9.cell? ⟨g8, 1, none⟩ = some (.slice E8 n10 c8) := by rw [cell_of_row w9 g8 1 _ _ _ (z_facts p25).2.2.1]; rfl
                have kW' := wnT_keeps w0 w0.heap.size A9 (nv + 1) c9 (recF es ++ (newR es xe).take (k + 1))
                obtain ⟨b8, a8, s8, t8, T8, nT8, cT8, F8, nF8, cF8, e8, _, m0, m1, m2, m3, cs8⟩ := sp_at (pair_place p25) (kP _ _) (with_keeps (with_keeps kZ kW') kR) B25.size hlt
                have m0 : w9.cell? ⟨b8, a8 + k * 4, none⟩ = some (.string s8) := m0
                have m1 : w9.cell? ⟨b8, a8 + k * 4 + 1, none⟩ = some (.string t8) := m1
                have m2 : w9.cell? ⟨b8, a8 + k * 4 + 2, none⟩ = some (.slice T8 nT8 cT8) := m2
                have m3 : w9.cell? ⟨b8, a8 + k * 4 + 3, none⟩ = some (.slice F8 nF8 cF8) := m3
                have CS8 := Go.Lib.hid cs8
                subst e8
                clear p24 B24 p25 cs8 hH2 hH1 p17 B17 o17 d17 al od pd Bd bd t0 t1 t2 t3 t4 t5 t7 n10' n7' n4' hne o9 g9 i9 ocw HCW HLW RT RF HNN hone q7 PH0 PH z7 Bk
                go_wp2_with fail
                refine (CS8.out).mono ?_
                rintro e w26 ⟨rfl, p26, b26⟩
                have B26 := B25.trans b26
                obtain ⟨b, o, s9, t9, T9, nT9, cT9, F9, nF9, cF9, e9, _, m0, m1, m2, m3, cs9⟩ := sp_at (pair_place p26) (kP _ _) (with_keeps (with_keeps kZ kW') kS) B26.size hlt
                injection e9 with e9
                injection e9 with e9 e9'
                subst e9 e9'
                have CS9 := Go.Lib.hid cs9
                clear CS8 B25 p26 b26 cs9
                go_wp2_with fail
                refine (CS9.out).mono ?_
                rintro e w28 ⟨rfl, p28, b28⟩
                have B28 := B26.trans b28
                clear CS9 B26 b28
                go_wp2_with fail
                go_roundw
                case rel => exact ⟨A9, nv + 1, c9, k + 1, rfl, by go_num, by omega, Go.Lib.hid p28, B28⟩
                case measure => simp [intOf]; omega
              · obtain rfl : k = n10 := by omega
                have i2 : ¬ (k : Int) < (k : Int) := by omega
                have hall : recF es ++ (newR es xe).take k = recF (es ++ xe) := by rw [rec_more, List.take_of_length_le (by rw [newR_len]; omega)]
                have pq := pair_imp th_drop (pair_imp th_drop (pair_imp th_drop (pair_first (pair_first PH.out))))
                rw [hall] at pq
                have hl2 : (es ++ xe).length ≤ 8 * (j + 1) := by
                  have := HL.out.2
                  rw [List.length_append]
                  omega
                have LO2 := Go.Lib.hid HM.out.1
                have kW2 := with_keeps noT_keeps (wnT_keeps w0 w0.heap.size Av nv cv (recF (es ++ xe)))
                clear PH zO z7 z8 zW zN hlt hk hall HM hn4 HN4 k4 k7 hle8 X8 o8 kO kZ kS kR B8 TEN
                generalize es ++ xe = es2 at *
                go_upto_region 27 with (fail)
                go_wp2_with fail
                refine (api.last pq kW2 LO2.out).mono ?_
                rintro e w20 ⟨rfl, p20, b20⟩
                have B20 := below_chain Bk b20
                have CA := Go.Lib.hid (api.all (u := (es2.length : Nat)) p20 kW2 B20.size LO2.out (by omega))
                clear pq Bk b20 p20 q7
                go_wp2_with fail
                refine (CA.out).mono ?_
                rintro e w21 ⟨A21, n21, c21, rfl, p21, b21⟩
                have B21 := below_chain B20 b21
                have hn21 := (pair_ro p21).le
                unfold maxLen at hn21
                have P22 := Go.Lib.hid (pair_imp (th_rght (sp_ro _ _ _ _)) p21)
                have kR2 := spT_keeps A21 n21 c21 6 2 (fun i => [.int .i64 ((allF es2 (es2.length : Nat)).getD i noRc).pos, .int .i64 ((allF es2 (es2.length : Nat)).getD i noRc).ver])
                generalize (fun i => [Value.int .i64 ((allF es2 (es2.length : Nat)).getD i noRc).pos, Value.int .i64 ((allF es2 (es2.length : Nat)).getD i noRc).ver]) = hdf at *
                clear CA B20 p21 b21
                go_wp2_with fail
                go_loopw [15] (fun kv wr => ∃ (k : Nat), kv = .int .i64 (k : Int) ∧ k ≤ n21 ∧ Hid (Pair w0.heap.size wr (Ix g es2) (With (With NoT (WnT w0 w0.heap.size Av nv cv (recF es2))) (SpT A21 n21 c21 6 2 hdf))) ∧ Below w0.heap.size w0 wr) (fun kv _ => n21 - (intOf kv).toNat)
                case atStart => exact ⟨0, rfl, Nat.zero_le _, P22, B21⟩
                case round =>
                  obtain ⟨k2, rfl, hk, PH, Bk⟩ := hrel
                  clear P22 B21 i2
                  by_cases hlt : k2 < n21
                  · have i2 : (k2 : Int) < n21 := by omega
                    obtain ⟨b, o, s9, t9, T9, nT9, cT9, F9, nF9, cF9, e9, _, m0, m1, m2, m3, cs9⟩ := sp_at PH.out (kP _ _) kW2 Bk.size hlt
                    subst e9
                    have CS9 := Go.Lib.hid cs9
                    clear cs9 PH
                    go_wp2_with fail
                    refine (CS9.out).mono ?_
                    rintro e w28 ⟨rfl, p28, b28⟩
                    have B28 := Bk.trans b28
                    clear CS9 Bk b28
                    go_wp2_with fail
                    go_roundw
                    case rel => exact ⟨k2 + 1, by go_num, by omega, Go.Lib.hid p28, B28⟩
                    case measure => simp [intOf]; omega
                  · have i2 : ¬ (k2 : Int) < n21 := by omega
                    have p30 := pair_first PH.out
                    clear PH hlt hk
                    go_wp2_with fail
                    go_roundw
                    case rel => exact ⟨Av, nv, cv, j + 1, es2, rfl, by go_num, by omega, by omega, Go.Lib.hid ⟨LO2.out, hl2⟩, p30, Bk⟩
                    case measure => simp [intOf]; omega
          · have e1 := addB_same hz
            have hco : ((addB es ⟨(es.length : Nat), xe⟩).1 != 0) = true := by rw [bne_iff_ne]; exact hz
            have hes : (addB es ⟨(es.length : Nat), xe⟩).2.2 = es := by rw [e1]
            rw [hes] at p10
            have p11 := pair_first (pair_first (pair_first (pair_first p10)))
            clear p10 e1 hes hz HM
            generalize (addB es ⟨(es.length : Nat), xe⟩).1 = co at *
            go_wp2_with fail
            go_roundw
            case rel => exact ⟨Aw, nw, cw, j + 1, es, rfl, by go_num, by omega, by omega, Go.Lib.hid ⟨HL.out.1, by have := HL.out.2; omega⟩, p11, B10⟩
            case measure => simp [intOf]; omega
    · rw [show decide (j < n1 ∧ j < 10) = false by simpa using hc]
      have hl80 : es.length ≤ 80 := by have := HL.out.2; omega
      clear hc
      go_wp2_with fail
      refine (api.last pj kW HL.out.1).mono ?_
      rintro e w20 ⟨rfl, p20, b20⟩
      have B20 := below_chain Bj b20
      have CA := Go.Lib.hid (api.all (u := (es.length : Nat)) p20 kW B20.size HL.out.1 (by omega))
      clear pj Bj b20 p20
      go_wp2_with fail
      refine (CA.out).mono ?_
      rintro e w21 ⟨A21, n21, c21, rfl, p21, b21⟩
      rw [all_all es (Int.le_refl _)] at p21
      have B21 := below_chain B20 b21
      have CS := Go.Lib.hid (refSame14_any A21 Aw n21 nw c21 cw (recF es) w21 (pair_ro p21) (OwnR.rd (pair_wn (pair_first p21)) B21))
      clear CA B20 p21 b21
      go_wp2_with fail
      refine (CS.out).mono ?_
      rintro e w22 ⟨rfl, b22⟩
      have B22 := below_chain B21 b22
      go_wp2_with fail
      go_ret
      exact ⟨rfl, B22⟩
end

end Go.Proofs.Ytiplfhmimpkplaa.IxWalk

/-
  Layer 14's statements over the values that come in, given what is asked of the landed index.
-/
namespace Go.Proofs.Ytiplfhmimpkplaa.IxWalk
open Go.RowKit Go.WideShapes Go.ChangeShapes Go.Joins Go.Deep Go.Proofs.Ytiplfhmimpkplaa.MemRow Go.Proofs.Ytiplfhmimpkplaa.Ev Go.Proofs.Ytiplfhmimpkplaa.NumMem Go.Proofs.Ytiplfhmimpkplaa.Open Go.Proofs.Ytiplfhmimpkplaa.Qu Go.Proofs.Ytiplfhmimpkplaa.BtWalk

theorem trodOne {H : Type} {enc : TypeId × Value → H} {P : Program} {W : World} {base : Nat} {t : TypeId} {spare : Nat → Bool} {held : Bool} {f0 : Field} {fuel : Nat} {cs : List Value} {x : DataW H × List MemPlace} (ht : P.underlying t = some (.struct #[f0])) (h : DataW.trod enc P W base spare held fuel t cs = some x) :
    ∃ y0 n, DataW.trod enc P W base spare held n f0.type ((cs.drop f0.offset).take (P.cellsOf f0.type)) = some y0 := by
  obtain ⟨xs, n, _, rfl, hl, hlen, hf⟩ := DataW.trod_struct ht h
  match xs, hlen with
  | [y0], _ => exact ⟨y0, n, by simpa using hf 0 f0 rfl⟩
section
variable {H : Type} {enc : TypeId × Value → H}
set_option maxRecDepth 100000 in
/-- An ask that came in. -/
theorem op_ask {W : World} {base : Nat} {v : Value} {d : DataW H} {p : List MemPlace} (ho : Value.okWide Try.prog W .any base 27 v) (h : DataW.Trod enc Try.prog W 0 (fun _ => true) true 27 v d p) :
    ∃ s A n ca q z, v = .agg #[.string s, .slice A n ca, .int .i64 z] ∧ s.size ≤ maxLen ∧ RdQ W A n ca q ∧ QOk q ∧ -9223372036854775808 ≤ z ∧ z ≤ 9223372036854775807 := by
  obtain ⟨v0, v1, v2, y0, y1, y2, n, rfl, _, _, h0, h1, h2⟩ := open_agg3 Try.underlying27 (by kernel_rfl) (by kernel_rfl) ho h
  obtain ⟨s, e0, _, ws⟩ := DataW.trod_string Try.underlying9 h0
  injection e0 with e0
  obtain ⟨z, e2, _, wz⟩ := DataW.trod_int Try.underlying3 h2
  injection e2 with e2
  have b := bounds_i64 wz
  have cc : Try.prog.cellsOf 23 = 1 := by kernel_rfl
  obtain ⟨u, k, hu⟩ := trodOne Try.underlying25 h1
  have hu' : DataW.trod enc Try.prog W 0 (fun _ => true) true k 23 [v1] = some u := by simpa [cc] using hu
  obtain ⟨A, m, ca, q, rfl, hq, hok⟩ := tr_clauses Try.underlying23 Try.underlying57 (by kernel_rfl) rfl rfl (by kernel_rfl) (by kernel_rfl) Try.underlying44 Try.underlying44 Try.underlying9 (by kernel_rfl) Try.underlying9 (by kernel_rfl) hu'
  subst e0 e2
  exact ⟨s, A, m, ca, q, z, rfl, ws, hq, hok, b.1, b.2⟩
set_option maxRecDepth 100000 in
theorem refuses_main' {Ix : Nat → List Ev → DkWalk.Thing} (api : IApi Ix) (W : World) (base : Nat) (v0 v1 : Value) {d0 d1 : DataW H} {p0 p1 : List MemPlace} (o0 : Value.okWide Try.prog W .any base 22 v0) (o1 : Value.okWide Try.prog W .any base 33 v1)
    (h0 : DataW.Trod enc Try.prog W 0 (fun _ => true) true 22 v0 d0 p0) (h1 : DataW.Trod enc Try.prog W 0 (fun _ => true) true 33 v1 d1 p1) :
    Calls Try.prog 5 #[v0, v1] W fun e W' => e = .returned (.bool true) ∧ Below W.heap.size W W' := by
  obtain ⟨A, n, ca, xs, rfl, r, ok⟩ := op_batches o0 h0
  obtain ⟨x, rx, okx⟩ := op_batch o1 h1
  exact refuses_walk api A n ca xs v1 x W r ok rx okx
set_option maxRecDepth 100000 in
theorem icopies_main' {Ix : Nat → List Ev → DkWalk.Thing} {It : Nat → List Ev → Nat → List Ev → DkWalk.Thing} (api : ITwo Ix It) (W : World) (base : Nat) (v0 v1 v2 : Value) {d0 d1 d2 : DataW H} {p0 p1 p2 : List MemPlace} (o0 : Value.okWide Try.prog W .any base 22 v0) (o1 : Value.okWide Try.prog W .any base 22 v1) (o2 : Value.okWide Try.prog W .any base 22 v2)
    (h0 : DataW.Trod enc Try.prog W 0 (fun _ => true) true 22 v0 d0 p0) (h1 : DataW.Trod enc Try.prog W 0 (fun _ => true) true 22 v1 d1 p1) (h2 : DataW.Trod enc Try.prog W 0 (fun _ => true) true 22 v2 d2 p2) :
    Calls Try.prog 7 #[v0, v1, v2] W fun e W' => e = .returned (.bool true) ∧ Below W.heap.size W W' := by
  obtain ⟨A1, n1, c1, l, rfl, r1, k1⟩ := op_batches o0 h0
  obtain ⟨A2, n2, c2, m, rfl, r2, k2⟩ := op_batches o1 h1
  obtain ⟨A3, n3, c3, k, rfl, r3, k3⟩ := op_batches o2 h2
  exact icopies_walk api A1 A2 A3 n1 n2 n3 c1 c2 c3 l m k W r1 r2 r3 k1 k2 k3
set_option maxRecDepth 100000 in
theorem stays_main' {Ix : Nat → List Ev → DkWalk.Thing} (api : IApi Ix) (W : World) (base : Nat) (v0 v1 v2 : Value) {d0 d1 d2 : DataW H} {p0 p1 p2 : List MemPlace} (o0 : Value.okWide Try.prog W .any base 22 v0) (o1 : Value.okWide Try.prog W .any base 22 v1) (o2 : Value.okWide Try.prog W .any base 27 v2)
    (h0 : DataW.Trod enc Try.prog W 0 (fun _ => true) true 22 v0 d0 p0) (h1 : DataW.Trod enc Try.prog W 0 (fun _ => true) true 22 v1 d1 p1) (h2 : DataW.Trod enc Try.prog W 0 (fun _ => true) true 27 v2 d2 p2) :
    Calls Try.prog 3 #[v0, v1, v2] W fun e W' => e = .returned (.bool true) ∧ Below W.heap.size W W' := by
  obtain ⟨A1, n1, c1, l, rfl, r1, k1⟩ := op_batches o0 h0
  obtain ⟨A2, n2, c2, m, rfl, r2, k2⟩ := op_batches o1 h1
  obtain ⟨s, Cq, nq, cq, q, z, rfl, ws, hq, hqo, hz⟩ := op_ask o2 h2
  exact stays_walk api A1 A2 n1 n2 c1 c2 l m s Cq nq cq q z W r1 r2 k1 k2 ws hq hqo hz
set_option maxRecDepth 100000 in
theorem iwhole_main' {Ix : Nat → List Ev → DkWalk.Thing} (api : IApi Ix) (W : World) (base : Nat) (v0 v1 : Value) {d0 d1 : DataW H} {p0 p1 : List MemPlace} (o0 : Value.okWide Try.prog W .any base 22 v0) (o1 : Value.okWide Try.prog W .any base 3 v1)
    (h0 : DataW.Trod enc Try.prog W 0 (fun _ => true) true 22 v0 d0 p0) (h1 : DataW.Trod enc Try.prog W 0 (fun _ => true) true 3 v1 d1 p1) :
    Calls Try.prog 4 #[v0, v1] W fun e W' => e = .returned (.bool true) ∧ Below W.heap.size W W' := by
  obtain ⟨A1, n1, c1, l, rfl, r1, k1⟩ := op_batches o0 h0
  obtain ⟨z, rfl, wz⟩ := op_i64 Try.underlying3 o1 h1
  exact whole_walk api A1 n1 c1 l z W r1 k1 wz
set_option maxRecDepth 100000 in
theorem iown_main' {Ix : Nat → List Ev → DkWalk.Thing} (api : IApi Ix) (W : World) (base : Nat) (v0 : Value) {d0 : DataW H} {p0 : List MemPlace} (o0 : Value.okWide Try.prog W .any base 22 v0)
    (h0 : DataW.Trod enc Try.prog W 0 (fun _ => true) true 22 v0 d0 p0) :
    Calls Try.prog 6 #[v0] W fun e W' => e = .returned (.bool true) ∧ Below W.heap.size W W' := by
  obtain ⟨A1, n1, c1, l, rfl, r1, k1⟩ := op_batches o0 h0
  exact own14_walk api A1 n1 c1 l W r1 k1
end

end Go.Proofs.Ytiplfhmimpkplaa.IxWalk

/-
  Mathematics of layer 13: rising rows of numbers as sets. No walk here.
-/
namespace Go.Proofs.Ytiplfhmimpkplaa.PoWalk
open Go.RowKit

def Inc (l : List Int) : Prop := l.Pairwise (· < ·)
theorem Inc.nil : Inc [] := List.Pairwise.nil
theorem Inc.nodup {l : List Int} (h : Inc l) : l.Nodup := h.imp (fun h => by omega)
theorem Inc.sub {l m : List Int} (h : Inc m) (hs : l.Sublist m) : Inc l := h.sublist hs
/-- Rising rows with the same numbers are the same. -/
theorem inc_ext : ∀ {l m : List Int}, Inc l → Inc m → (∀ x, x ∈ l ↔ x ∈ m) → l = m
  | [], [], _, _, _ => rfl
  | [], y :: m, _, _, h => by have := (h y).2 (by simp); cases this
  | x :: l, [], _, _, h => by have := (h x).1 (by simp); cases this
  | x :: l, y :: m, hl, hm, h => by
    obtain ⟨hx, hl'⟩ := List.pairwise_cons.1 hl
    obtain ⟨hy, hm'⟩ := List.pairwise_cons.1 hm
    have e : x = y := by
      rcases List.mem_cons.1 ((h x).1 (by simp)) with e | e
      · exact e
      · rcases List.mem_cons.1 ((h y).2 (by simp)) with e2 | e2
        · exact e2.symm
        · have := hx y e2
          have := hy x e
          omega
    subst e
    congr 1
    refine inc_ext hl' hm' fun z => ?_
    constructor
    · intro hz
      rcases List.mem_cons.1 ((h z).1 (List.mem_cons_of_mem _ hz)) with e | e
      · have := hx z hz; omega
      · exact e
    · intro hz
      rcases List.mem_cons.1 ((h z).2 (List.mem_cons_of_mem _ hz)) with e | e
      · have := hy z hz; omega
      · exact e
def bothF (a b : List Int) : List Int := a.filter fun x => decide (x ∈ b)
theorem both_mem {a b : List Int} {x : Int} : x ∈ bothF a b ↔ x ∈ a ∧ x ∈ b := by unfold bothF; rw [List.mem_filter]; simp
theorem both_inc {a : List Int} (h : Inc a) (b : List Int) : Inc (bothF a b) := h.sub List.filter_sublist
theorem both_len (a b : List Int) : (bothF a b).length ≤ a.length := List.length_filter_le _ _
/-- A number is laid into a rising row. -/
def insI (x : Int) : List Int → List Int
  | [] => [x]
  | y :: l => if x < y then x :: y :: l else if x = y then y :: l else y :: insI x l
theorem ins_mem (x : Int) : ∀ (l : List Int) (z : Int), z ∈ insI x l ↔ z = x ∨ z ∈ l
  | [], z => by simp [insI]
  | y :: l, z => by
    unfold insI
    by_cases h1 : x < y
    · rw [if_pos h1]; simp
    · rw [if_neg h1]
      by_cases h2 : x = y
      · rw [if_pos h2]
        subst h2
        simp
      · rw [if_neg h2, List.mem_cons, ins_mem x l z, List.mem_cons]
        constructor
        · rintro (h | h | h)
          · exact .inr (.inl h)
          · exact .inl h
          · exact .inr (.inr h)
        · rintro (h | h | h)
          · exact .inr (.inl h)
          · exact .inl h
          · exact .inr (.inr h)
theorem ins_inc (x : Int) : ∀ {l : List Int}, Inc l → Inc (insI x l)
  | [], _ => by simp [insI, Inc]
  | y :: l, h => by
    obtain ⟨hy, hl⟩ := List.pairwise_cons.1 h
    unfold insI
    by_cases h1 : x < y
    · rw [if_pos h1]
      refine List.pairwise_cons.2 ⟨fun z hz => ?_, h⟩
      rcases List.mem_cons.1 hz with rfl | hz
      · exact h1
      · have := hy z hz; omega
    · rw [if_neg h1]
      by_cases h2 : x = y
      · rw [if_pos h2]; exact h
      · rw [if_neg h2]
        refine List.pairwise_cons.2 ⟨fun z hz => ?_, ins_inc x hl⟩
        rcases (ins_mem x l z).1 hz with rfl | hz
        · omega
        · exact hy z hz
def eitherF (a b : List Int) : List Int := a.foldr insI b
theorem either_mem {a b : List Int} {x : Int} : x ∈ eitherF a b ↔ x ∈ a ∨ x ∈ b := by
  induction a with
  | nil => simp [eitherF]
  | cons y a ih =>
    show x ∈ insI y (eitherF a b) ↔ _
    rw [ins_mem, ih, List.mem_cons, or_assoc]
theorem either_inc (a : List Int) {b : List Int} (h : Inc b) : Inc (eitherF a b) := by
  induction a with
  | nil => exact h
  | cons y a ih => exact ins_inc y ih
theorem ins_has {x : Int} {l : List Int} (h : Inc l) (hx : x ∈ l) : insI x l = l := inc_ext (ins_inc x h) h fun z => by
  rw [ins_mem]
  constructor
  · rintro (rfl | h)
    · exact hx
    · exact h
  · exact .inr
theorem ins_len (x : Int) : ∀ (l : List Int), x ∉ l → (insI x l).length = l.length + 1
  | [], _ => rfl
  | y :: l, h => by
    unfold insI
    by_cases h1 : x < y
    · rw [if_pos h1]; rfl
    · rw [if_neg h1, if_neg (fun e => h (by rw [e]; simp)), List.length_cons, ins_len x l (fun e => h (List.mem_cons_of_mem _ e)), List.length_cons]
theorem both_either {a b : List Int} (ha : Inc a) (hb : Inc b) : (bothF a b).length + (eitherF a b).length = a.length + b.length := by
  induction a with
  | nil => simp [bothF, eitherF]
  | cons x a ih =>
    obtain ⟨hx, ha'⟩ := List.pairwise_cons.1 ha
    have h1 := ih ha'
    have hn : x ∉ a := fun h => by have := hx x h; omega
    have e2 : eitherF (x :: a) b = insI x (eitherF a b) := rfl
    by_cases hxb : x ∈ b
    · have e1 : bothF (x :: a) b = x :: bothF a b := by unfold bothF; rw [List.filter_cons_of_pos (by simpa using hxb)]
      rw [e1, e2, ins_has (either_inc a hb) (either_mem.2 (.inr hxb)), List.length_cons, List.length_cons]
      omega
    · have e1 : bothF (x :: a) b = bothF a b := by unfold bothF; rw [List.filter_cons_of_neg (by simpa using hxb)]
      rw [e1, e2, ins_len x _ (fun h => (either_mem.1 h).elim hn hxb), List.length_cons]
      omega
theorem either_len {a b : List Int} (ha : Inc a) (hb : Inc b) : (eitherF a b).length ≤ a.length + b.length := by have := both_either ha hb; omega
theorem both_comm {a b : List Int} (ha : Inc a) (hb : Inc b) : bothF b a = bothF a b := inc_ext (both_inc hb a) (both_inc ha b) fun x => by rw [both_mem, both_mem]; exact And.comm
theorem either_comm {a b : List Int} (ha : Inc a) (hb : Inc b) : eitherF b a = eitherF a b := inc_ext (either_inc b ha) (either_inc a hb) fun x => by rw [either_mem, either_mem]; exact Or.comm
theorem both_self {a : List Int} (ha : Inc a) : bothF a a = a := inc_ext (both_inc ha a) ha fun x => by rw [both_mem]; simp
theorem both_assoc {a b c : List Int} (ha : Inc a) : bothF (bothF a b) c = bothF a (bothF b c) := inc_ext (both_inc (both_inc ha b) c) (both_inc ha _) fun x => by rw [both_mem, both_mem, both_mem, both_mem, and_assoc]
theorem either_assoc {a b c : List Int} (hc : Inc c) : eitherF (eitherF a b) c = eitherF a (eitherF b c) := inc_ext (either_inc _ hc) (either_inc a (either_inc b hc)) fun x => by rw [either_mem, either_mem, either_mem, either_mem, or_assoc]
theorem both_dist {a b c : List Int} (ha : Inc a) : bothF a (eitherF b c) = eitherF (bothF a b) (bothF a c) := inc_ext (both_inc ha _) (either_inc _ (both_inc ha c)) fun x => by rw [both_mem, either_mem, either_mem, both_mem, both_mem, and_or_left]
theorem either_abs {a b : List Int} (ha : Inc a) : eitherF a (bothF a b) = a := inc_ext (either_inc a (both_inc ha b)) ha fun x => by
  rw [either_mem, both_mem]
  constructor
  · rintro (h | h)
    · exact h
    · exact h.1
  · exact .inl

/-! ### The document's Either, as it reckons -/
def lowF (b : List Int) (i : Nat) (x : Int) : Bool := decide (i = 0 ∨ b.getD (i - 1) 0 < x)
def stepF (a b : List Int) (i : Nat) : List Int := (a.filter fun x => decide (x < b.getD i 0) && lowF b i x) ++ [b.getD i 0]
def outF (a b : List Int) : Nat → List Int
  | 0 => []
  | i + 1 => outF a b i ++ stepF a b i
def refE (a b : List Int) : List Int := outF a b b.length ++ a.filter fun x => decide (b.length = 0 ∨ b.getD (b.length - 1) 0 < x)
theorem getI_mem {b : List Int} {i : Nat} (h : i < b.length) : b.getD i 0 ∈ b := by
  simp only [List.getD, List.getElem?_eq_getElem h, Option.getD_some]
  exact List.getElem_mem h
theorem inc_lt {b : List Int} (h : Inc b) {i j : Nat} (hij : i < j) (hj : j < b.length) : b.getD i 0 < b.getD j 0 := by
  have h1 := List.pairwise_iff_getElem.1 h i j (by omega) hj hij
  simpa [List.getD, List.getElem?_eq_getElem hj, List.getElem?_eq_getElem (show i < b.length by omega)] using h1
theorem out_all {a b : List Int} (ha : Inc a) (hb : Inc b) : ∀ i, i ≤ b.length → Inc (outF a b i) ∧ (∀ x ∈ outF a b i, 0 < i ∧ x ≤ b.getD (i - 1) 0) ∧ ∀ x, x ∈ outF a b i ↔ (0 < i ∧ x ∈ a ∧ x ≤ b.getD (i - 1) 0) ∨ x ∈ b.take i
  | 0, _ => ⟨Inc.nil, fun x h => (by cases h), fun x => by simp [outF]⟩
  | i + 1, hi => by
    obtain ⟨h1, h2, h3⟩ := out_all ha hb i (by omega)
    have hst : ∀ x, x ∈ stepF a b i ↔ (x ∈ a ∧ x < b.getD i 0 ∧ (i = 0 ∨ b.getD (i - 1) 0 < x)) ∨ x = b.getD i 0 := fun x => by
      unfold stepF lowF
      rw [List.mem_append, List.mem_filter, List.mem_singleton, Bool.and_eq_true, decide_eq_true_eq, decide_eq_true_eq]
    have hle : ∀ x ∈ stepF a b i, x ≤ b.getD i 0 := fun x hx => by
      rcases (hst x).1 hx with ⟨_, h, _⟩ | h <;> omega
    have hgt : ∀ x ∈ stepF a b i, i = 0 ∨ b.getD (i - 1) 0 < x := fun x hx => by
      rcases (hst x).1 hx with ⟨_, _, h⟩ | h
      · exact h
      · by_cases h0 : i = 0
        · exact .inl h0
        · exact .inr (by rw [h]; exact inc_lt hb (by omega) (by omega))
    refine ⟨List.pairwise_append.2 ⟨h1, ?_, fun x hx y hy => ?_⟩, fun x hx => ⟨by omega, ?_⟩, fun x => ?_⟩
    · refine List.pairwise_append.2 ⟨ha.sub List.filter_sublist, by simp, fun x hx y hy => ?_⟩
      rw [List.mem_singleton] at hy
      rw [List.mem_filter, Bool.and_eq_true, decide_eq_true_eq] at hx
      rw [hy]
      exact hx.2.1
    · have a1 := h2 x hx
      rcases hgt y hy with h | h <;> omega
    · show x ≤ b.getD i 0
      rcases List.mem_append.1 hx with hx | hx
      · have a1 := h2 x hx
        have a2 := inc_lt hb (show i - 1 < i by omega) (show i < b.length by omega)
        omega
      · exact hle x hx
    · show x ∈ outF a b i ++ stepF a b i ↔ _
      have et : b.take (i + 1) = b.take i ++ [b.getD i 0] := by
        rw [List.take_add_one]
        simp [List.getD, List.getElem?_eq_getElem (show i < b.length by omega)]
      rw [List.mem_append, h3, hst, et, List.mem_append, List.mem_singleton, show i + 1 - 1 = i by omega]
      have hlt : 0 < i → b.getD (i - 1) 0 < b.getD i 0 := fun h => inc_lt hb (by omega) (by omega)
      constructor
      · rintro ((⟨p1, p2, p3⟩ | p) | (⟨p1, p2, p3⟩ | p))
        · exact .inl ⟨by omega, p2, by have := hlt p1; omega⟩
        · exact .inr (.inl p)
        · exact .inl ⟨by omega, p1, by omega⟩
        · exact .inr (.inr p)
      · rintro (⟨_, p2, p3⟩ | p | p)
        · by_cases e : x = b.getD i 0
          · exact .inr (.inr e)
          · by_cases h0 : i = 0
            · exact .inr (.inl ⟨p2, by omega, .inl h0⟩)
            · by_cases hx : b.getD (i - 1) 0 < x
              · exact .inr (.inl ⟨p2, by omega, .inr hx⟩)
              · exact .inl (.inl ⟨by omega, p2, by omega⟩)
        · exact .inl (.inr p)
        · exact .inr (.inr p)
theorem refE_eq {a b : List Int} (ha : Inc a) (hb : Inc b) : refE a b = eitherF a b := by
  obtain ⟨h1, h2, h3⟩ := out_all ha hb b.length (Nat.le_refl _)
  refine inc_ext (List.pairwise_append.2 ⟨h1, ha.sub List.filter_sublist, fun x hx y hy => ?_⟩) (either_inc a hb) fun x => ?_
  · have a1 := h2 x hx
    rw [List.mem_filter, decide_eq_true_eq] at hy
    rcases hy.2 with h | h <;> omega
  · unfold refE
    rw [List.mem_append, h3, List.mem_filter, decide_eq_true_eq, List.take_length, either_mem]
    constructor
    · rintro ((⟨_, p, _⟩ | p) | ⟨p, _⟩)
      · exact .inl p
      · exact .inr p
      · exact .inl p
    · rintro (p | p)
      · by_cases h0 : b.length = 0
        · exact .inr ⟨p, .inl h0⟩
        · by_cases hx : b.getD (b.length - 1) 0 < x
          · exact .inr ⟨p, .inr hx⟩
          · exact .inl (.inl ⟨by omega, p, by omega⟩)
      · exact .inl (.inr p)

end Go.Proofs.Ytiplfhmimpkplaa.PoWalk

/-
  Layer 13: rows of events whose own rows are older; events at positions, as data.
-/
namespace Go.Proofs.Ytiplfhmimpkplaa.PoWalk
open Go.RowKit Go.Proofs.Ytiplfhmimpkplaa.MemRow Go.Proofs.Ytiplfhmimpkplaa.Ev Go.Proofs.Ytiplfhmimpkplaa.NameMath Go.Proofs.Ytiplfhmimpkplaa.NameWalk Go.Proofs.Ytiplfhmimpkplaa.EvWalk Go.Proofs.Ytiplfhmimpkplaa.NumMem Go.Proofs.Ytiplfhmimpkplaa.Qu Go.Proofs.Ytiplfhmimpkplaa.QuWalk

/-- A row that holds events whose own rows are as world w0 has them. -/
def EvsR (w0 : World) : List Ev → List Value → Prop
  | [], cs => cs = []
  | e :: es, cs => ∃ T nT cT F nF cF cs', cs = .string e.s :: .string e.t :: .slice T nT cT :: .slice F nF cF :: cs' ∧ RdS w0 T nT cT e.tags ∧ RdF w0 F nF cF e.fs ∧ EvsR w0 es cs'
theorem EvsR.snoc {w : World} {e : Ev} {T F : Option Addr} {nT cT nF cF : Nat} (o1 : RdS w T nT cT e.tags) (o2 : RdF w F nF cF e.fs) :
    ∀ (es : List Ev) (cs : List Value), EvsR w es cs → EvsR w (es ++ [e]) (cs ++ [.string e.s, .string e.t, .slice T nT cT, .slice F nF cF])
  | [], cs, h => by
    obtain rfl : cs = [] := h
    exact ⟨T, nT, cT, F, nF, cF, [], rfl, o1, o2, rfl⟩
  | x :: es, cs, ⟨T1, n1, c1, F1, m1, d1, cs', hc, p1, p2, h⟩ => by
    subst hc
    exact ⟨T1, n1, c1, F1, m1, d1, cs' ++ [.string e.s, .string e.t, .slice T nT cT, .slice F nF cF], rfl, p1, p2, EvsR.snoc o1 o2 es cs' h⟩
theorem EvsR.at_ {w : World} : ∀ (es : List Ev) (cs : List Value), EvsR w es cs → ∀ i, i < es.length →
    ∃ T nT cT F nF cF, cs[i * 4]? = some (.string (es.getD i noEv).s) ∧ cs[i * 4 + 1]? = some (.string (es.getD i noEv).t) ∧ cs[i * 4 + 2]? = some (.slice T nT cT) ∧ cs[i * 4 + 3]? = some (.slice F nF cF) ∧ RdS w T nT cT (es.getD i noEv).tags ∧ RdF w F nF cF (es.getD i noEv).fs
  | [], _, _, i, hi => by simp at hi
  | e :: es, cs, ⟨T, nT, cT, F, nF, cF, cs', hc, o1, o2, h⟩, i, hi => by
    subst hc
    cases i with
    | zero => exact ⟨T, nT, cT, F, nF, cF, rfl, rfl, rfl, rfl, o1, o2⟩
    | succ i =>
      obtain ⟨T1, n1, c1, F1, m1, d1, q0, q1, q2, q3, p1, p2⟩ := EvsR.at_ es cs' h i (by simpa using hi)
      have e4 : (i + 1) * 4 = i * 4 + 4 := by omega
      rw [e4]
      exact ⟨T1, n1, c1, F1, m1, d1, by simpa using q0, by simpa using q1, by simpa using q2, by simpa using q3, by simpa using p1, by simpa using p2⟩
theorem EvsR.one {w : World} : ∀ (es : List Ev) (cs : List Value), EvsR w es cs → ∀ v ∈ cs, v.oneCell' = true
  | [], cs, h, v, hv => by
    obtain rfl : cs = [] := h
    simp at hv
  | _ :: es, cs, ⟨T, nT, cT, Y, nY, cY, cs', e, _, _, h⟩, v, hv => by
    subst e
    simp only [List.mem_cons] at hv
    rcases hv with rfl | rfl | rfl | rfl | hv
    · rfl
    · rfl
    · rfl
    · rfl
    · exact EvsR.one es cs' h v hv

/-! ### Events at positions -/
abbrev Ls := List (Ev × Int)
def posP (p : Ev → Bool) (L : Ls) : List Int := (L.filter fun x => p x.1).map (·.2)
def tagP (L : Ls) (t : ByteArray) : List Int := posP (fun e => hasB e.tags t) L
def typP (L : Ls) (t : ByteArray) : List Int := posP (fun e => decide (e.t = t)) L
def upF (u : Int) (l : List Int) : List Int := l.filter fun x => decide (x ≤ u)
def findP (L : Ls) (q : List Cl) (u : Int) : List Int := upF u (posP (matchQ q) L)
def lastL (L : Ls) : Int := match L.getLast? with | some x => x.2 | none => 0
def addL (L : Ls) (e : Ev) (p : Int) : Int × Ls := if p < 1 ∨ p ≤ lastL L then (1, L) else (0, L ++ [(e, p)])
structure LOk (L : Ls) : Prop where
  inc : L.Pairwise fun a b => a.2 < b.2
  pos : ∀ x ∈ L, 1 ≤ x.2
  hi : ∀ x ∈ L, x.2 ≤ 9223372036854775807
  len : L.length ≤ 400
theorem LOk.nil : LOk [] := ⟨List.Pairwise.nil, (fun _ h => by cases h), (fun _ h => by cases h), (by decide)⟩
theorem posP_nil (p : Ev → Bool) : posP p [] = [] := rfl
theorem posP_append (p : Ev → Bool) (L M : Ls) : posP p (L ++ M) = posP p L ++ posP p M := by simp [posP]
theorem posP_one (p : Ev → Bool) (e : Ev) (x : Int) : posP p [(e, x)] = if p e = true then [x] else [] := by
  by_cases h : p e = true
  · rw [if_pos h]; simp [posP, h]
  · rw [if_neg h]; simp [posP, h]
theorem posP_mem {p : Ev → Bool} {L : Ls} {x : Int} : x ∈ posP p L ↔ ∃ e, (e, x) ∈ L ∧ p e = true := by
  unfold posP
  rw [List.mem_map]
  constructor
  · rintro ⟨y, hy, rfl⟩
    obtain ⟨h1, h2⟩ := List.mem_filter.1 hy
    exact ⟨y.1, h1, h2⟩
  · rintro ⟨e, h1, h2⟩
    exact ⟨(e, x), List.mem_filter.2 ⟨h1, h2⟩, rfl⟩
theorem posP_len (p : Ev → Bool) (L : Ls) : (posP p L).length ≤ L.length := by
  unfold posP
  rw [List.length_map]
  exact List.length_filter_le _ _
theorem posP_inc {L : Ls} (h : LOk L) (p : Ev → Bool) : Inc (posP p L) := by
  unfold posP Inc
  rw [List.pairwise_map]
  exact h.inc.sublist List.filter_sublist
theorem up_mem {u : Int} {l : List Int} {x : Int} : x ∈ upF u l ↔ x ∈ l ∧ x ≤ u := by unfold upF; rw [List.mem_filter]; simp
theorem up_inc {l : List Int} (h : Inc l) (u : Int) : Inc (upF u l) := h.sub List.filter_sublist
theorem up_all {u : Int} {l : List Int} (h : ∀ x ∈ l, x ≤ u) : upF u l = l := by
  unfold upF
  rw [List.filter_eq_self]
  intro x hx
  simpa using h x hx
theorem find_inc {L : Ls} (h : LOk L) (q : List Cl) (u : Int) : Inc (findP L q u) := up_inc (posP_inc h _) u
theorem find_mem {L : Ls} {q : List Cl} {u x : Int} : x ∈ findP L q u ↔ (∃ e, (e, x) ∈ L ∧ matchQ q e = true) ∧ x ≤ u := by
  unfold findP
  rw [up_mem, posP_mem]
theorem find_len (L : Ls) (q : List Cl) (u : Int) : (findP L q u).length ≤ L.length := Nat.le_trans (List.length_filter_le _ _) (posP_len _ L)
theorem lastL_snoc (L : Ls) (x : Ev × Int) : lastL (L ++ [x]) = x.2 := by simp [lastL]
theorem lastL_le {L : Ls} (h : LOk L) : ∀ x ∈ L, x.2 ≤ lastL L := by
  rcases List.eq_nil_or_concat L with rfl | ⟨M, y, rfl⟩
  · intro x hx; cases hx
  · intro x hx
    rw [List.concat_eq_append, lastL_snoc]
    have hp := h.inc
    rw [List.concat_eq_append] at hp hx
    rcases List.mem_append.1 hx with hx | hx
    · have := (List.pairwise_append.1 hp).2.2 x hx y (by simp)
      omega
    · rw [List.mem_singleton] at hx
      rw [hx]
      omega
theorem addL_yes {L : Ls} {e : Ev} {p : Int} (h1 : 1 ≤ p) (h2 : lastL L < p) : addL L e p = (0, L ++ [(e, p)]) := by
  unfold addL
  rw [if_neg (by omega)]
theorem addL_len (L : Ls) (e : Ev) (p : Int) : (addL L e p).2.length ≤ L.length + 1 := by
  unfold addL
  split <;> simp
theorem addL_ok {L : Ls} (h : LOk L) (e : Ev) {p : Int} (hp : p ≤ 9223372036854775807) (hl : L.length < 200) : LOk (addL L e p).2 := by
  unfold addL
  by_cases hc : p < 1 ∨ p ≤ lastL L
  · rw [if_pos hc]; exact h
  · rw [if_neg hc]
    refine ⟨List.pairwise_append.2 ⟨h.inc, by simp, fun a ha b hb => ?_⟩, fun x hx => ?_, fun x hx => ?_, by simp; omega⟩
    · rw [List.mem_singleton] at hb
      rw [hb]
      have := lastL_le h a ha
      show a.2 < p
      omega
    · rcases List.mem_append.1 hx with hx | hx
      · exact h.pos x hx
      · rw [List.mem_singleton] at hx
        rw [hx]
        show 1 ≤ p
        omega
    · rcases List.mem_append.1 hx with hx | hx
      · exact h.hi x hx
      · rw [List.mem_singleton] at hx
        rw [hx]
        exact hp
theorem ls_take (L : Ls) (j : Nat) (h : j < L.length) : L.take (j + 1) = L.take j ++ [L.getD j (noEv, 0)] := by
  rw [List.take_add_one]
  simp [List.getD, List.getElem?_eq_getElem h]
theorem posP_step (p : Ev → Bool) (L : Ls) {j : Nat} (h : j < L.length) : posP p (L.take (j + 1)) = posP p (L.take j) ++ (if p (L.getD j (noEv, 0)).1 = true then [(L.getD j (noEv, 0)).2] else []) := by
  rw [ls_take L j h, posP_append, posP_one]

end Go.Proofs.Ytiplfhmimpkplaa.PoWalk

/-
  Mathematics of the landed index: its log as a table of streams, as events at positions; records by their positions. No walk here.
-/
namespace Go.Proofs.Ytiplfhmimpkplaa.IxWalk
open Go.RowKit Go.Proofs.Ytiplfhmimpkplaa.MemRow Go.Proofs.Ytiplfhmimpkplaa.Ev Go.Proofs.Ytiplfhmimpkplaa.NameMath Go.Proofs.Ytiplfhmimpkplaa.NameWalk Go.Proofs.Ytiplfhmimpkplaa.EvWalk Go.Proofs.Ytiplfhmimpkplaa.Qu Go.Proofs.Ytiplfhmimpkplaa.QuWalk Go.Proofs.Ytiplfhmimpkplaa.SmWalk Go.Proofs.Ytiplfhmimpkplaa.PoWalk

/-- A log's events at their positions. -/
def logL (es : List Ev) : Ls := es.mapIdx fun i e => (e, (i : Int) + 1)
theorem logL_nil : logL [] = [] := rfl
theorem logL_snoc (es : List Ev) (e : Ev) : logL (es ++ [e]) = logL es ++ [(e, (es.length : Int) + 1)] := by simp [logL, List.mapIdx_append]
theorem logL_len (es : List Ev) : (logL es).length = es.length := by simp [logL]
theorem logL_last (es : List Ev) : lastL (logL es) = es.length := by
  induction es using snoc_ind with
  | h0 => rfl
  | h1 es e _ =>
    rw [logL_snoc, lastL_snoc, List.length_append, List.length_singleton]
    simp
theorem logL_pos {es : List Ev} : ∀ x ∈ logL es, 1 ≤ x.2 ∧ x.2 ≤ es.length := by
  induction es using snoc_ind with
  | h0 => intro x h; cases h
  | h1 es e ih =>
    intro x h
    rw [logL_snoc] at h
    rw [List.length_append, List.length_singleton]
    rcases List.mem_append.1 h with h | h
    · have := ih x h
      omega
    · obtain rfl := List.mem_singleton.1 h
      exact ⟨by simp only []; omega, by simp only []; omega⟩
theorem logL_ok {es : List Ev} (h : es.length ≤ 400) : LOk (logL es) := by
  refine ⟨?_, fun x hx => (logL_pos x hx).1, fun x hx => by have := (logL_pos x hx).2; omega, by rw [logL_len]; exact h⟩
  clear h
  induction es using snoc_ind with
  | h0 => exact List.Pairwise.nil
  | h1 es e ih =>
    rw [logL_snoc]
    refine List.pairwise_append.2 ⟨ih, List.pairwise_singleton _ _, fun x hx y hy => ?_⟩
    obtain rfl := List.mem_singleton.1 hy
    have := logL_pos x hx
    simp only []
    omega
theorem logL_add (es : List Ev) (e : Ev) : addL (logL es) e ((es.length : Int) + 1) = (0, logL (es ++ [e])) := by
  rw [logL_snoc]
  exact addL_yes (by omega) (by rw [logL_last]; omega)
theorem strs_snoc (es : List Ev) (e : Ev) : strs (es ++ [e]) = strs es ++ [e.s] := by simp
theorem tab_add (es : List Ev) (e : Ev) : addF (seqT (strs es)) e.s ((es.length : Int) + 1) = ((cnt (strs es) e.s : Int) + 1, 0, seqT (strs (es ++ [e]))) := by
  have h := seq_add (strs es) e.s
  rw [List.length_map] at h
  rw [strs_snoc]
  exact h
theorem tab_ok {es : List Ev} (h : es.length ≤ 400) (hs : ∀ e ∈ es, e.s.size ≤ maxLen) : TOk (seqT (strs es)) := seq_ok4 (by rw [List.length_map]; exact h) fun s hs' => by
  obtain ⟨e, he, rfl⟩ := List.mem_map.1 hs'
  exact hs e he

/-! ### Records by their positions -/
/-- The record at a position. -/
def recA (es : List Ev) (p : Int) : Rc := (recF es).getD (p - 1).toNat noRc
theorem recA_self {es : List Ev} {x : Rc} (h : x ∈ recF es) : recA es x.pos = x := by
  obtain ⟨i, hi, rfl⟩ := List.mem_iff_getElem.1 h
  have e : ((recF es)[i]).pos = (i : Int) + 1 := by simp [recF]
  unfold recA
  rw [e, show ((i : Int) + 1 - 1).toNat = i by omega, List.getD_eq_getElem?_getD, List.getElem?_eq_getElem hi, Option.getD_some]
theorem tell_at (p : Ev → Bool) (es : List Ev) (u : Int) : tellF p es u = ((tellF p es u).map (·.pos)).map (recA es) := by
  rw [List.map_map]
  conv => lhs; rw [← List.map_id (tellF p es u)]
  refine List.map_congr_left fun x hx => ?_
  exact (recA_self (tell_mem.1 hx).1).symm
theorem str_pos (es : List Ev) (n : ByteArray) (u : Int) : (strF es n u).map (·.pos) = posF (seqT (strs es)) n u := by
  unfold strF
  induction es using snoc_ind with
  | h0 => rfl
  | h1 es e ih =>
    rw [tell_snoc, List.map_append, ih, strs_snoc, seq_snoc, posF_append, posF_cons, posF_nil, List.append_nil, List.length_map]
    congr 1
    by_cases h : e.s = n ∧ (es.length : Int) + 1 ≤ u
    · rw [if_pos ⟨h.2, by simpa using h.1⟩, if_pos h]; rfl
    · rw [if_neg (fun h2 => h ⟨by simpa using h2.2, h2.1⟩), if_neg h]
      rfl
theorem find_snoc (L : Ls) (e : Ev) (x : Int) (q : List Cl) (u : Int) : findP (L ++ [(e, x)]) q u = findP L q u ++ (if matchQ q e = true ∧ x ≤ u then [x] else []) := by
  unfold findP upF
  rw [posP_append, posP_one, List.filter_append]
  congr 1
  by_cases h : matchQ q e = true
  · rw [if_pos h]
    by_cases h2 : x ≤ u
    · rw [if_pos ⟨h, h2⟩]; simp [h2]
    · rw [if_neg fun h3 => h2 h3.2]; simp [h2]
  · rw [if_neg h, if_neg fun h3 => h h3.1]; rfl
theorem qry_pos (es : List Ev) (q : List Cl) (u : Int) : (qryF es q u).map (·.pos) = findP (logL es) q u := by
  unfold qryF
  induction es using snoc_ind with
  | h0 => rfl
  | h1 es e ih =>
    rw [tell_snoc, List.map_append, ih, logL_snoc, find_snoc]
    congr 1
    by_cases h : (es.length : Int) + 1 ≤ u ∧ matchQ q e = true
    · rw [if_pos h, if_pos ⟨h.2, h.1⟩]; rfl
    · rw [if_neg h, if_neg (fun h2 => h ⟨h2.2, h2.1⟩)]; rfl
theorem str_by (es : List Ev) (n : ByteArray) (u : Int) : strF es n u = (posF (seqT (strs es)) n u).map (recA es) := by rw [← str_pos]; exact tell_at _ es u
theorem qry_by (es : List Ev) (q : List Cl) (u : Int) : qryF es q u = (findP (logL es) q u).map (recA es) := by rw [← qry_pos]; exact tell_at _ es u
theorem str_in {es : List Ev} {n : ByteArray} {u x : Int} (h : x ∈ posF (seqT (strs es)) n u) : 1 ≤ x ∧ x ≤ es.length := by
  rw [← str_pos] at h
  obtain ⟨y, hy, rfl⟩ := List.mem_map.1 h
  exact rec_pos y (tell_mem.1 hy).1
theorem qry_in {es : List Ev} {q : List Cl} {u x : Int} (h : x ∈ findP (logL es) q u) : 1 ≤ x ∧ x ≤ es.length := by
  rw [← qry_pos] at h
  obtain ⟨y, hy, rfl⟩ := List.mem_map.1 h
  exact rec_pos y (tell_mem.1 hy).1

/-! ### How many up to a position -/
/-- max(0, min(u, n)) -/
def cntU (u : Int) (n : Nat) : Nat := if u < 0 then 0 else if (n : Int) < u then n else u.toNat
theorem cntU_le (u : Int) (n : Nat) : cntU u n ≤ n := by
  unfold cntU
  split
  · omega
  · split <;> omega
theorem cntU_eq (u : Int) (n : Nat) : max 0 (min u (n : Int)) = (cntU u n : Int) := by
  unfold cntU
  split
  · omega
  · split <;> omega
theorem all_by (es : List Ev) (u : Int) : allF es u = (recF es).take (cntU u es.length) := by
  unfold allF
  induction es using snoc_ind with
  | h0 => simp [tell_nil, rec_nil]
  | h1 es e ih =>
    rw [tell_snoc, ih, rec_snoc, List.length_append, List.length_singleton]
    have hl := rec_len es
    by_cases h : (es.length : Int) + 1 ≤ u
    · rw [if_pos ⟨h, rfl⟩]
      have e1 : cntU u es.length = es.length := by unfold cntU; split; omega; split <;> omega
      have e2 : cntU u (es.length + 1) = es.length + 1 := by unfold cntU; split; omega; split <;> omega
      rw [e1, e2, List.take_of_length_le (by omega), List.take_of_length_le (by rw [List.length_append, List.length_singleton]; omega)]
    · rw [if_neg fun h2 => h h2.1, List.append_nil]
      have e1 : cntU u (es.length + 1) = cntU u es.length := by unfold cntU; split; rfl; split <;> split <;> omega
      have e2 := cntU_le u es.length
      rw [e1, List.take_append_of_le_length (by omega)]
theorem since_by (es : List Ev) (q : List Cl) (a : Int) : sinceF es q a = ((recF es).drop (cntU a es.length)).any fun x => matchQ q x.e := by
  rw [Bool.eq_iff_iff, since_iff, List.any_eq_true]
  have key : ∀ i (hi : i < (recF es).length), ((recF es)[i]).pos = (i : Int) + 1 := fun i hi => by simp [recF]
  constructor
  · rintro ⟨x, hx, h1, h2⟩
    refine ⟨x, ?_, h2⟩
    obtain ⟨i, hi, rfl⟩ := List.mem_iff_getElem.1 hx
    rw [key i hi] at h1
    rw [rec_len] at hi
    have : cntU a es.length ≤ i := by unfold cntU; split; omega; split <;> omega
    rw [List.mem_iff_getElem]
    exact ⟨i - cntU a es.length, by rw [List.length_drop, rec_len]; omega, by simp [show cntU a es.length + (i - cntU a es.length) = i by omega]⟩
  · rintro ⟨x, hx, h2⟩
    obtain ⟨i, hi, rfl⟩ := List.mem_iff_getElem.1 hx
    rw [List.length_drop, rec_len] at hi
    rw [List.getElem_drop] at h2
    have hz : cntU a es.length + i < (recF es).length := by rw [rec_len]; omega
    refine ⟨(recF es)[cntU a es.length + i], List.getElem_mem _, ?_, h2⟩
    rw [key _ (by rw [rec_len]; omega)]
    have : a ≤ cntU a es.length ∨ (es.length : Int) < a := by unfold cntU; split; omega; split <;> omega
    have h3 : (es.length : Int) < a → cntU a es.length = es.length := fun h => by unfold cntU; rw [if_neg (by omega), if_pos h]
    rcases this with h | h
    · omega
    · have := h3 h
      omega

end Go.Proofs.Ytiplfhmimpkplaa.IxWalk

/-
  The landed index in memory: its records, a list that two indexes may share; what an append of one record does to it.
-/
namespace Go.Proofs.Ytiplfhmimpkplaa.IxWalk
open Go.RowKit Go.Maps Go.Proofs.Ytiplfhmimpkplaa.MemRow Go.Proofs.Ytiplfhmimpkplaa.Ev Go.Proofs.Ytiplfhmimpkplaa.NameMath Go.Proofs.Ytiplfhmimpkplaa.NameWalk Go.Proofs.Ytiplfhmimpkplaa.EvWalk Go.Proofs.Ytiplfhmimpkplaa.NumMem Go.Proofs.Ytiplfhmimpkplaa.Qu Go.Proofs.Ytiplfhmimpkplaa.QuWalk Go.Proofs.Ytiplfhmimpkplaa.SmWalk Go.Proofs.Ytiplfhmimpkplaa.BtWalk Go.Proofs.Ytiplfhmimpkplaa.DkWalk

/-! ### A record's cells -/
set_option maxRecDepth 100000 in
theorem RoCells.move {w w' : World} {G G' : Nat → Prop} {b o b' o' : Nat} {r : Rc} (h : RoCells w G b o r) (hc : ∀ j v, j < 6 → w.cell? ⟨b, o + j, none⟩ = some v → w'.cell? ⟨b', o' + j, none⟩ = some v) (hk : ∀ k T, G k → (∃ cur, w.heap[k]? = some (.cells cur T (0, 0)) ∧ T ≠ 49) → w'.heap[k]? = w.heap[k]?) (hG : ∀ k, G k → G' k) : RoCells w' G' b' o' r := by
  obtain ⟨T, nT, cT, F, nF, cF, h0, h1, h2, h3, h4, h5, h6, h7, h8, h9⟩ := h
  have keepW : ∀ {A : Option Addr} {n k c : Nat} {t : TypeId} {cs : List Value}, t ≠ 49 → Wr w G A n k t → RdC k w A n c cs → Wr w' G' A n k t ∧ RdC k w' A n c cs := fun {A n k c t cs} ht hw hr => by
    refine ⟨fun hn => ?_, RdC.keepN hr fun hn b o hA i v hcl => ?_⟩
    · obtain ⟨b, o, cur, e, hg, hb, hs⟩ := hw hn
      exact ⟨b, o, cur, e, hG _ hg, (hk b t hg ⟨cur, hb, ht⟩).trans hb, hs⟩
    · obtain ⟨b2, o2, cur, e, hg, hb, hs⟩ := hw hn
      rw [hA] at e
      injection e with e
      injection e with e1 e2
      subst e1
      exact (World.cell?_of_block (w := w) (a := ⟨b, o + i, none⟩) (hk b t hg ⟨cur, hb, ht⟩)).trans hcl
  obtain ⟨a8, a6⟩ := keepW (by decide) h8 h6
  obtain ⟨a9, a7⟩ := keepW (by decide) h9 h7
  exact ⟨T, nT, cT, F, nF, cF, hc 0 _ (by decide) h0, hc 1 _ (by decide) h1, hc 2 _ (by decide) h2, hc 3 _ (by decide) h3, hc 4 _ (by decide) h4, hc 5 _ (by decide) h5, a6, a7, a8, a9⟩

/-! ### The list -/
structure Hx where
  b : Nat
  n : Nat
  c : Nat
abbrev valX (h : Hx) : Value := .slice (some ⟨h.b, 0, none⟩) h.n h.c
def mkX (c : Option Hx) : Value := match c with | none => .slice none 0 0 | some h => valX h
structure RlR (w : World) (F G W : Nat → Prop) (h : Hx) (rs : List Rc) : Prop where
  ex : ∃ cur, w.heap[h.b]? = some (.cells cur 49 (0, 0)) ∧ h.c * 6 ≤ cur.size
  rc : ∀ i, i < h.n → RoCells w W h.b (i * 6) (rs.getD i noRc)
  len : rs.length = h.n
  pos : 0 < h.n
  le : h.n ≤ h.c
  cap : h.c ≤ maxLen
  own : h.n < h.c → F h.b
  gb : G h.b
/-- What there is: a list, or none. -/
def OldR (w : World) (F G W : Nat → Prop) (old : Option Hx) (rs : List Rc) : Prop := (∃ h, old = some h ∧ RlR w F G W h rs) ∨ (old = none ∧ rs = [])
section
variable {w w' : World} {F F' G G' W W' : Nat → Prop} {h : Hx} {rs : List Rc} {old : Option Hx}
set_option maxRecDepth 100000 in
theorem RlR.blt (r : RlR w F G W h rs) : h.b < w.heap.size := by
  obtain ⟨cur, hb, _⟩ := r.ex
  exact (Array.getElem?_eq_some_iff.1 hb).1
set_option maxRecDepth 100000 in
theorem RlR.kept (r : RlR w F G W h rs) (hb : w'.heap[h.b]? = w.heap[h.b]?) (hw : ∀ k, W k → w'.heap[k]? = w.heap[k]?) : RlR w' F G W h rs := by
  obtain ⟨cur, e, hc⟩ := r.ex
  refine ⟨⟨cur, hb.trans e, hc⟩, fun i hi => (r.rc i hi).move (fun j v _ hv => (World.cell?_of_block (w := w) (a := ⟨h.b, i * 6 + j, none⟩) hb).trans hv) (fun k _ hk _ => hw k hk) (fun _ hk => hk), r.len, r.pos, r.le, r.cap, r.own, r.gb⟩
set_option maxRecDepth 100000 in
theorem RlR.wide (r : RlR w F G W h rs) (hF : ∀ k, F k → F' k) (hG : ∀ k, G k → G' k) (hW : ∀ k, W k → W' k) : RlR w F' G' W' h rs :=
  ⟨r.ex, fun i hi => (r.rc i hi).move (fun _ _ _ hv => hv) (fun _ _ _ _ => rfl) hW, r.len, r.pos, r.le, r.cap, fun e => hF _ (r.own e), hG _ r.gb⟩
set_option maxRecDepth 100000 in
theorem RlR.rd (r : RlR w F G W h rs) : RdRc w (some ⟨h.b, 0, none⟩) h.n h.c rs := by
  refine ⟨r.len, r.le, r.cap, fun _ => ⟨h.b, 0, rfl, r.blt, fun i hi => ?_⟩⟩
  obtain ⟨T, nT, cT, F, nF, cF, h0, h1, h2, h3, h4, h5, h6, h7, _⟩ := r.rc i hi
  rw [Nat.zero_add]
  exact ⟨T, nT, cT, F, nF, cF, h0, h1, h2, h3, h4, h5, h6, h7⟩
set_option maxRecDepth 100000 in
theorem OldR.rd (o : OldR w F G W old rs) : ∃ A n c, mkX old = .slice A n c ∧ RdRc w A n c rs ∧ (A = none → n = 0) := by
  rcases o with ⟨h, rfl, r⟩ | ⟨rfl, rfl⟩
  · exact ⟨_, _, _, rfl, r.rd, fun e => by cases e⟩
  · exact ⟨none, 0, 0, rfl, RdRc.nil w, fun _ => rfl⟩
set_option maxRecDepth 100000 in
theorem OldR.kept (o : OldR w F G W old rs) (hb : ∀ k, G k → w'.heap[k]? = w.heap[k]?) (hw : ∀ k, W k → w'.heap[k]? = w.heap[k]?) : OldR w' F G W old rs := by
  rcases o with ⟨h, e, r⟩ | o
  · exact .inl ⟨h, e, r.kept (hb _ r.gb) hw⟩
  · exact .inr o
set_option maxRecDepth 100000 in
theorem OldR.wide (o : OldR w F G W old rs) (hF : ∀ k, F k → F' k) (hG : ∀ k, G k → G' k) (hW : ∀ k, W k → W' k) : OldR w F' G' W' old rs := by
  rcases o with ⟨h, e, r⟩ | o
  · exact .inl ⟨h, e, r.wide hF hG hW⟩
  · exact .inr o

/-! ### append(list, r) -/
set_option maxRecDepth 100000 in
theorem heap_setCells (w : World) (b o : Nat) (cs : List Value) {k : Nat} (h : k ≠ b) : (w.setCells b o cs).heap[k]? = w.heap[k]? := by
  induction cs generalizing w o with
  | nil => rfl
  | cons v cs ih =>
    show ((w.setCell ⟨b, o, none⟩ v).setCells b (o + 1) cs).heap[k]? = _
    rw [ih]
    have : b ≠ k := fun e => h e.symm
    simp [World.setCell, Array.getElem?_modify, this]
set_option maxRecDepth 100000 in
theorem block_setCells (w : World) (b o : Nat) (cs : List Value) {cur : Array Value} {t : TypeId} (hb : w.heap[b]? = some (.cells cur t (0, 0))) (hs : o + cs.length ≤ cur.size) :
    ∃ cur', (w.setCells b o cs).heap[b]? = some (.cells cur' t (0, 0)) ∧ cur'.size = cur.size ∧ (∀ i, i < o → cur'[i]? = cur[i]?) ∧ ∀ j, j < cs.length → cur'[o + j]? = cs[j]? := by
  induction cs generalizing w o cur with
  | nil => exact ⟨cur, hb, rfl, fun _ _ => rfl, fun j hj => absurd hj (Nat.not_lt_zero _)⟩
  | cons v cs ih =>
    have hb1 : (w.setCell ⟨b, o, none⟩ v).heap[b]? = some (.cells (cur.setIfInBounds o v) t (0, 0)) := by
      simp only [World.setCell, Array.getElem?_modify, hb]
      rfl
    rw [List.length_cons] at hs
    obtain ⟨cur', e1, e2, e3, e4⟩ := ih (w.setCell ⟨b, o, none⟩ v) (o + 1) hb1 (by simp; omega)
    refine ⟨cur', e1, by rw [e2]; simp, fun i hi => ?_, fun j hj => ?_⟩
    · rw [e3 i (by omega), Array.getElem?_setIfInBounds_ne (by omega)]
    · cases j with
      | zero =>
        rw [Nat.add_zero, e3 o (by omega), List.getElem?_cons_zero, Array.getElem?_setIfInBounds_self_of_lt (by omega)]
      | succ j =>
        rw [List.getElem?_cons_succ, show o + (j + 1) = o + 1 + j by omega]
        exact e4 j (by simpa using hj)
set_option maxRecDepth 100000 in
theorem size_setCells (w : World) (b o : Nat) (cs : List Value) : (w.setCells b o cs).heap.size = w.heap.size := by
  induction cs generalizing w o with
  | nil => rfl
  | cons v cs ih =>
    show ((w.setCell ⟨b, o, none⟩ v).setCells b (o + 1) cs).heap.size = _
    rw [ih]
    simp [World.setCell]
set_option maxRecDepth 100000 in
theorem ch_setCells {F : Nat → Prop} (w : World) {b : Nat} (o : Nat) (cs : List Value) (h : F b) : Ch F w (w.setCells b o cs) := by
  have e : (w.setCells b o cs).os = w.os ∧ (w.setCells b o cs).tape = w.tape ∧ (w.setCells b o cs).output = w.output := by
    induction cs generalizing w o with
    | nil => exact ⟨rfl, rfl, rfl⟩
    | cons v cs ih => exact ih (w.setCell ⟨b, o, none⟩ v) (o + 1)
  exact ⟨e.1, e.2.1, e.2.2, by rw [size_setCells]; exact Nat.le_refl _, fun k _ hn => heap_setCells w b o cs fun ek => hn (by rw [ek]; exact h)⟩
set_option maxRecDepth 100000 in
/-- A list of which others may be written behind. -/
theorem RlR.put (r : RlR w F G W h rs) {b o : Nat} (cs : List Value) {cur : Array Value} (hb : w.heap[b]? = some (.cells cur 49 (0, 0))) (hs : o + cs.length ≤ cur.size) (hi : b = h.b → h.n * 6 ≤ o) : RlR (w.setCells b o cs) F G W h rs := by
  obtain ⟨cur', e1, e2, e3, _⟩ := block_setCells w b o cs hb hs
  have hW : ∀ k T, W k → (∃ cur, w.heap[k]? = some (.cells cur T (0, 0)) ∧ T ≠ 49) → (w.setCells b o cs).heap[k]? = w.heap[k]? := fun k T _ ⟨c2, hk, ht⟩ => heap_setCells w b o cs fun e => by
    rw [e, hb] at hk
    injection hk with hk
    injection hk with _ hk _
    exact ht hk.symm
  by_cases e : h.b = b
  · have hin := hi e.symm
    subst e
    obtain ⟨c0, hb0, hc⟩ := r.ex
    rw [hb] at hb0
    injection hb0 with hb0
    injection hb0 with hb0
    subst hb0
    refine ⟨⟨cur', e1, by omega⟩, fun i hi => (r.rc i hi).move (fun j v hj hv => ?_) hW (fun _ h => h), r.len, r.pos, r.le, r.cap, r.own, r.gb⟩
    rw [cell_of_row w h.b _ _ _ _ hb] at hv
    rw [cell_of_row _ h.b _ _ _ _ e1, e3 _ (by omega)]
    exact hv
  · obtain ⟨c0, hb0, hc⟩ := r.ex
    refine ⟨⟨c0, (heap_setCells w b o cs e).trans hb0, hc⟩, fun i hi => (r.rc i hi).move (fun j v hj hv => (World.cell?_of_block (w := w) (a := ⟨h.b, i * 6 + j, none⟩) (heap_setCells w b o cs e)).trans hv) hW (fun _ h => h), r.len, r.pos, r.le, r.cap, r.own, r.gb⟩
structure RapOut (w w' : World) (F G W : Nat → Prop) (old : Option Hx) (rs : List Rc) (r : Rc) (h' : Hx) : Prop where
  li : RlR w' (up F w w') (up G w w') W h' (rs ++ [r])
  size : w.heap.size ≤ w'.heap.size
  how : (∃ h cur cs, old = some h ∧ h.n < h.c ∧ F h.b ∧ G h.b ∧ w.heap[h.b]? = some (.cells cur 49 (0, 0)) ∧ h.n * 6 + cs.length ≤ cur.size ∧ h' = ⟨h.b, h.n + 1, h.c⟩ ∧ w' = w.setCells h.b (h.n * 6) cs) ∨ (Below w.heap.size w w' ∧ w.heap.size ≤ h'.b)
set_option maxRecDepth 100000 in
theorem RapOut.ch {r : Rc} {h' : Hx} (a : RapOut w w' F G W old rs r h') : Ch F w w' := by
  rcases a.how with ⟨h, cur, cs, _, _, hF, _, _, _, _, rfl⟩ | ⟨hb, _⟩
  · exact ch_setCells w _ _ hF
  · exact Ch.of_below hb
/-- A record as one cell after the other. -/
abbrev rcV6 (r : Rc) (T : Option Addr) (nT cT : Nat) (Y : Option Addr) (nY cY : Nat) : List Value := rcV r T nT cT Y nY cY
set_option maxRecDepth 100000 in
/-- The cells of one record, where they lie. -/
theorem roCells_of {w : World} {W : Nat → Prop} {b o : Nat} {cur : Array Value} {t : TypeId} {r : Rc} {T Y : Option Addr} {nT cT nY cY : Nat} (hb : w.heap[b]? = some (.cells cur t (0, 0))) (hc : ∀ j, j < 6 → cur[o + j]? = (rcV r T nT cT Y nY cY)[j]?)
    (h6 : RdS w T nT cT r.e.tags) (h7 : RdF w Y nY cY r.e.fs) (h8 : Wr w W T nT 1 9) (h9 : Wr w W Y nY 2 86) : RoCells w W b o r := by
  have c : ∀ j v, j < 6 → (rcV r T nT cT Y nY cY)[j]? = some v → w.cell? ⟨b, o + j, none⟩ = some v := fun j v hj hv => by
    rw [cell_of_row w b _ _ _ _ hb, hc j hj]
    exact hv
  exact ⟨T, nT, cT, Y, nY, cY, c 0 _ (by decide) rfl, c 1 _ (by decide) rfl, c 2 _ (by decide) rfl, c 3 _ (by decide) rfl, c 4 _ (by decide) rfl, c 5 _ (by decide) rfl, h6, h7, h8, h9⟩
set_option maxRecDepth 100000 in
theorem rc_getD_old (rs : List Rc) (r : Rc) {i : Nat} (h : i < rs.length) : (rs ++ [r]).getD i noRc = rs.getD i noRc := by
  rw [List.getD_eq_getElem?_getD, List.getD_eq_getElem?_getD, List.getElem?_append_left h]
set_option maxRecDepth 100000 in
theorem rc_getD_new (rs : List Rc) (r : Rc) : (rs ++ [r]).getD rs.length noRc = r := by
  rw [List.getD_eq_getElem?_getD, List.getElem?_append_right (Nat.le_refl _), Nat.sub_self]
  rfl
set_option maxRecDepth 100000 in
set_option maxHeartbeats 2000000 in
theorem rapp_any {r : Rc} {T Y : Option Addr} {nT cT nY cY : Nat} (hold : OldR w F G W old rs) (hlen : rs.length ≤ 1000000) {a : Addr} {c : Nat} (hl : ∀ j v, (rcV r T nT cT Y nY cY)[j]? = some v → w.cell? (a.add j) = some v)
    (h6 : RdS w T nT cT r.e.tags) (h7 : RdF w Y nY cY r.e.fs) (h8 : Wr w W T nT 1 9) (h9 : Wr w W Y nY 2 86) (hWlt : ∀ k, W k → k < w.heap.size) (ty : TypeId) :
    ∃ h' w', (Builtin.append_ #[36, 36] ty #[mkX old, .slice (some a) 1 c]).run Try.prog w = .ok (valX h') w' ∧ RapOut w w' F G W old rs r h' := by
  have hi := rec_info
  have hT := Try.underlying36
  obtain ⟨i, h1, h2, h3, h4⟩ : ∃ i, Try.prog.info? 49 = some i ∧ i.zero = some (.agg #[.int .i64 0, .int .i64 0, .string ⟨#[]⟩, .string ⟨#[]⟩, .slice none 0 0, .slice none 0 0]) ∧ i.size = 6 ∧ i.bytes = 96 := by
    cases hq : Try.prog.info? 49 with
    | none => simp [hq] at hi
    | some i => simp [hq] at hi; exact ⟨i, rfl, hi.1, hi.2.1, hi.2.2⟩
  have hone := rc_one r T Y nT cT nY cY
  have hl6 : (rcV r T nT cT Y nY cY).length = 6 := rfl
  generalize hCS : rcV r T nT cT Y nY cY = cs at *
  -- a new block
  have fin : ∀ (v' : Value) (w' : World) (os : List Value), os.length = rs.length * 6 → (∀ i, i < rs.length → ∀ w'', w''.heap.size = w''.heap.size → Below w.heap.size w w'' → ∀ b2 cur2, w''.heap[b2]? = some (.cells cur2 49 (0, 0)) → (∀ j, j < rs.length * 6 → cur2[j]? = os[j]?) → RoCells w'' W b2 (i * 6) (rs.getD i noRc)) →
      w'.ownsRow w.heap.size 49 6 v' (rs.length + 1) (os ++ cs) → w.grownBy w' none → ∃ h', v' = valX h' ∧ RapOut w w' F G W old rs r h' := by
    intro v' w' os hol hmv ho hg
    rcases ho.2 with ⟨rfl, hn⟩ | ⟨g, c2, cur, rfl, hbg, hgb, hnc, hcm, hcs, htk⟩
    · omega
    · have hbl := grown_below hg
      have hglt := (Array.getElem?_eq_some_iff.1 hgb).1
      have hcell : ∀ j, j < (rs.length + 1) * 6 → cur[j]? = (os ++ cs)[j]? := fun j hj => by
        rw [← htk, List.getElem?_take_of_lt hj, Array.getElem?_toList]
      refine ⟨⟨g, rs.length + 1, c2⟩, rfl, ⟨⟨⟨cur, hgb, by simp only; omega⟩, fun i hi => ?_, by rw [List.length_append]; rfl, by simp, hnc, hcm, fun _ => .inr ⟨hbg, hglt⟩, .inr ⟨hbg, hglt⟩⟩, hg.size, .inr ⟨hbl, hbg⟩⟩⟩
      have hi : i < rs.length + 1 := hi
      by_cases hir : i < rs.length
      · rw [rc_getD_old rs r hir]
        exact hmv i hir w' rfl hbl g cur hgb fun j hj => by rw [hcell j (by omega), List.getElem?_append_left (by omega)]
      · obtain rfl : i = rs.length := by omega
        rw [rc_getD_new]
        have kW : ∀ k, W k → w'.heap[k]? = w.heap[k]? := fun k hk => hbl.block k (hWlt k hk)
        refine roCells_of hgb (fun j hj => ?_) (RdC.below h6 hbl) (RdC.below h7 hbl) (h8.keep kW) (h9.keep kW)
        rw [hCS, hcell _ (by omega), List.getElem?_append_right (by omega), show rs.length * 6 + j - os.length = j by omega]
  have hnew : ∀ j u, cs[j]? = some u → w.cell? (a.add j) = some u := hl
  rcases hold with ⟨h, rfl, rl⟩ | ⟨rfl, rfl⟩
  · have hn := rl.len
    obtain ⟨cur, hb, hc⟩ := rl.ex
    rcases Nat.lt_or_ge h.n h.c with hs | hs
    · -- in place
      have hfr : ∀ j, w.frozen? ⟨h.b, j, none⟩ = false := fun j => by simp [World.frozen?, hb]
      have run := run_append_room_cells (P := Try.prog) w 36 ty 49 i hT h1 h.b 0 h.n h.c a 1 c cs (by rw [hl6, h3]) (fun j u hj => hl j u hj) hone (by omega) (fun j hj => by
        rw [h3, hl6] at *
        rw [cell_of_row w h.b _ _ _ _ hb, Array.getElem?_eq_getElem (by omega)]
        rfl) (fun j hj => hfr _)
      rw [h3, Nat.zero_add] at run
      obtain ⟨cur', e1, e2, e3, e4⟩ := block_setCells w h.b (h.n * 6) cs hb (by omega)
      have r2 := rl.put cs hb (by omega) (fun _ => Nat.le_refl _)
      have hW : ∀ k, W k → (∃ c T, w.heap[k]? = some (.cells c T (0, 0)) ∧ T ≠ 49) → (w.setCells h.b (h.n * 6) cs).heap[k]? = w.heap[k]? := fun k _ ⟨c2, T2, hk, ht⟩ => heap_setCells w h.b _ cs fun e => by
        rw [e, hb] at hk
        injection hk with hk
        injection hk with _ hk _
        exact ht hk.symm
      have keepW : ∀ {A : Option Addr} {n k c : Nat} {t : TypeId} {cs' : List Value}, t ≠ 49 → Wr w W A n k t → RdC k w A n c cs' → Wr (w.setCells h.b (h.n * 6) cs) W A n k t ∧ RdC k (w.setCells h.b (h.n * 6) cs) A n c cs' := fun {A n k c t cs'} ht hw hr => by
        refine ⟨fun hn => ?_, RdC.keepN hr fun hn b o hA i v hcl => ?_⟩
        · obtain ⟨b, o, cur, e, hg, hb, hs⟩ := hw hn
          exact ⟨b, o, cur, e, hg, (hW b hg ⟨cur, t, hb, ht⟩).trans hb, hs⟩
        · obtain ⟨b2, o2, cur, e, hg, hb, hs⟩ := hw hn
          rw [hA] at e
          injection e with e
          injection e with e1 e2
          subst e1
          exact (World.cell?_of_block (w := w) (a := ⟨b, o + i, none⟩) (hW b hg ⟨cur, t, hb, ht⟩)).trans hcl
      obtain ⟨a8, a6⟩ := keepW (by decide) h8 h6
      obtain ⟨a9, a7⟩ := keepW (by decide) h9 h7
      refine ⟨⟨h.b, h.n + 1, h.c⟩, _, run, ⟨⟨⟨cur', e1, by simp only; omega⟩, fun i hi => ?_, by rw [List.length_append, hn]; rfl, by simp, hs, rl.cap, fun _ => .inl (rl.own hs), .inl rl.gb⟩, by rw [size_setCells]; exact Nat.le_refl _, .inl ⟨h, cur, cs, rfl, hs, rl.own hs, rl.gb, hb, by omega, rfl, rfl⟩⟩⟩
      have hi : i < h.n + 1 := hi
      by_cases hir : i < h.n
      · rw [rc_getD_old rs r (by omega)]
        exact r2.rc i hir
      · obtain rfl : i = rs.length := by omega
        rw [rc_getD_new]
        refine roCells_of e1 (fun j hj => ?_) a6 a7 a8 a9
        rw [hCS, hn]
        exact e4 j (by omega)
    · have hc' : h.n = h.c := Nat.le_antisymm rl.le hs
      have hle : h.n * 6 ≤ cur.toList.length := by simp; omega
      obtain ⟨v', w', hrun, ho, hg⟩ := run_append_arg_grows (P := Try.prog) w 36 ty 49 i _ 6 96 hT h1 h2 h3 h4 rfl (by omega) ⟨h.b, 0, none⟩ h.n h.c (cur.toList.take (h.n * 6)) (by rw [List.length_take]; omega) (fun j u hj => by
        rw [List.getElem?_take] at hj
        split at hj
        · rw [add_plain, cell_of_row w h.b _ _ _ _ hb, Nat.zero_add, ← Array.getElem?_toList]
          exact hj
        · cases hj) a 1 c cs (by rw [hl6]) hnew (by omega) (by unfold maxLen; omega) (by omega)
      rw [← hn] at ho
      obtain ⟨h', rfl, out⟩ := fin v' w' _ (by rw [List.length_take, hn]; omega) (fun i hi w'' _ hbl b2 cur2 hb2 hc2 => by
        refine (rl.rc i (by omega)).move (fun j v hj hv => ?_) (fun k _ hk _ => hbl.block k (hWlt k hk)) (fun _ h => h)
        rw [cell_of_row w h.b _ _ _ _ hb] at hv
        rw [cell_of_row w'' b2 _ _ _ _ hb2, hc2 _ (by omega), List.getElem?_take_of_lt (by omega), Array.getElem?_toList]
        exact hv) ho hg
      exact ⟨h', w', hrun, out⟩
  · obtain ⟨v', w', hrun, ho, hg, _⟩ := run_append_own_at (P := Try.prog) w w.heap.size 36 ty 49 i _ 6 96 hT h1 h2 h3 h4 rfl (by omega) (.slice none 0 0) 0 [] ⟨by simp, .inl ⟨rfl, rfl⟩⟩ a 1 c cs (by rw [hl6]) hnew hone (by unfold maxLen; omega) (by omega) (Nat.le_refl _)
    obtain ⟨h', rfl, out⟩ := fin v' w' [] rfl (fun i hi => absurd hi (Nat.not_lt_zero _)) (by simpa using ho) hg
    exact ⟨h', w', hrun, out⟩
set_option maxRecDepth 100000 in
theorem wpList_rapp {r : Rc} {T Y : Option Addr} {nT cT nY cY : Nat} {ops : Array Oper} {rest : List Oper} {o : Oper} {ac : Act} {Q : Exit → Act → World → Prop} (hgd : o.guard = none) (s x : Operand)
    (ho : o.op = .call { callee := .builtin .append, args := #[s, x], argTypes := #[36, 36] })
    {sv : Value} (hs : ac.eval s = sv) (hsv : sv = mkX old) {a : Addr} {c : Nat} (hx : ac.eval x = .slice (some a) 1 c) (hold : OldR w F G W old rs) (hlen : rs.length ≤ 1000000) (hl : ∀ j v, (rcV r T nT cT Y nY cY)[j]? = some v → w.cell? (a.add j) = some v)
    (h6 : RdS w T nT cT r.e.tags) (h7 : RdF w Y nY cY r.e.fs) (h8 : Wr w W T nT 1 9) (h9 : Wr w W Y nY 2 86) (hWlt : ∀ k, W k → k < w.heap.size)
    (h : ∀ h' w', RapOut w w' F G W old rs r h' → wpList Try.prog ops Q rest (ac.put o.dst (.slice (some ⟨h'.b, 0, none⟩) h'.n h'.c)) w') : wpList Try.prog ops Q (o :: rest) ac w := by
  obtain ⟨h', w', hrun, out⟩ := rapp_any hold hlen hl h6 h7 h8 h9 hWlt o.type
  refine wpList_plain hgd fun _ hK => ?_
  unfold Oper.wp execOp
  simp only [ho, resolve, invoke, builtin, Sem.run_bind, Sem.run_pure, Result.andThen_ok, List.map_toArray, List.map_cons, List.map_nil, hs, hsv, hx]
  rw [hrun]
  exact hK _ _ (h h' w' out)
end

end Go.Proofs.Ytiplfhmimpkplaa.IxWalk

/-
  Maps by names: a map's entries as a function of texts; a range over it, what has come. No function of the program here.
-/
namespace Go.Proofs.Ytiplfhmimpkplaa.NMap
open Go.RowKit Go.Maps Go.Proofs.Ytiplfhmimpkplaa.MemRow Go.Proofs.Ytiplfhmimpkplaa.Ev Go.Proofs.Ytiplfhmimpkplaa.NameMath Go.Proofs.Ytiplfhmimpkplaa.NameWalk Go.Proofs.Ytiplfhmimpkplaa.EvWalk

/-! ### Keys -/
def keyN (s : ByteArray) : Lit := .string s.data.toList
theorem keyN_inj {a b : ByteArray} (h : keyN a = keyN b) : a = b := by
  unfold keyN at h
  injection h with h
  exact ByteArray.ext (Array.ext' h)
theorem keyN_same (a b : ByteArray) : (keyN a).sameKey (keyN b) = decide (a = b) := by
  by_cases h : a = b
  · subst h
    simp [keyN, Lit.sameKey]
  · rw [decide_eq_false h]
    exact sameKey_ne fun e => h (keyN_inj e)
/-- What is still to come behind the name s. -/
def cutN (left : Lit → Bool) (s : ByteArray) : Lit → Bool := fun z => left z && !z.sameKey (keyN s)
theorem cutN_at (left : Lit → Bool) (s t : ByteArray) : cutN left s (keyN t) = (left (keyN t) && !decide (t = s)) := by
  unfold cutN
  rw [keyN_same]
theorem keyedN : Keyed Try.prog 9 := string_keyed Try.underlying9
theorem keyN_of {s : ByteArray} (h : s.size ≤ maxLen) : keyOf Try.prog 9 (.string s) = some (keyN s) := Go.WideMaps.keyOf_string_mk Try.underlying9 h

/-! ### What has come already -/
def cameN (left : Lit → Bool) (ns : List ByteArray) : List ByteArray := ns.filter fun s => !left (keyN s)
theorem cameN_start {left : Lit → Bool} {ns : List ByteArray} (h : ∀ s ∈ ns, left (keyN s) = true) : cameN left ns = [] :=
  List.filter_eq_nil_iff.2 fun s hs => by rw [h s hs]; decide
theorem cameN_end {left : Lit → Bool} (ns : List ByteArray) (h : ∀ kl, left kl = false) : cameN left ns = ns :=
  List.filter_eq_self.2 fun s _ => by rw [h]; rfl
theorem cameN_mem {left : Lit → Bool} {ns : List ByteArray} {t : ByteArray} : t ∈ cameN left ns ↔ t ∈ ns ∧ left (keyN t) = false := by
  unfold cameN
  rw [List.mem_filter]
  simp
theorem cameN_step {left : Lit → Bool} {ns : List ByteArray} {s : ByteArray} (hs : s ∈ ns) (t : ByteArray) : t ∈ cameN (cutN left s) ns ↔ t = s ∨ t ∈ cameN left ns := by
  rw [cameN_mem, cameN_mem, cutN_at]
  by_cases h : t = s
  · subst h
    simp [hs]
  · simp [h]

/-! ### The map as data -/
section
variable {H : Type}
/-- The map holds just these names, each with its datum. -/
structure NOf (M : DataW H) (ns : List ByteArray) (h : ByteArray → H) : Prop where
  keys : ∀ kl, has M kl = true ↔ ∃ s ∈ ns, kl = keyN s
  at_ : ∀ s ∈ ns, ∀ z, M.atKey (keyN s) z = .held (h s)
theorem NOf.empty (h : ByteArray → H) : NOf (.map []) [] h := ⟨fun kl => ⟨fun h => (by cases h), fun ⟨_, h, _⟩ => (by simp at h)⟩, fun _ h => (by simp at h)⟩
variable {M : DataW H} {ns ns' : List ByteArray} {h h' : ByteArray → H}
theorem NOf.same (o : NOf M ns h) (hn : ∀ s, s ∈ ns' ↔ s ∈ ns) (hk : ∀ s ∈ ns, h' s = h s) : NOf M ns' h' := by
  refine ⟨fun kl => (o.keys kl).trans ⟨fun ⟨s, hs, e⟩ => ⟨s, (hn s).2 hs, e⟩, fun ⟨s, hs, e⟩ => ⟨s, (hn s).1 hs, e⟩⟩, fun s hs z => ?_⟩
  rw [o.at_ s ((hn s).1 hs), hk s ((hn s).1 hs)]
theorem NOf.put (o : NOf M ns h) (hM : IsMap M) {s : ByteArray} (hn : ∀ t, t ∈ ns' ↔ t = s ∨ t ∈ ns) (ho : ∀ t, t ≠ s → h' t = h t) : NOf (M.put (keyN s) (.held (h' s))) ns' h' := by
  refine ⟨fun kl => ?_, fun t ht z => ?_⟩
  · by_cases e : kl = keyN s
    · subst e
      rw [show has (M.put (keyN s) (.held (h' s))) (keyN s) = true from has_put_same (k := .string _) hM trivial _]
      exact ⟨fun _ => ⟨s, (hn s).2 (.inl rfl), rfl⟩, fun _ => rfl⟩
    · rw [has_put_other e, o.keys]
      constructor
      · rintro ⟨t, ht, rfl⟩
        exact ⟨t, (hn t).2 (.inr ht), rfl⟩
      · rintro ⟨t, ht, rfl⟩
        rcases (hn t).1 ht with rfl | ht
        · exact absurd rfl e
        · exact ⟨t, ht, rfl⟩
  · by_cases e : t = s
    · subst e
      exact atKey_put_same (k := .string _) hM trivial _ _
    · rw [atKey_put_other (fun x => e (keyN_inj x)), o.at_ t (((hn t).1 ht).resolve_left e), ho _ e]
theorem NOf.yes (o : NOf M ns h) {s : ByteArray} (hk : s ∈ ns) : has M (keyN s) = true := (o.keys _).2 ⟨s, hk, rfl⟩
theorem NOf.no (o : NOf M ns h) {s : ByteArray} (hk : ¬ s ∈ ns) : has M (keyN s) = false := by
  rw [← Bool.not_eq_true, o.keys]
  rintro ⟨t, ht, e⟩
  rw [keyN_inj e] at hk
  exact hk ht
theorem nodup_keysN (hr : ns.Nodup) : (ns.map keyN).Nodup := by
  unfold List.Nodup at hr ⊢
  rw [List.pairwise_map]
  exact hr.imp fun h1 e => h1 (keyN_inj e)
theorem NOf.perm (o : NOf M ns h) (c : Canon M) (hr : ns.Nodup) : ∃ es, M = .map es ∧ (es.map (·.1)).Perm (ns.map keyN) := by
  obtain ⟨es, rfl, hp, hk⟩ := c
  refine ⟨es, rfl, (List.perm_ext_iff_of_nodup ?_ (nodup_keysN hr)).2 fun kl => ?_⟩
  · unfold List.Nodup
    rw [List.pairwise_map]
    exact apart_of_rising hp
  · have h1 := o.keys kl
    rw [has_eq, List.any_eq_true] at h1
    rw [List.mem_map, List.mem_map]
    constructor
    · rintro ⟨p, hp', rfl⟩
      obtain ⟨f, hf, e⟩ := h1.1 ⟨p, hp', WideAt.sameKey_self (hk p hp')⟩
      exact ⟨f, hf, e.symm⟩
    · rintro ⟨f, hf, rfl⟩
      obtain ⟨p, hp', e⟩ := h1.2 ⟨f, hf, rfl⟩
      exact ⟨p, hp', WideAt.sameKey_eq e⟩
theorem NOf.size (o : NOf M ns h) (c : Canon M) (hr : ns.Nodup) : Maps.size M = ns.length := by
  obtain ⟨es, rfl, hp⟩ := o.perm c hr
  have := hp.length_eq
  rw [size_eq]
  simpa using this
theorem NOf.strs (o : NOf M ns h) (c : Canon M) (hr : ns.Nodup) : (strKeys M).Perm (ns.map fun s => s.data.toList) := by
  obtain ⟨es, rfl, hp⟩ := o.perm c hr
  have := hp.map strOf
  rw [List.map_map, List.map_map] at this
  exact this
end
theorem sorted_strs {ns : List ByteArray} (hr : Up ns) {ss : List (List UInt8)} (hp : ss.Perm (ns.map fun s => s.data.toList)) : (ss.mergeSort leB).map Go.Proofs.encStr = MemRow.strs ns := by
  have h : (ns.map fun s => s.data.toList).Pairwise fun a b => leB a b = true := by
    unfold Up at hr
    rw [List.pairwise_map]
    refine hr.imp fun {a b} h1 => ?_
    rw [less_eq] at h1
    simp only [leB, decide_eq_true_eq] at h1 ⊢
    exact List.le_of_lt h1
  rw [mergeSort_of_perm hp, List.mergeSort_of_pairwise h]
  unfold MemRow.strs
  rw [List.map_map]
  refine List.map_congr_left fun f _ => ?_
  simp [Go.Proofs.encStr]
theorem up_nodupN {ns : List ByteArray} (h : Up ns) : ns.Nodup := h.imp fun h1 => less_ne h1

/-! ### The map in memory -/
section
variable {H : Type}
theorem tightN {w : World} {P : Program} {k : TypeId} {R : Value → Option (DataW H × List MemPlace)} {b n : Nat} {M : DataW H} (h : w.ownsMap P k R b n M) : w.ownsMap P k R b (Maps.size M) M := by
  obtain ⟨es, clock, hb, F, hs, hD⟩ := h
  refine ⟨es, clock, hb, F, ?_, hD⟩
  rw [hD, size_eq, length_sorted]
  simp
theorem isMapN {w : World} {R : Value → Option (DataW H × List MemPlace)} {b n : Nat} {M : DataW H} (h : w.ownsMap Try.prog 9 R b n M) : IsMap M := by
  obtain ⟨es, e, _⟩ := h.canon keyedN
  exact ⟨es, e⟩
theorem run_makeHintN {P : Program} {t k e : TypeId} (hu : P.underlying t = some (.map k e)) (q : IntKind) (n : Int) (w : World) : (Instr.makeMap t (some (.int q n))).run P w = .ok (.map (some w.heap.size)) (w.alloc (.map #[] 0)) := by
  simp [Instr.makeMap, run_underlying hu, asInt, asIntOf, Result.andThen]

variable (w : World) {ops : Array Oper} {rest : List Oper} {o : Oper} {a : Act} {Q : Exit → Act → World → Prop}
/-- The step of a range over a map by names; mkV, inv: the elements' shape; val: the element of a name. -/
theorem wpList_next_ns {β : Type} (R : Value → Option (DataW H × List MemPlace)) (mkV : β → Value) (inv : ∀ v y, R v = some y → ∃ c, v = mkV c) (val : H → Value) (hval : ∀ v x ps, R v = some (.held x, ps) → v = val x)
    (hg : o.guard = none) (it : Operand) (hop : o.op = Op.next it false) {M : DataW H} {ns : List ByteArray} {h : ByteArray → H} (mp : NOf M ns h) (b r n : Nat) (left : Lit → Bool) (cnt : Nat)
    (hit : a.eval it = .pointer (some ⟨r, 0, none⟩)) (hr : w.ranges Try.prog 9 R b r n M left cnt)
    (hDone : cnt = 0 → (∀ kl, left kl = false) → wpList Try.prog ops Q rest (a.put o.dst (.tuple #[.bool false])) w)
    (hMore : ∀ (s : ByteArray), s ∈ ns → ∀ (w' : World) (cnt' : Nat), left (keyN s) = true → s.size ≤ maxLen → w'.ranges Try.prog 9 R b r n M (cutN left s) cnt' → cnt' < cnt → w.grownBy w' (some r) → w'.heap.size = w.heap.size →
      (Instr.entry (.pointer (some ⟨r, 0, none⟩))).run Try.prog w' = .ok (.tuple #[.string s, val (h s)]) w' → wpList Try.prog ops Q rest (a.put o.dst (.tuple #[.bool true, .string s, val (h s)])) w') :
    wpList Try.prog ops Q (o :: rest) a w := by
  refine wpList_next_ranges w hg it hop 9 keyedN R Go.Proofs.encStr mkV (fun key kl hk => by obtain ⟨x, hx, _⟩ := Maps.keyOf_str Try.underlying9 hk; exact ⟨x, hx⟩) inv b r n M left cnt hit hr hDone ?_
  intro x c kl y w' cnt' hkey hlk hv hat hrg hlt hgr hsz hen
  obtain ⟨x', ex, rfl, hxl⟩ := Maps.keyOf_str Try.underlying9 hkey
  obtain rfl := encStr_inj ex
  obtain ⟨s, hs, ek⟩ := (mp.keys _).1 (has_true_of_atKey hat)
  have hx : x = s.data.toList := by
    unfold keyN at ek
    injection ek
  have e1 : Go.Proofs.encStr x = .string s := by
    rw [hx]
  obtain ⟨yd, yp⟩ := y
  have e2 : mkV c = val (h s) := by
    have h1 := hat .nil
    rw [ek, mp.at_ s hs] at h1
    refine hval _ _ yp ?_
    rw [hv]
    simp only at h1
    rw [h1]
  rw [ek] at hlk hrg
  rw [e1, e2] at hen ⊢
  refine hMore s hs w' cnt' hlk ?_ hrg hlt hgr hsz hen
  have := size_list s
  rw [hx] at hxl
  omega
end

end Go.Proofs.Ytiplfhmimpkplaa.NMap

