/-
  Walk of Y.
-/
import Derived.Deep.QuietTactic
import Derived.BigQuiet
import Derived.Test.YtppidbdkejkopaaGreatDoorMh9
namespace Go.Proofs.YtppidbdkejkopaaGreatDoor.WlWalk
open Go.RowKit MemRow Ev NameMath NameWalk EvWalk NumMem DkWalk FrMath BtWalk EcWalk EdWalk
section
variable {base : Nat} {w : World} {g : Nat} {D : Dk} {Q : Thing}
theorem rp_read (h : Pair base w (RfT g D) Q) (kq : Keeps Q) (ok : DkOk D) (s : ByteArray) :
    Calls Tryz.prog 41 #[.pointer (some ⟨g, 0, none⟩), .string s] w fun e w' => ∃ B m c, e = .returned (.tuple #[.slice B m c, .int .i64 (readC D s)]) ∧ Rd w' B m c (readB D s) ∧ Pair base w' (RfT g D) Q ∧ Below w.heap.size w w' := by
  have h' := h
  obtain ⟨F, G, hp, hq, h1, h2, h3⟩ := h
  exact (refRead_any g D F s w hp ok).mono fun e w' ⟨B, m, c, he, hr, hb⟩ => ⟨B, m, c, he, hr, h'.below (rfT_keeps g D) kq hb, hb⟩
theorem rp_list (h : Pair base w (RfT g D) Q) (kq : Keeps Q) (ok : DkOk D) :
    Calls Tryz.prog 58 #[.pointer (some ⟨g, 0, none⟩)] w fun e w' => ∃ B m c, e = .returned (.slice B m c) ∧ RdS w' B m c (names D.fs) ∧ Pair base w' (RfT g D) Q ∧ Below w.heap.size w w' := by
  have h' := h
  obtain ⟨F, G, hp, hq, h1, h2, h3⟩ := h
  exact (refList_any g D F w hp ok).mono fun e w' ⟨B, m, c, he, hr, hb⟩ => ⟨B, m, c, he, hr, h'.below (rfT_keeps g D) kq hb, hb⟩
end
theorem namep_size {D : Dk} (go : DkGo D) {j : Nat} (hj : j < (names D.fs).length) : ((names D.fs).getD j ByteArray.empty).size ≤ maxLen := by
  unfold names at hj ⊢
  rw [List.length_map] at hj
  have h1 := mayN_size (go.may _ (List.getElem_mem hj))
  simp only [List.getD, List.getElem?_map, List.getElem?_eq_getElem hj, Option.map_some, Option.getD_some]
  unfold maxLen
  omega
set_option maxHeartbeats 8000000 in
set_option maxRecDepth 100000 in
theorem alike_any {base gd gz : Nat} {D : Dk} (w : World) (hp : Pair base w (LdT gd D) (RfT gz D)) (go : DkGo D) :
    Calls Tryz.prog 27 #[.pointer (some ⟨gd, 0, none⟩), .pointer (some ⟨gz, 0, none⟩)] w fun e w' => e = .returned (.bool true) ∧ Below w.heap.size w w' := by
  go_enter Tryz.func27, Tryz.ntmps27
  go_wp2_with fail
  refine (pr_list hp (rfT_keeps _ _) go).mono ?_
  rintro e w2 ⟨C2, m2, c2, rfl, r2, p2, B2⟩
  go_wp2_with fail
  refine (rp_list p2.swap (ldT_keeps _ _) go.ok).mono ?_
  rintro e w3 ⟨C3, m3, c3, rfl, r3, p3, b3⟩
  have B3 := B2.trans (bel_up B2.size b3)
  have s2 : RdS w3 C2 m2 c2 (names D.fs) := RdC.below r2 b3
  go_wp2_with fail
  refine (refTexts_any C2 C3 m2 m3 c2 c3 _ _ w3 s2 r3).mono ?_
  rintro e w4 ⟨rfl, kk, rfl⟩
  rw [decide_eq_true (rfl : names D.fs = names D.fs)]
  have b4 : Below w3.heap.size w3 (w3.drewN kk) := bel_drewN (Below.refl _ _) kk
  have p6 := (p3.below (rfT_keeps _ _) (ldT_keeps _ _) b4).swap
  have B6 := B3.trans (bel_up B3.size b4)
  have s6 : RdS (w3.drewN kk) C2 m2 c2 (names D.fs) := RdC.below s2 b4
  generalize w3.drewN kk = w6 at *
  have hm2 := RdC.le s6
  have hlm := RdS.len s6
  unfold maxLen at hm2
  have S6 := Go.Lib.hid s6
  clear p2 p3 B2 b3 B3 b4 s2 s6 r2 r3 hp
  go_wp2_with fail
  go_loopw [7, 8, 9, 10, 11] (fun i _ _ _ _ wr => ∃ (j : Nat), j ≤ m2 ∧ i = .int .i64 j ∧ Pair base wr (LdT gd D) (RfT gz D) ∧ Below w6.heap.size w6 wr) (fun i _ _ _ _ _ => m2 - (intOf i).toNat)
  case atStart => exact ⟨0, Nat.zero_le _, rfl, p6, Below.refl _ _⟩
  case round =>
    obtain ⟨j, hj, rfl, pj, Bj⟩ := hrel
    clear p6
    by_cases h1 : j < m2
    · have i1 : (j : Int) < m2 := by omega
      have i3 : (0 : Int) ≤ j := by omega
      obtain ⟨ba, oa, rfl, _, hca⟩ := RdS.at_ (RdC.below S6.out Bj) (by omega)
      have x0 := hca j h1
      have hsz := namep_size go (j := j) (by omega)
      clear hca
      generalize (names D.fs).getD j ByteArray.empty = s at *
      go_wp2_with fail
      refine (pr_read pj (rfT_keeps _ _) go hsz).mono ?_
      rintro e w7 ⟨C7, m7, c7, rfl, r7, p7, b7⟩
      have B7 := Bj.trans (bel_up Bj.size b7)
      have x7 := bcell b7 x0
      clear pj Bj x0
      go_wp2_with fail
      refine (rp_read p7.swap (ldT_keeps _ _) go.ok s).mono ?_
      rintro e w8 ⟨C8, m8, c8, rfl, r8, p8', b8⟩
      have p8 := p8'.swap
      have B8 := B7.trans (bel_up B7.size b8)
      have q7 := rd_str (r7.below b8)
      have q8 := rd_str r8
      clear p7 p8' B7 b8 x7 r7 r8
      generalize readB D s = x at *
      generalize readC D s = c at *
      go_wp2_with fail
      go_roundw
      case rel => exact ⟨j + 1, by omega, by go_num, p8, B8⟩
      case measure => simp [intOf]; omega
    · have i1 : ¬ (j : Int) < m2 := by omega
      go_wp2_with fail
      go_ret
      exact ⟨rfl, B6.trans (bel_up B6.size Bj)⟩
theorem turn_segs {D : Dk} {cs : List (List UInt8 × Nat)} (hg : DkGo D) (hs : SegsD D cs) (s : ByteArray) (z : Int) : (∃ cs', SegsD (turnC D s z).2 cs') ∧ (turnC D s z).2.left = D.left ∧ (turnC D s z).2.quota = D.quota := by
  have hg2 := turn_go hg s z
  unfold turnC at hg2 ⊢
  by_cases h1 : idxF D.fs s < D.fs.length
  · rw [if_neg (by simpa using h1)] at hg2 ⊢
    by_cases h2 : z < 0 ∨ ((D.fs.getD (idxF D.fs s) noFl).b.length : Int) ≤ z
    · rw [if_pos h2]
      exact ⟨⟨cs, hs⟩, rfl, rfl⟩
    · rw [if_neg h2] at hg2 ⊢
      refine ⟨?_, rfl, rfl⟩
      have hlk : lkF D.fs s = some ((D.fs.getD (idxF D.fs s) noFl).b, (D.fs.getD (idxF D.fs s) noFl).safe) := by unfold lkF; rw [if_pos h1]
      obtain ⟨i, hi, rfl⟩ := (hs.at_ _ _).1 hlk
      have hil := (List.getElem?_eq_some_iff.1 hi).1
      have hset := lk_set hg.up hg2.up (putF_set hg.up _)
      exact ⟨_, hs.set hil hset⟩
  · rw [if_pos (by simpa using h1)]
    exact ⟨⟨cs, hs⟩, rfl, rfl⟩
theorem fix_log : ∀ (bs : List (List UInt8)) (last : Int), ∃ ss : List (List Bat), fixW bs last = ss.map bytesW ∧ (readW bs last).1 = ss.flatten ∧ (readW bs last).2.1 = ss.length
  | [], last => ⟨[], by simp [fixW], by simp [readW], by simp [readW]⟩
  | b :: bs, last => by
    by_cases hc : goodN b last < b.length
    · exact ⟨[goodB b last], by rw [fixW, if_pos hc, good_take]; rfl, by rw [readW_cut hc]; simp, by rw [readW_cut hc]; rfl⟩
    · obtain ⟨ss, h1, h2, h3⟩ := fix_log bs (last + (tot (goodB b last) : Int))
      exact ⟨goodB b last :: ss, by rw [fixW, if_neg hc, h1, List.map_cons, ← good_full hc], by rw [readW_on hc, h2]; rfl, by rw [readW_on hc, h3]; rfl⟩
theorem open_gen {D : Dk} {cs : List (List UInt8 × Nat)} (hg : DkGo D) (hl : D.left = -1) (hs : SegsD D cs) :
    (openW D).1 = 0 ∧ ∃ ss, LogD (openW D).2.1 ss ∧ (openW D).2.1.left = -1 ∧ (openW D).2.2.all = ss.flatten ∧ (openW D).2.2.many = ss.length ∧ (openW D).2.2.last = (tot ss.flatten : Int) := by
  obtain ⟨o1, o2, o3, o4, o5, o6, o7, o8⟩ := openW_segs hg hl hs
  obtain ⟨ss, f1, f2, f3⟩ := fix_log (bts cs) 0
  rw [f1] at o2
  rw [f2] at o6 o8
  rw [f3] at o7
  refine ⟨o1, ss, ⟨o3, o2, ?_⟩, o4, o6, o7, o8⟩
  rw [← f2]
  exact readW_chained _ _
theorem play_app {D : Dk} {ss : List (List Bat)} (x : Bat) (h : LogD D ss) (hl : D.left = -1) :
    appendL D ss.length (tot ss.flatten : Int) x = appendW D ss.length (tot ss.flatten : Int) x ∧ ∃ ss', LogD (appendW D ss.length (tot ss.flatten : Int) x).2.1 ss' ∧ (appendW D ss.length (tot ss.flatten : Int) x).2.1.left = -1 ∧ (appendW D ss.length (tot ss.flatten : Int) x).2.2 = (ss'.length, (tot ss'.flatten : Int)) := by
  obtain ⟨a1, a2, a3, a4⟩ := appendL_eq D ss.length (tot ss.flatten : Int) x
  rcases appendW_log x h with ⟨h1, h2, _, h4, h5⟩ | ⟨h1, ss', h2, _, h4, h5⟩ | ⟨_, h2, _⟩
  · refine ⟨Prod.ext a1 (Prod.ext a2 (Prod.ext ?_ a3)), ss, h2, h5 hl, h4⟩
    rw [a4, if_neg h1, h4]
  · refine ⟨Prod.ext a1 (Prod.ext a2 (Prod.ext ?_ a3)), ss', h2, h5 hl, h4⟩
    rw [a4, if_pos h1]
  · exact absurd hl h2
theorem side_in {base : Nat} {w : World} {P R S : Thing} (kS : Keeps S) (h : Pair base w (With P R) S) : Pair base w P (With S R) := pair_rot kS h.swap
theorem side_out {base : Nat} {w : World} {P R S : Thing} (kP : Keeps P) (h : Pair base w P (With S R)) : Pair base w (With P R) S := (pair_rot kP h).swap
end Go.Proofs.YtppidbdkejkopaaGreatDoor.WlWalk
namespace Go.Proofs.YtppidbdkejkopaaGreatDoor.WlWalk
open HeldAt Go.RowKit MemRow Ev NameMath NameWalk EvWalk NumMem DkWalk FrMath BtWalk EcWalk EdWalk
abbrev SdL (gd gl mm : Nat) (ll : Int) (D : Dk) : Thing := With (LdT gd D) (LlT gl gd mm ll)
abbrev SdR (gz gy mm : Nat) (ll : Int) (D : Dk) : Thing := With (RfT gz D) (LgT gy gz mm ll)
theorem sdL_keeps (gd gl mm : Nat) (ll : Int) (D : Dk) : Keeps (SdL gd gl mm ll D) := with_keeps (ldT_keeps _ _) (bxT_keeps _ _ _)
theorem sdR_keeps (gz gy mm : Nat) (ll : Int) (D : Dk) : Keeps (SdR gz gy mm ll D) := with_keeps (rfT_keeps _ _) (bxT_keeps _ _ _)
theorem sd_open {base : Nat} {w : World} {gd gz : Nat} {D : Dk} {cs : List (List UInt8 × Nat)} (hp : Pair base w (LdT gd D) (RfT gz D)) (hb : base ≤ w.heap.size) (ht : TabB base w) (hg : DkGo D) (hl : D.left = -1) (hs : SegsD D cs) :
    Calls Tryz.prog 13 #[.pointer (some ⟨gd, 0, none⟩)] w fun e w' => ∃ D' ss gl A n c, e = .returned (.tuple #[.pointer (some ⟨gl, 0, none⟩), .slice A n c, .int .i64 0]) ∧ LogD D' ss ∧ D'.left = -1 ∧ Pair base w' (LdT gd D') (With (With (RfT gz D) (LlT gl gd ss.length (tot ss.flatten : Int))) (BsT base A n c ss.flatten)) ∧ Below base w w' ∧
      (∀ w1, base ≤ w1.heap.size → TabB base w1 → Pair base w1 (LdT gd D') (With (With (RfT gz D) (LlT gl gd ss.length (tot ss.flatten : Int))) (BsT base A n c ss.flatten)) →
        Calls Tryz.prog 14 #[.pointer (some ⟨gz, 0, none⟩)] w1 fun e2 w2 => ∃ gy A2 n2 c2, e2 = .returned (.tuple #[.pointer (some ⟨gy, 0, none⟩), .slice A2 n2 c2, .int .i64 0]) ∧ RdBs w2 A n c ss.flatten ∧ RdBs w2 A2 n2 c2 ss.flatten ∧ Pair base w2 (SdL gd gl ss.length (tot ss.flatten : Int) D') (SdR gz gy ss.length (tot ss.flatten : Int) D') ∧ Below base w1 w2) := by
  obtain ⟨o1, ss, o2, o3, o4, o5, o6⟩ := open_gen hg hl hs
  refine (openL_any hp (rfT_keeps _ _) hb hg ht).mono ?_
  rintro e w' ⟨⟨_, gl, A, n, c, rfl, p⟩ | ⟨h1, _⟩, b⟩
  · rw [o4, o5, o6] at p
    refine ⟨_, ss, gl, A, n, c, rfl, o2, o3, p, b, fun w1 hb1 ht1 p1 => ?_⟩
    have p2 := side_in (with_keeps (ldT_keeps gd (openW D).2.1) (bsT_keeps base A n c ss.flatten)) (pair_rot (ldT_keeps gd (openW D).2.1) p1)
    refine (refOpen_any p2 (with_keeps (with_keeps (ldT_keeps _ _) (bsT_keeps _ _ _ _ _)) (bxT_keeps _ _ _)) hb1 hg.ok ht1).mono ?_
    rintro e2 w2 ⟨⟨_, gy, A2, n2, c2, rfl, q⟩ | ⟨h1, _⟩, b2⟩
    · rw [o4, o5, o6] at q
      exact ⟨gy, A2, n2, c2, rfl, (pair_bs (pair_first (pair_first (pair_first q)))).rd, (pair_bs q).rd, (side_out (rfT_keeps gz (openW D).2.1) (pair_imp (th_left th_drop) (pair_first q))).swap, b2⟩
    · exact absurd o1 h1
  · exact absurd o1 h1
abbrev SdX (W0 : World) (B : Thing) (E : Option Addr) (i d : Nat) (es : List Ev) (gb : Nat) (vs : Array Value) : Thing := With (With B (EvT W0 E i d es)) (BxT gb vs 41)
section
variable {W0 w w' : World} {A B L1 L2 R1 R2 : Thing} {E : Option Addr} {i d gb : Nat} {es : List Ev} {vs : Array Value}
theorem sdX_keeps (kb : Keeps B) : Keeps (SdX W0 B E i d es gb vs) := with_keeps (with_keeps kb (evT_keeps _ _ _ _ _)) (bxT_keeps _ _ _)
theorem sd_box (h : Pair W0.heap.size w A B) (ka : Keeps A) (kb : Keeps B) (hb : W0.heap.size ≤ w.heap.size) (b : Below w.heap.size w w') (o : OwnO W0 w' (w.heap.size + 1 + 1 + 1) E i d es) (vs : Array Value) :
    Pair W0.heap.size (w'.alloc (.cells vs 41)) A (SdX W0 B E i d es w'.heap.size vs) ∧ Below W0.heap.size w (w'.alloc (.cells vs 41)) := by
  have p1 := pair_more h ka kb hb b (evT_of o (w := w) (by omega))
  have hb1 := Nat.le_trans hb b.size
  obtain ⟨p2, b2⟩ := bx_new ka (with_keeps kb (evT_keeps _ _ _ _ _)) hb1 p1 vs 41
  exact ⟨p2, (bel_up hb b).trans (bel_up hb1 b2)⟩
theorem sd_ref (kl : Keeps A) (h : Pair W0.heap.size w A (SdX W0 (With R1 R2) E i d es gb vs)) : Pair W0.heap.size w R1 (With (With (With A (BxT gb vs 41)) (EvT W0 E i d es)) R2) :=
  side_in (with_keeps (with_keeps kl (bxT_keeps _ _ _)) (evT_keeps _ _ _ _ _)) (side_in (with_keeps kl (bxT_keeps _ _ _)) (side_in kl h.swap))
theorem sd_fin (kr : Keeps R1) (h : Pair W0.heap.size w R1 (With (With (With A (BxT gb vs 41)) (EvT W0 E i d es)) R2)) : Pair W0.heap.size w A (With R1 R2) := (pair_first (pair_first (side_out kr h))).swap
theorem sd_disks (h : Pair W0.heap.size w (With L1 L2) (SdX W0 (With R1 R2) E i d es gb vs)) : Pair W0.heap.size w L1 (With R1 (BxT gb vs 41)) := pair_imp th_drop (pair_imp th_drop (pair_first h.swap).swap)
end
structure CalD (D : Dk) (ss : List (List Bat)) : Prop where
  log : LogD D ss
  left : D.left = -1
set_option maxHeartbeats 8000000 in
set_option maxRecDepth 100000 in
theorem wplays_walk (z : Int) (A : Option Addr) (n cap : Nat) (os : List Wop) (w0 : World) (h0 : RdW w0 A n cap os) (hok : ∀ d ∈ os, WopOk d) (hz : -9223372036854775808 ≤ z ∧ z ≤ 9223372036854775807) (ht : TabB w0.heap.size w0) :
    Calls Tryz.prog 3 #[.int .i64 z, .slice A n cap] w0 fun e w' => e = .returned (.bool true) ∧ Below w0.heap.size w0 w' := by
  have hn := h0.le
  unfold maxLen at hn
  have H0 := Go.Lib.hid h0
  have HN := Go.Lib.hid h0.len
  have HQ := kindN_lt z (n := 20001) (by omega)
  generalize hkq : kindN z 20001 = kq at *
  have KD := Go.Lib.hid (fun (W : World) => by have := kind11_any z 20001 W hz (by omega) (by omega); rw [hkq] at this; exact this)
  clear h0 hkq
  go_enter Tryz.func3, Tryz.ntmps3
  go_wp2_with fail
  refine (shown11_any w0 ht).mono ?_
  rintro e w1 ⟨rfl, b1⟩
  have hb1 := b1.size
  go_wp2_with fail
  refine (KD.out w1).mono ?_
  rintro e w2 ⟨rfl, rfl⟩
  go_wp2_with fail
  refine (pr_first (base := w0.heap.size) hb1 (kq : Int)).mono ?_
  rintro e w3 ⟨gd, rfl, p3, b3⟩
  have B3 := b1.trans (bel_up hb1 b3)
  have hb3 := B3.size
  go_wp2_with fail
  refine (KD.out w3).mono ?_
  rintro e w4 ⟨rfl, rfl⟩
  go_wp2_with fail
  refine (refNew_any (kq : Int) w3 (by omega)).mono ?_
  rintro e w4 ⟨gz, rfl, ry, b4⟩
  have p4 : Pair w0.heap.size w4 (LdT gd (newD (kq : Int))) (RfT gz (newD (kq : Int))) := by
    obtain ⟨F, G, hp, _, h1, _, _⟩ := p3
    exact (Pair.fresh hp (ldT_keeps _ _) h1 hb3 ry b4).swap
  have B4 := B3.trans (bel_up hb3 b4)
  have hb4 := B4.size
  have hg4 : DkGo (newD (kq : Int)) := new_go (by omega)
  have hso := sd_open p4 hb4 (ht.on B4) hg4 rfl (SegsD.new _)
  clear p3 ry b1 b3 b4 B3 hb1 hb3 p4 hg4
  generalize newD (kq : Int) = D4 at *
  go_wp2_with fail
  refine hso.mono ?_
  rintro e w5 ⟨D5, ss5, gl5, A5, n5, c5, rfl, l5, f5, p5, b5, hro⟩
  have B5 := B4.trans b5
  have hb5 := B5.size
  go_wp2_with fail
  refine (hro w5 hb5 (ht.on B5) p5).mono ?_
  rintro e w6 ⟨gy6, A6, n6, c6, rfl, _, _, p6, b6⟩
  have B6 := B5.trans b6
  have R6 : CalD D5 ss5 := ⟨l5, f5⟩
  clear hso hro p5 b5 b6 B4 B5 hb4 hb5 l5 f5
  go_wp2_with fail
  go_loopw [8, 10, 11, 13, 14, 15, 16, 17, 18, 19] (fun wv ev yv fv jv _ _ _ _ _ wr => ∃ (gl gy j : Nat) (D : Dk) (ss : List (List Bat)), wv = .pointer (some ⟨gl, 0, none⟩) ∧ ev = .int .i64 0 ∧ yv = .pointer (some ⟨gy, 0, none⟩) ∧ fv = .int .i64 0 ∧ jv = .int .i64 (j : Int) ∧ j ≤ n ∧ j ≤ 50 ∧ Hid (CalD D ss) ∧ Pair w0.heap.size wr (SdL gd gl ss.length (tot ss.flatten : Int) D) (SdR gz gy ss.length (tot ss.flatten : Int) D) ∧ Below w0.heap.size w0 wr) (fun _ _ _ _ jv _ _ _ _ _ _ => n - (intOf jv).toNat)
  case atStart => exact ⟨gl5, gy6, 0, D5, ss5, rfl, rfl, rfl, rfl, rfl, Nat.zero_le _, by omega, Go.Lib.hid R6, p6, B6⟩
  case round =>
    obtain ⟨gl, gy, j, D, ss, rfl, rfl, rfl, rfl, rfl, hjn, hj, HR, pj, Bj⟩ := hrel
    clear p6 B6 R6
    have hbj := Bj.size
    have kA := sdL_keeps gd gl ss.length (tot ss.flatten : Int) D
    have kB := sdR_keeps gz gy ss.length (tot ss.flatten : Int) D
    go_upto_region 9 with (fail)
    go_cut [53] (fun v wx => v = .bool (decide (j < n ∧ j < 50)) ∧ wr = wx)
    case first =>
      by_cases h1 : j < n
      · have i1 : (j : Int) < n := by omega
        by_cases h2 : j < 50
        · have i2 : (j : Int) < 50 := by omega
          go_wp2_with fail
          go_meet
          exact ⟨by simp [h1, h2], rfl⟩
        · have i2 : ¬ (j : Int) < 50 := by omega
          go_wp2_with fail
          go_meet
          exact ⟨by simp [h1, h2], rfl⟩
      · have i1 : ¬ (j : Int) < n := by omega
        go_wp2_with fail
        go_meet
        exact ⟨by simp [h1], rfl⟩
    obtain ⟨rfl, rfl⟩ := hcut
    by_cases hc : j < n ∧ j < 50
    · rw [show decide (j < n ∧ j < 50) = true by simpa using hc]
      obtain ⟨h1, h2⟩ := hc
      have i1 : (j : Int) < n := by omega
      obtain ⟨b, o, rfl, _, kc⟩ := H0.out.at_ (by omega)
      obtain ⟨C, nC, cC, x0, x1, x2, x3, x4, rC⟩ := kc j h1
      have hw : WopOk (os.getD j noWop) := hok _ (wop_get (by rw [HN.out]; exact h1))
      have y0 := bcell Bj x0
      have y1 := bcell Bj x1
      have y2 := bcell Bj x2
      have y3 := bcell Bj x3
      have y4 := bcell Bj x4
      generalize os.getD j noWop = q at *
      have iw : IsWop w0 (.agg #[.int .i64 q.kind, .int .i64 q.n, .int .i64 q.file, .int .i64 q.x.a, .slice C nC cC]) q := ⟨C, nC, cC, rfl, rC⟩
      clear x0 x1 x2 x3 x4 kc rC
      go_wp2_with fail
      refine (few11_any _ q w0 wr iw Bj).mono ?_
      rintro e w7 ⟨E, ie, de, rfl, oE, b7⟩
      have hpos := HR.out.log.tot_le
      have hmany := HR.out.log.many_le
      obtain ⟨p8, b8⟩ := sd_box pj kA kB hbj b7 oE #[.int .i64 q.kind, .int .i64 q.n, .int .i64 q.file, .int .i64 q.x.a, .slice E ie de]
      have B8 := Bj.trans b8
      have hb8 := B8.size
      clear pj Bj hbj b7 b8 oE y0 y1 y2 y3 y4
      go_upto_region 14 with (fail)
      generalize w7.alloc (.cells #[.int .i64 q.kind, .int .i64 q.n, .int .i64 q.file, .int .i64 q.x.a, .slice E ie de] 41) = w8 at *
      generalize w7.heap.size = gb at *
      have r5 : W5At w8 gb (.int .i64 q.kind) (.int .i64 q.n) (.int .i64 q.file) (.int .i64 q.x.a) (.slice E ie de) := pair_bx p8
      have k0 := r5.c0
      have hkk := kindN_lt q.kind (n := 6) (by omega)
      have hkd := kind11_any q.kind 6 w8 hw.kind (by omega) (by omega)
      generalize kindN q.kind 6 = kk at *
      go_wp2_with fail
      refine hkd.mono ?_
      rintro e w9 ⟨rfl, rfl⟩
      clear hkd k0
      by_cases h4 : kk < 4
      · have j4 : (kk : Int) < 4 := by omega
        by_cases h3 : kk < 3
        · have j3 : (kk : Int) < 3 := by omega
          have y2 := (lg_cells (pair_first (pair_first p8))).2.2.1
          have cz := r5.c3
          have fz := r5.frozen 3
          obtain ⟨p9, b9⟩ := lg_put kA (with_keeps kB (evT_keeps _ _ _ _ _)) p8 (r5.set3 (.int .i64 (tot ss.flatten : Int)))
          have P9 := Go.Lib.hid p9
          have BB9 := Go.Lib.hid (B8.trans b9)
          have hbk := few_ok hw (z := (tot ss.flatten : Int)) ⟨by omega, hpos⟩
          clear p9 b9
          go_upto_region 18 with (fail)
          generalize w8.setCell ⟨gb, 3, none⟩ (.int .i64 (tot ss.flatten : Int)) = w9 at *
          have B9 := BB9.out
          have p9 := P9.out
          clear P9 BB9 p8 B8 hb8 r5 y2 cz fz
          have s5 : W5At w9 gb (.int .i64 q.kind) (.int .i64 q.n) (.int .i64 q.file) (.int .i64 (tot ss.flatten : Int)) (.slice E ie de) := pair_bx p9
          have k3 := s5.c3
          have k4 := s5.c4
          have kX : Keeps (SdX w0 (SdR gz gy ss.length (tot ss.flatten : Int) D) E ie de (few6 q.x.es) gb #[.int .i64 q.kind, .int .i64 q.n, .int .i64 q.file, .int .i64 (tot ss.flatten : Int), .slice E ie de]) := sdX_keeps kB
          have bd : Below w9.heap.size w9 w9.drew := bel_drew (Below.refl _ _)
          have pd := p9.below kA kX bd
          have Bd := B9.trans (bel_up B9.size bd)
          have hbd := Bd.size
          have iv : IsB w9.drew (.agg #[.int .i64 (tot ss.flatten : Int), .slice E ie de]) ⟨(tot ss.flatten : Int), few6 q.x.es⟩ := ⟨_, _, _, rfl, pair_ev (pair_first pd) Bd⟩
          obtain ⟨e1, ss', m1, m2, m3⟩ := play_app ⟨(tot ss.flatten : Int), few6 q.x.es⟩ HR.out.log HR.out.left
          have happ := appL_any (side_in kX pd) kX hbd HR.out.log.go (ht.on Bd) iv hbk (by omega) ⟨by omega, hpos⟩
          rw [e1] at happ
          have hrf := fun W (pr : Pair w0.heap.size W (RfT gz D) (With (With (With (SdL gd gl ss'.length (tot ss'.flatten : Int) (appendW D ss.length (tot ss.flatten : Int) ⟨(tot ss.flatten : Int), few6 q.x.es⟩).2.1) (BxT gb #[.int .i64 q.kind, .int .i64 q.n, .int .i64 q.file, .int .i64 (tot ss.flatten : Int), .slice E ie de] 41)) (EvT w0 E ie de (few6 q.x.es))) (LgT gy gz ss.length (tot ss.flatten : Int)))) (hb : w0.heap.size ≤ W.heap.size) (htW : TabB w0.heap.size W) (ivW : IsB W (.agg #[.int .i64 (tot ss.flatten : Int), .slice E ie de]) ⟨(tot ss.flatten : Int), few6 q.x.es⟩) => refApp_any pr (with_keeps (with_keeps (sdL_keeps _ _ _ _ _) (bxT_keeps _ _ _)) (evT_keeps _ _ _ _ _)) hb HR.out.log.go.ok htW ivW hbk (by omega) ⟨by omega, hpos⟩
          have HB := Go.Lib.hid hbk
          clear e1 iv hbk
          generalize appendW D ss.length (tot ss.flatten : Int) ⟨(tot ss.flatten : Int), few6 q.x.es⟩ = R at *
          obtain ⟨rc, D', mm, ll⟩ := R
          simp only at m1 m2 m3
          obtain ⟨rfl, rfl⟩ := Prod.mk.inj m3
          have M1 := Go.Lib.hid m1
          clear m1 m3
          have i0 : (rc != rc) = false := by simp
          have kA' := sdL_keeps gd gl ss'.length (tot ss'.flatten : Int) D'
          have kB' := sdR_keeps gz gy ss'.length (tot ss'.flatten : Int) D'
          refine wp_region_held_drew (S := (fun w' => w'.cell? ⟨gb, 3, none⟩ = some (.int .i64 (tot ss.flatten : Int)) ∧ w'.cell? ⟨gb, 4, none⟩ = some (.slice E ie de))) (by kernel_rfl) ?_ (fun hHeld => ?_)
          · exact ⟨k3, k4⟩
          refine take_at (i := 0) (d := 84) (v := ?_) rfl rfl (by kernel_rfl) (by kernel_rfl) (by kernel_rfl) (fun _ _ _ h => h) (Or.inl ⟨by rfl, ?hy⟩) (by assumption) ?_
          case hy => (intro wS hSw; (try dsimp only at hSw); first | (go_simp; done) | (go_simp; with_reducible rfl))
          simp only [Act.put, List.setIfInBounds_toArray, List.set_cons_zero, List.set_cons_succ]
          refine take_at (i := 1) (d := 85) (v := ?_) rfl rfl (by kernel_rfl) (by kernel_rfl) (by kernel_rfl) (fun _ _ _ h => h) (Or.inl ⟨by rfl, ?hy⟩) (by assumption) ?_
          case hy => (intro wS hSw; (try dsimp only at hSw); first | (go_simp; done) | (go_simp; with_reducible rfl))
          simp only [Act.put, List.setIfInBounds_toArray, List.set_cons_zero, List.set_cons_succ]
          refine take_at (i := 2) (d := 86) (v := ?_) rfl rfl (by kernel_rfl) (by kernel_rfl) (by kernel_rfl) (fun _ _ _ h => h) (Or.inl ⟨by rfl, ?hy⟩) (by assumption) ?_
          case hy => (intro wS hSw; (try dsimp only at hSw); first | (go_simp; done) | (go_simp; with_reducible rfl))
          simp only [Act.put, List.setIfInBounds_toArray, List.set_cons_zero, List.set_cons_succ]
          refine take_at (i := 4) (d := 88) (v := ?_) rfl rfl (by kernel_rfl) (by kernel_rfl) (by kernel_rfl) (fun _ _ _ h => h) (Or.inl ⟨by rfl, ?hy⟩) (by assumption) ?_
          case hy => (intro wS hSw; (try dsimp only at hSw); first | (go_simp; done) | (go_simp; with_reducible rfl))
          simp only [Act.put, List.setIfInBounds_toArray, List.set_cons_zero, List.set_cons_succ]
          refine take_at (i := 5) (d := 89) (v := ?_) rfl rfl (by kernel_rfl) (by kernel_rfl) (by kernel_rfl) (fun _ _ _ h => h) (Or.inl ⟨by rfl, ?hy⟩) (by assumption) ?_
          case hy => (intro wS hSw; (try dsimp only at hSw); first | (go_simp; done) | (go_simp; with_reducible rfl))
          simp only [Act.put, List.setIfInBounds_toArray, List.set_cons_zero, List.set_cons_succ]
          refine take_at (i := 6) (d := 90) (v := ?_) rfl rfl (by kernel_rfl) (by kernel_rfl) (by kernel_rfl) (fun _ _ _ h => h) (Or.inl ⟨by rfl, ?hy⟩) (by assumption) ?_
          case hy => (intro wS hSw; (try dsimp only at hSw); first | (go_simp; done) | (go_simp; with_reducible rfl))
          simp only [Act.put, List.setIfInBounds_toArray, List.set_cons_zero, List.set_cons_succ]
          refine wpAnyH_ready (rs := [3]) (by kernel_rfl) (by simp) ?_
          refine AllReadyH.cons rfl (fun K3 hK3 => ?_) AllReadyH.nil
          go_simp
          go_wp2_with (go_at_call 16; refine happ.mono ?_; rintro e w10 ⟨rfl, p10', b10⟩; have p10 : Pair w0.heap.size w10 (SdL gd gl ss'.length (tot ss'.flatten : Int) D') (SdX w0 (SdR gz gy ss.length (tot ss.flatten : Int) D) E ie de (few6 q.x.es) gb #[.int .i64 q.kind, .int .i64 q.n, .int .i64 q.file, .int .i64 (tot ss.flatten : Int), .slice E ie de]) := side_out (ldT_keeps _ _) p10'; have B10 := Bd.trans b10; have s10 : W5At w10 gb (.int .i64 q.kind) (.int .i64 q.n) (.int .i64 q.file) (.int .i64 (tot ss.flatten : Int)) (.slice E ie de) := pair_bx p10)
          refine hK3.out _ _ ?_ (fun hH3 => ?_)
          · exact ⟨s10.c3, s10.c4⟩
          clear hK3 K3 hHeld
          refine wpAnyH_ready (rs := [7]) (by kernel_rfl) (by simp) ?_
          refine AllReadyH.cons rfl (fun K7 hK7 => ?_) AllReadyH.nil
          go_simp
          go_wp2_with (go_at_call 17; refine (hrf w10 (sd_ref kA' p10) B10.size (ht.on B10) ⟨_, _, _, rfl, pair_ev (pair_first p10) B10⟩).mono ?_; rintro e w11 ⟨rfl, p11, b11⟩; have s11 : W5At w11 gb (.int .i64 q.kind) (.int .i64 q.n) (.int .i64 q.file) (.int .i64 (tot ss.flatten : Int)) (.slice E ie de) := pair_bx (pair_first (pair_first p11)); have yc1 := (lg_cells p11).2.1; have yc2 := (lg_cells p11).2.2.1; have B11 := B10.trans b11; have p12 : Pair w0.heap.size w11 (SdL gd gl ss'.length (tot ss'.flatten : Int) D') (SdR gz gy ss'.length (tot ss'.flatten : Int) D') := sd_fin (rfT_keeps _ _) p11; have hl2 := lastL_any (side_in kB' p12); have hs2 := segsL_any (side_in kB' p12))
          refine hK7.out _ _ ?_ (fun hH7 => ?_)
          · exact ⟨s11.c3, s11.c4⟩
          clear hK7 K7 hH3
          refine wpAnyH_more (S' := (fun (w' : World) => (w'.cell? ⟨gb, 3, none⟩ = some (.int .i64 (tot ss.flatten : Int)) ∧ w'.cell? ⟨gb, 4, none⟩ = some (.slice E ie de)) ∧ w'.cell? ⟨gy, 1, none⟩ = some (.int .i64 (ss'.length : Int)) ∧ w'.cell? ⟨gy, 2, none⟩ = some (.int .i64 (tot ss'.flatten : Int)))) (fun _ h => h.1) ?_
          have hStr : ((fun (w' : World) => (w'.cell? ⟨gb, 3, none⟩ = some (.int .i64 (tot ss.flatten : Int)) ∧ w'.cell? ⟨gb, 4, none⟩ = some (.slice E ie de)) ∧ w'.cell? ⟨gy, 1, none⟩ = some (.int .i64 (ss'.length : Int)) ∧ w'.cell? ⟨gy, 2, none⟩ = some (.int .i64 (tot ss'.flatten : Int)))) _ := ⟨⟨s11.c3, s11.c4⟩, yc1, yc2⟩
          clear hH7
          refine take_at (i := 8) (d := 92) (v := ?_) rfl rfl (by kernel_rfl) (by kernel_rfl) (by kernel_rfl) (fun _ _ _ h => h) (Or.inl ⟨by rfl, ?hy⟩) (by assumption) ?_
          case hy => (intro wS hSw; (try dsimp only at hSw); first | (go_simp; done) | (go_simp; with_reducible rfl))
          simp only [Act.put, List.setIfInBounds_toArray, List.set_cons_zero, List.set_cons_succ]
          refine take_at (i := 9) (d := 93) (v := ?_) rfl rfl (by kernel_rfl) (by kernel_rfl) (by kernel_rfl) (fun _ _ _ h => h) (Or.inl ⟨by rfl, ?hy⟩) (by assumption) ?_
          case hy => (intro wS hSw; (try dsimp only at hSw); first | (go_simp; done) | (go_simp; with_reducible rfl))
          simp only [Act.put, List.setIfInBounds_toArray, List.set_cons_zero, List.set_cons_succ]
          refine take_at (i := 10) (d := 94) (v := ?_) rfl rfl (by kernel_rfl) (by kernel_rfl) (by kernel_rfl) (fun _ _ _ h => h) (Or.inl ⟨by rfl, ?hy⟩) (by assumption) ?_
          case hy => (intro wS hSw; (try dsimp only at hSw); first | (go_simp; done) | (go_simp; with_reducible rfl))
          simp only [Act.put, List.setIfInBounds_toArray, List.set_cons_zero, List.set_cons_succ]
          refine take_at (i := 12) (d := 96) (v := ?_) rfl rfl (by kernel_rfl) (by kernel_rfl) (by kernel_rfl) (fun _ _ _ h => h) (Or.inl ⟨by rfl, ?hy⟩) (by assumption) ?_
          case hy => (intro wS hSw; (try dsimp only at hSw); first | (go_simp; done) | (go_simp; with_reducible rfl))
          simp only [Act.put, List.setIfInBounds_toArray, List.set_cons_zero, List.set_cons_succ]
          refine take_at (i := 13) (d := 97) (v := ?_) rfl rfl (by kernel_rfl) (by kernel_rfl) (by kernel_rfl) (fun _ _ _ h => h) (Or.inl ⟨by rfl, ?hy⟩) (by assumption) ?_
          case hy => (intro wS hSw; (try dsimp only at hSw); first | (go_simp; done) | (go_simp; with_reducible rfl))
          simp only [Act.put, List.setIfInBounds_toArray, List.set_cons_zero, List.set_cons_succ]
          refine take_at (i := 14) (d := 98) (v := ?_) rfl rfl (by kernel_rfl) (by kernel_rfl) (by kernel_rfl) (fun _ _ _ h => h) (Or.inl ⟨by rfl, ?hy⟩) (by assumption) ?_
          case hy => (intro wS hSw; (try dsimp only at hSw); first | (go_simp; done) | (go_simp; with_reducible rfl))
          simp only [Act.put, List.setIfInBounds_toArray, List.set_cons_zero, List.set_cons_succ]
          refine take_at (i := 15) (d := 99) (v := ?_) rfl rfl (by kernel_rfl) (by kernel_rfl) (by kernel_rfl) (fun _ _ _ h => h) (Or.inl ⟨by rfl, ?hy⟩) (by assumption) ?_
          case hy => (intro wS hSw; (try dsimp only at hSw); first | (go_simp; done) | (go_simp; with_reducible rfl))
          simp only [Act.put, List.setIfInBounds_toArray, List.set_cons_zero, List.set_cons_succ]
          refine wpAnyH_ready (rs := [11]) (by kernel_rfl) (by simp) ?_
          refine AllReadyH.cons rfl (fun K11 hK11 => ?_) AllReadyH.nil
          go_simp
          go_wp2_with (go_at_call 18; refine hl2.mono ?_; rintro e w12 ⟨rfl, rfl⟩)
          refine hK11.out _ _ ?_ (fun hH11 => ?_)
          · exact ⟨⟨s11.c3, s11.c4⟩, yc1, yc2⟩
          clear hK11 K11 hStr
          refine take_at (i := 16) (d := 100) (v := ?_) rfl rfl (by kernel_rfl) (by kernel_rfl) (by kernel_rfl) (fun _ _ _ h => h) (Or.inl ⟨by rfl, ?hy⟩) (by assumption) ?_
          case hy => (intro wS hSw; (try dsimp only at hSw); first | (go_simp; done) | (go_simp; with_reducible rfl))
          simp only [Act.put, List.setIfInBounds_toArray, List.set_cons_zero, List.set_cons_succ]
          refine take_at (i := 17) (d := 101) (v := ?_) rfl rfl (by kernel_rfl) (by kernel_rfl) (by kernel_rfl) (fun _ _ _ h => h) (Or.inl ⟨by rfl, ?hy⟩) (by assumption) ?_
          case hy => (intro wS hSw; (try dsimp only at hSw); first | (go_simp; done) | (go_simp; with_reducible rfl))
          simp only [Act.put, List.setIfInBounds_toArray, List.set_cons_zero, List.set_cons_succ]
          refine take_at (i := 18) (d := 102) (v := ?_) rfl rfl (by kernel_rfl) (by kernel_rfl) (by kernel_rfl) (fun _ _ _ h => h) (Or.inl ⟨by rfl, ?hy⟩) (by assumption) ?_
          case hy => (intro wS hSw; (try dsimp only at hSw); first | (go_simp; done) | (go_simp; with_reducible rfl))
          simp only [Act.put, List.setIfInBounds_toArray, List.set_cons_zero, List.set_cons_succ]
          refine take_at (i := 19) (d := 103) (v := ?_) rfl rfl (by kernel_rfl) (by kernel_rfl) (by kernel_rfl) (fun _ _ _ h => h) (Or.inl ⟨by rfl, ?hy⟩) (by assumption) ?_
          case hy => (intro wS hSw; (try dsimp only at hSw); first | (go_simp; done) | (go_simp; with_reducible rfl))
          simp only [Act.put, List.setIfInBounds_toArray, List.set_cons_zero, List.set_cons_succ]
          refine take_at (i := 21) (d := 105) (v := ?_) rfl rfl (by kernel_rfl) (by kernel_rfl) (by kernel_rfl) (fun _ _ _ h => h) (Or.inl ⟨by rfl, ?hy⟩) (by assumption) ?_
          case hy => (intro wS hSw; (try dsimp only at hSw); first | (go_simp; done) | (go_simp; with_reducible rfl))
          simp only [Act.put, List.setIfInBounds_toArray, List.set_cons_zero, List.set_cons_succ]
          refine take_at (i := 22) (d := 106) (v := ?_) rfl rfl (by kernel_rfl) (by kernel_rfl) (by kernel_rfl) (fun _ _ _ h => h) (Or.inl ⟨by rfl, ?hy⟩) (by assumption) ?_
          case hy => (intro wS hSw; (try dsimp only at hSw); first | (go_simp; done) | (go_simp; with_reducible rfl))
          simp only [Act.put, List.setIfInBounds_toArray, List.set_cons_zero, List.set_cons_succ]
          refine take_at (i := 23) (d := 107) (v := ?_) rfl rfl (by kernel_rfl) (by kernel_rfl) (by kernel_rfl) (fun _ _ _ h => h) (Or.inl ⟨by rfl, ?hy⟩) (by assumption) ?_
          case hy => (intro wS hSw; (try dsimp only at hSw); first | (go_simp; done) | (go_simp; with_reducible rfl))
          simp only [Act.put, List.setIfInBounds_toArray, List.set_cons_zero, List.set_cons_succ]
          refine take_at (i := 24) (d := 108) (v := ?_) rfl rfl (by kernel_rfl) (by kernel_rfl) (by kernel_rfl) (fun _ _ _ h => h) (Or.inl ⟨by rfl, ?hy⟩) (by assumption) ?_
          case hy => (intro wS hSw; (try dsimp only at hSw); first | (go_simp; done) | (go_simp; with_reducible rfl))
          simp only [Act.put, List.setIfInBounds_toArray, List.set_cons_zero, List.set_cons_succ]
          refine wpAnyH_ready (rs := [20]) (by kernel_rfl) (by simp) ?_
          refine AllReadyH.cons rfl (fun K20 hK20 => ?_) AllReadyH.nil
          go_simp
          go_wp2_with (go_at_call 19; refine hs2.mono ?_; rintro e w12 ⟨rfl, rfl⟩)
          refine hK20.out _ _ ?_ (fun hH20 => ?_)
          · exact ⟨⟨s11.c3, s11.c4⟩, yc1, yc2⟩
          clear hK20 K20 hH11
          refine take_at (i := 25) (d := 109) (v := ?_) rfl rfl (by kernel_rfl) (by kernel_rfl) (by kernel_rfl) (fun _ _ _ h => h) (Or.inl ⟨by rfl, ?hy⟩) (by assumption) ?_
          case hy => (intro wS hSw; (try dsimp only at hSw); first | (go_simp; done) | (go_simp; with_reducible rfl))
          simp only [Act.put, List.setIfInBounds_toArray, List.set_cons_zero, List.set_cons_succ]
          refine take_at (i := 26) (d := 110) (v := ?_) rfl rfl (by kernel_rfl) (by kernel_rfl) (by kernel_rfl) (fun _ _ _ h => h) (Or.inl ⟨by rfl, ?hy⟩) (by assumption) ?_
          case hy => (intro wS hSw; (try dsimp only at hSw); first | (go_simp; done) | (go_simp; with_reducible rfl))
          simp only [Act.put, List.setIfInBounds_toArray, List.set_cons_zero, List.set_cons_succ]
          refine wpAnyH_done (by kernel_rfl) ?_ _
          go_wp2_with fail
          go_roundw
          case rel => exact ⟨gl, gy, j + 1, D', ss', rfl, rfl, rfl, rfl, by go_num, by omega, by omega, Go.Lib.hid ⟨M1.out, m2⟩, p12, B11⟩
          case measure => simp [intOf]; omega
        · have j3 : ¬ (kk : Int) < 3 := by omega
          have B9 := B8
          have p9 := p8
          have hbk : BOk ⟨q.x.a, few6 q.x.es⟩ := ⟨(few_ok hw (z := 0) (by omega)).1, hw.x.a⟩
          clear p8 B8 hb8 r5
          generalize w8 = w9 at *
          have s5 : W5At w9 gb (.int .i64 q.kind) (.int .i64 q.n) (.int .i64 q.file) (.int .i64 q.x.a) (.slice E ie de) := pair_bx p9
          have k3 := s5.c3
          have k4 := s5.c4
          have kX : Keeps (SdX w0 (SdR gz gy ss.length (tot ss.flatten : Int) D) E ie de (few6 q.x.es) gb #[.int .i64 q.kind, .int .i64 q.n, .int .i64 q.file, .int .i64 q.x.a, .slice E ie de]) := sdX_keeps kB
          have bd : Below w9.heap.size w9 w9.drew := bel_drew (Below.refl _ _)
          have pd := p9.below kA kX bd
          have Bd := B9.trans (bel_up B9.size bd)
          have hbd := Bd.size
          have iv : IsB w9.drew (.agg #[.int .i64 q.x.a, .slice E ie de]) ⟨q.x.a, few6 q.x.es⟩ := ⟨_, _, _, rfl, pair_ev (pair_first pd) Bd⟩
          obtain ⟨e1, ss', m1, m2, m3⟩ := play_app ⟨q.x.a, few6 q.x.es⟩ HR.out.log HR.out.left
          have happ := appL_any (side_in kX pd) kX hbd HR.out.log.go (ht.on Bd) iv hbk (by omega) ⟨by omega, hpos⟩
          rw [e1] at happ
          have hrf := fun W (pr : Pair w0.heap.size W (RfT gz D) (With (With (With (SdL gd gl ss'.length (tot ss'.flatten : Int) (appendW D ss.length (tot ss.flatten : Int) ⟨q.x.a, few6 q.x.es⟩).2.1) (BxT gb #[.int .i64 q.kind, .int .i64 q.n, .int .i64 q.file, .int .i64 q.x.a, .slice E ie de] 41)) (EvT w0 E ie de (few6 q.x.es))) (LgT gy gz ss.length (tot ss.flatten : Int)))) (hb : w0.heap.size ≤ W.heap.size) (htW : TabB w0.heap.size W) (ivW : IsB W (.agg #[.int .i64 q.x.a, .slice E ie de]) ⟨q.x.a, few6 q.x.es⟩) => refApp_any pr (with_keeps (with_keeps (sdL_keeps _ _ _ _ _) (bxT_keeps _ _ _)) (evT_keeps _ _ _ _ _)) hb HR.out.log.go.ok htW ivW hbk (by omega) ⟨by omega, hpos⟩
          have HB := Go.Lib.hid hbk
          clear e1 iv hbk
          generalize appendW D ss.length (tot ss.flatten : Int) ⟨q.x.a, few6 q.x.es⟩ = R at *
          obtain ⟨rc, D', mm, ll⟩ := R
          simp only at m1 m2 m3
          obtain ⟨rfl, rfl⟩ := Prod.mk.inj m3
          have M1 := Go.Lib.hid m1
          clear m1 m3
          have i0 : (rc != rc) = false := by simp
          have kA' := sdL_keeps gd gl ss'.length (tot ss'.flatten : Int) D'
          have kB' := sdR_keeps gz gy ss'.length (tot ss'.flatten : Int) D'
          go_upto_region 18 with (fail)
          refine wp_region_held_drew (S := (fun w' => w'.cell? ⟨gb, 3, none⟩ = some (.int .i64 q.x.a) ∧ w'.cell? ⟨gb, 4, none⟩ = some (.slice E ie de))) (by kernel_rfl) ?_ (fun hHeld => ?_)
          · exact ⟨k3, k4⟩
          refine take_at (i := 0) (d := 84) (v := ?_) rfl rfl (by kernel_rfl) (by kernel_rfl) (by kernel_rfl) (fun _ _ _ h => h) (Or.inl ⟨by rfl, ?hy⟩) (by assumption) ?_
          case hy => (intro wS hSw; (try dsimp only at hSw); first | (go_simp; done) | (go_simp; with_reducible rfl))
          simp only [Act.put, List.setIfInBounds_toArray, List.set_cons_zero, List.set_cons_succ]
          refine take_at (i := 1) (d := 85) (v := ?_) rfl rfl (by kernel_rfl) (by kernel_rfl) (by kernel_rfl) (fun _ _ _ h => h) (Or.inl ⟨by rfl, ?hy⟩) (by assumption) ?_
          case hy => (intro wS hSw; (try dsimp only at hSw); first | (go_simp; done) | (go_simp; with_reducible rfl))
          simp only [Act.put, List.setIfInBounds_toArray, List.set_cons_zero, List.set_cons_succ]
          refine take_at (i := 2) (d := 86) (v := ?_) rfl rfl (by kernel_rfl) (by kernel_rfl) (by kernel_rfl) (fun _ _ _ h => h) (Or.inl ⟨by rfl, ?hy⟩) (by assumption) ?_
          case hy => (intro wS hSw; (try dsimp only at hSw); first | (go_simp; done) | (go_simp; with_reducible rfl))
          simp only [Act.put, List.setIfInBounds_toArray, List.set_cons_zero, List.set_cons_succ]
          refine take_at (i := 4) (d := 88) (v := ?_) rfl rfl (by kernel_rfl) (by kernel_rfl) (by kernel_rfl) (fun _ _ _ h => h) (Or.inl ⟨by rfl, ?hy⟩) (by assumption) ?_
          case hy => (intro wS hSw; (try dsimp only at hSw); first | (go_simp; done) | (go_simp; with_reducible rfl))
          simp only [Act.put, List.setIfInBounds_toArray, List.set_cons_zero, List.set_cons_succ]
          refine take_at (i := 5) (d := 89) (v := ?_) rfl rfl (by kernel_rfl) (by kernel_rfl) (by kernel_rfl) (fun _ _ _ h => h) (Or.inl ⟨by rfl, ?hy⟩) (by assumption) ?_
          case hy => (intro wS hSw; (try dsimp only at hSw); first | (go_simp; done) | (go_simp; with_reducible rfl))
          simp only [Act.put, List.setIfInBounds_toArray, List.set_cons_zero, List.set_cons_succ]
          refine take_at (i := 6) (d := 90) (v := ?_) rfl rfl (by kernel_rfl) (by kernel_rfl) (by kernel_rfl) (fun _ _ _ h => h) (Or.inl ⟨by rfl, ?hy⟩) (by assumption) ?_
          case hy => (intro wS hSw; (try dsimp only at hSw); first | (go_simp; done) | (go_simp; with_reducible rfl))
          simp only [Act.put, List.setIfInBounds_toArray, List.set_cons_zero, List.set_cons_succ]
          refine wpAnyH_ready (rs := [3]) (by kernel_rfl) (by simp) ?_
          refine AllReadyH.cons rfl (fun K3 hK3 => ?_) AllReadyH.nil
          go_simp
          go_wp2_with (go_at_call 16; refine happ.mono ?_; rintro e w10 ⟨rfl, p10', b10⟩; have p10 : Pair w0.heap.size w10 (SdL gd gl ss'.length (tot ss'.flatten : Int) D') (SdX w0 (SdR gz gy ss.length (tot ss.flatten : Int) D) E ie de (few6 q.x.es) gb #[.int .i64 q.kind, .int .i64 q.n, .int .i64 q.file, .int .i64 q.x.a, .slice E ie de]) := side_out (ldT_keeps _ _) p10'; have B10 := Bd.trans b10; have s10 : W5At w10 gb (.int .i64 q.kind) (.int .i64 q.n) (.int .i64 q.file) (.int .i64 q.x.a) (.slice E ie de) := pair_bx p10)
          refine hK3.out _ _ ?_ (fun hH3 => ?_)
          · exact ⟨s10.c3, s10.c4⟩
          clear hK3 K3 hHeld
          refine wpAnyH_ready (rs := [7]) (by kernel_rfl) (by simp) ?_
          refine AllReadyH.cons rfl (fun K7 hK7 => ?_) AllReadyH.nil
          go_simp
          go_wp2_with (go_at_call 17; refine (hrf w10 (sd_ref kA' p10) B10.size (ht.on B10) ⟨_, _, _, rfl, pair_ev (pair_first p10) B10⟩).mono ?_; rintro e w11 ⟨rfl, p11, b11⟩; have s11 : W5At w11 gb (.int .i64 q.kind) (.int .i64 q.n) (.int .i64 q.file) (.int .i64 q.x.a) (.slice E ie de) := pair_bx (pair_first (pair_first p11)); have yc1 := (lg_cells p11).2.1; have yc2 := (lg_cells p11).2.2.1; have B11 := B10.trans b11; have p12 : Pair w0.heap.size w11 (SdL gd gl ss'.length (tot ss'.flatten : Int) D') (SdR gz gy ss'.length (tot ss'.flatten : Int) D') := sd_fin (rfT_keeps _ _) p11; have hl2 := lastL_any (side_in kB' p12); have hs2 := segsL_any (side_in kB' p12))
          refine hK7.out _ _ ?_ (fun hH7 => ?_)
          · exact ⟨s11.c3, s11.c4⟩
          clear hK7 K7 hH3
          refine wpAnyH_more (S' := (fun (w' : World) => (w'.cell? ⟨gb, 3, none⟩ = some (.int .i64 q.x.a) ∧ w'.cell? ⟨gb, 4, none⟩ = some (.slice E ie de)) ∧ w'.cell? ⟨gy, 1, none⟩ = some (.int .i64 (ss'.length : Int)) ∧ w'.cell? ⟨gy, 2, none⟩ = some (.int .i64 (tot ss'.flatten : Int)))) (fun _ h => h.1) ?_
          have hStr : ((fun (w' : World) => (w'.cell? ⟨gb, 3, none⟩ = some (.int .i64 q.x.a) ∧ w'.cell? ⟨gb, 4, none⟩ = some (.slice E ie de)) ∧ w'.cell? ⟨gy, 1, none⟩ = some (.int .i64 (ss'.length : Int)) ∧ w'.cell? ⟨gy, 2, none⟩ = some (.int .i64 (tot ss'.flatten : Int)))) _ := ⟨⟨s11.c3, s11.c4⟩, yc1, yc2⟩
          clear hH7
          refine take_at (i := 8) (d := 92) (v := ?_) rfl rfl (by kernel_rfl) (by kernel_rfl) (by kernel_rfl) (fun _ _ _ h => h) (Or.inl ⟨by rfl, ?hy⟩) (by assumption) ?_
          case hy => (intro wS hSw; (try dsimp only at hSw); first | (go_simp; done) | (go_simp; with_reducible rfl))
          simp only [Act.put, List.setIfInBounds_toArray, List.set_cons_zero, List.set_cons_succ]
          refine take_at (i := 9) (d := 93) (v := ?_) rfl rfl (by kernel_rfl) (by kernel_rfl) (by kernel_rfl) (fun _ _ _ h => h) (Or.inl ⟨by rfl, ?hy⟩) (by assumption) ?_
          case hy => (intro wS hSw; (try dsimp only at hSw); first | (go_simp; done) | (go_simp; with_reducible rfl))
          simp only [Act.put, List.setIfInBounds_toArray, List.set_cons_zero, List.set_cons_succ]
          refine take_at (i := 10) (d := 94) (v := ?_) rfl rfl (by kernel_rfl) (by kernel_rfl) (by kernel_rfl) (fun _ _ _ h => h) (Or.inl ⟨by rfl, ?hy⟩) (by assumption) ?_
          case hy => (intro wS hSw; (try dsimp only at hSw); first | (go_simp; done) | (go_simp; with_reducible rfl))
          simp only [Act.put, List.setIfInBounds_toArray, List.set_cons_zero, List.set_cons_succ]
          refine take_at (i := 12) (d := 96) (v := ?_) rfl rfl (by kernel_rfl) (by kernel_rfl) (by kernel_rfl) (fun _ _ _ h => h) (Or.inl ⟨by rfl, ?hy⟩) (by assumption) ?_
          case hy => (intro wS hSw; (try dsimp only at hSw); first | (go_simp; done) | (go_simp; with_reducible rfl))
          simp only [Act.put, List.setIfInBounds_toArray, List.set_cons_zero, List.set_cons_succ]
          refine take_at (i := 13) (d := 97) (v := ?_) rfl rfl (by kernel_rfl) (by kernel_rfl) (by kernel_rfl) (fun _ _ _ h => h) (Or.inl ⟨by rfl, ?hy⟩) (by assumption) ?_
          case hy => (intro wS hSw; (try dsimp only at hSw); first | (go_simp; done) | (go_simp; with_reducible rfl))
          simp only [Act.put, List.setIfInBounds_toArray, List.set_cons_zero, List.set_cons_succ]
          refine take_at (i := 14) (d := 98) (v := ?_) rfl rfl (by kernel_rfl) (by kernel_rfl) (by kernel_rfl) (fun _ _ _ h => h) (Or.inl ⟨by rfl, ?hy⟩) (by assumption) ?_
          case hy => (intro wS hSw; (try dsimp only at hSw); first | (go_simp; done) | (go_simp; with_reducible rfl))
          simp only [Act.put, List.setIfInBounds_toArray, List.set_cons_zero, List.set_cons_succ]
          refine take_at (i := 15) (d := 99) (v := ?_) rfl rfl (by kernel_rfl) (by kernel_rfl) (by kernel_rfl) (fun _ _ _ h => h) (Or.inl ⟨by rfl, ?hy⟩) (by assumption) ?_
          case hy => (intro wS hSw; (try dsimp only at hSw); first | (go_simp; done) | (go_simp; with_reducible rfl))
          simp only [Act.put, List.setIfInBounds_toArray, List.set_cons_zero, List.set_cons_succ]
          refine wpAnyH_ready (rs := [11]) (by kernel_rfl) (by simp) ?_
          refine AllReadyH.cons rfl (fun K11 hK11 => ?_) AllReadyH.nil
          go_simp
          go_wp2_with (go_at_call 18; refine hl2.mono ?_; rintro e w12 ⟨rfl, rfl⟩)
          refine hK11.out _ _ ?_ (fun hH11 => ?_)
          · exact ⟨⟨s11.c3, s11.c4⟩, yc1, yc2⟩
          clear hK11 K11 hStr
          refine take_at (i := 16) (d := 100) (v := ?_) rfl rfl (by kernel_rfl) (by kernel_rfl) (by kernel_rfl) (fun _ _ _ h => h) (Or.inl ⟨by rfl, ?hy⟩) (by assumption) ?_
          case hy => (intro wS hSw; (try dsimp only at hSw); first | (go_simp; done) | (go_simp; with_reducible rfl))
          simp only [Act.put, List.setIfInBounds_toArray, List.set_cons_zero, List.set_cons_succ]
          refine take_at (i := 17) (d := 101) (v := ?_) rfl rfl (by kernel_rfl) (by kernel_rfl) (by kernel_rfl) (fun _ _ _ h => h) (Or.inl ⟨by rfl, ?hy⟩) (by assumption) ?_
          case hy => (intro wS hSw; (try dsimp only at hSw); first | (go_simp; done) | (go_simp; with_reducible rfl))
          simp only [Act.put, List.setIfInBounds_toArray, List.set_cons_zero, List.set_cons_succ]
          refine take_at (i := 18) (d := 102) (v := ?_) rfl rfl (by kernel_rfl) (by kernel_rfl) (by kernel_rfl) (fun _ _ _ h => h) (Or.inl ⟨by rfl, ?hy⟩) (by assumption) ?_
          case hy => (intro wS hSw; (try dsimp only at hSw); first | (go_simp; done) | (go_simp; with_reducible rfl))
          simp only [Act.put, List.setIfInBounds_toArray, List.set_cons_zero, List.set_cons_succ]
          refine take_at (i := 19) (d := 103) (v := ?_) rfl rfl (by kernel_rfl) (by kernel_rfl) (by kernel_rfl) (fun _ _ _ h => h) (Or.inl ⟨by rfl, ?hy⟩) (by assumption) ?_
          case hy => (intro wS hSw; (try dsimp only at hSw); first | (go_simp; done) | (go_simp; with_reducible rfl))
          simp only [Act.put, List.setIfInBounds_toArray, List.set_cons_zero, List.set_cons_succ]
          refine take_at (i := 21) (d := 105) (v := ?_) rfl rfl (by kernel_rfl) (by kernel_rfl) (by kernel_rfl) (fun _ _ _ h => h) (Or.inl ⟨by rfl, ?hy⟩) (by assumption) ?_
          case hy => (intro wS hSw; (try dsimp only at hSw); first | (go_simp; done) | (go_simp; with_reducible rfl))
          simp only [Act.put, List.setIfInBounds_toArray, List.set_cons_zero, List.set_cons_succ]
          refine take_at (i := 22) (d := 106) (v := ?_) rfl rfl (by kernel_rfl) (by kernel_rfl) (by kernel_rfl) (fun _ _ _ h => h) (Or.inl ⟨by rfl, ?hy⟩) (by assumption) ?_
          case hy => (intro wS hSw; (try dsimp only at hSw); first | (go_simp; done) | (go_simp; with_reducible rfl))
          simp only [Act.put, List.setIfInBounds_toArray, List.set_cons_zero, List.set_cons_succ]
          refine take_at (i := 23) (d := 107) (v := ?_) rfl rfl (by kernel_rfl) (by kernel_rfl) (by kernel_rfl) (fun _ _ _ h => h) (Or.inl ⟨by rfl, ?hy⟩) (by assumption) ?_
          case hy => (intro wS hSw; (try dsimp only at hSw); first | (go_simp; done) | (go_simp; with_reducible rfl))
          simp only [Act.put, List.setIfInBounds_toArray, List.set_cons_zero, List.set_cons_succ]
          refine take_at (i := 24) (d := 108) (v := ?_) rfl rfl (by kernel_rfl) (by kernel_rfl) (by kernel_rfl) (fun _ _ _ h => h) (Or.inl ⟨by rfl, ?hy⟩) (by assumption) ?_
          case hy => (intro wS hSw; (try dsimp only at hSw); first | (go_simp; done) | (go_simp; with_reducible rfl))
          simp only [Act.put, List.setIfInBounds_toArray, List.set_cons_zero, List.set_cons_succ]
          refine wpAnyH_ready (rs := [20]) (by kernel_rfl) (by simp) ?_
          refine AllReadyH.cons rfl (fun K20 hK20 => ?_) AllReadyH.nil
          go_simp
          go_wp2_with (go_at_call 19; refine hs2.mono ?_; rintro e w12 ⟨rfl, rfl⟩)
          refine hK20.out _ _ ?_ (fun hH20 => ?_)
          · exact ⟨⟨s11.c3, s11.c4⟩, yc1, yc2⟩
          clear hK20 K20 hH11
          refine take_at (i := 25) (d := 109) (v := ?_) rfl rfl (by kernel_rfl) (by kernel_rfl) (by kernel_rfl) (fun _ _ _ h => h) (Or.inl ⟨by rfl, ?hy⟩) (by assumption) ?_
          case hy => (intro wS hSw; (try dsimp only at hSw); first | (go_simp; done) | (go_simp; with_reducible rfl))
          simp only [Act.put, List.setIfInBounds_toArray, List.set_cons_zero, List.set_cons_succ]
          refine take_at (i := 26) (d := 110) (v := ?_) rfl rfl (by kernel_rfl) (by kernel_rfl) (by kernel_rfl) (fun _ _ _ h => h) (Or.inl ⟨by rfl, ?hy⟩) (by assumption) ?_
          case hy => (intro wS hSw; (try dsimp only at hSw); first | (go_simp; done) | (go_simp; with_reducible rfl))
          simp only [Act.put, List.setIfInBounds_toArray, List.set_cons_zero, List.set_cons_succ]
          refine wpAnyH_done (by kernel_rfl) ?_ _
          go_wp2_with fail
          go_roundw
          case rel => exact ⟨gl, gy, j + 1, D', ss', rfl, rfl, rfl, rfl, by go_num, by omega, by omega, Go.Lib.hid ⟨M1.out, m2⟩, p12, B11⟩
          case measure => simp [intOf]; omega
      · have j4 : ¬ (kk : Int) < 4 := by omega
        have p3 := sd_disks p8
        have hgo := HR.out.log.go
        have kz := with_keeps (rfT_keeps gz D) (bxT_keeps gb #[.int .i64 q.kind, .int .i64 q.n, .int .i64 q.file, .int .i64 q.x.a, .slice E ie de] 41)
        by_cases h5 : kk = 4
        · subst h5
          have k1 := r5.c1
          go_wp2_with fail
          refine (pr_crash p3 kz hb8 hgo hw.n).mono ?_
          rintro e w9 ⟨rfl, p9, b9⟩
          have B9 := B8.trans b9
          have hb9 := B9.size
          have s9 : W5At w9 gb (.int .i64 q.kind) (.int .i64 q.n) (.int .i64 q.file) (.int .i64 q.x.a) (.slice E ie de) := pair_bx p9
          have k1' := s9.c1
          clear p3 p8 k1 r5 b9
          go_wp2_with fail
          refine (rf_crash (pair_rot (ldT_keeps _ _) p9) (with_keeps (ldT_keeps _ _) (bxT_keeps _ _ _)) hb9 hgo.ok hw.n).mono ?_
          rintro e wT ⟨rfl, p10, b10⟩
          have pT := (pair_first p10).swap
          have BT := B9.trans b10
          have gT := crash_go hgo q.n
          have sT := HR.out.log.segs.crash hgo q.n
          have lT : (crashD D q.n).left = -1 := rfl
          clear p9 p10 b10 B9 hb9 s9 k1' B8 hb8
          generalize crashD D q.n = D1 at *
          have BE := BT
          have al1 : Below wT.heap.size wT (wT.alloc (.cells #[] 39)) := (Below.refl _ _).alloc (Nat.le_refl _) _
          have al2 : Below (wT.alloc (.cells #[] 39)).heap.size (wT.alloc (.cells #[] 39)) ((wT.alloc (.cells #[] 39)).alloc (.cells #[] 39)) := (Below.refl _ _).alloc (Nat.le_refl _) _
          have pU := (pT.below (ldT_keeps _ _) (rfT_keeps _ _) al1).below (ldT_keeps _ _) (rfT_keeps _ _) al2
          have BU := (BT.trans (bel_up BT.size al1)).trans (bel_up (Nat.le_trans BT.size al1.size) al2)
          have hbU := BU.size
          have hso := sd_open pU hbU (ht.on BU) gT lT sT
          clear pT BT al1 al2 BE
          go_upto_region 27 with (fail)
          generalize (wT.alloc (.cells #[] 39)).alloc (.cells #[] 39) = wU at *
          go_wp2_with fail
          refine hso.mono ?_
          rintro e w13 ⟨D5, ss5, gl5, A5, n5, c5, rfl, l5, f5, p13, b13, hro⟩
          have B13 := BU.trans b13
          have hb13 := B13.size
          go_wp2_with fail
          refine (hro w13 hb13 (ht.on B13) p13).mono ?_
          rintro e w14 ⟨gy6, A6, n6, c6, rfl, r14, r15, p14, b14⟩
          have B14 := B13.trans b14
          have hb14 := B14.size
          have hsame := sameBs_true r14 r15
          clear hso hro p13 b13 b14 B13 hb13 r14 r15 pU BU hbU
          go_wp2_with fail
          refine hsame.mono ?_
          rintro e w15 ⟨rfl, b15⟩
          have p15 := p14.below (sdL_keeps _ _ _ _ _) (sdR_keeps _ _ _ _ _) b15
          have B15 := B14.trans (bel_up hb14 b15)
          go_wp2_with fail
          go_roundw
          case rel => exact ⟨gl5, gy6, j + 1, D5, ss5, rfl, rfl, rfl, rfl, by go_num, by omega, by omega, Go.Lib.hid ⟨l5, f5⟩, p15, B15⟩
          case measure => simp [intOf]; omega
        · have j5 : ((kk : Int) == 4) = false := by rw [beq_eq_false_iff_ne]; omega
          have k1 := r5.c1
          have k2 := r5.c2
          have bd : Below w8.heap.size w8 w8.drew := bel_drew (Below.refl _ _)
          have pd := p3.below (ldT_keeps _ _) kz bd
          have Bd := B8.trans (bel_up hb8 bd)
          have hsz : (segZ q.file).size ≤ maxLen := seg_size _
          go_upto_region 23 with (fail)
          go_region_held (fun w' => w'.cell? ⟨gb, 1, none⟩ = some (.int .i64 q.n) ∧ w'.cell? ⟨gb, 2, none⟩ = some (.int .i64 q.file))
            (first | exact ⟨k1, k2⟩ | exact ⟨s9.c1, s9.c2⟩ | exact ⟨s10.c1, s10.c2⟩)
            (first
              | (go_at_call 23; refine (segL_any q.file w8.drew (ht.on Bd).here).mono ?_; rintro e w9 ⟨rfl, b9⟩; have p9 := pd.below (ldT_keeps _ _) kz b9; have B9 := Bd.trans (bel_up Bd.size b9); have s9 : W5At w9 gb (.int .i64 q.kind) (.int .i64 q.n) (.int .i64 q.file) (.int .i64 q.x.a) (.slice E ie de) := pair_bx p9)
              | (go_at_call 22; refine (pr_turn p9 kz B9.size hgo hsz q.n).mono ?_; rintro e w10 ⟨rfl, p10, b10⟩; have B10 := B9.trans b10; have s10 : W5At w10 gb (.int .i64 q.kind) (.int .i64 q.n) (.int .i64 q.file) (.int .i64 q.x.a) (.slice E ie de) := pair_bx p10))
          have pr := pair_rot (ldT_keeps _ _) p10
          have kr := with_keeps (ldT_keeps gd (turnC D (segZ q.file) q.n).2) (bxT_keeps gb #[.int .i64 q.kind, .int .i64 q.n, .int .i64 q.file, .int .i64 q.x.a, .slice E ie de] 41)
          have u1 := s10.c1
          have u2 := s10.c2
          have bd2 : Below w10.heap.size w10 w10.drew := bel_drew (Below.refl _ _)
          have pd2 := pr.below (rfT_keeps _ _) kr bd2
          have Bd2 := B10.trans (bel_up B10.size bd2)
          clear p3 p8 pd Bd bd p9 B9 b9 s9 k1 k2 r5 p10 pr b10 bd2
          go_upto_region 24 with (fail)
          go_region_held (fun w' => w'.cell? ⟨gb, 1, none⟩ = some (.int .i64 q.n) ∧ w'.cell? ⟨gb, 2, none⟩ = some (.int .i64 q.file))
            (first | exact ⟨u1, u2⟩ | exact ⟨s11.c1, s11.c2⟩ | exact ⟨s12.c1, s12.c2⟩)
            (first
              | (go_at_call 25; refine (refSeg_any q.file w10.drew (ht.on Bd2).here).mono ?_; rintro e w11 ⟨rfl, b11⟩; have p11 := pd2.below (rfT_keeps _ _) kr b11; have B11 := Bd2.trans (bel_up Bd2.size b11); have s11 : W5At w11 gb (.int .i64 q.kind) (.int .i64 q.n) (.int .i64 q.file) (.int .i64 q.x.a) (.slice E ie de) := pair_bx p11)
              | (go_at_call 24; refine (rf_turn p11 kr B11.size hgo.ok (segZ q.file) q.n).mono ?_; rintro e wT ⟨rfl, p12, b12⟩; have BT := B11.trans b12; have s12 : W5At wT gb (.int .i64 q.kind) (.int .i64 q.n) (.int .i64 q.file) (.int .i64 q.x.a) (.slice E ie de) := pair_bx p12))
          have pT := (pair_first p12).swap
          have gT := turn_go hgo (segZ q.file) q.n
          obtain ⟨⟨cs1, sT⟩, lT0, _⟩ := turn_segs hgo HR.out.log.segs (segZ q.file) q.n
          have lT : (turnC D (segZ q.file) q.n).2.left = -1 := lT0.trans HR.out.left
          clear pd2 Bd2 p11 B11 b11 s11 u1 u2 p12 b12 s12 kr lT0 hsz
          generalize (turnC D (segZ q.file) q.n).2 = D1 at *
          have BE := BT
          have al1 : Below wT.heap.size wT (wT.alloc (.cells #[] 39)) := (Below.refl _ _).alloc (Nat.le_refl _) _
          have al2 : Below (wT.alloc (.cells #[] 39)).heap.size (wT.alloc (.cells #[] 39)) ((wT.alloc (.cells #[] 39)).alloc (.cells #[] 39)) := (Below.refl _ _).alloc (Nat.le_refl _) _
          have pU := (pT.below (ldT_keeps _ _) (rfT_keeps _ _) al1).below (ldT_keeps _ _) (rfT_keeps _ _) al2
          have BU := (BT.trans (bel_up BT.size al1)).trans (bel_up (Nat.le_trans BT.size al1.size) al2)
          have hbU := BU.size
          have hso := sd_open pU hbU (ht.on BU) gT lT sT
          clear pT BT al1 al2 BE
          go_upto_region 27 with (fail)
          generalize (wT.alloc (.cells #[] 39)).alloc (.cells #[] 39) = wU at *
          go_wp2_with fail
          refine hso.mono ?_
          rintro e w13 ⟨D5, ss5, gl5, A5, n5, c5, rfl, l5, f5, p13, b13, hro⟩
          have B13 := BU.trans b13
          have hb13 := B13.size
          go_wp2_with fail
          refine (hro w13 hb13 (ht.on B13) p13).mono ?_
          rintro e w14 ⟨gy6, A6, n6, c6, rfl, r14, r15, p14, b14⟩
          have B14 := B13.trans b14
          have hb14 := B14.size
          have hsame := sameBs_true r14 r15
          clear hso hro p13 b13 b14 B13 hb13 r14 r15 pU BU hbU
          go_wp2_with fail
          refine hsame.mono ?_
          rintro e w15 ⟨rfl, b15⟩
          have p15 := p14.below (sdL_keeps _ _ _ _ _) (sdR_keeps _ _ _ _ _) b15
          have B15 := B14.trans (bel_up hb14 b15)
          go_wp2_with fail
          go_roundw
          case rel => exact ⟨gl5, gy6, j + 1, D5, ss5, rfl, rfl, rfl, rfl, by go_num, by omega, by omega, Go.Lib.hid ⟨l5, f5⟩, p15, B15⟩
          case measure => simp [intOf]; omega
    · rw [show decide (j < n ∧ j < 50) = false by simpa using hc]
      clear hc
      have pd := (pair_first (pair_first pj).swap).swap
      have hgo := HR.out.log.go
      go_wp2_with fail
      refine (alike_any wr pd hgo).mono ?_
      rintro e w7 ⟨rfl, b7⟩
      have p7 := pj.below kA kB b7
      have B7 := Bj.trans (bel_up hbj b7)
      have hb7 := B7.size
      have pl := side_in kB p7
      have y2 := (lg_cells p7).2.2.1
      have hlq : ∀ q, Calls Tryz.prog 18 #[.pointer (some ⟨gl, 0, none⟩)] (w7.drewN q) fun e w' => e = .returned (.int .i64 (tot ss.flatten : Int)) ∧ ∃ k, w' = w7.drewN k := fun q => (lastL_any (pl.below (ldT_keeps _ _) (with_keeps kB (bxT_keeps _ _ _)) (bel_drewN (Below.refl _ _) q))).mono fun e w' ⟨he, hw⟩ => ⟨he, q, hw.symm⟩
      clear pl p7 pj pd kA kB
      go_upto_region 33 with (fail)
      go_quiet (first | (go_at_call 18; exact hlq _))
      go_wp2_with fail
      go_ret
      exact ⟨by simp, B7.trans (bel_up hb7 (bel_drewN (Below.refl _ _) _))⟩
end Go.Proofs.YtppidbdkejkopaaGreatDoor.WlWalk
namespace Go.Proofs.YtppidbdkejkopaaGreatDoor.WlWalk
open Go.RowKit Go.WideShapes Go.ChangeShapes NumMem Go.Proofs.YtppidbdkejkopaaGreatDoor.Open BtWalk
section
variable {H : Type} {enc : TypeId × Value → H}
set_option maxRecDepth 100000 in
theorem wplays_main (W : World) (base : Nat) (v0 v1 : Value) {d0 d1 : DataW H} {p0 p1 : List MemPlace} (o0 : Value.okWide Tryz.prog W .any base 3 v0) (o1 : Value.okWide Tryz.prog W .any base 22 v1)
    (h0 : DataW.Trod enc Tryz.prog W 0 (fun _ => true) true 3 v0 d0 p0) (h1 : DataW.Trod enc Tryz.prog W 0 (fun _ => true) true 22 v1 d1 p1)
    (ht : Lib.TabIs Tryz.prog W "internal/strconv.uint64pow10" .u64 Lib.pow10Tab) :
    Calls Tryz.prog 3 #[v0, v1] W fun e W' => e = .returned (.bool true) ∧ Below W.heap.size W W' := by
  obtain ⟨z, rfl, wz⟩ := op_i64 Tryz.underlying3 o0 h0
  obtain ⟨A, n, cap, os, rfl, r, hok⟩ := op_wops o1 h1
  exact wplays_walk z A n cap os W r hok wz (TabW.from ht)
end
end Go.Proofs.YtppidbdkejkopaaGreatDoor.WlWalk
