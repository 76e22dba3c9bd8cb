/-
  Walk of a statement of layer 13: PostingFinds.
-/
import Derived.Lib.SlicesSearch
import Derived.Lib.Walk
import Derived.Maps.OwnSet
import Derived.Maps.Ext
import Derived.Maps.RangeWalk
import Derived.Sort.KeysCollected
import Derived.ArgAppend
import Derived.Deep.RegionHeldLaw
import Derived.Maps.OwnOps
import Derived.WalkSpells
import Derived.Deep.QuietTactic
import Derived.BigQuiet
import Derived.Test.YtppdljkfhoekpaaMg3
namespace Go.Proofs.Ytppdljkfhoekpaa.PoWalk
open Go.Proofs.Ytppdljkfhoekpaa.HeldAt Go.RowKit Go.Proofs.Ytppdljkfhoekpaa.MemRow Go.Proofs.Ytppdljkfhoekpaa.Ev Go.Proofs.Ytppdljkfhoekpaa.NameMath Go.Proofs.Ytppdljkfhoekpaa.NameWalk Go.Proofs.Ytppdljkfhoekpaa.EvWalk Go.Proofs.Ytppdljkfhoekpaa.NumMem Go.Proofs.Ytppdljkfhoekpaa.SmWalk Go.Proofs.Ytppdljkfhoekpaa.Qu Go.Proofs.Ytppdljkfhoekpaa.QuWalk Go.Proofs.Ytppdljkfhoekpaa.DkWalk

section
variable {base : Nat} {W0 w : World} {g : Nat} {L : Ls} {Q : Thing}
theorem rl_tag (h : Pair base w (LsT W0 g L) Q) (kq : Keeps Q) (hW : Below W0.heap.size W0 w) (hl : L.length ≤ 200) (t : ByteArray) :
    Calls Try.prog 22 #[.pointer (some ⟨g, 0, none⟩), .string t] w fun e w' => ∃ B m c, e = .returned (.slice B m c) ∧ RdI w' B m c (tagP L t) ∧ Pair base w' (LsT W0 g L) Q ∧ Below w.heap.size w w' := by
  have h' := h
  obtain ⟨F, G, hp, _⟩ := h
  exact (refTag_any W0 g L F t w hp hW hl).mono fun e w' ⟨B, m, c, he, hr, hb⟩ => ⟨B, m, c, he, hr, h'.below (lsT_keeps _ _ _) kq hb, hb⟩
theorem rl_typ (h : Pair base w (LsT W0 g L) Q) (kq : Keeps Q) (hW : Below W0.heap.size W0 w) (hl : L.length ≤ 200) (t : ByteArray) :
    Calls Try.prog 24 #[.pointer (some ⟨g, 0, none⟩), .string t] w fun e w' => ∃ B m c, e = .returned (.slice B m c) ∧ RdI w' B m c (typP L t) ∧ Pair base w' (LsT W0 g L) Q ∧ Below w.heap.size w w' := by
  have h' := h
  obtain ⟨F, G, hp, _⟩ := h
  exact (refType_any W0 g L F t w hp hW hl).mono fun e w' ⟨B, m, c, he, hr, hb⟩ => ⟨B, m, c, he, hr, h'.below (lsT_keeps _ _ _) kq hb, hb⟩
theorem rl_find (h : Pair base w (LsT W0 g L) Q) (kq : Keeps Q) (hW : Below W0.heap.size W0 w) (hl : L.length ≤ 200) {v : Value} {q : List Cl} (hq : IsQ w v q) (u : Int) :
    Calls Try.prog 27 #[.pointer (some ⟨g, 0, none⟩), v, .int .i64 u] w fun e w' => ∃ B m c, e = .returned (.slice B m c) ∧ RdI w' B m c (findP L q u) ∧ Pair base w' (LsT W0 g L) Q ∧ Below w.heap.size w w' := by
  have h' := h
  obtain ⟨F, G, hp, _⟩ := h
  exact (refFind_any W0 g L F v q u w hq hp hW hl).mono fun e w' ⟨B, m, c, he, hr, hb⟩ => ⟨B, m, c, he, hr, h'.below (lsT_keeps _ _ _) kq hb, hb⟩
theorem ls_new {P : Thing} (h : Pair base w P NoT) (kp : Keeps P) (hb : base ≤ w.heap.size) : Pair base (w.alloc (.cells #[.slice none 0 0, .slice none 0 0] 36)) P (LsT W0 w.heap.size []) ∧ Below w.heap.size w (w.alloc (.cells #[.slice none 0 0, .slice none 0 0] 36)) := by
  have hbl := (Below.refl w.heap.size w).alloc (Nat.le_refl _) (.cells #[.slice none 0 0, .slice none 0 0] 36)
  have hs : (w.alloc (.cells #[.slice none 0 0, .slice none 0 0] 36)).heap.size = w.heap.size + 1 := by simp only [World.alloc, Array.size_push]
  exact ⟨pair_second (pair_more h kp noT_keeps hb hbl ⟨none, 0, 0, none, 0, [], heap_alloc_new w _, RdC.nil _, rfl, RdC.nil _, ⟨Nat.le_refl _, by omega⟩, fun a ha => (by cases ha), fun a ha => (by cases ha), fun k hk => hk.2⟩), hbl⟩
/-- A block ahead of the two is written. -/
theorem pair_outer {P : Thing} (h : Pair base w P Q) (kp : Keeps P) (kq : Keeps Q) {b : Nat} (hb : b < base) (i : Nat) (v : Value) : Pair base (w.setCell ⟨b, i, none⟩ v) P Q := by
  obtain ⟨F, G, hp, hq, h1, h2, h3⟩ := h
  have hs : w.heap.size ≤ (w.setCell ⟨b, i, none⟩ v).heap.size := by simp [World.setCell]
  exact ⟨F, G, kp.keep hp hs fun k hk => set_far (by have := h1 k hk; omega), kq.keep hq hs fun k hk => set_far (by have := h2 k hk; omega), h1, h2, h3⟩
end
theorem getD_szT {ss : List ByteArray} (hs : ∀ s ∈ ss, s.size ≤ maxLen) (j : Nat) : (ss.getD j ByteArray.empty).size ≤ maxLen := by
  by_cases h : j < ss.length
  · simp only [List.getD, List.getElem?_eq_getElem h, Option.getD_some]
    exact hs _ (List.getElem_mem h)
  · simp [List.getD, List.getElem?_eq_none (Nat.le_of_not_lt h)]
theorem tmod4 (f : Int) : -3 ≤ Int.tmod f 4 ∧ Int.tmod f 4 ≤ 3 := by
  have h1 : (Int.tmod f 4).natAbs = f.natAbs % 4 := Int.natAbs_tmod f 4
  omega
section
variable {Pt : Nat → Ls → Thing} {Pw : Nat → Ls → Nat → Ls → Thing}
set_option maxHeartbeats 8000000 in
set_option maxRecDepth 100000 in
theorem pfinds_walk (two : TwoApi) (api : LtApi Pt Pw) (A : Option Addr) (n cap : Nat) (ds : List (Ev × Int)) (vq : Value) (q0 : List Cl) (u : Int) (w0 : World) (h0 : RdP w0 A n cap ds) (hds : ∀ d ∈ ds, PopOk d) (hq : IsQ w0 vq q0) (hqo : QOk q0) (hu : -9223372036854775808 ≤ u ∧ u ≤ 9223372036854775807) :
    Calls Try.prog 4 #[.slice A n cap, vq, .int .i64 u] w0 fun e w' => e = .returned (.bool true) ∧ Below w0.heap.size w0 w' := by
  have hn := h0.le
  unfold maxLen at hn
  have HN := Go.Lib.hid h0.len
  have HE := Go.Lib.hid hds
  have HQ := Go.Lib.hid hq
  obtain ⟨Aq, nq, cq, rfl, _⟩ := hq
  have kP := api.keeps
  clear hds
  go_enter Try.func4, Try.ntmps4
  have bx := (Below.refl w0.heap.size w0).alloc (Nat.le_refl _) (.cells #[.slice Aq nq cq] 30)
  have tx := QAt.new w0 (.slice Aq nq cq)
  go_upto_region 1 with (fail)
  generalize w0.alloc (.cells #[.slice Aq nq cq] 30) = w1 at *
  have hgq := tx.lt
  have HBX := Go.Lib.hid (fun (w' : World) (b : Below w1.heap.size w1 w') => bx.trans (b.mono bx.size))
  have HTX := Go.Lib.hid tx
  have HGQ := Go.Lib.hid hgq
  clear bx tx hgq
  go_wp2_with fail
  refine (shown13_any two w1).mono ?_
  rintro e w2 ⟨rfl, B2⟩
  go_wp2_with fail
  refine (api.new (base := w1.heap.size) (Q := NoT) (G := fun _ => False) (fun _ h => h) noT_keeps (fun _ h => h.elim) B2.size).mono ?_
  rintro e w3 ⟨g, rfl, p3, b3⟩
  have B3 := below_chain B2 b3
  obtain ⟨p4, b4⟩ := ls_new (W0 := w0) p3 (kP _ _) B3.size
  have B4 := below_chain B3 b4
  clear B2 b3 p3 B3 b4
  go_upto_region 4 with (fail)
  generalize w3.alloc (.cells #[.slice none 0 0, .slice none 0 0] 36) = w4 at *
  generalize w3.heap.size = gy at *
  go_wp2_with fail
  go_loopw [8, 10, 11, 12, 13, 14, 15] (fun pv zv iv _ _ _ _ wr => ∃ (g j : Nat) (z : Int) (L : Ls), pv = .pointer (some ⟨g, 0, none⟩) ∧ zv = .int .i64 z ∧ iv = .int .i64 (j : Int) ∧ j ≤ n ∧ j ≤ 60 ∧ (-(3 * (j : Int)) ≤ z ∧ z ≤ 3 * (j : Int)) ∧ Hid (L.length ≤ j) ∧ Hid (LOk L) ∧ Pair w1.heap.size wr (Pt g L) (LsT w0 gy L) ∧ Below w1.heap.size w1 wr) (fun _ _ iv _ _ _ _ _ => n - (intOf iv).toNat)
  case atStart => exact ⟨g, 0, 0, [], rfl, rfl, rfl, Nat.zero_le _, by omega, by omega, Go.Lib.hid (Nat.le_refl _), Go.Lib.hid LOk.nil, p4, B4⟩
  case round =>
    obtain ⟨g, j, z, L, rfl, rfl, rfl, hjn, hj60, hz, HL, OK, pj, Bj⟩ := hrel
    clear p4 B4
    have kR := fun L => lsT_keeps w0 gy L
    go_upto_region 8 with (fail)
    go_cut [33] (fun v wx => v = .bool (decide (j < n ∧ j < 60)) ∧ wr = wx)
    case first =>
      by_cases h1 : j < n
      · have i1 : (j : Int) < n := by omega
        by_cases h2 : j < 60
        · have i2 : (j : Int) < 60 := by omega
          go_wp2_with fail
          go_meet
          exact ⟨by simp [h1, h2], rfl⟩
        · have i2 : ¬ (j : Int) < 60 := by omega
          go_wp2_with fail
          go_meet
          exact ⟨by simp [h1, h2], rfl⟩
      · have i1 : ¬ (j : Int) < n := by omega
        go_wp2_with fail
        go_meet
        exact ⟨by simp [h1], rfl⟩
    obtain ⟨rfl, rfl⟩ := hcut
    by_cases hc : j < n ∧ j < 60
    · rw [show decide (j < n ∧ j < 60) = true by simpa using hc]
      obtain ⟨hj1, hj2⟩ := hc
      have i1 : (j : Int) < n := by omega
      have ht : Int.tmod (j : Int) 9 = ((j % 9 : Nat) : Int) := by
        rw [Int.tmod_eq_emod_of_nonneg (by omega)]
        rfl
      have hl2 : L.length < 200 := by have := HL.out; omega
      obtain ⟨be, oe, rfl, _, ke⟩ := h0.at_ (by omega)
      have KE := Go.Lib.hid ke
      clear ke
      go_upto_if 38 with (fail)
      go_cut [8, 12] (fun v _ wx => ∃ ge : Nat, v = .pointer (some ⟨ge, 0, none⟩) ∧ Pair w1.heap.size wx (Pt ge L) (LsT w0 gy L) ∧ Below w1.heap.size w1 wx)
      case first =>
        by_cases h8 : j % 9 = 8
        · rw [h8] at ht
          have ht : Int.tmod (j : Int) 9 = 8 := ht
          obtain ⟨T, nT, cT, F, nF, cF, x0, x1, x2, x3, _, rT, rF⟩ := KE.out 0 (by omega)
          have hevk := fewT_ok (HE.out _ (pop_get (j := 0) (by rw [HN.out]; omega))).ev
          have hevl := fewT_len (ds.getD 0 noPop).1
          rw [Nat.zero_mul, Nat.add_zero] at x0 x1 x2 x3
          generalize (ds.getD 0 noPop).1 = ev at *
          have iv : IsEv w0 (.agg #[.string ev.s, .string ev.t, .slice T nT cT, .slice F nF cF]) ev := ⟨T, nT, cT, F, nF, cF, rfl, rT, rF⟩
          have i9 : (0 : Int) < n := by omega
          go_wp2_with fail
          refine (api.clone pj (kR _) Bj.size OK.out).mono ?_
          rintro e w5 ⟨gn, rfl, p5, b5⟩
          have B5 := below_chain Bj b5
          have C5 := HBX.out _ B5
          have y0 := bcell C5 x0
          have y1 := bcell C5 x1
          have y2 := bcell C5 x2
          have y3 := bcell C5 x3
          clear pj Bj b5
          go_wp2_with fail
          refine (few13_any _ ev w0 w5 iv).mono ?_
          rintro e w6 ⟨u6, rfl, v6, b6⟩
          have p6 := p5.below (api.tkeeps _ _ _ _) (kR _) b6
          have B6 := below_chain B5 b6
          clear p5 B5 b6 C5 y0 y1 y2 y3
          go_wp2_with fail
          refine (api.tadd (p := 1099511627776) p6 (kR _) B6.size OK.out hl2 (fun _ _ _ hb => v6.below (HBX.out _ (B6.trans hb))) hevk (by omega) (by decide)).mono ?_
          rintro e w7 ⟨rfl, p7, b7⟩
          have B7 := B6.trans b7
          have p8 := pair_impL (api.fst _ _ _ _) (pair_impL (api.swap _ _ _ _) p7)
          clear p6 p7 B6 b7
          go_wp2_with fail
          go_meet
          exact ⟨gn, rfl, p8, B7⟩
        · have ht : ¬ Int.tmod (j : Int) 9 = 8 := by
            rw [ht]
            omega
          go_wp2_with fail
          go_meet
          exact ⟨g, rfl, pj, Bj⟩
      case rest =>
        obtain ⟨ge, rfl, p1, B1⟩ := hcut
        clear pj Bj ht
        obtain ⟨T, nT, cT, F, nF, cF, x0, x1, x2, x3, x4, rT, rF⟩ := KE.out j hj1
        have hpo := HE.out _ (pop_get (j := j) (by rw [HN.out]; exact hj1))
        have hevk := fewT_ok hpo.ev
        have hev0 := hpo.ev
        have hevl := fewT_len (ds.getD j noPop).1
        clear hpo
        generalize ds.getD j noPop = x at *
        obtain ⟨ev, far⟩ := x
        simp only at x0 x1 x2 x3 x4 rT rF hevk hevl hev0
        have iv : IsEv w0 (.agg #[.string ev.s, .string ev.t, .slice T nT cT, .slice F nF cF]) ev := ⟨T, nT, cT, F, nF, cF, rfl, rT, rF⟩
        have hr := tmod4 far
        obtain ⟨r, hrr⟩ : ∃ r, Int.tmod far 4 = r := ⟨_, rfl⟩
        rw [hrr] at hr
        have n1 : IntKind.i64.wrap (z + r) = z + r := IntWalk.i64_in _ (by omega)
        obtain ⟨z2, hz2⟩ : ∃ z2, z + r = z2 := ⟨_, rfl⟩
        have hzz : -(3 * ((j : Int) + 1)) ≤ z2 ∧ z2 ≤ 3 * ((j : Int) + 1) := by omega
        rw [hz2] at n1
        have ok2 := addL_ok OK.out (fewT ev) (p := z2) (by omega) hl2
        have hlen := addL_len L (fewT ev) z2
        have HFEW := Go.Lib.hid (fun w' => few13_any _ ev w0 w' iv)
        have C1 := HBX.out _ B1
        have y0 := bcell C1 x0
        have y1 := bcell C1 x1
        have y2 := bcell C1 x2
        have y3 := bcell C1 x3
        have y4 := bcell C1 x4
        clear C1
        go_wp2_with fail
        refine (HFEW.out wc).mono ?_
        rintro e w5 ⟨u5, rfl, v5, b5⟩
        have p5 := p1.below (kP _ _) (kR _) b5
        have B5 := below_chain B1 b5
        clear p1 B1 b5 y0 y1 y2 y3 y4
        go_wp2_with fail
        refine (api.add (p := z2) p5 (kR _) B5.size OK.out hl2 (fun _ _ _ hb => v5.below (HBX.out _ (B5.trans hb))) hevk (by omega) (by omega)).mono ?_
        rintro e w6 ⟨rfl, p6, b6⟩
        have B6 := B5.trans b6
        have C6 := HBX.out _ B6
        have y0 := bcell C6 x0
        have y1 := bcell C6 x1
        have y2 := bcell C6 x2
        have y3 := bcell C6 x3
        clear p5 B5 b6 v5 C6
        go_wp2_with fail
        refine (HFEW.out w6).mono ?_
        rintro e w7 ⟨u7, rfl, v7, b7⟩
        have p7 := (p6.below (kP _ _) (kR _) b7).swap
        have B7 := below_chain B6 b7
        obtain ⟨T7, nT7, cT7, F7, nF7, cF7, rfl, rT7, rF7⟩ := v7
        clear p6 B6 b7 y0 y1 y2 y3
        go_wp2_with fail
        refine (refAdd_any (e := fewT ev) (p := z2) p7 (kP _ _) B7.size rT7 rF7 hl2).mono ?_
        rintro e w8 ⟨rfl, p8, b8⟩
        have B8 := B7.trans b8
        have p9 := p8.swap
        clear p7 B7 b8 p8 rT7 rF7
        generalize addL L (fewT ev) z2 = R at *
        obtain ⟨re, L2⟩ := R
        simp only at ok2 hlen p9
        have i4 : (re != re) = false := by simp
        have HL2 := Go.Lib.hid (show L2.length ≤ j + 1 by have := HL.out; omega)
        have OK2 := Go.Lib.hid ok2
        have hl200 : L2.length ≤ 200 := by omega
        clear hlen ok2 HL OK hl2 hevk hevl
        have tg : 0 < nT → (ev.tags.getD 0 ByteArray.empty).size ≤ maxLen := fun _ => getD_szT hev0.tags 0
        have C8 := HBX.out _ B8
        have y1 := bcell C8 x1
        have y2 := bcell C8 x2
        clear C8
        go_upto_if 86 with (fail)
        go_cut [14] (fun _ wx => Pair w1.heap.size wx (Pt ge L2) (LsT w0 gy L2) ∧ Below w1.heap.size w1 wx)
        case first =>
          by_cases hT : 0 < nT
          · have i7 : (0 : Int) < nT := by omega
            obtain ⟨bt, ot, rfl, _, kt⟩ := RdS.at_ rT hT
            have t0 := kt 0 hT
            have hts := tg hT
            rw [Nat.add_zero] at t0
            clear kt tg
            generalize ev.tags.getD 0 ByteArray.empty = tag at *
            have bd : Below w8.heap.size w8 w8.drew := bel_dn (Below.refl _ _) 1
            have pd := p9.below (kP _ _) (kR _) bd
            have Bd := below_chain B8 bd
            have Cd := HBX.out _ Bd
            have y2d := bcell Cd x2
            have t0d := bcell Cd t0
            clear p9 B8 bd y1 y2 Cd
            go_wp2_with fail
            refine wp_region_held_drew (S := (fun w' => w'.cell? ⟨be, oe + j * 5 + 2, none⟩ = some (.slice (some ⟨bt, ot, none⟩) nT cT) ∧ w'.cell? ⟨bt, ot, none⟩ = some (.string tag))) (by kernel_rfl) ?_ (fun hHeld => ?_)
            · exact ⟨y2d, t0d⟩
            refine take_at (i := 0) (d := 87) (v := ?_) rfl rfl (by kernel_rfl) (by kernel_rfl) (by kernel_rfl) (fun _ _ _ h => h) (Or.inl ⟨by rfl, ?hy⟩) (by assumption) ?_
            case hy => (intro wS hSw; (try dsimp only at hSw); first | (go_simp; done) | (go_simp; with_reducible rfl))
            simp only [Act.put, List.setIfInBounds_toArray, List.set_cons_zero, List.set_cons_succ]
            refine take_at (i := 1) (d := 88) (v := ?_) rfl rfl (by kernel_rfl) (by kernel_rfl) (by kernel_rfl) (fun _ _ _ h => h) (Or.inl ⟨by rfl, ?hy⟩) (by assumption) ?_
            case hy => (intro wS hSw; (try dsimp only at hSw); first | (go_simp; done) | (go_simp; with_reducible rfl))
            simp only [Act.put, List.setIfInBounds_toArray, List.set_cons_zero, List.set_cons_succ]
            refine take_at (i := 2) (d := 89) (v := ?_) rfl rfl (by kernel_rfl) (by kernel_rfl) (by kernel_rfl) (fun _ _ _ h => h) (Or.inl ⟨by rfl, ?hy⟩) (by assumption) ?_
            case hy => (intro wS hSw; (try dsimp only at hSw); first | (go_simp; done) | (go_simp; with_reducible rfl))
            simp only [Act.put, List.setIfInBounds_toArray, List.set_cons_zero, List.set_cons_succ]
            refine take_at (i := 3) (d := 90) (v := ?_) rfl rfl (by kernel_rfl) (by kernel_rfl) (by kernel_rfl) (fun _ _ _ h => h) (Or.inl ⟨by rfl, ?hy⟩) (by assumption) ?_
            case hy => (intro wS hSw; (try dsimp only at hSw); first | (go_simp; done) | (go_simp; with_reducible rfl))
            simp only [Act.put, List.setIfInBounds_toArray, List.set_cons_zero, List.set_cons_succ]
            refine take_at (i := 4) (d := 91) (v := ?_) rfl rfl (by kernel_rfl) (by kernel_rfl) (by kernel_rfl) (fun _ _ _ h => h) (Or.inl ⟨by rfl, ?hy⟩) (by assumption) ?_
            case hy => (intro wS hSw; (try dsimp only at hSw); first | (go_simp; done) | (go_simp; with_reducible rfl))
            simp only [Act.put, List.setIfInBounds_toArray, List.set_cons_zero, List.set_cons_succ]
            refine take_at (i := 5) (d := 92) (v := ?_) rfl rfl (by kernel_rfl) (by kernel_rfl) (by kernel_rfl) (fun _ _ _ h => h) (Or.inl ⟨by rfl, ?hy⟩) (by assumption) ?_
            case hy => (intro wS hSw; (try dsimp only at hSw); first | (go_simp; done) | (go_simp; with_reducible rfl))
            simp only [Act.put, List.setIfInBounds_toArray, List.set_cons_zero, List.set_cons_succ]
            refine take_at (i := 6) (d := 93) (v := ?_) rfl rfl (by kernel_rfl) (by kernel_rfl) (by kernel_rfl) (fun _ _ _ h => h) (Or.inl ⟨by rfl, ?hy⟩) (by assumption) ?_
            case hy => (intro wS hSw; (try dsimp only at hSw); first | (go_simp; done) | (go_simp; with_reducible rfl))
            simp only [Act.put, List.setIfInBounds_toArray, List.set_cons_zero, List.set_cons_succ]
            refine take_at (i := 7) (d := 94) (v := ?_) rfl rfl (by kernel_rfl) (by kernel_rfl) (by kernel_rfl) (fun _ _ _ h => h) (Or.inl ⟨by rfl, ?hy⟩) (by assumption) ?_
            case hy => (intro wS hSw; (try dsimp only at hSw); first | (go_simp; done) | (go_simp; with_reducible rfl))
            simp only [Act.put, List.setIfInBounds_toArray, List.set_cons_zero, List.set_cons_succ]
            refine take_at (i := 8) (d := 95) (v := ?_) rfl rfl (by kernel_rfl) (by kernel_rfl) (by kernel_rfl) (fun _ _ _ h => h) (Or.inl ⟨by rfl, ?hy⟩) (by assumption) ?_
            case hy => (intro wS hSw; (try dsimp only at hSw); first | (go_simp; done) | (go_simp; with_reducible rfl))
            simp only [Act.put, List.setIfInBounds_toArray, List.set_cons_zero, List.set_cons_succ]
            refine take_at (i := 10) (d := 97) (v := ?_) rfl rfl (by kernel_rfl) (by kernel_rfl) (by kernel_rfl) (fun _ _ _ h => h) (Or.inl ⟨by rfl, ?hy⟩) (by assumption) ?_
            case hy => (intro wS hSw; (try dsimp only at hSw); first | (go_simp; done) | (go_simp; with_reducible rfl))
            simp only [Act.put, List.setIfInBounds_toArray, List.set_cons_zero, List.set_cons_succ]
            refine take_at (i := 11) (d := 98) (v := ?_) rfl rfl (by kernel_rfl) (by kernel_rfl) (by kernel_rfl) (fun _ _ _ h => h) (Or.inl ⟨by rfl, ?hy⟩) (by assumption) ?_
            case hy => (intro wS hSw; (try dsimp only at hSw); first | (go_simp; done) | (go_simp; with_reducible rfl))
            simp only [Act.put, List.setIfInBounds_toArray, List.set_cons_zero, List.set_cons_succ]
            refine take_at (i := 12) (d := 99) (v := ?_) rfl rfl (by kernel_rfl) (by kernel_rfl) (by kernel_rfl) (fun _ _ _ h => h) (Or.inl ⟨by rfl, ?hy⟩) (by assumption) ?_
            case hy => (intro wS hSw; (try dsimp only at hSw); first | (go_simp; done) | (go_simp; with_reducible rfl))
            simp only [Act.put, List.setIfInBounds_toArray, List.set_cons_zero, List.set_cons_succ]
            refine take_at (i := 13) (d := 100) (v := ?_) rfl rfl (by kernel_rfl) (by kernel_rfl) (by kernel_rfl) (fun _ _ _ h => h) (Or.inl ⟨by rfl, ?hy⟩) (by assumption) ?_
            case hy => (intro wS hSw; (try dsimp only at hSw); first | (go_simp; done) | (go_simp; with_reducible rfl))
            simp only [Act.put, List.setIfInBounds_toArray, List.set_cons_zero, List.set_cons_succ]
            refine take_at (i := 14) (d := 101) (v := ?_) rfl rfl (by kernel_rfl) (by kernel_rfl) (by kernel_rfl) (fun _ _ _ h => h) (Or.inl ⟨by rfl, ?hy⟩) (by assumption) ?_
            case hy => (intro wS hSw; (try dsimp only at hSw); first | (go_simp; done) | (go_simp; with_reducible rfl))
            simp only [Act.put, List.setIfInBounds_toArray, List.set_cons_zero, List.set_cons_succ]
            refine take_at (i := 15) (d := 102) (v := ?_) rfl rfl (by kernel_rfl) (by kernel_rfl) (by kernel_rfl) (fun _ _ _ h => h) (Or.inl ⟨by rfl, ?hy⟩) (by assumption) ?_
            case hy => (intro wS hSw; (try dsimp only at hSw); first | (go_simp; done) | (go_simp; with_reducible rfl))
            simp only [Act.put, List.setIfInBounds_toArray, List.set_cons_zero, List.set_cons_succ]
            refine take_at (i := 16) (d := 103) (v := ?_) rfl rfl (by kernel_rfl) (by kernel_rfl) (by kernel_rfl) (fun _ _ _ h => h) (Or.inl ⟨by rfl, ?hy⟩) (by assumption) ?_
            case hy => (intro wS hSw; (try dsimp only at hSw); first | (go_simp; done) | (go_simp; with_reducible rfl))
            simp only [Act.put, List.setIfInBounds_toArray, List.set_cons_zero, List.set_cons_succ]
            refine take_at (i := 17) (d := 104) (v := ?_) rfl rfl (by kernel_rfl) (by kernel_rfl) (by kernel_rfl) (fun _ _ _ h => h) (Or.inl ⟨by rfl, ?hy⟩) (by assumption) ?_
            case hy => (intro wS hSw; (try dsimp only at hSw); first | (go_simp; done) | (go_simp; with_reducible rfl))
            simp only [Act.put, List.setIfInBounds_toArray, List.set_cons_zero, List.set_cons_succ]
            refine take_at (i := 18) (d := 105) (v := ?_) rfl rfl (by kernel_rfl) (by kernel_rfl) (by kernel_rfl) (fun _ _ _ h => h) (Or.inl ⟨by rfl, ?hy⟩) (by assumption) ?_
            case hy => (intro wS hSw; (try dsimp only at hSw); first | (go_simp; done) | (go_simp; with_reducible rfl))
            simp only [Act.put, List.setIfInBounds_toArray, List.set_cons_zero, List.set_cons_succ]
            refine wpAnyH_ready (rs := [9]) (by kernel_rfl) (by simp) ?_
            refine AllReadyH.cons rfl (fun K9 hK9 => ?_) AllReadyH.nil
            go_simp
            go_wp2_with (go_at_call 21; refine (api.tag (t := tag) pd (kR _) OK2.out hts).mono ?_; rintro e w10 ⟨C10, m10, c10, rfl, r10, p10, b10⟩; have B10 := below_chain Bd b10)
            refine hK9.out _ _ ?_ (fun hH9 => ?_)
            · exact ⟨bcell b10 y2d, bcell b10 t0d⟩
            clear hK9 K9 hHeld
            refine wpAnyH_ready (rs := [19]) (by kernel_rfl) (by simp) ?_
            refine AllReadyH.cons rfl (fun K19 hK19 => ?_) AllReadyH.nil
            go_simp
            go_wp2_with (go_at_call 22; refine (rl_tag p10.swap (kP _ _) (HBX.out _ B10) hl200 tag).mono ?_; rintro e w11 ⟨C11, m11, c11, rfl, r11, p11, b11⟩; have B11 := below_chain B10 b11; have r10' := rdi_below r10 b11; have b12 := below_chain b10 b11)
            refine hK19.out _ _ ?_ (fun hH19 => ?_)
            · exact ⟨bcell b12 y2d, bcell b12 t0d⟩
            clear hK19 K19 hH9
            refine wpAnyH_ready (rs := [20]) (by kernel_rfl) (by simp) ?_
            refine AllReadyH.cons rfl (fun K20 hK20 => ?_) AllReadyH.nil
            go_simp
            go_wp2_with (go_at_call 11; refine (refInts_any _ _ _ _ _ _ _ w11 r10' r11).mono ?_; rintro e w12 ⟨rfl, q12, rfl⟩; have b13 := bel_dn b12 q12)
            refine hK20.out _ _ ?_ (fun hH20 => ?_)
            · exact ⟨bcell b13 y2d, bcell b13 t0d⟩
            clear hK20 K20 hH19
            refine take_at (i := 21) (d := 14) (v := ?_) rfl rfl (by kernel_rfl) (by kernel_rfl) (by kernel_rfl) (fun _ _ _ h => h) (Or.inl ⟨by rfl, ?hy⟩) (by assumption) ?_
            case hy => (intro wS hSw; (try dsimp only at hSw); first | (go_simp; done) | (go_simp; with_reducible rfl))
            simp only [Act.put, List.setIfInBounds_toArray, List.set_cons_zero, List.set_cons_succ]
            refine wpAnyH_done (by kernel_rfl) ?_ _
            have p13 := (p11.below (kR _) (kP _ _) (bel_dn (Below.refl w11.heap.size w11) q12)).swap
            have B13 := bel_dn B11 q12
            clear p10 p11 r10 r10' r11 B10 B11 b10 b11 b12 b13 pd Bd y2d t0d
            generalize w11.drewN q12 = w13 at *
            go_wp2_with fail
            go_meet
            exact ⟨p13, B13⟩
          · have i7 : ¬ (0 : Int) < nT := by omega
            go_wp2_with fail
            go_meet
            exact ⟨p9, B8⟩
        case rest =>
          obtain ⟨p10, B10⟩ := hcut
          have bd : Below wc.heap.size wc wc.drew := bel_dn (Below.refl _ _) 1
          have pd := p10.below (kP _ _) (kR _) bd
          have Bd := below_chain B10 bd
          have y1d := bcell (HBX.out _ Bd) x1
          have hts := hev0.t
          clear p9 B8 p10 B10 bd y1 y2 tg
          go_upto_region 24 with (fail)
          refine wp_region_held_drew (S := (fun w' => w'.cell? ⟨be, oe + j * 5 + 1, none⟩ = some (.string ev.t))) (by kernel_rfl) ?_ (fun hHeld => ?_)
          · exact y1d
          refine take_at (i := 0) (d := 110) (v := ?_) rfl rfl (by kernel_rfl) (by kernel_rfl) (by kernel_rfl) (fun _ _ _ h => h) (Or.inl ⟨by rfl, ?hy⟩) (by assumption) ?_
          case hy => (intro wS hSw; (try dsimp only at hSw); first | (go_simp; done) | (go_simp; with_reducible rfl))
          simp only [Act.put, List.setIfInBounds_toArray, List.set_cons_zero, List.set_cons_succ]
          refine take_at (i := 1) (d := 111) (v := ?_) rfl rfl (by kernel_rfl) (by kernel_rfl) (by kernel_rfl) (fun _ _ _ h => h) (Or.inl ⟨by rfl, ?hy⟩) (by assumption) ?_
          case hy => (intro wS hSw; (try dsimp only at hSw); first | (go_simp; done) | (go_simp; with_reducible rfl))
          simp only [Act.put, List.setIfInBounds_toArray, List.set_cons_zero, List.set_cons_succ]
          refine take_at (i := 2) (d := 112) (v := ?_) rfl rfl (by kernel_rfl) (by kernel_rfl) (by kernel_rfl) (fun _ _ _ h => h) (Or.inl ⟨by rfl, ?hy⟩) (by assumption) ?_
          case hy => (intro wS hSw; (try dsimp only at hSw); first | (go_simp; done) | (go_simp; with_reducible rfl))
          simp only [Act.put, List.setIfInBounds_toArray, List.set_cons_zero, List.set_cons_succ]
          refine take_at (i := 3) (d := 113) (v := ?_) rfl rfl (by kernel_rfl) (by kernel_rfl) (by kernel_rfl) (fun _ _ _ h => h) (Or.inl ⟨by rfl, ?hy⟩) (by assumption) ?_
          case hy => (intro wS hSw; (try dsimp only at hSw); first | (go_simp; done) | (go_simp; with_reducible rfl))
          simp only [Act.put, List.setIfInBounds_toArray, List.set_cons_zero, List.set_cons_succ]
          refine take_at (i := 4) (d := 114) (v := ?_) rfl rfl (by kernel_rfl) (by kernel_rfl) (by kernel_rfl) (fun _ _ _ h => h) (Or.inl ⟨by rfl, ?hy⟩) (by assumption) ?_
          case hy => (intro wS hSw; (try dsimp only at hSw); first | (go_simp; done) | (go_simp; with_reducible rfl))
          simp only [Act.put, List.setIfInBounds_toArray, List.set_cons_zero, List.set_cons_succ]
          refine take_at (i := 5) (d := 115) (v := ?_) rfl rfl (by kernel_rfl) (by kernel_rfl) (by kernel_rfl) (fun _ _ _ h => h) (Or.inl ⟨by rfl, ?hy⟩) (by assumption) ?_
          case hy => (intro wS hSw; (try dsimp only at hSw); first | (go_simp; done) | (go_simp; with_reducible rfl))
          simp only [Act.put, List.setIfInBounds_toArray, List.set_cons_zero, List.set_cons_succ]
          refine take_at (i := 6) (d := 116) (v := ?_) rfl rfl (by kernel_rfl) (by kernel_rfl) (by kernel_rfl) (fun _ _ _ h => h) (Or.inl ⟨by rfl, ?hy⟩) (by assumption) ?_
          case hy => (intro wS hSw; (try dsimp only at hSw); first | (go_simp; done) | (go_simp; with_reducible rfl))
          simp only [Act.put, List.setIfInBounds_toArray, List.set_cons_zero, List.set_cons_succ]
          refine take_at (i := 8) (d := 118) (v := ?_) rfl rfl (by kernel_rfl) (by kernel_rfl) (by kernel_rfl) (fun _ _ _ h => h) (Or.inl ⟨by rfl, ?hy⟩) (by assumption) ?_
          case hy => (intro wS hSw; (try dsimp only at hSw); first | (go_simp; done) | (go_simp; with_reducible rfl))
          simp only [Act.put, List.setIfInBounds_toArray, List.set_cons_zero, List.set_cons_succ]
          refine take_at (i := 9) (d := 119) (v := ?_) rfl rfl (by kernel_rfl) (by kernel_rfl) (by kernel_rfl) (fun _ _ _ h => h) (Or.inl ⟨by rfl, ?hy⟩) (by assumption) ?_
          case hy => (intro wS hSw; (try dsimp only at hSw); first | (go_simp; done) | (go_simp; with_reducible rfl))
          simp only [Act.put, List.setIfInBounds_toArray, List.set_cons_zero, List.set_cons_succ]
          refine take_at (i := 10) (d := 120) (v := ?_) rfl rfl (by kernel_rfl) (by kernel_rfl) (by kernel_rfl) (fun _ _ _ h => h) (Or.inl ⟨by rfl, ?hy⟩) (by assumption) ?_
          case hy => (intro wS hSw; (try dsimp only at hSw); first | (go_simp; done) | (go_simp; with_reducible rfl))
          simp only [Act.put, List.setIfInBounds_toArray, List.set_cons_zero, List.set_cons_succ]
          refine take_at (i := 11) (d := 121) (v := ?_) rfl rfl (by kernel_rfl) (by kernel_rfl) (by kernel_rfl) (fun _ _ _ h => h) (Or.inl ⟨by rfl, ?hy⟩) (by assumption) ?_
          case hy => (intro wS hSw; (try dsimp only at hSw); first | (go_simp; done) | (go_simp; with_reducible rfl))
          simp only [Act.put, List.setIfInBounds_toArray, List.set_cons_zero, List.set_cons_succ]
          refine take_at (i := 12) (d := 122) (v := ?_) rfl rfl (by kernel_rfl) (by kernel_rfl) (by kernel_rfl) (fun _ _ _ h => h) (Or.inl ⟨by rfl, ?hy⟩) (by assumption) ?_
          case hy => (intro wS hSw; (try dsimp only at hSw); first | (go_simp; done) | (go_simp; with_reducible rfl))
          simp only [Act.put, List.setIfInBounds_toArray, List.set_cons_zero, List.set_cons_succ]
          refine take_at (i := 13) (d := 123) (v := ?_) rfl rfl (by kernel_rfl) (by kernel_rfl) (by kernel_rfl) (fun _ _ _ h => h) (Or.inl ⟨by rfl, ?hy⟩) (by assumption) ?_
          case hy => (intro wS hSw; (try dsimp only at hSw); first | (go_simp; done) | (go_simp; with_reducible rfl))
          simp only [Act.put, List.setIfInBounds_toArray, List.set_cons_zero, List.set_cons_succ]
          refine take_at (i := 14) (d := 124) (v := ?_) rfl rfl (by kernel_rfl) (by kernel_rfl) (by kernel_rfl) (fun _ _ _ h => h) (Or.inl ⟨by rfl, ?hy⟩) (by assumption) ?_
          case hy => (intro wS hSw; (try dsimp only at hSw); first | (go_simp; done) | (go_simp; with_reducible rfl))
          simp only [Act.put, List.setIfInBounds_toArray, List.set_cons_zero, List.set_cons_succ]
          refine wpAnyH_ready (rs := [7]) (by kernel_rfl) (by simp) ?_
          refine AllReadyH.cons rfl (fun K7 hK7 => ?_) AllReadyH.nil
          go_simp
          go_wp2_with (go_at_call 23; refine (api.typ (t := ev.t) pd (kR _) OK2.out hts).mono ?_; rintro e w10 ⟨C10, m10, c10, rfl, r10, p10, b10⟩; have B10 := below_chain Bd b10)
          refine hK7.out _ _ ?_ (fun hH7 => ?_)
          · exact bcell b10 y1d
          clear hK7 K7 hHeld
          refine wpAnyH_ready (rs := [15]) (by kernel_rfl) (by simp) ?_
          refine AllReadyH.cons rfl (fun K15 hK15 => ?_) AllReadyH.nil
          go_simp
          go_wp2_with (go_at_call 24; refine (rl_typ p10.swap (kP _ _) (HBX.out _ B10) hl200 ev.t).mono ?_; rintro e w11 ⟨C11, m11, c11, rfl, r11, p11, b11⟩; have B11 := below_chain B10 b11; have r10' := rdi_below r10 b11; have b12 := below_chain b10 b11)
          refine hK15.out _ _ ?_ (fun hH15 => ?_)
          · exact bcell b12 y1d
          clear hK15 K15 hH7
          refine wpAnyH_ready (rs := [16]) (by kernel_rfl) (by simp) ?_
          refine AllReadyH.cons rfl (fun K16 hK16 => ?_) AllReadyH.nil
          go_simp
          go_wp2_with (go_at_call 11; refine (refInts_any _ _ _ _ _ _ _ w11 r10' r11).mono ?_; rintro e w12 ⟨rfl, q12, rfl⟩; have b13 := bel_dn b12 q12)
          refine hK16.out _ _ ?_ (fun hH16 => ?_)
          · exact bcell b13 y1d
          clear hK16 K16 hH15
          refine take_at (i := 17) (d := 15) (v := ?_) rfl rfl (by kernel_rfl) (by kernel_rfl) (by kernel_rfl) (fun _ _ _ h => h) (Or.inl ⟨by rfl, ?hy⟩) (by assumption) ?_
          case hy => (intro wS hSw; (try dsimp only at hSw); first | (go_simp; done) | (go_simp; with_reducible rfl))
          simp only [Act.put, List.setIfInBounds_toArray, List.set_cons_zero, List.set_cons_succ]
          refine wpAnyH_done (by kernel_rfl) ?_ _
          have p13 := (p11.below (kR _) (kP _ _) (bel_dn (Below.refl w11.heap.size w11) q12)).swap
          have B13 := bel_dn B11 q12
          clear p10 p11 r10 r10' r11 B10 B11 b10 b11 b12 b13 pd Bd y1d
          generalize w11.drewN q12 = w13 at *
          go_wp2_with fail
          go_roundw
          case rel => exact ⟨ge, j + 1, z2, L2, rfl, rfl, by go_num, by omega, by omega, by omega, HL2, OK2, p13, B13⟩
          case measure => simp [intOf]; omega
    · rw [show decide (j < n ∧ j < 60) = false by simpa using hc]
      clear hc
      have hl200 : L.length ≤ 200 := by have := HL.out; omega
      have hx : QAt wr w0.heap.size (.slice Aq nq cq) := (Bj.block _ HGQ.out).trans HTX.out
      have k0 := hx.c0
      go_wp2_with fail
      refine (less13_any (.agg #[.slice Aq nq cq]) q0 w0 wr HQ.out (HBX.out _ Bj)).mono ?_
      rintro e w5 ⟨A5, n5, c5, rfl, o5, b5⟩
      have p5 := pj.below (kP _ _) (kR _) b5
      have B5 := below_chain Bj b5
      have hx5 := hx.below b5
      have k5 := hx5.c0
      have f5 := hx5.frozen 0
      have hgw := hx.lt
      have p6 := pair_outer p5 (kP _ _) (kR _) HGQ.out 0 (.slice A5 n5 c5)
      have C6 := (HBX.out _ B5).setCell (p := ⟨w0.heap.size, 0, none⟩) (Nat.le_refl _) (.slice A5 n5 c5)
      have o6 := o5.grown (grownSet w5 w0.heap.size 0 (.slice A5 n5 c5)) (by omega)
      have rq := o6.rd C6
      have hx6 := hx5.set (.slice A5 n5 c5)
      have hqk := fewQ_ok hqo
      have hql := fewQ_len q0
      have hqt := fewQ_terms q0
      clear pj Bj hx k0 b5 p5 B5 hx5 hgw o5 o6
      generalize fewQ q0 = q at *
      go_upto_region 28 with (fail)
      generalize w5.setCell ⟨w0.heap.size, 0, none⟩ (.slice A5 n5 c5) = w6 at *
      clear k5 f5
      have bd : Below w6.heap.size w6 w6.drew := bel_dn (Below.refl _ _) 1
      have pd := p6.below (kP _ _) (kR _) bd
      have Cd := below_chain C6 bd
      have k6 : w6.drew.cell? ⟨w0.heap.size, 0, none⟩ = some (.slice A5 n5 c5) := hx6.c0
      have rqd := rq.below bd
      clear p6 C6 bd hx6 rq
      refine wp_region_held_drew (S := (fun w' => w'.cell? ⟨w0.heap.size, 0, none⟩ = some (.slice A5 n5 c5))) (by kernel_rfl) ?_ (fun hHeld => ?_)
      · exact k6
      refine take_at (i := 0) (d := 131) (v := ?_) rfl rfl (by kernel_rfl) (by kernel_rfl) (by kernel_rfl) (fun _ _ _ h => h) (Or.inl ⟨by rfl, ?hy⟩) (by assumption) ?_
      case hy => (intro wS hSw; (try dsimp only at hSw); first | (go_simp; done) | (go_simp; with_reducible rfl))
      simp only [Act.put, List.setIfInBounds_toArray, List.set_cons_zero, List.set_cons_succ]
      refine take_at (i := 1) (d := 132) (v := ?_) rfl rfl (by kernel_rfl) (by kernel_rfl) (by kernel_rfl) (fun _ _ _ h => h) (Or.inl ⟨by rfl, ?hy⟩) (by assumption) ?_
      case hy => (intro wS hSw; (try dsimp only at hSw); first | (go_simp; done) | (go_simp; with_reducible rfl))
      simp only [Act.put, List.setIfInBounds_toArray, List.set_cons_zero, List.set_cons_succ]
      refine take_at (i := 2) (d := 133) (v := ?_) rfl rfl (by kernel_rfl) (by kernel_rfl) (by kernel_rfl) (fun _ _ _ h => h) (Or.inl ⟨by rfl, ?hy⟩) (by assumption) ?_
      case hy => (intro wS hSw; (try dsimp only at hSw); first | (go_simp; done) | (go_simp; with_reducible rfl))
      simp only [Act.put, List.setIfInBounds_toArray, List.set_cons_zero, List.set_cons_succ]
      refine take_at (i := 4) (d := 135) (v := ?_) rfl rfl (by kernel_rfl) (by kernel_rfl) (by kernel_rfl) (fun _ _ _ h => h) (Or.inl ⟨by rfl, ?hy⟩) (by assumption) ?_
      case hy => (intro wS hSw; (try dsimp only at hSw); first | (go_simp; done) | (go_simp; with_reducible rfl))
      simp only [Act.put, List.setIfInBounds_toArray, List.set_cons_zero, List.set_cons_succ]
      refine take_at (i := 5) (d := 136) (v := ?_) rfl rfl (by kernel_rfl) (by kernel_rfl) (by kernel_rfl) (fun _ _ _ h => h) (Or.inl ⟨by rfl, ?hy⟩) (by assumption) ?_
      case hy => (intro wS hSw; (try dsimp only at hSw); first | (go_simp; done) | (go_simp; with_reducible rfl))
      simp only [Act.put, List.setIfInBounds_toArray, List.set_cons_zero, List.set_cons_succ]
      refine take_at (i := 6) (d := 137) (v := ?_) rfl rfl (by kernel_rfl) (by kernel_rfl) (by kernel_rfl) (fun _ _ _ h => h) (Or.inl ⟨by rfl, ?hy⟩) (by assumption) ?_
      case hy => (intro wS hSw; (try dsimp only at hSw); first | (go_simp; done) | (go_simp; with_reducible rfl))
      simp only [Act.put, List.setIfInBounds_toArray, List.set_cons_zero, List.set_cons_succ]
      refine wpAnyH_ready (rs := [3]) (by kernel_rfl) (by simp) ?_
      refine AllReadyH.cons rfl (fun K3 hK3 => ?_) AllReadyH.nil
      go_simp
      go_wp2_with (go_at_call 26; refine (api.find (u := u) pd (kR _) OK.out ⟨A5, n5, c5, rfl, rqd⟩ hqk hql hqt hu).mono ?_; rintro e w10 ⟨C10, m10, c10, rfl, r10, p10, b10⟩; have C10' := below_chain Cd b10)
      refine hK3.out _ _ ?_ (fun hH3 => ?_)
      · exact bcell b10 k6
      clear hK3 K3 hHeld
      refine wpAnyH_ready (rs := [7]) (by kernel_rfl) (by simp) ?_
      refine AllReadyH.cons rfl (fun K7 hK7 => ?_) AllReadyH.nil
      go_simp
      go_wp2_with (go_at_call 27; refine (rl_find p10.swap (kP _ _) C10' hl200 ⟨A5, n5, c5, rfl, rqd.below b10⟩ u).mono ?_; rintro e w11 ⟨C11, m11, c11, rfl, r11, p11, b11⟩; have C11' := below_chain C10' b11; have r10' := rdi_below r10 b11; have b12 := below_chain b10 b11)
      refine hK7.out _ _ ?_ (fun hH7 => ?_)
      · exact bcell b12 k6
      clear hK7 K7 hH3
      refine wpAnyH_ready (rs := [8]) (by kernel_rfl) (by simp) ?_
      refine AllReadyH.cons rfl (fun K8 hK8 => ?_) AllReadyH.nil
      go_simp
      go_wp2_with (go_at_call 11; refine (refInts_any _ _ _ _ _ _ _ w11 r10' r11).mono ?_; rintro e w12 ⟨rfl, q12, rfl⟩; have b13 := bel_dn b12 q12)
      refine hK8.out _ _ ?_ (fun hH8 => ?_)
      · exact bcell b13 k6
      clear hK8 K8 hH7
      refine take_at (i := 9) (d := 6) (v := ?_) rfl rfl (by kernel_rfl) (by kernel_rfl) (by kernel_rfl) (fun _ _ _ h => h) (Or.inl ⟨by rfl, ?hy⟩) (by assumption) ?_
      case hy => (intro wS hSw; (try dsimp only at hSw); first | (go_simp; done) | (go_simp; with_reducible rfl))
      simp only [Act.put, List.setIfInBounds_toArray, List.set_cons_zero, List.set_cons_succ]
      refine wpAnyH_done (by kernel_rfl) ?_ _
      have C13 := bel_dn C11' q12
      go_wp2_with fail
      go_ret
      exact ⟨rfl, C13⟩
end

end Go.Proofs.Ytppdljkfhoekpaa.PoWalk

/-
  Opening an argument that is an array of texts. No Go text here.
-/
namespace Go.Proofs.Ytppdljkfhoekpaa.Open
open Go.RowKit Go.ChangeShapes Go.WideShapes

theorem mapM_each {α β : Type} {f : α → Option β} : ∀ (L : List α) (ys : List β), L.mapM f = some ys → ∀ i ∈ L, ∃ y, f i = some y
  | [], _, _, i, hi => by cases hi
  | a :: L, ys, h, i, hi => by
    rw [List.mapM_cons] at h
    cases ha : f a with
    | none => simp [ha] at h
    | some y =>
      cases hL : L.mapM f with
      | none => simp [ha, hL] at h
      | some zs =>
        rcases List.mem_cons.1 hi with rfl | hm
        · exact ⟨y, ha⟩
        · exact mapM_each L zs hL i hm

section
variable {H : Type} {enc : TypeId × Value → H} {P : Program} {W : World} {base : Nat} {t e : TypeId} {v : Value} {d : DataW H} {p : List MemPlace}

/-- Each cell of an array of strings is one. -/
theorem op_strs {n : Nat} (ht : P.underlying t = some (.array n e)) (he : P.underlying e = some .string) (hce : P.cellsOf e = 1) (hct : P.cellsOf t = n) (ho : Value.okWide P W .any base t v) (h : DataW.Trod enc P W 0 (fun _ => true) true t v d p) :
    ∃ cs : Array Value, v = .agg cs ∧ cs.size = n ∧ ∀ i, i < n → ∃ x, cs.toList[i]? = some (.string x) ∧ x.size ≤ maxLen := by
  simp only [Value.okWide, ht] at ho
  obtain ⟨cs, rfl, hs, _⟩ := ho
  refine ⟨cs, rfl, by rw [hs, hct], fun i hi => ?_⟩
  obtain ⟨fuel, hf⟩ := h
  cases fuel with
  | zero => simp [DataW.trod] at hf
  | succ m =>
    rw [DataW.trod_step] at hf
    unfold DataW.trodStep at hf
    simp only [ht, Value.cells] at hf
    split at hf
    · simp only [Option.map_eq_some_iff] at hf
      obtain ⟨ys, hy, _⟩ := hf
      obtain ⟨y, hyi⟩ := mapM_each _ _ hy i (List.mem_range.2 hi)
      obtain ⟨x, ex, _, wx⟩ := DataW.trod_string he hyi
      rw [hce, Nat.mul_one] at ex
      refine ⟨x, ?_, wx⟩
      have h2 := congrArg (fun l : List Value => l[0]?) ex
      simpa using h2
    · cases hf

theorem op_strs2 (ht : P.underlying t = some (.array 2 e)) (he : P.underlying e = some .string) (hce : P.cellsOf e = 1) (hct : P.cellsOf t = 2) (ho : Value.okWide P W .any base t v) (h : DataW.Trod enc P W 0 (fun _ => true) true t v d p) :
    ∃ a b : ByteArray, v = .agg #[.string a, .string b] ∧ a.size ≤ maxLen ∧ b.size ≤ maxLen := by
  obtain ⟨cs, rfl, hs, hc⟩ := op_strs ht he hce hct ho h
  obtain ⟨l⟩ := cs
  match l, hs with
  | [c0, c1], _ =>
    obtain ⟨a, ha, wa⟩ := hc 0 (by omega)
    obtain ⟨b, hb, wb⟩ := hc 1 (by omega)
    simp at ha hb
    subst ha hb
    exact ⟨a, b, rfl, wa, wb⟩
end

end Go.Proofs.Ytppdljkfhoekpaa.Open

/-
  Layer 13's statements over the values that come in, given what is asked of the landed posting.
-/
namespace Go.Proofs.Ytppdljkfhoekpaa.PoWalk
open Go.RowKit Go.WideShapes Go.ChangeShapes Go.Proofs.Ytppdljkfhoekpaa.NumMem Go.Proofs.Ytppdljkfhoekpaa.Open Go.Proofs.Ytppdljkfhoekpaa.SmWalk Go.Proofs.Ytppdljkfhoekpaa.Ev Go.Proofs.Ytppdljkfhoekpaa.Qu Go.Proofs.Ytppdljkfhoekpaa.MemRow

section
variable {H : Type} {enc : TypeId × Value → H}
set_option maxRecDepth 100000 in
theorem op_nums {W : World} {base : Nat} {v : Value} {d : DataW H} {p : List MemPlace} (ho : Value.okWide Try.prog W .any base 22 v) (h : DataW.Trod enc Try.prog W 0 (fun _ => true) true 22 v d p) : ∃ A n cap l, v = .slice A n cap ∧ RdI W A n cap l := by
  obtain ⟨A, n, cap, l, rfl, hl, _, hs⟩ := op_ints Try.underlying22 Try.underlying3 (by kernel_rfl) ho h
  refine ⟨A, n, cap, l, rfl, by rw [nums_length, hl, Nat.mul_one], hs.1, hs.2.1, fun hn => ?_⟩
  obtain ⟨b, o, hA, hc⟩ := hs.2.2 (by omega)
  refine ⟨b, o, hA, fun i v hv => ?_⟩
  have hi : i < l.length := by
    by_cases hi : i < l.length
    · exact hi
    · rw [List.getElem?_eq_none (by rw [nums_length]; omega)] at hv
      cases hv
  rw [hc i (by omega)]
  simp only [nums, List.getElem?_map, List.getElem?_eq_getElem hi, Option.map_some, Option.some.injEq] at hv
  rw [← hv]
  simp [List.getD, List.getElem?_eq_getElem hi]
set_option maxRecDepth 100000 in
theorem op_evs {W : World} {base : Nat} {v : Value} {d : DataW H} {p : List MemPlace} (ho : Value.okWide Try.prog W .any base 34 v) (h : DataW.Trod enc Try.prog W 0 (fun _ => true) true 34 v d p) :
    ∃ A n ca es, v = .slice A n ca ∧ RdE W A n ca es ∧ ∀ x ∈ es, EvOk x := by
  obtain ⟨a, len, cap, rfl⟩ := okWide_slice Try.underlying34 ho
  obtain ⟨fuel, hf⟩ := h
  exact tr_events (v := .slice a len cap) Try.underlying34 Try.underlying42 (by kernel_rfl) (by kernel_rfl) Try.underlying9 Try.underlying9 Try.underlying39 Try.underlying9 (by kernel_rfl) Try.underlying40 Try.underlying109 (by kernel_rfl) rfl rfl (by kernel_rfl) (by kernel_rfl) Try.underlying9 Try.underlying3 hf
set_option maxRecDepth 100000 in
theorem tr_clause {W : World} {fuel : Nat} {v0 v1 : Value} {y : DataW H × List MemPlace} (h : DataW.trod enc Try.prog W 0 (fun _ => true) true fuel 54 [v0, v1] = some y) :
    ∃ (c : Cl) (T Y : Option Addr) (a b d e : Nat), v0 = .slice T a b ∧ v1 = .slice Y d e ∧ RdS W T a b c.tags ∧ RdS W Y d e c.types ∧ ClOk c := by
  obtain ⟨y0, y1, n, q0, q1⟩ := trod_struct2 Try.underlying54 h
  have ct : Try.prog.cellsOf 39 = 1 := by kernel_rfl
  have z0 : DataW.trod enc Try.prog W 0 (fun _ => true) true n 39 [v0] = some y0 := by simpa [ct] using q0
  have z1 : DataW.trod enc Try.prog W 0 (fun _ => true) true n 39 [v1] = some y1 := by simpa [ct] using q1
  obtain ⟨T, a, b, ss, rfl, r0, w0⟩ := tr_strs Try.underlying39 Try.underlying9 (by kernel_rfl) z0
  obtain ⟨Y, d, e, us, rfl, r1, w1⟩ := tr_strs Try.underlying39 Try.underlying9 (by kernel_rfl) z1
  exact ⟨⟨ss, us⟩, T, Y, a, b, d, e, rfl, rfl, r0, r1, ⟨w0, w1⟩⟩
set_option maxRecDepth 100000 in
theorem op_two {W : World} {base : Nat} {v : Value} {d : DataW H} {p : List MemPlace} (ho : Value.okWide Try.prog W .any base 55 v) (h : DataW.Trod enc Try.prog W 0 (fun _ => true) true 55 v d p) :
    ∃ (c0 c1 : Cl) (T0 Y0 T1 Y1 : Option Addr) (a0 b0 d0 e0 a1 b1 d1 e1 : Nat), v = .agg #[.slice T0 a0 b0, .slice Y0 d0 e0, .slice T1 a1 b1, .slice Y1 d1 e1] ∧ RdS W T0 a0 b0 c0.tags ∧ RdS W Y0 d0 e0 c0.types ∧ RdS W T1 a1 b1 c1.tags ∧ RdS W Y1 d1 e1 c1.types ∧ ClOk c0 ∧ ClOk c1 := by
  have ht := Try.underlying55
  have ce : Try.prog.cellsOf 54 = 2 := by kernel_rfl
  have cc : Try.prog.cellsOf 55 = 4 := by kernel_rfl
  simp only [Value.okWide, ht] at ho
  obtain ⟨cs, rfl, hs, _⟩ := ho
  rw [cc] at hs
  obtain ⟨fuel, hf⟩ := h
  cases fuel with
  | zero => simp [DataW.trod] at hf
  | succ m =>
    rw [DataW.trod_step] at hf
    unfold DataW.trodStep at hf
    simp only [ht, Value.cells] at hf
    split at hf
    · simp only [Option.map_eq_some_iff] at hf
      obtain ⟨ys, hy, _⟩ := hf
      obtain ⟨l⟩ := cs
      match l, hs with
      | [u0, u1, u2, u3], _ =>
        obtain ⟨x0, h0⟩ := mapM_each _ _ hy 0 (List.mem_range.2 (by decide))
        obtain ⟨x1, h1⟩ := mapM_each _ _ hy 1 (List.mem_range.2 (by decide))
        rw [ce] at h0 h1
        obtain ⟨c0, T0, Y0, a0, b0, d0, e0, rfl, rfl, r0, r1, k0⟩ := tr_clause (v0 := u0) (v1 := u1) (by simpa using h0)
        obtain ⟨c1, T1, Y1, a1, b1, d1, e1, rfl, rfl, r2, r3, k1⟩ := tr_clause (v0 := u2) (v1 := u3) (by simpa using h1)
        exact ⟨c0, c1, T0, Y0, T1, Y1, a0, b0, d0, e0, a1, b1, d1, e1, rfl, r0, r1, r2, r3, k0, k1⟩
    · cases hf
end

section
variable {Pt : Nat → Ls → DkWalk.Thing} {Pw : Nat → Ls → Nat → Ls → DkWalk.Thing} {H : Type} {enc : TypeId × Value → H}
set_option maxRecDepth 100000 in
theorem two_main' (two : TwoApi) (W : World) (base : Nat) (v0 v1 : Value) {d0 d1 : DataW H} {p0 p1 : List MemPlace} (o0 : Value.okWide Try.prog W .any base 22 v0) (o1 : Value.okWide Try.prog W .any base 22 v1)
    (h0 : DataW.Trod enc Try.prog W 0 (fun _ => true) true 22 v0 d0 p0) (h1 : DataW.Trod enc Try.prog W 0 (fun _ => true) true 22 v1 d1 p1) :
    Calls Try.prog 3 #[v0, v1] W fun e W' => e = .returned (.bool true) ∧ Below W.heap.size W W' := by
  obtain ⟨A, n, ca, a, rfl, ra⟩ := op_nums o0 h0
  obtain ⟨B, m, cb, b, rfl, rb⟩ := op_nums o1 h1
  exact two_walk two A B n m ca cb a b W ra rb
set_option maxRecDepth 100000 in
theorem three_main' (two : TwoApi) (W : World) (base : Nat) (v0 v1 v2 : Value) {d0 d1 d2 : DataW H} {p0 p1 p2 : List MemPlace} (o0 : Value.okWide Try.prog W .any base 22 v0) (o1 : Value.okWide Try.prog W .any base 22 v1) (o2 : Value.okWide Try.prog W .any base 22 v2)
    (h0 : DataW.Trod enc Try.prog W 0 (fun _ => true) true 22 v0 d0 p0) (h1 : DataW.Trod enc Try.prog W 0 (fun _ => true) true 22 v1 d1 p1) (h2 : DataW.Trod enc Try.prog W 0 (fun _ => true) true 22 v2 d2 p2) :
    Calls Try.prog 6 #[v0, v1, v2] W fun e W' => e = .returned (.bool true) ∧ Below W.heap.size W W' := by
  obtain ⟨A, n, ca, a, rfl, ra⟩ := op_nums o0 h0
  obtain ⟨B, m, cb, b, rfl, rb⟩ := op_nums o1 h1
  obtain ⟨C, k, cc, c, rfl, rc⟩ := op_nums o2 h2
  exact three_walk two A B C n m k ca cb cc a b c W ra rb rc
set_option maxRecDepth 100000 in
theorem pmatch_main' (two : TwoApi) (api : LsApi Pt) (W : World) (base : Nat) (v0 v1 v2 : Value) {d0 d1 d2 : DataW H} {p0 p1 p2 : List MemPlace} (o0 : Value.okWide Try.prog W .any base 34 v0) (o1 : Value.okWide Try.prog W .any base 30 v1) (o2 : Value.okWide Try.prog W .any base 3 v2)
    (h0 : DataW.Trod enc Try.prog W 0 (fun _ => true) true 34 v0 d0 p0) (h1 : DataW.Trod enc Try.prog W 0 (fun _ => true) true 30 v1 d1 p1) (h2 : DataW.Trod enc Try.prog W 0 (fun _ => true) true 3 v2 d2 p2) :
    Calls Try.prog 5 #[v0, v1, v2] W fun e W' => e = .returned (.bool true) ∧ Below W.heap.size W W' := by
  obtain ⟨A, n, ca, es, rfl, r, ok⟩ := op_evs o0 h0
  obtain ⟨q, hq, hqo⟩ := op_query o1 h1
  obtain ⟨z, rfl, wz⟩ := op_i64 Try.underlying3 o2 h2
  exact pmatch_walk two api A n ca es v1 q z W r ok hq hqo wz
set_option maxRecDepth 100000 in
theorem some_main' (two : TwoApi) (api : LsApi Pt) (W : World) (base : Nat) (v0 v1 v2 : Value) {d0 d1 d2 : DataW H} {p0 p1 p2 : List MemPlace} (o0 : Value.okWide Try.prog W .any base 34 v0) (o1 : Value.okWide Try.prog W .any base 55 v1) (o2 : Value.okWide Try.prog W .any base 9 v2)
    (h0 : DataW.Trod enc Try.prog W 0 (fun _ => true) true 34 v0 d0 p0) (h1 : DataW.Trod enc Try.prog W 0 (fun _ => true) true 55 v1 d1 p1) (h2 : DataW.Trod enc Try.prog W 0 (fun _ => true) true 9 v2 d2 p2) :
    Calls Try.prog 7 #[v0, v1, v2] W fun e W' => e = .returned (.bool true) ∧ Below W.heap.size W W' := by
  obtain ⟨A, n, ca, es, rfl, r, ok⟩ := op_evs o0 h0
  obtain ⟨c0, c1, T0, Y0, T1, Y1, a0, b0, e0, f0, a1, b1, e1, f1, rfl, r0, r1, r2, r3, k0, k1⟩ := op_two o1 h1
  obtain ⟨s, rfl, ws⟩ := op_string Try.underlying9 o2 h2
  exact some_walk two api A n ca es T0 Y0 T1 Y1 a0 b0 e0 f0 a1 b1 e1 f1 c0 c1 s W r ok r0 r1 r2 r3 k0 k1 ws
set_option maxRecDepth 100000 in
theorem plists_main' (two : TwoApi) (api : LtApi Pt Pw) (W : World) (base : Nat) (v0 v1 : Value) {d0 d1 : DataW H} {p0 p1 : List MemPlace} (o0 : Value.okWide Try.prog W .any base 34 v0) (o1 : Value.okWide Try.prog W .any base 9 v1)
    (h0 : DataW.Trod enc Try.prog W 0 (fun _ => true) true 34 v0 d0 p0) (h1 : DataW.Trod enc Try.prog W 0 (fun _ => true) true 9 v1 d1 p1) :
    Calls Try.prog 8 #[v0, v1] W fun e W' => e = .returned (.bool true) ∧ Below W.heap.size W W' := by
  obtain ⟨A, n, ca, es, rfl, r, ok⟩ := op_evs o0 h0
  obtain ⟨s, rfl, ws⟩ := op_string Try.underlying9 o1 h1
  exact plists_walk two api A n ca es s W r ok ws
set_option maxRecDepth 100000 in
theorem pfinds_main' (two : TwoApi) (api : LtApi Pt Pw) (W : World) (base : Nat) (v0 v1 v2 : Value) {d0 d1 d2 : DataW H} {p0 p1 p2 : List MemPlace} (o0 : Value.okWide Try.prog W .any base 27 v0) (o1 : Value.okWide Try.prog W .any base 30 v1) (o2 : Value.okWide Try.prog W .any base 3 v2)
    (h0 : DataW.Trod enc Try.prog W 0 (fun _ => true) true 27 v0 d0 p0) (h1 : DataW.Trod enc Try.prog W 0 (fun _ => true) true 30 v1 d1 p1) (h2 : DataW.Trod enc Try.prog W 0 (fun _ => true) true 3 v2 d2 p2) :
    Calls Try.prog 4 #[v0, v1, v2] W fun e W' => e = .returned (.bool true) ∧ Below W.heap.size W W' := by
  obtain ⟨A, n, ca, ds, rfl, r, ok⟩ := op_pops o0 h0
  obtain ⟨q, hq, hqo⟩ := op_query o1 h1
  obtain ⟨z, rfl, wz⟩ := op_i64 Try.underlying3 o2 h2
  exact pfinds_walk two api A n ca ds v1 q z W r ok hq hqo wz
end

end Go.Proofs.Ytppdljkfhoekpaa.PoWalk

/-
  Mathematics of layer 12: positions of streams, as data. No walk here.
-/
namespace Go.Proofs.Ytppdljkfhoekpaa.SmWalk
open Go.RowKit Go.Proofs.Ytppdljkfhoekpaa.MemRow Go.Proofs.Ytppdljkfhoekpaa.Ev Go.Proofs.Ytppdljkfhoekpaa.NameMath Go.Proofs.Ytppdljkfhoekpaa.NameWalk Go.Proofs.Ytppdljkfhoekpaa.EvWalk

/-- Streams' positions, rising. -/
abbrev Tb := List (ByteArray × Int)
def posF (T : Tb) (s : ByteArray) (u : Int) : List Int := (T.filter fun x => decide (x.1 = s ∧ x.2 ≤ u)).map (·.2)
def lastP (T : Tb) : Int := match T.getLast? with | some x => x.2 | none => 0
def addF (T : Tb) (s : ByteArray) (p : Int) : Int × Int × Tb := if p < 1 ∨ p ≤ lastP T then (0, 1, T) else (((posF (T ++ [(s, p)]) s p).length : Int), 0, T ++ [(s, p)])
def namesT (T : Tb) : List ByteArray := normTags (T.map (·.1))
/-- Positions rise, from 1 on. -/
def RiseT (T : Tb) : Prop := T.Pairwise (fun a b => a.2 < b.2) ∧ ∀ x ∈ T, 1 ≤ x.2

theorem posF_nil (s : ByteArray) (u : Int) : posF [] s u = [] := rfl
theorem posF_append (A B : Tb) (s : ByteArray) (u : Int) : posF (A ++ B) s u = posF A s u ++ posF B s u := by simp [posF]
theorem posF_cons (x : ByteArray × Int) (B : Tb) (s : ByteArray) (u : Int) : posF (x :: B) s u = (if x.1 = s ∧ x.2 ≤ u then [x.2] else []) ++ posF B s u := by
  unfold posF
  rw [List.filter_cons]
  by_cases h : x.1 = s ∧ x.2 ≤ u
  · rw [if_pos (by simpa using h), if_pos h]; rfl
  · rw [if_neg (by simpa using h), if_neg h]; rfl
theorem posF_hit {s : ByteArray} {p u : Int} (h : p ≤ u) (T : Tb) : posF (T ++ [(s, p)]) s u = posF T s u ++ [p] := by
  rw [posF_append, posF_cons, if_pos ⟨rfl, h⟩]; rfl
theorem posF_miss {s t : ByteArray} {p u : Int} (h : ¬ (t = s ∧ p ≤ u)) (T : Tb) : posF (T ++ [(t, p)]) s u = posF T s u := by
  rw [posF_append, posF_cons, if_neg h]; simp [posF]
theorem posF_len (T : Tb) (s : ByteArray) (u : Int) : (posF T s u).length ≤ T.length := by
  unfold posF
  rw [List.length_map]
  exact List.length_filter_le _ _
theorem posF_mem {T : Tb} {s : ByteArray} {u q : Int} : q ∈ posF T s u ↔ (s, q) ∈ T ∧ q ≤ u := by
  unfold posF
  rw [List.mem_map]
  constructor
  · rintro ⟨x, hx, rfl⟩
    rw [List.mem_filter] at hx
    obtain ⟨h1, h2⟩ := hx
    obtain ⟨h3, h4⟩ := of_decide_eq_true h2
    refine ⟨?_, h4⟩
    rw [← h3]
    exact h1
  · rintro ⟨h1, h2⟩
    exact ⟨(s, q), List.mem_filter.2 ⟨h1, by simpa using h2⟩, rfl⟩
/-- A bound behind all positions tells no more than another one. -/
theorem posF_big {T : Tb} {s : ByteArray} {u v : Int} (hu : ∀ x ∈ T, x.2 ≤ u) (hv : ∀ x ∈ T, x.2 ≤ v) : posF T s u = posF T s v := by
  unfold posF
  congr 1
  refine List.filter_congr fun x hx => ?_
  have h1 := hu x hx
  have h2 := hv x hx
  simp [h1, h2]
/-- What is told up to an earlier bound. -/
theorem posF_filter {T : Tb} {s : ByteArray} {u v : Int} (h : u ≤ v) : posF T s u = (posF T s v).filter fun q => decide (q ≤ u) := by
  induction T with
  | nil => rfl
  | cons x T ih =>
    rw [posF_cons, posF_cons, List.filter_append, ← ih]
    congr 1
    by_cases h1 : x.1 = s ∧ x.2 ≤ u
    · rw [if_pos h1, if_pos ⟨h1.1, by omega⟩]
      simp [h1.2]
    · rw [if_neg h1]
      by_cases h2 : x.1 = s ∧ x.2 ≤ v
      · rw [if_pos h2]
        have : ¬ x.2 ≤ u := fun h3 => h1 ⟨h2.1, h3⟩
        simp [this]
      · rw [if_neg h2]; rfl
theorem posF_rise {T : Tb} (h : RiseT T) (s : ByteArray) (u : Int) : (posF T s u).Pairwise (· < ·) := by
  unfold posF
  rw [List.pairwise_map]
  exact h.1.sublist List.filter_sublist
theorem last_snoc (T : Tb) (x : ByteArray × Int) : lastP (T ++ [x]) = x.2 := by simp [lastP]
theorem last_le {T : Tb} (h : RiseT T) : ∀ x ∈ T, x.2 ≤ lastP T := by
  rcases List.eq_nil_or_concat T with rfl | ⟨L, y, rfl⟩
  · intro x hx; cases hx
  · intro x hx
    rw [List.concat_eq_append, last_snoc]
    rw [List.concat_eq_append] at h hx
    rcases List.mem_append.1 hx with hx | hx
    · have := (List.pairwise_append.1 h.1).2.2 x hx y (by simp)
      omega
    · rw [List.mem_singleton] at hx
      rw [hx]
      omega
theorem last_pos {T : Tb} (h : RiseT T) : 0 ≤ lastP T := by
  rcases List.eq_nil_or_concat T with rfl | ⟨L, y, rfl⟩
  · simp [lastP]
  · rw [List.concat_eq_append, last_snoc]
    have := h.2 y (by simp)
    omega
theorem RiseT.nil : RiseT [] := ⟨List.Pairwise.nil, fun _ h => by cases h⟩
theorem RiseT.more {T : Tb} (h : RiseT T) {s : ByteArray} {p : Int} (h1 : 1 ≤ p) (h2 : lastP T < p) : RiseT (T ++ [(s, p)]) := by
  refine ⟨List.pairwise_append.2 ⟨h.1, by simp, fun a ha b hb => ?_⟩, fun x hx => ?_⟩
  · rw [List.mem_singleton] at hb
    subst hb
    have := last_le h a ha
    show a.2 < p
    omega
  · rcases List.mem_append.1 hx with hx | hx
    · exact h.2 x hx
    · rw [List.mem_singleton] at hx
      subst hx
      exact h1
theorem add_rise {T : Tb} (h : RiseT T) (s : ByteArray) (p : Int) : RiseT (addF T s p).2.2 := by
  unfold addF
  by_cases hc : p < 1 ∨ p ≤ lastP T
  · rw [if_pos hc]; exact h
  · rw [if_neg hc]
    exact h.more (by omega) (by omega)
theorem add_len (T : Tb) (s : ByteArray) (p : Int) : (addF T s p).2.2.length ≤ T.length + 1 := by
  unfold addF
  split <;> simp
theorem add_no {T : Tb} {p : Int} (s : ByteArray) (h : p < 1 ∨ p ≤ lastP T) : addF T s p = (0, 1, T) := if_pos h
theorem add_yes {T : Tb} {p : Int} (hr : RiseT T) (s : ByteArray) (h1 : 1 ≤ p) (h2 : lastP T < p) : addF T s p = (((posF T s (lastP T)).length : Int) + 1, 0, T ++ [(s, p)]) := by
  unfold addF
  rw [if_neg (by omega), posF_hit (Int.le_refl p), posF_big (v := lastP T) (fun x hx => by have := last_le hr x hx; omega) (last_le hr)]
  simp

/-! ### Streams, each at the next position -/
theorem snoc_ind {α : Type} {P : List α → Prop} (h0 : P []) (h1 : ∀ L y, P L → P (L ++ [y])) (l : List α) : P l := by
  suffices h : ∀ l : List α, P l.reverse by simpa using h l.reverse
  intro l
  induction l with
  | nil => exact h0
  | cons a l ih => rw [List.reverse_cons]; exact h1 _ _ ih
/-- How often a text stands there. -/
def cnt (l : List ByteArray) (s : ByteArray) : Nat := (l.filter fun x => decide (x = s)).length
theorem cnt_nil (s : ByteArray) : cnt [] s = 0 := rfl
theorem cnt_cons (a : ByteArray) (l : List ByteArray) (s : ByteArray) : cnt (a :: l) s = (if a = s then 1 else 0) + cnt l s := by
  unfold cnt
  rw [List.filter_cons]
  by_cases h : a = s
  · rw [if_pos (by simpa using h), if_pos h, List.length_cons]; omega
  · rw [if_neg (by simpa using h), if_neg h]; omega
theorem cnt_append (l m : List ByteArray) (s : ByteArray) : cnt (l ++ m) s = cnt l s + cnt m s := by simp [cnt]
theorem cnt_one (a s : ByteArray) : cnt [a] s = if a = s then 1 else 0 := by rw [cnt_cons, cnt_nil]; rfl
theorem cnt_le (l : List ByteArray) (s : ByteArray) : cnt l s ≤ l.length := List.length_filter_le _ _
theorem cnt_pos {l : List ByteArray} {s : ByteArray} : 0 < cnt l s ↔ s ∈ l := by
  induction l with
  | nil => simp [cnt_nil]
  | cons a l ih =>
    rw [cnt_cons, List.mem_cons]
    by_cases h : a = s
    · rw [if_pos h]
      exact ⟨fun _ => .inl h.symm, fun _ => by omega⟩
    · rw [if_neg h, Nat.zero_add, ih]
      exact ⟨.inr, fun h2 => h2.resolve_left fun e => h e.symm⟩
theorem cnt_nodup {l : List ByteArray} (h : l.Nodup) (s : ByteArray) (hs : s ∈ l) : cnt l s = 1 := by
  induction l with
  | nil => cases hs
  | cons a l ih =>
    obtain ⟨h1, h2⟩ := List.nodup_cons.1 h
    rw [cnt_cons]
    by_cases e : a = s
    · subst e
      rw [if_pos rfl]
      have : ¬ 0 < cnt l a := fun h => h1 (cnt_pos.1 h)
      omega
    · rw [if_neg e, Nat.zero_add]
      exact ih h2 ((List.mem_cons.1 hs).resolve_left fun h => e h.symm)
def seqT (l : List ByteArray) : Tb := l.mapIdx fun i s => (s, (i : Int) + 1)
theorem seq_nil : seqT [] = [] := rfl
theorem seq_snoc (l : List ByteArray) (s : ByteArray) : seqT (l ++ [s]) = seqT l ++ [(s, (l.length : Int) + 1)] := by simp [seqT, List.mapIdx_append]
theorem seq_len (l : List ByteArray) : (seqT l).length = l.length := by simp [seqT]
theorem seq_last (l : List ByteArray) : lastP (seqT l) = l.length := by
  rcases List.eq_nil_or_concat l with rfl | ⟨L, y, rfl⟩
  · rfl
  · rw [List.concat_eq_append, seq_snoc, last_snoc]
    simp
theorem seq_rise (l : List ByteArray) : RiseT (seqT l) := by
  refine snoc_ind (P := fun l => RiseT (seqT l)) RiseT.nil (fun L y ih => ?_) l
  rw [seq_snoc]
  exact ih.more (by omega) (by rw [seq_last]; omega)
theorem seq_mem {l : List ByteArray} {s : ByteArray} {q : Int} : (s, q) ∈ seqT l ↔ 1 ≤ q ∧ q ≤ l.length ∧ l[(q - 1).toNat]? = some s := by
  unfold seqT
  rw [List.mem_mapIdx]
  constructor
  · rintro ⟨i, hi, h⟩
    obtain ⟨h1, h2⟩ := Prod.mk.inj h
    refine ⟨by omega, by omega, ?_⟩
    rw [show (q - 1).toNat = i by omega, List.getElem?_eq_getElem hi, h1]
  · rintro ⟨h1, h2, h3⟩
    have hi : (q - 1).toNat < l.length := by omega
    refine ⟨(q - 1).toNat, hi, ?_⟩
    rw [List.getElem?_eq_getElem hi] at h3
    injection h3 with h3
    rw [h3]
    congr 1
    omega
theorem seq_names (l : List ByteArray) : namesT (seqT l) = normTags l := by
  unfold namesT
  congr 1
  refine snoc_ind (P := fun l => (seqT l).map (·.1) = l) rfl (fun L y ih => ?_) l
  rw [seq_snoc, List.map_append, ih]; rfl
/-- How many there are up to a bound. -/
theorem seq_count (l : List ByteArray) (s : ByteArray) (u : Nat) : (posF (seqT l) s (u : Int)).length = cnt (l.take u) s := by
  refine snoc_ind (P := fun l => (posF (seqT l) s (u : Int)).length = cnt (l.take u) s) (by simp [seq_nil, posF_nil, cnt_nil]) (fun L y ih => ?_) l
  · rw [seq_snoc]
    by_cases hu : L.length + 1 ≤ u
    · rw [List.take_of_length_le (l := L ++ [y]) (by simpa using hu), cnt_append, cnt_one]
      rw [List.take_of_length_le (by omega)] at ih
      by_cases hy : y = s
      · subst hy
        rw [posF_hit (by omega), List.length_append, ih, if_pos rfl]
        rfl
      · rw [posF_miss (by rintro ⟨h, _⟩; exact hy h), ih, if_neg hy]
        omega
    · rw [posF_miss (by rintro ⟨_, h⟩; omega), ih, List.take_append_of_le_length (by omega)]
theorem seq_neg (l : List ByteArray) (s : ByteArray) {u : Int} (hu : u < 1) : posF (seqT l) s u = [] := by
  rw [List.eq_nil_iff_forall_not_mem]
  intro q hq
  have h1 := (posF_mem.1 hq)
  have h2 := (seq_mem.1 h1.1).1
  omega
/-- The next one, added. -/
theorem seq_add (l : List ByteArray) (s : ByteArray) : addF (seqT l) s ((l.length : Int) + 1) = ((cnt l s : Int) + 1, 0, seqT (l ++ [s])) := by
  rw [add_yes (seq_rise l) s (by omega) (by rw [seq_last]; omega), seq_last, seq_count, List.take_length, seq_snoc]
/-- What is told up to a position stays. -/
theorem seq_stays (l m : List ByteArray) (s : ByteArray) {u : Int} (hu : u ≤ l.length) : posF (seqT (l ++ m)) s u = posF (seqT l) s u := by
  refine snoc_ind (P := fun m => posF (seqT (l ++ m)) s u = posF (seqT l) s u) (by rw [List.append_nil]) (fun L y ih => ?_) m
  · rw [← List.append_assoc, seq_snoc, posF_miss (by rintro ⟨_, h⟩; rw [List.length_append] at h; omega), ih]
/-- Each name's share: together they are all. -/
theorem counts_all (l : List ByteArray) : ∀ ns : List ByteArray, ns.Nodup → (∀ x ∈ l, x ∈ ns) → (ns.map fun x => cnt l x).sum = l.length := by
  induction l with
  | nil =>
    intro ns hn hm
    clear hn hm
    induction ns with
    | nil => rfl
    | cons b ns ih => rw [List.map_cons, List.sum_cons, ih]; rfl
  | cons a l ih =>
    intro ns hn hm
    have h1 := ih ns hn fun x hx => hm x (List.mem_cons_of_mem _ hx)
    have h2 : ∀ ns : List ByteArray, (ns.map fun x => cnt (a :: l) x).sum = (ns.map fun x => cnt l x).sum + cnt ns a := by
      intro ns
      induction ns with
      | nil => rfl
      | cons b ns ih2 =>
        rw [List.map_cons, List.sum_cons, ih2, List.map_cons, List.sum_cons, cnt_cons, cnt_cons]
        by_cases hab : a = b
        · rw [if_pos hab, if_pos hab.symm]; omega
        · rw [if_neg hab, if_neg fun e => hab e.symm]; omega
    rw [h2, h1, List.length_cons, cnt_nodup hn a (hm a (by simp))]
theorem up_nodup {l : List ByteArray} (h : Up l) : l.Nodup := List.Pairwise.imp (fun h => less_ne h) h

/-- The first ones and those behind. -/
theorem seq_split (l m : List ByteArray) : ∃ X, seqT (l ++ m) = seqT l ++ X ∧ ∀ x ∈ X, (l.length : Int) < x.2 := by
  refine snoc_ind (P := fun m => ∃ X, seqT (l ++ m) = seqT l ++ X ∧ ∀ x ∈ X, (l.length : Int) < x.2) ⟨[], by simp, by simp⟩ (fun L y ih => ?_) m
  obtain ⟨X, h1, h2⟩ := ih
  refine ⟨X ++ [(y, ((l ++ L).length : Int) + 1)], by rw [← List.append_assoc, seq_snoc, h1, List.append_assoc], fun x hx => ?_⟩
  rcases List.mem_append.1 hx with hx | hx
  · exact h2 x hx
  · rw [List.mem_singleton] at hx
    rw [hx, List.length_append]
    show (l.length : Int) < ((l.length + L.length : Nat) : Int) + 1
    omega
/-- All are those up to a position, and then others. -/
theorem pos_split (l m : List ByteArray) (s : ByteArray) {u v : Int} (hu : u = l.length) (hv : u ≤ v) : ∃ Y, posF (seqT (l ++ m)) s v = posF (seqT (l ++ m)) s u ++ Y ∧ ∀ q ∈ Y, u < q := by
  obtain ⟨X, h1, h2⟩ := seq_split l m
  refine ⟨posF X s v, ?_, fun q hq => ?_⟩
  · have e1 : posF X s u = [] := by
      rw [List.eq_nil_iff_forall_not_mem]
      intro q hq
      obtain ⟨h3, h4⟩ := posF_mem.1 hq
      have := h2 _ h3
      have h5 : (l.length : Int) < q := this
      omega
    have hall : ∀ x ∈ seqT l, x.2 ≤ u := fun x hx => by
      have := (seq_mem (s := x.1) (q := x.2)).1 hx
      omega
    rw [h1, posF_append, posF_append, e1, List.append_nil, posF_big (fun x hx => by have := hall x hx; omega) hall]
  · have := h2 _ (posF_mem.1 hq).1
    have h5 : (l.length : Int) < q := this
    omega
/-- A table that is in order. -/
structure TOk (T : Tb) : Prop where
  rise : RiseT T
  len : T.length ≤ 200
  sz : ∀ x ∈ T, x.1.size ≤ maxLen
  hi : ∀ x ∈ T, x.2 ≤ 9223372036854775807
theorem TOk.nil : TOk [] := ⟨RiseT.nil, (by decide), (fun _ h => by cases h), (fun _ h => by cases h)⟩
theorem add_ok {T : Tb} (h : TOk T) {s : ByteArray} {p : Int} (hl : T.length < 200) (hs : s.size ≤ maxLen) (hp : p ≤ 9223372036854775807) : TOk (addF T s p).2.2 := by
  refine ⟨add_rise h.rise s p, by have := add_len T s p; omega, ?_, ?_⟩
  all_goals
    intro x hx
    unfold addF at hx
    by_cases hc : p < 1 ∨ p ≤ lastP T
    · rw [if_pos hc] at hx
      first | exact h.sz x hx | exact h.hi x hx
    · rw [if_neg hc] at hx
      rcases List.mem_append.1 hx with hx | hx
      · first | exact h.sz x hx | exact h.hi x hx
      · rw [List.mem_singleton] at hx
        rw [hx]
        first | exact hs | exact hp
theorem seq_ok {l : List ByteArray} (hl : l.length ≤ 200) (hs : ∀ s ∈ l, s.size ≤ maxLen) : TOk (seqT l) := by
  refine ⟨seq_rise l, by rw [seq_len]; exact hl, fun x hx => ?_, fun x hx => ?_⟩
  · obtain ⟨_, _, h⟩ := (seq_mem (s := x.1) (q := x.2)).1 hx
    exact hs _ (List.mem_of_getElem? h)
  · obtain ⟨_, h, _⟩ := (seq_mem (s := x.1) (q := x.2)).1 hx
    omega
theorem seq_next {l : List ByteArray} {j : Nat} (h : j < l.length) : addF (seqT (l.take j)) (l.getD j ByteArray.empty) ((j : Int) + 1) = ((cnt (l.take j) (l.getD j ByteArray.empty) : Int) + 1, 0, seqT (l.take (j + 1))) := by
  have e := seq_add (l.take j) (l.getD j ByteArray.empty)
  rw [List.length_take, Nat.min_eq_left (by omega), ← take_get l j h] at e
  exact e
/-- How many, at a bound that is behind all. -/
theorem seq_all (l : List ByteArray) (s : ByteArray) {u : Int} (hu : (l.length : Int) ≤ u) : (posF (seqT l) s u).length = cnt l s := by
  obtain ⟨k, rfl⟩ : ∃ k : Nat, u = (k : Int) := ⟨u.toNat, by omega⟩
  rw [seq_count, List.take_of_length_le (by omega)]
theorem cnt_take_succ {l : List ByteArray} {j : Nat} (h : j < l.length) (s : ByteArray) : cnt (l.take (j + 1)) s = cnt (l.take j) s + (if l.getD j ByteArray.empty = s then 1 else 0) := by
  rw [take_get l j h, cnt_append, cnt_one]

end Go.Proofs.Ytppdljkfhoekpaa.SmWalk

/-
  Layer 12's mathematics, more: a stream's whole list; which part of it a bound tells; the landed Version's count. No walk here.
-/
namespace Go.Proofs.Ytppdljkfhoekpaa.SmWalk
open Go.RowKit Go.Proofs.Ytppdljkfhoekpaa.MemRow Go.Proofs.Ytppdljkfhoekpaa.Ev Go.Proofs.Ytppdljkfhoekpaa.NameMath Go.Proofs.Ytppdljkfhoekpaa.NameWalk Go.Proofs.Ytppdljkfhoekpaa.EvWalk

def allP (T : Tb) (s : ByteArray) : List Int := (T.filter fun x => decide (x.1 = s)).map (·.2)
theorem allP_nil (s : ByteArray) : allP [] s = [] := rfl
theorem allP_hit (T : Tb) (s : ByteArray) (p : Int) : allP (T ++ [(s, p)]) s = allP T s ++ [p] := by
  unfold allP
  rw [List.filter_append, List.map_append]
  simp
theorem allP_miss (T : Tb) {s t : ByteArray} (h : t ≠ s) (p : Int) : allP (T ++ [(s, p)]) t = allP T t := by
  unfold allP
  rw [List.filter_append, List.map_append]
  have : ¬ s = t := fun e => h e.symm
  simp [this]
theorem namesT_mem {T : Tb} {s : ByteArray} : s ∈ namesT T ↔ ∃ x ∈ T, x.1 = s := by
  unfold namesT
  rw [normTags_mem, List.mem_map]
theorem namesT_up (T : Tb) : Up (namesT T) := normTags_up _
theorem namesT_more {T : Tb} {s : ByteArray} {p : Int} (t : ByteArray) : t ∈ namesT (T ++ [(s, p)]) ↔ t = s ∨ t ∈ namesT T := by
  rw [namesT_mem, namesT_mem]
  constructor
  · rintro ⟨x, hx, rfl⟩
    rcases List.mem_append.1 hx with hx | hx
    · exact .inr ⟨x, hx, rfl⟩
    · rw [List.mem_singleton] at hx
      exact .inl (by rw [hx])
  · rintro (rfl | ⟨x, hx, rfl⟩)
    · exact ⟨(t, p), by simp, rfl⟩
    · exact ⟨x, by simp [hx], rfl⟩
theorem allP_some {T : Tb} {s : ByteArray} (h : s ∈ namesT T) : 0 < (allP T s).length := by
  obtain ⟨x, hx, rfl⟩ := namesT_mem.1 h
  unfold allP
  rw [List.length_map]
  exact List.length_pos_of_mem (List.mem_filter.2 ⟨hx, by simp⟩)
theorem allP_none {T : Tb} {s : ByteArray} (h : ¬ s ∈ namesT T) : allP T s = [] := by
  unfold allP
  rw [List.map_eq_nil_iff, List.filter_eq_nil_iff]
  intro x hx e
  exact h (namesT_mem.2 ⟨x, hx, by simpa using e⟩)
theorem allP_len (T : Tb) (s : ByteArray) : (allP T s).length ≤ T.length := by
  unfold allP
  rw [List.length_map]
  exact List.length_filter_le _ _
theorem namesT_len (T : Tb) : (namesT T).length ≤ T.length := by
  have := normTags_len (T.map (·.1))
  unfold namesT
  rwa [List.length_map] at this
theorem namesT_sz {T : Tb} (h : TOk T) {s : ByteArray} (hs : s ∈ namesT T) : s.size ≤ maxLen := by
  obtain ⟨x, hx, rfl⟩ := namesT_mem.1 hs
  exact h.sz x hx
theorem allP_rise {T : Tb} (h : RiseT T) (s : ByteArray) : (allP T s).Pairwise (· < ·) := by
  unfold allP
  rw [List.pairwise_map]
  exact h.1.sublist List.filter_sublist
theorem posF_all (T : Tb) (s : ByteArray) (u : Int) : posF T s u = (allP T s).filter fun q => decide (q ≤ u) := by
  induction T with
  | nil => rfl
  | cons x T ih =>
    have e : allP (x :: T) s = (if x.1 = s then [x.2] else []) ++ allP T s := by
      unfold allP
      rw [List.filter_cons]
      by_cases h : x.1 = s
      · rw [if_pos (by simpa using h), if_pos h]; rfl
      · rw [if_neg (by simpa using h), if_neg h]; rfl
    rw [posF_cons, e, List.filter_append, ih]
    congr 1
    by_cases h : x.1 = s
    · by_cases h2 : x.2 ≤ u
      · simp [h, h2]
      · simp [h, h2]
    · simp [h]
/-- How many of a rising row are not greater, as a search tells it. -/
def verN (l : List Int) (u : Int) : Nat := l.countP (· < u) + if u ∈ l then 1 else 0
theorem verN_filter {u : Int} : ∀ {l : List Int}, l.Pairwise (· < ·) → (l.filter fun q => decide (q ≤ u)) = l.take (verN l u) ∧ (l.filter fun q => decide (q ≤ u)).length = verN l u
  | [], _ => by simp [verN]
  | a :: l, h => by
    obtain ⟨h1, h2⟩ := List.pairwise_cons.1 h
    obtain ⟨i1, i2⟩ := verN_filter (u := u) h2
    rcases Int.lt_trichotomy a u with hl | rfl | hg
    · have e : verN (a :: l) u = verN l u + 1 := by
        unfold verN
        rw [List.countP_cons_of_pos (by simpa using hl)]
        have : u ∈ a :: l ↔ u ∈ l := by
          rw [List.mem_cons]
          exact ⟨fun h => h.resolve_left (by omega), .inr⟩
        by_cases hm : u ∈ l
        · rw [if_pos hm, if_pos (this.2 hm)]
        · rw [if_neg hm, if_neg fun h => hm (this.1 h)]
      have hle : a ≤ u := by omega
      rw [e, List.take_succ_cons, List.filter_cons, if_pos (by simpa using hle), List.length_cons, ← i1, i2]
      exact ⟨rfl, rfl⟩
    · have hz : (l.filter fun q => decide (q ≤ a)) = [] := List.filter_eq_nil_iff.2 fun q hq => by
        have := h1 q hq
        simp only [decide_eq_true_eq]
        omega
      have hc : l.countP (· < a) = 0 := List.countP_eq_zero.2 fun q hq => by
        have := h1 q hq
        simp only [decide_eq_true_eq]
        omega
      have e : verN (a :: l) a = 1 := by
        unfold verN
        rw [List.countP_cons_of_neg (by simp), hc, if_pos (by simp)]
      rw [e, List.filter_cons, if_pos (by simp), hz]
      exact ⟨by simp, rfl⟩
    · have hz : (l.filter fun q => decide (q ≤ u)) = [] := List.filter_eq_nil_iff.2 fun q hq => by
        have := h1 q hq
        simp only [decide_eq_true_eq]
        omega
      have hc : l.countP (· < u) = 0 := List.countP_eq_zero.2 fun q hq => by
        have := h1 q hq
        simp only [decide_eq_true_eq]
        omega
      have e : verN (a :: l) u = 0 := by
        unfold verN
        rw [List.countP_cons_of_neg (by simp only [decide_eq_true_eq]; omega), hc, if_neg]
        rintro h
        rcases List.mem_cons.1 h with h | h
        · omega
        · have := h1 u h
          omega
      rw [e, List.filter_cons, if_neg (by simp only [decide_eq_true_eq]; omega), hz]
      exact ⟨rfl, rfl⟩
theorem posF_take {T : Tb} (h : RiseT T) (s : ByteArray) (u : Int) : posF T s u = (allP T s).take (verN (allP T s) u) := by rw [posF_all, (verN_filter (allP_rise h s)).1]
theorem posF_ver {T : Tb} (h : RiseT T) (s : ByteArray) (u : Int) : (posF T s u).length = verN (allP T s) u := by rw [posF_all, (verN_filter (allP_rise h s)).2]
theorem verN_le {l : List Int} (h : l.Pairwise (· < ·)) (u : Int) : verN l u ≤ l.length := by
  rw [← (verN_filter h).2]
  exact List.length_filter_le _ _

end Go.Proofs.Ytppdljkfhoekpaa.SmWalk

/-
  Contracts of the library's own texts that the landed posting calls: slices.BinarySearch and slices.Clone at rising rows.
-/
namespace Go.Proofs.Ytppdljkfhoekpaa.PnWalk
open Go.RowKit Go.Proofs.Ytppdljkfhoekpaa.MemRow Go.Proofs.Ytppdljkfhoekpaa.Ev Go.Proofs.Ytppdljkfhoekpaa.NameMath Go.Proofs.Ytppdljkfhoekpaa.NameWalk Go.Proofs.Ytppdljkfhoekpaa.EvWalk Go.Proofs.Ytppdljkfhoekpaa.NumMem Go.Proofs.Ytppdljkfhoekpaa.SmWalk

set_option maxRecDepth 100000 in
theorem cmpNaN_any (x : Int) (w : World) : Calls Try.prog 63 #[.int .i64 x] w fun e w' => e = .returned (.bool false) ∧ w' = w := by
  have h : (x != x) = false := by simp
  go_enter Try.func63, Try.ntmps63
  go_wp2_with fail
  go_ret
  exact ⟨by simp, rfl⟩
set_option maxRecDepth 100000 in
theorem slNaN_any (x : Int) (w : World) : Calls Try.prog 62 #[.int .i64 x] w fun e w' => e = .returned (.bool false) ∧ w' = w := by
  have h : (x != x) = false := by simp
  go_enter Try.func62, Try.ntmps62
  go_wp2_with fail
  go_ret
  exact ⟨by simp, rfl⟩
set_option maxRecDepth 100000 in
theorem cmpLess_any (x y : Int) (w : World) : Calls Try.prog 61 #[.int .i64 x, .int .i64 y] w fun e w' => e = .returned (.bool (decide (x < y))) ∧ w' = w := by
  go_enter Try.func61, Try.ntmps61
  go_wp2_with (go_at_call 63; refine (cmpNaN_any _ _).mono ?_; rintro e w' ⟨rfl, rfl⟩)
  go_ret
  exact ⟨rfl, rfl⟩

set_option maxHeartbeats 4000000 in
set_option maxRecDepth 100000 in
theorem search_any (A : Option Addr) (n c : Nat) (l : List Int) (x : Int) (w : World) (h : RdI w A n c l) (hn : n ≤ 1000000) (hp : l.Pairwise (· ≤ ·)) :
    Calls Try.prog 57 #[.slice A n c, .int .i64 x] w fun e w' => e = .returned (.tuple #[.int .i64 (l.countP (· < x) : Nat), .bool (decide (x ∈ l))]) ∧ ∃ q, w' = w.drewN q := by
  have hlen := h.len
  have S : Hid (∀ a b, a ≤ b → b < n → l.getD a 0 ≤ l.getD b 0) := Go.Lib.hid (Lib.sorted_at l n (by omega) (by rw [← hlen, List.take_length]; exact hp))
  have EN : ∀ i, i ≤ n → (∀ t, t < i → l.getD t 0 < x) → (∀ t, i ≤ t → t < n → x ≤ l.getD t 0) → l.countP (· < x) = i ∧ decide (x ∈ l) = decide (i < n ∧ l.getD i 0 = x) := fun i hi h1 h2 => by
    obtain ⟨e1, e2⟩ := Lib.search_end l n i x (by omega) hi h1 h2 S.out
    rw [← hlen, List.take_length] at e1 e2
    refine ⟨e1, ?_⟩
    rw [← hlen]
    rw [← e2, List.contains_eq_mem]
  have EN := Go.Lib.hid EN
  have hc : ∀ j, j < n → ∃ b o, A = some ⟨b, o, none⟩ ∧ w.cell? ⟨b, o + j, none⟩ = some (.int .i64 (l.getD j 0)) := fun j hj => by
    obtain ⟨b, o, e, _, k⟩ := RdI.at_ h (by omega)
    exact ⟨b, o, e, k j hj⟩
  have HC := Go.Lib.hid hc
  clear hp hc h
  go_enter Try.func57, Try.ntmps57
  go_wp2_with fail
  go_loopw [7, 8] (fun s7 s8 wr => ∃ lo hi q : Nat, s7 = .int .i64 lo ∧ s8 = .int .i64 hi ∧ lo ≤ hi ∧ hi ≤ n ∧ wr = w.drewN q ∧ Hid ((∀ t, t < lo → l.getD t 0 < x) ∧ (∀ t, hi ≤ t → t < n → x ≤ l.getD t 0))) (fun s7 s8 _ => (intOf s8).toNat - (intOf s7).toNat)
  case atStart => exact ⟨0, n, 0, rfl, rfl, Nat.zero_le _, Nat.le_refl _, rfl, Go.Lib.hid ⟨fun t ht => absurd ht (Nat.not_lt_zero _), fun t h1 h2 => by omega⟩⟩
  case round =>
    obtain ⟨lo, hi, q, rfl, rfl, hlh, hin, rfl, I⟩ := hrel
    by_cases hlt : lo < hi
    · obtain ⟨b, o, rfl, cm⟩ := HC.out ((lo + hi) / 2) (by omega)
      have i1 : (lo : Int) < hi := by omega
      obtain ⟨y, hy⟩ : ∃ y, l.getD ((lo + hi) / 2) 0 = y := ⟨_, rfl⟩
      rw [hy] at cm
      have Y := Go.Lib.hid hy
      clear hy
      by_cases hyx : y < x
      · go_wp2_with (first | (go_at_call 61; refine (cmpLess_any _ _ _).mono ?_; rintro e w' ⟨rfl, rfl⟩))
        go_roundw
        case rel =>
          refine ⟨(lo + hi) / 2 + 1, hi, _, by rw [show ((lo : Int) + (hi : Int)) / 2 + 1 = (((lo + hi) / 2 + 1 : Nat) : Int) by omega], rfl, by omega, hin, rfl, Go.Lib.hid ⟨fun t ht => ?_, I.out.2⟩⟩
          have := S.out t ((lo + hi) / 2) (by omega) (by omega)
          rw [Y.out] at this
          omega
        case measure => simp [intOf]; omega
      · go_wp2_with (first | (go_at_call 61; refine (cmpLess_any _ _ _).mono ?_; rintro e w' ⟨rfl, rfl⟩))
        go_roundw
        case rel =>
          refine ⟨lo, (lo + hi) / 2, _, rfl, by rw [show ((lo : Int) + (hi : Int)) / 2 = (((lo + hi) / 2 : Nat) : Int) by omega], by omega, by omega, rfl, Go.Lib.hid ⟨I.out.1, fun t ht htn => ?_⟩⟩
          have := S.out ((lo + hi) / 2) t ht htn
          rw [Y.out] at this
          omega
        case measure => simp [intOf]; omega
    · obtain rfl : hi = lo := by omega
      have i1 : ¬ (hi : Int) < hi := by omega
      obtain ⟨e1, e2⟩ := EN.out hi hin I.out.1 I.out.2
      have E1 := Go.Lib.hid e1
      have E2 := Go.Lib.hid e2
      clear e1 e2
      by_cases hn2 : hi < n
      · obtain ⟨b, o, rfl, cl⟩ := HC.out hi hn2
        have i2 : (hi : Int) < n := by omega
        obtain ⟨y, hy⟩ : ∃ y, l.getD hi 0 = y := ⟨_, rfl⟩
        rw [hy] at cl
        have Y := Go.Lib.hid hy
        clear hy
        have i3 : (x != x) = false := by simp
        by_cases hyx : y = x
        · subst hyx
          go_wp2_with (first | (go_at_call 62; refine (slNaN_any _ _).mono ?_; rintro e w' ⟨rfl, rfl⟩))
          go_ret2
          refine ⟨?_, _, rfl⟩
          rw [E1.out, E2.out, Y.out, decide_eq_true (show hi < n ∧ y = y from ⟨hn2, rfl⟩)]
          first | rfl | simp [*]
        · 
          have i4 : (y == x) = false := by simpa using hyx
          go_wp2_with (first | (go_at_call 62; refine (slNaN_any _ _).mono ?_; rintro e w' ⟨rfl, rfl⟩))
          go_ret2
          refine ⟨?_, _, rfl⟩
          rw [E1.out, E2.out, Y.out, decide_eq_false (show ¬ (hi < n ∧ y = x) from fun h => hyx h.2)]
          first | rfl | simp [*]
      · have i2 : ¬ (hi : Int) < n := by omega
        go_wp2_with (first | (go_at_call 62; refine (slNaN_any _ _).mono ?_; rintro e w' ⟨rfl, rfl⟩))
        go_ret2
        refine ⟨?_, _, rfl⟩
        rw [E1.out, E2.out, decide_eq_false (show ¬ (hi < n ∧ l.getD hi 0 = x) from fun h => hn2 h.1)]
        first | rfl | simp [*]

set_option maxHeartbeats 4000000 in
set_option maxRecDepth 100000 in
theorem cloneI_any (A : Option Addr) (n c : Nat) (l : List Int) (w : World) (h : RdI w A n c l) (hnil : A = none → n = 0) (hn : n ≤ 1000000) :
    Calls Try.prog 37 #[.slice A n c] w fun e w' => ∃ B m cb, e = .returned (.slice B m cb) ∧ RdI w' B m cb l ∧ OwnC 1 w' w.heap.size 3 B m cb (nums l) ∧ Below w.heap.size w w' := by
  have qn : ∀ W, (binOp .eql 59 (.slice A n c) (.slice none 0 0)).run Try.prog W = .ok (.bool A.isNone) W := fun W => Lib.run_eql_slice_nil W _ _ _ _ _ _ _ Try.underlying59
  have hlen := h.len
  cases A with
  | none =>
    have h0 := hnil rfl
    subst h0
    obtain rfl : l = [] := List.eq_nil_of_length_eq_zero hlen
    go_enter Try.func37, Try.ntmps37
    go_wp2_with fail
    go_ret
    exact ⟨none, 0, 0, rfl, RdC.nil _, OwnC.nil _ _, Below.refl _ _⟩
  | some a =>
    have al : Below w.heap.size w (w.alloc (.cells #[] 3)) := (Below.refl _ _).alloc (Nat.le_refl _) _
    have r2 : RdC 1 (w.alloc (.cells #[] 3)) (some a) n c (nums l) := RdC.below h al
    go_enter Try.func37, Try.ntmps37
    go_wp2_with (at_builtin; refine wpList_copy_cells rfl (.tmp 5) (.tmp 6) 59 rfl 3 (.int .i64 0) 8 Try.underlying59 int_info rfl (by decide) rfl rfl (OwnC.empty w 3 (Nat.le_refl _)) r2 (nums_one l) (by unfold maxLen; omega) (by omega) al.size al ?_; intro A5 c5 w5 o5 b5)
    go_ret
    exact ⟨A5, n, c5, rfl, OwnC.rd o5, o5, b5⟩

end Go.Proofs.Ytppdljkfhoekpaa.PnWalk

/-
  Maps by names: a map's entries as a function of texts; a range over it, what has come. No function of the program here.
-/
namespace Go.Proofs.Ytppdljkfhoekpaa.NMap
open Go.RowKit Go.Maps Go.Proofs.Ytppdljkfhoekpaa.MemRow Go.Proofs.Ytppdljkfhoekpaa.Ev Go.Proofs.Ytppdljkfhoekpaa.NameMath Go.Proofs.Ytppdljkfhoekpaa.NameWalk Go.Proofs.Ytppdljkfhoekpaa.EvWalk

/-! ### Keys -/
def keyN (s : ByteArray) : Lit := .string s.data.toList
theorem keyN_inj {a b : ByteArray} (h : keyN a = keyN b) : a = b := by
  unfold keyN at h
  injection h with h
  exact ByteArray.ext (Array.ext' h)
theorem keyN_same (a b : ByteArray) : (keyN a).sameKey (keyN b) = decide (a = b) := by
  by_cases h : a = b
  · subst h
    simp [keyN, Lit.sameKey]
  · rw [decide_eq_false h]
    exact sameKey_ne fun e => h (keyN_inj e)
/-- What is still to come behind the name s. -/
def cutN (left : Lit → Bool) (s : ByteArray) : Lit → Bool := fun z => left z && !z.sameKey (keyN s)
theorem cutN_at (left : Lit → Bool) (s t : ByteArray) : cutN left s (keyN t) = (left (keyN t) && !decide (t = s)) := by
  unfold cutN
  rw [keyN_same]
theorem keyedN : Keyed Try.prog 9 := string_keyed Try.underlying9
theorem keyN_of {s : ByteArray} (h : s.size ≤ maxLen) : keyOf Try.prog 9 (.string s) = some (keyN s) := Go.WideMaps.keyOf_string_mk Try.underlying9 h

/-! ### What has come already -/
def cameN (left : Lit → Bool) (ns : List ByteArray) : List ByteArray := ns.filter fun s => !left (keyN s)
theorem cameN_start {left : Lit → Bool} {ns : List ByteArray} (h : ∀ s ∈ ns, left (keyN s) = true) : cameN left ns = [] :=
  List.filter_eq_nil_iff.2 fun s hs => by rw [h s hs]; decide
theorem cameN_end {left : Lit → Bool} (ns : List ByteArray) (h : ∀ kl, left kl = false) : cameN left ns = ns :=
  List.filter_eq_self.2 fun s _ => by rw [h]; rfl
theorem cameN_mem {left : Lit → Bool} {ns : List ByteArray} {t : ByteArray} : t ∈ cameN left ns ↔ t ∈ ns ∧ left (keyN t) = false := by
  unfold cameN
  rw [List.mem_filter]
  simp
theorem cameN_step {left : Lit → Bool} {ns : List ByteArray} {s : ByteArray} (hs : s ∈ ns) (t : ByteArray) : t ∈ cameN (cutN left s) ns ↔ t = s ∨ t ∈ cameN left ns := by
  rw [cameN_mem, cameN_mem, cutN_at]
  by_cases h : t = s
  · subst h
    simp [hs]
  · simp [h]

/-! ### The map as data -/
section
variable {H : Type}
/-- The map holds just these names, each with its datum. -/
structure NOf (M : DataW H) (ns : List ByteArray) (h : ByteArray → H) : Prop where
  keys : ∀ kl, has M kl = true ↔ ∃ s ∈ ns, kl = keyN s
  at_ : ∀ s ∈ ns, ∀ z, M.atKey (keyN s) z = .held (h s)
theorem NOf.empty (h : ByteArray → H) : NOf (.map []) [] h := ⟨fun kl => ⟨fun h => (by cases h), fun ⟨_, h, _⟩ => (by simp at h)⟩, fun _ h => (by simp at h)⟩
variable {M : DataW H} {ns ns' : List ByteArray} {h h' : ByteArray → H}
theorem NOf.same (o : NOf M ns h) (hn : ∀ s, s ∈ ns' ↔ s ∈ ns) (hk : ∀ s ∈ ns, h' s = h s) : NOf M ns' h' := by
  refine ⟨fun kl => (o.keys kl).trans ⟨fun ⟨s, hs, e⟩ => ⟨s, (hn s).2 hs, e⟩, fun ⟨s, hs, e⟩ => ⟨s, (hn s).1 hs, e⟩⟩, fun s hs z => ?_⟩
  rw [o.at_ s ((hn s).1 hs), hk s ((hn s).1 hs)]
theorem NOf.put (o : NOf M ns h) (hM : IsMap M) {s : ByteArray} (hn : ∀ t, t ∈ ns' ↔ t = s ∨ t ∈ ns) (ho : ∀ t, t ≠ s → h' t = h t) : NOf (M.put (keyN s) (.held (h' s))) ns' h' := by
  refine ⟨fun kl => ?_, fun t ht z => ?_⟩
  · by_cases e : kl = keyN s
    · subst e
      rw [show has (M.put (keyN s) (.held (h' s))) (keyN s) = true from has_put_same (k := .string _) hM trivial _]
      exact ⟨fun _ => ⟨s, (hn s).2 (.inl rfl), rfl⟩, fun _ => rfl⟩
    · rw [has_put_other e, o.keys]
      constructor
      · rintro ⟨t, ht, rfl⟩
        exact ⟨t, (hn t).2 (.inr ht), rfl⟩
      · rintro ⟨t, ht, rfl⟩
        rcases (hn t).1 ht with rfl | ht
        · exact absurd rfl e
        · exact ⟨t, ht, rfl⟩
  · by_cases e : t = s
    · subst e
      exact atKey_put_same (k := .string _) hM trivial _ _
    · rw [atKey_put_other (fun x => e (keyN_inj x)), o.at_ t (((hn t).1 ht).resolve_left e), ho _ e]
theorem NOf.yes (o : NOf M ns h) {s : ByteArray} (hk : s ∈ ns) : has M (keyN s) = true := (o.keys _).2 ⟨s, hk, rfl⟩
theorem NOf.no (o : NOf M ns h) {s : ByteArray} (hk : ¬ s ∈ ns) : has M (keyN s) = false := by
  rw [← Bool.not_eq_true, o.keys]
  rintro ⟨t, ht, e⟩
  rw [keyN_inj e] at hk
  exact hk ht
theorem nodup_keysN (hr : ns.Nodup) : (ns.map keyN).Nodup := by
  unfold List.Nodup at hr ⊢
  rw [List.pairwise_map]
  exact hr.imp fun h1 e => h1 (keyN_inj e)
theorem NOf.perm (o : NOf M ns h) (c : Canon M) (hr : ns.Nodup) : ∃ es, M = .map es ∧ (es.map (·.1)).Perm (ns.map keyN) := by
  obtain ⟨es, rfl, hp, hk⟩ := c
  refine ⟨es, rfl, (List.perm_ext_iff_of_nodup ?_ (nodup_keysN hr)).2 fun kl => ?_⟩
  · unfold List.Nodup
    rw [List.pairwise_map]
    exact apart_of_rising hp
  · have h1 := o.keys kl
    rw [has_eq, List.any_eq_true] at h1
    rw [List.mem_map, List.mem_map]
    constructor
    · rintro ⟨p, hp', rfl⟩
      obtain ⟨f, hf, e⟩ := h1.1 ⟨p, hp', WideAt.sameKey_self (hk p hp')⟩
      exact ⟨f, hf, e.symm⟩
    · rintro ⟨f, hf, rfl⟩
      obtain ⟨p, hp', e⟩ := h1.2 ⟨f, hf, rfl⟩
      exact ⟨p, hp', WideAt.sameKey_eq e⟩
theorem NOf.size (o : NOf M ns h) (c : Canon M) (hr : ns.Nodup) : Maps.size M = ns.length := by
  obtain ⟨es, rfl, hp⟩ := o.perm c hr
  have := hp.length_eq
  rw [size_eq]
  simpa using this
theorem NOf.strs (o : NOf M ns h) (c : Canon M) (hr : ns.Nodup) : (strKeys M).Perm (ns.map fun s => s.data.toList) := by
  obtain ⟨es, rfl, hp⟩ := o.perm c hr
  have := hp.map strOf
  rw [List.map_map, List.map_map] at this
  exact this
end
theorem sorted_strs {ns : List ByteArray} (hr : Up ns) {ss : List (List UInt8)} (hp : ss.Perm (ns.map fun s => s.data.toList)) : (ss.mergeSort leB).map Go.Proofs.encStr = MemRow.strs ns := by
  have h : (ns.map fun s => s.data.toList).Pairwise fun a b => leB a b = true := by
    unfold Up at hr
    rw [List.pairwise_map]
    refine hr.imp fun {a b} h1 => ?_
    rw [less_eq] at h1
    simp only [leB, decide_eq_true_eq] at h1 ⊢
    exact List.le_of_lt h1
  rw [mergeSort_of_perm hp, List.mergeSort_of_pairwise h]
  unfold MemRow.strs
  rw [List.map_map]
  refine List.map_congr_left fun f _ => ?_
  simp [Go.Proofs.encStr]
theorem up_nodupN {ns : List ByteArray} (h : Up ns) : ns.Nodup := h.imp fun h1 => less_ne h1

/-! ### The map in memory -/
section
variable {H : Type}
theorem tightN {w : World} {P : Program} {k : TypeId} {R : Value → Option (DataW H × List MemPlace)} {b n : Nat} {M : DataW H} (h : w.ownsMap P k R b n M) : w.ownsMap P k R b (Maps.size M) M := by
  obtain ⟨es, clock, hb, F, hs, hD⟩ := h
  refine ⟨es, clock, hb, F, ?_, hD⟩
  rw [hD, size_eq, length_sorted]
  simp
theorem isMapN {w : World} {R : Value → Option (DataW H × List MemPlace)} {b n : Nat} {M : DataW H} (h : w.ownsMap Try.prog 9 R b n M) : IsMap M := by
  obtain ⟨es, e, _⟩ := h.canon keyedN
  exact ⟨es, e⟩
theorem run_makeHintN {P : Program} {t k e : TypeId} (hu : P.underlying t = some (.map k e)) (q : IntKind) (n : Int) (w : World) : (Instr.makeMap t (some (.int q n))).run P w = .ok (.map (some w.heap.size)) (w.alloc (.map #[] 0)) := by
  simp [Instr.makeMap, run_underlying hu, asInt, asIntOf, Result.andThen]

variable (w : World) {ops : Array Oper} {rest : List Oper} {o : Oper} {a : Act} {Q : Exit → Act → World → Prop}
/-- The step of a range over a map by names; mkV, inv: the elements' shape; val: the element of a name. -/
theorem wpList_next_ns {β : Type} (R : Value → Option (DataW H × List MemPlace)) (mkV : β → Value) (inv : ∀ v y, R v = some y → ∃ c, v = mkV c) (val : H → Value) (hval : ∀ v x ps, R v = some (.held x, ps) → v = val x)
    (hg : o.guard = none) (it : Operand) (hop : o.op = Op.next it false) {M : DataW H} {ns : List ByteArray} {h : ByteArray → H} (mp : NOf M ns h) (b r n : Nat) (left : Lit → Bool) (cnt : Nat)
    (hit : a.eval it = .pointer (some ⟨r, 0, none⟩)) (hr : w.ranges Try.prog 9 R b r n M left cnt)
    (hDone : cnt = 0 → (∀ kl, left kl = false) → wpList Try.prog ops Q rest (a.put o.dst (.tuple #[.bool false])) w)
    (hMore : ∀ (s : ByteArray), s ∈ ns → ∀ (w' : World) (cnt' : Nat), left (keyN s) = true → s.size ≤ maxLen → w'.ranges Try.prog 9 R b r n M (cutN left s) cnt' → cnt' < cnt → w.grownBy w' (some r) → w'.heap.size = w.heap.size →
      (Instr.entry (.pointer (some ⟨r, 0, none⟩))).run Try.prog w' = .ok (.tuple #[.string s, val (h s)]) w' → wpList Try.prog ops Q rest (a.put o.dst (.tuple #[.bool true, .string s, val (h s)])) w') :
    wpList Try.prog ops Q (o :: rest) a w := by
  refine wpList_next_ranges w hg it hop 9 keyedN R Go.Proofs.encStr mkV (fun key kl hk => by obtain ⟨x, hx, _⟩ := Maps.keyOf_str Try.underlying9 hk; exact ⟨x, hx⟩) inv b r n M left cnt hit hr hDone ?_
  intro x c kl y w' cnt' hkey hlk hv hat hrg hlt hgr hsz hen
  obtain ⟨x', ex, rfl, hxl⟩ := Maps.keyOf_str Try.underlying9 hkey
  obtain rfl := encStr_inj ex
  obtain ⟨s, hs, ek⟩ := (mp.keys _).1 (has_true_of_atKey hat)
  have hx : x = s.data.toList := by
    unfold keyN at ek
    injection ek
  have e1 : Go.Proofs.encStr x = .string s := by
    rw [hx]
  obtain ⟨yd, yp⟩ := y
  have e2 : mkV c = val (h s) := by
    have h1 := hat .nil
    rw [ek, mp.at_ s hs] at h1
    refine hval _ _ yp ?_
    rw [hv]
    simp only at h1
    rw [h1]
  rw [ek] at hlk hrg
  rw [e1, e2] at hen ⊢
  refine hMore s hs w' cnt' hlk ?_ hrg hlt hgr hsz hen
  have := size_list s
  rw [hx] at hxl
  omega
end

end Go.Proofs.Ytppdljkfhoekpaa.NMap

/-
  The landed posting in memory: lists that two objects may share: what an append of one number does to a list, and to those that share it.
-/
namespace Go.Proofs.Ytppdljkfhoekpaa.PnWalk
open Go.RowKit Go.Maps Go.Proofs.Ytppdljkfhoekpaa.MemRow Go.Proofs.Ytppdljkfhoekpaa.Ev Go.Proofs.Ytppdljkfhoekpaa.NameMath Go.Proofs.Ytppdljkfhoekpaa.NameWalk Go.Proofs.Ytppdljkfhoekpaa.EvWalk Go.Proofs.Ytppdljkfhoekpaa.NumMem Go.Proofs.Ytppdljkfhoekpaa.SmWalk Go.Proofs.Ytppdljkfhoekpaa.NMap Go.Proofs.Ytppdljkfhoekpaa.DkWalk

/-! ### A list: a slice of numbers -/
structure Hr where
  b : Nat
  n : Nat
  c : Nat
abbrev valL (h : Hr) : Value := .slice (some ⟨h.b, 0, none⟩) h.n h.c
def slR (v : Value) : Option (DataW Hr × List MemPlace) :=
  match v with
  | .slice (some ⟨b, 0, none⟩) n c => some (.held ⟨b, n, c⟩, [])
  | .slice none 0 0 => some (.nil, [])
  | _ => none
theorem slR_some (h : Hr) : slR (valL h) = some (.held h, []) := rfl
theorem slR_none : slR (.slice none 0 0) = some (.nil, []) := rfl
theorem slR_held (v : Value) (h : Hr) (ps : List MemPlace) (e : slR v = some (.held h, ps)) : v = valL h := by
  unfold slR at e
  split at e
  · simp only [Option.some.injEq, Prod.mk.injEq, DataW.held.injEq] at e
    rw [← e.1]
  · simp at e
  · cases e
theorem slR_nil {v : Value} {ps : List MemPlace} (e : slR v = some (.nil, ps)) : v = .slice none 0 0 := by
  unfold slR at e
  split at e
  · simp at e
  · rfl
  · cases e
def mkL (c : Option Hr) : Value := match c with | none => .slice none 0 0 | some h => valL h
theorem mkL_inv (v : Value) (y : DataW Hr × List MemPlace) (h : slR v = some y) : ∃ c, v = mkL c := by
  unfold slR at h
  split at h
  · exact ⟨some ⟨_, _, _⟩, rfl⟩
  · exact ⟨none, rfl⟩
  · cases h

structure LiR (w : World) (F G : Nat → Prop) (h : Hr) (l : List Int) : Prop where
  ex : ∃ cur, w.heap[h.b]? = some (.cells cur 3 (0, 0)) ∧ h.c ≤ cur.size ∧ cur.toList.take h.n = nums l
  len : l.length = h.n
  pos : 0 < h.n
  le : h.n ≤ h.c
  cap : h.c ≤ maxLen
  own : h.n < h.c → F h.b
  gb : G h.b
section
variable {w w' : World} {F F' G G' : Nat → Prop} {h : Hr} {l : List Int}
theorem LiR.rd (r : LiR w F G h l) : RdI w (some ⟨h.b, 0, none⟩) h.n h.c l := by
  obtain ⟨cur, hb, _, ht⟩ := r.ex
  refine RdC.of_block hb (by rw [nums_length, r.len, Nat.mul_one]) r.le r.cap fun i v hi => ?_
  rw [← ht] at hi
  have hlt : i < h.n := by
    have := (List.getElem?_eq_some_iff.1 hi).1
    rw [List.length_take] at this
    omega
  rw [List.getElem?_take_of_lt hlt] at hi
  simpa using hi
theorem LiR.blt (r : LiR w F G h l) : h.b < w.heap.size := by
  obtain ⟨cur, hb, _⟩ := r.ex
  exact (Array.getElem?_eq_some_iff.1 hb).1
theorem LiR.kept (r : LiR w F G h l) (hk : w'.heap[h.b]? = w.heap[h.b]?) : LiR w' F G h l := by
  obtain ⟨cur, hb, hc⟩ := r.ex
  exact ⟨⟨cur, hk.trans hb, hc⟩, r.len, r.pos, r.le, r.cap, r.own, r.gb⟩
theorem LiR.wide (r : LiR w F G h l) (hF : ∀ k, F k → F' k) (hG : ∀ k, G k → G' k) : LiR w F' G' h l := ⟨r.ex, r.len, r.pos, r.le, r.cap, fun e => hF _ (r.own e), hG _ r.gb⟩
theorem LiR.not {g : Nat} {o : Obj} (r : LiR w F G h l) (hg : w.heap[g]? = some o) (ho : ∀ cs T fr, o = .cells cs T fr → T ≠ 3) : h.b ≠ g := by
  intro e
  obtain ⟨cur, hb, _⟩ := r.ex
  rw [e, hg] at hb
  injection hb with hb
  exact ho _ _ _ hb rfl
theorem block_put (w : World) (b i : Nat) (v : Value) {cur : Array Value} {t : TypeId} {fr : Nat × Nat} (hb : w.heap[b]? = some (.cells cur t fr)) : (w.setCell ⟨b, i, none⟩ v).heap[b]? = some (.cells (cur.setIfInBounds i v) t fr) := by
  simp only [World.setCell, Array.getElem?_modify, hb]
  rfl
theorem block_other (w : World) (b i : Nat) (v : Value) {k : Nat} (h : k ≠ b) : (w.setCell ⟨b, i, none⟩ v).heap[k]? = w.heap[k]? := by
  have : b ≠ k := fun e => h e.symm
  simp [World.setCell, Array.getElem?_modify, this]
theorem setGrown (w : World) (g i : Nat) (x : Value) : w.grownBy (w.setCell ⟨g, i, none⟩ x) (some g) := by
  refine ⟨rfl, rfl, rfl, by simp [World.setCell], fun k _ hne => ?_⟩
  exact block_other w g i x fun e => hne (by rw [e])
/-- A number laid behind a list's own ones. -/
theorem LiR.put (r : LiR w F G h l) {b i : Nat} (v : Value) (hi : b = h.b → h.n ≤ i) : LiR (w.setCell ⟨b, i, none⟩ v) F G h l := by
  by_cases e : h.b = b
  · obtain ⟨cur, hb, hc, ht⟩ := r.ex
    have hin := hi e.symm
    subst e
    refine ⟨⟨_, block_put w _ i v hb, by simpa using hc, ?_⟩, r.len, r.pos, r.le, r.cap, r.own, r.gb⟩
    rw [← ht, Array.toList_setIfInBounds, List.take_set_of_le hin]
  · exact r.kept (block_other w b i v e)

/-! ### append(list, p) -/
/-- What was there: a list, or none. -/
def OldL (w : World) (F G : Nat → Prop) (old : Option Hr) (l : List Int) : Prop := (∃ h, old = some h ∧ LiR w F G h l) ∨ (old = none ∧ l = [])
structure AppOut (w w' : World) (F G : Nat → Prop) (old : Option Hr) (l : List Int) (p : Int) (h' : Hr) : Prop where
  li : LiR w' (up F w w') (up G w w') h' (l ++ [p])
  size : w.heap.size ≤ w'.heap.size
  how : (∃ h, old = some h ∧ h.n < h.c ∧ F h.b ∧ h' = ⟨h.b, h.n + 1, h.c⟩ ∧ w' = w.setCell ⟨h.b, h.n, none⟩ (.int .i64 p)) ∨ (Below w.heap.size w w' ∧ w.heap.size ≤ h'.b)
theorem app_room (r : LiR w F G h l) (hs : h.n < h.c) (p : Int) {a : Addr} {c : Nat} (hl : w.cell? (a.add 0) = some (.int .i64 p)) (ty : TypeId) :
    (Builtin.append_ #[59, 59] ty #[valL h, .slice (some a) 1 c]).run Try.prog w = .ok (valL ⟨h.b, h.n + 1, h.c⟩) (w.setCell ⟨h.b, h.n, none⟩ (.int .i64 p)) ∧ AppOut w (w.setCell ⟨h.b, h.n, none⟩ (.int .i64 p)) F G (some h) l p ⟨h.b, h.n + 1, h.c⟩ := by
  have hi := int_info
  have hT := Try.underlying59
  obtain ⟨i, h1, h2, h3, h4⟩ : ∃ i, Try.prog.info? 3 = some i ∧ i.zero = some (.int .i64 0) ∧ i.size = 1 ∧ i.bytes = 8 := by
    cases hq : Try.prog.info? 3 with
    | none => simp [hq] at hi
    | some i => simp [hq] at hi; exact ⟨i, rfl, hi.1, hi.2.1, hi.2.2⟩
  obtain ⟨cur, hb, hc, ht⟩ := r.ex
  have hcell : w.cell? ⟨h.b, h.n, none⟩ = some (cur[h.n]'(by omega)) := by
    rw [cell_of_row w h.b h.n _ _ _ hb, Array.getElem?_eq_getElem (by omega)]
  have hfr : w.frozen? ⟨h.b, h.n, none⟩ = false := by simp [World.frozen?, hb]
  have run := run_append_room_cells (P := Try.prog) w 59 ty 3 i hT h1 h.b 0 h.n h.c a 1 c [.int .i64 p] (by simp [h3]) (fun j u hj => by
    have : j = 0 := by
      have := (List.getElem?_eq_some_iff.1 hj).1
      simpa using this
    subst this
    simp only [List.getElem?_cons_zero, Option.some.injEq] at hj
    rw [← hj]
    exact hl) (fun u hu => by
    rw [List.mem_singleton] at hu
    rw [hu]
    rfl) (by omega) (fun j hj => by
    obtain rfl : j = 0 := by simpa using hj
    simp only [h3, Nat.mul_one, Nat.zero_add, Nat.add_zero, hcell]
    rfl) (fun j hj => by
    obtain rfl : j = 0 := by simpa using hj
    simp only [h3, Nat.mul_one, Nat.zero_add, Nat.add_zero, hfr])
  have e : w.setCells h.b (0 + h.n * i.size) [.int .i64 p] = w.setCell ⟨h.b, h.n, none⟩ (.int .i64 p) := by
    simp only [h3, Nat.mul_one, Nat.zero_add]
    rfl
  rw [e] at run
  have hsz : (w.setCell ⟨h.b, h.n, none⟩ (.int .i64 p)).heap.size = w.heap.size := by simp [World.setCell]
  refine ⟨run, ⟨⟨⟨_, block_put w _ h.n _ hb, by simpa using hc, ?_⟩, by rw [List.length_append, r.len]; rfl, by simp, by simp only; omega, r.cap, fun _ => .inl (r.own hs), .inl r.gb⟩, by omega, .inl ⟨h, rfl, hs, r.own hs, rfl, rfl⟩⟩⟩
  have hn : h.n < cur.toList.length := by simp; omega
  simp only
  rw [Array.toList_setIfInBounds, nums_append, ← ht]
  rw [List.take_add_one, List.getElem?_set_self hn, List.take_set_of_le (Nat.le_refl _)]
  rfl
theorem app_grow {old : Option Hr} (hold : OldL w F G old l) (hfull : ∀ h, old = some h → h.n = h.c) (hlen : l.length ≤ 1000000) (p : Int) {a : Addr} {c : Nat} (hl : w.cell? (a.add 0) = some (.int .i64 p)) (ty : TypeId) :
    ∃ h' w', (Builtin.append_ #[59, 59] ty #[mkL old, .slice (some a) 1 c]).run Try.prog w = .ok (valL h') w' ∧ AppOut w w' F G old l p h' := by
  have hi := int_info
  have hT := Try.underlying59
  obtain ⟨i, h1, h2, h3, h4⟩ : ∃ i, Try.prog.info? 3 = some i ∧ i.zero = some (.int .i64 0) ∧ i.size = 1 ∧ i.bytes = 8 := by
    cases hq : Try.prog.info? 3 with
    | none => simp [hq] at hi
    | some i => simp [hq] at hi; exact ⟨i, rfl, hi.1, hi.2.1, hi.2.2⟩
  have hnew : ∀ j u, [Value.int .i64 p][j]? = some u → w.cell? (a.add j) = some u := fun j u hj => by
    have : j = 0 := by
      have := (List.getElem?_eq_some_iff.1 hj).1
      simpa using this
    subst this
    simp only [List.getElem?_cons_zero, Option.some.injEq] at hj
    rw [← hj]
    exact hl
  have fin : ∀ v' w', w'.ownsRow w.heap.size 3 1 v' (l.length + 1) (nums l ++ [.int .i64 p]) → w.grownBy w' none → ∃ h', v' = valL h' ∧ AppOut w w' F G old l p h' := by
    intro v' w' ho hg
    rcases ho.2 with ⟨rfl, hn⟩ | ⟨g, c2, cur, rfl, hbg, hgb, hnc, hcm, hcs, htk⟩
    · omega
    · refine ⟨⟨g, l.length + 1, c2⟩, rfl, ⟨⟨⟨cur, hgb, by simp only; omega, ?_⟩, by rw [List.length_append]; rfl, by simp, hnc, hcm, fun _ => ?_, ?_⟩, hg.size, .inr ⟨grown_below hg, hbg⟩⟩⟩
      · rw [nums_append, ← Nat.mul_one (l.length + 1)]
        exact htk
      · have := (Array.getElem?_eq_some_iff.1 hgb).1
        exact .inr ⟨hbg, this⟩
      · have := (Array.getElem?_eq_some_iff.1 hgb).1
        exact .inr ⟨hbg, this⟩
  rcases hold with ⟨h, rfl, r⟩ | ⟨rfl, rfl⟩
  · have hn := r.len
    have hc := hfull h rfl
    obtain ⟨v', w', hrun, ho, hg⟩ := run_append_arg_grows (P := Try.prog) w 59 ty 3 i (.int .i64 0) 1 8 hT h1 h2 h3 h4 rfl (by omega) ⟨h.b, 0, none⟩ h.n h.c (nums l) (by rw [nums_length, r.len, Nat.mul_one]) (fun j u hj => by
      obtain ⟨b, o, hA, hcl⟩ := r.rd.2.2.2 r.pos
      injection hA with hA
      rw [hA, add_plain]
      exact hcl j u hj) a 1 c [.int .i64 p] (by simp) hnew (by omega) (by unfold maxLen; omega) (by omega)
    rw [← hn] at ho
    obtain ⟨h', rfl, out⟩ := fin v' w' ho hg
    exact ⟨h', w', hrun, out⟩
  · obtain ⟨v', w', hrun, ho, hg, _⟩ := run_append_own_at (P := Try.prog) w w.heap.size 59 ty 3 i (.int .i64 0) 1 8 hT h1 h2 h3 h4 rfl (by omega) (.slice none 0 0) 0 [] ⟨by simp, .inl ⟨rfl, rfl⟩⟩ a 1 c [.int .i64 p] (by simp) hnew (fun u hu => by
      rw [List.mem_singleton] at hu
      rw [hu]
      rfl) (by unfold maxLen; omega) (by omega) (Nat.le_refl _)
    obtain ⟨h', rfl, out⟩ := fin v' w' (by simpa [nums] using ho) hg
    exact ⟨h', w', hrun, out⟩
theorem app_any {old : Option Hr} (hold : OldL w F G old l) (hlen : l.length ≤ 1000000) (p : Int) {a : Addr} {c : Nat} (hl : w.cell? (a.add 0) = some (.int .i64 p)) (ty : TypeId) :
    ∃ h' w', (Builtin.append_ #[59, 59] ty #[mkL old, .slice (some a) 1 c]).run Try.prog w = .ok (valL h') w' ∧ AppOut w w' F G old l p h' := by
  by_cases hf : ∀ h, old = some h → h.n = h.c
  · exact app_grow hold hf hlen p hl ty
  · rcases hold with ⟨h, rfl, r⟩ | ⟨rfl, rfl⟩
    · have hs : h.n < h.c := by
        have := r.le
        rcases Nat.lt_or_ge h.n h.c with h1 | h1
        · exact h1
        · exact absurd (fun h' e => by injection e with e; rw [← e]; omega) hf
      obtain ⟨run, out⟩ := app_room r hs p hl ty
      exact ⟨_, _, run, out⟩
    · exact absurd (fun h' e => by cases e) hf
theorem wpList_app1 {old : Option Hr} {ops : Array Oper} {rest : List Oper} {o : Oper} {ac : Act} {Q : Exit → Act → World → Prop} (hgd : o.guard = none) (s x : Operand)
    (ho : o.op = .call { callee := .builtin .append, args := #[s, x], argTypes := #[59, 59] })
    {sv : Value} (hs : ac.eval s = sv) (hsv : sv = mkL old) {a : Addr} {c : Nat} (hx : ac.eval x = .slice (some a) 1 c) (hold : OldL w F G old l) (hlen : l.length ≤ 1000000) (p : Int) (hl : w.cell? (a.add 0) = some (.int .i64 p))
    (h : ∀ h' w', AppOut w w' F G old l p h' → wpList Try.prog ops Q rest (ac.put o.dst (.slice (some ⟨h'.b, 0, none⟩) h'.n h'.c)) w') : wpList Try.prog ops Q (o :: rest) ac w := by
  obtain ⟨h', w', hrun, out⟩ := app_any hold hlen p hl o.type
  refine wpList_plain hgd fun _ hK => ?_
  unfold Oper.wp execOp
  simp only [ho, resolve, invoke, builtin, Sem.run_bind, Sem.run_pure, Result.andThen_ok, List.map_toArray, List.map_cons, List.map_nil, hs, hsv, hx]
  rw [hrun]
  exact hK _ _ (h h' w' out)
theorem AppOut.other {old : Option Hr} {p : Int} {h' : Hr} (a : AppOut w w' F G old l p h') {k : Nat} (hk : k < w.heap.size) (hn : ∀ h, old = some h → k ≠ h.b) : w'.heap[k]? = w.heap[k]? := by
  rcases a.how with ⟨h, ho, _, _, _, rfl⟩ | ⟨hb, _⟩
  · exact block_other w _ _ _ (hn h ho)
  · exact hb.block k hk
end

end Go.Proofs.Ytppdljkfhoekpaa.PnWalk

/-
  Layer 13, the landed posting: two rising rows gone through together; positions by keys, as data. No walk here.
-/
namespace Go.Proofs.Ytppdljkfhoekpaa.PnWalk
open Go.RowKit Go.Proofs.Ytppdljkfhoekpaa.MemRow Go.Proofs.Ytppdljkfhoekpaa.Ev Go.Proofs.Ytppdljkfhoekpaa.NameMath Go.Proofs.Ytppdljkfhoekpaa.NameWalk Go.Proofs.Ytppdljkfhoekpaa.EvWalk Go.Proofs.Ytppdljkfhoekpaa.NumMem Go.Proofs.Ytppdljkfhoekpaa.SmWalk Go.Proofs.Ytppdljkfhoekpaa.Qu Go.Proofs.Ytppdljkfhoekpaa.QuWalk Go.Proofs.Ytppdljkfhoekpaa.PoWalk

/-- Two rows gone through in order, each number once; k tells which stay. -/
def mgF (k : Bool → Bool → Bool) : List Int → List Int → List Int
  | [], [] => []
  | x :: a, [] => (if k true false = true then [x] else []) ++ mgF k a []
  | [], y :: b => (if k false true = true then [y] else []) ++ mgF k [] b
  | x :: a, y :: b =>
    if x < y then (if k true false = true then [x] else []) ++ mgF k a (y :: b)
    else if y < x then (if k false true = true then [y] else []) ++ mgF k (x :: a) b
    else (if k true true = true then [y] else []) ++ mgF k a b
  termination_by a b => a.length + b.length
theorem ite_mem {c : Bool} {x z : Int} : z ∈ (if c = true then [x] else []) ↔ z = x ∧ c = true := by
  cases c <;> simp
theorem mg_mem {k : Bool → Bool → Bool} {z : Int} : ∀ (n : Nat) (a b : List Int), a.length + b.length = n → Inc a → Inc b → (z ∈ mgF k a b ↔ (z ∈ a ∧ z ∈ b ∧ k true true = true) ∨ (z ∈ a ∧ ¬ z ∈ b ∧ k true false = true) ∨ (¬ z ∈ a ∧ z ∈ b ∧ k false true = true)) := by
  intro n
  induction n using Nat.strongRecOn with
  | ind n ih =>
    intro a b hn ha hb
    match a, b, hn, ha, hb with
    | [], [], _, _, _ => simp [mgF]
    | x :: a, [], hn, ha, hb =>
      obtain ⟨h1, h2⟩ := List.pairwise_cons.1 ha
      have hx : ¬ x ∈ a := fun h => by have := h1 x h; omega
      rw [mgF, List.mem_append, ite_mem, ih _ (by simp at hn ⊢; omega) a [] rfl h2 hb]
      by_cases e : z = x
      · subst e; simp [hx]
      · simp [e]
    | [], y :: b, hn, ha, hb =>
      obtain ⟨h1, h2⟩ := List.pairwise_cons.1 hb
      have hx : ¬ y ∈ b := fun h => by have := h1 y h; omega
      rw [mgF, List.mem_append, ite_mem, ih _ (by simp at hn ⊢; omega) [] b rfl ha h2]
      by_cases e : z = y
      · subst e; simp [hx]
      · simp [e]
    | x :: a, y :: b, hn, ha, hb =>
      obtain ⟨h1, h2⟩ := List.pairwise_cons.1 ha
      obtain ⟨g1, g2⟩ := List.pairwise_cons.1 hb
      have hx : ¬ x ∈ a := fun h => by have := h1 x h; omega
      have hy : ¬ y ∈ b := fun h => by have := g1 y h; omega
      rw [mgF]
      by_cases c1 : x < y
      · have hxb : ¬ x ∈ b := fun h => by have := g1 x h; omega
        rw [if_pos c1, List.mem_append, ite_mem, ih _ (by simp at hn ⊢; omega) a (y :: b) rfl h2 hb]
        by_cases e : z = x
        · subst e
          have : ¬ z = y := by omega
          simp [hx, hxb, this]
        · simp [e]
      · rw [if_neg c1]
        by_cases c2 : y < x
        · have hya : ¬ y ∈ a := fun h => by have := h1 y h; omega
          rw [if_pos c2, List.mem_append, ite_mem, ih _ (by simp at hn ⊢; omega) (x :: a) b rfl ha g2]
          by_cases e : z = y
          · subst e
            have : ¬ z = x := by omega
            simp [hy, hya, this]
          · simp [e]
        · obtain rfl : x = y := by omega
          rw [if_neg c2, List.mem_append, ite_mem, ih _ (by simp at hn ⊢; omega) a b rfl h2 g2]
          by_cases e : z = x
          · subst e; simp [hx, hy]
          · simp [e]
theorem mg_inc {k : Bool → Bool → Bool} : ∀ (n : Nat) (a b : List Int), a.length + b.length = n → Inc a → Inc b → Inc (mgF k a b) := by
  have hd : ∀ (c : Bool) (x : Int) (l : List Int), Inc l → (∀ z ∈ l, x < z) → Inc ((if c = true then [x] else []) ++ l) := fun c x l hl h => by
    cases c
    · simpa using hl
    · exact List.pairwise_cons.2 ⟨h, hl⟩
  have hin : ∀ {a b : List Int} {z : Int}, Inc a → Inc b → z ∈ mgF k a b → z ∈ a ∨ z ∈ b := fun {a b z} ha hb h => by
    rcases (mg_mem _ a b rfl ha hb).1 h with h | h | h
    · exact .inl h.1
    · exact .inl h.1
    · exact .inr h.2.1
  intro n
  induction n using Nat.strongRecOn with
  | ind n ih =>
    intro a b hn ha hb
    match a, b, hn, ha, hb with
    | [], [], _, _, _ => simp [mgF, Inc]
    | x :: a, [], hn, ha, hb =>
      obtain ⟨h1, h2⟩ := List.pairwise_cons.1 ha
      rw [mgF]
      refine hd _ _ _ (ih _ (by simp at hn ⊢; omega) a [] rfl h2 hb) fun z hz => ?_
      rcases hin h2 hb hz with h | h
      · exact h1 z h
      · cases h
    | [], y :: b, hn, ha, hb =>
      obtain ⟨h1, h2⟩ := List.pairwise_cons.1 hb
      rw [mgF]
      refine hd _ _ _ (ih _ (by simp at hn ⊢; omega) [] b rfl ha h2) fun z hz => ?_
      rcases hin ha h2 hz with h | h
      · cases h
      · exact h1 z h
    | x :: a, y :: b, hn, ha, hb =>
      obtain ⟨h1, h2⟩ := List.pairwise_cons.1 ha
      obtain ⟨g1, g2⟩ := List.pairwise_cons.1 hb
      rw [mgF]
      by_cases c1 : x < y
      · rw [if_pos c1]
        refine hd _ _ _ (ih _ (by simp at hn ⊢; omega) a (y :: b) rfl h2 hb) fun z hz => ?_
        rcases hin h2 hb hz with h | h
        · exact h1 z h
        · rcases List.mem_cons.1 h with h | h
          · omega
          · have := g1 z h; omega
      · rw [if_neg c1]
        by_cases c2 : y < x
        · rw [if_pos c2]
          refine hd _ _ _ (ih _ (by simp at hn ⊢; omega) (x :: a) b rfl ha g2) fun z hz => ?_
          rcases hin ha g2 hz with h | h
          · rcases List.mem_cons.1 h with h | h
            · omega
            · have := h1 z h; omega
          · exact g1 z h
        · rw [if_neg c2]
          refine hd _ _ _ (ih _ (by simp at hn ⊢; omega) a b rfl h2 g2) fun z hz => ?_
          rcases hin h2 g2 hz with h | h
          · have := h1 z h; omega
          · exact g1 z h
theorem mg_both {a b : List Int} (ha : Inc a) (hb : Inc b) : mgF (fun x y => x && y) a b = bothF a b := inc_ext (mg_inc _ a b rfl ha hb) (both_inc ha b) fun z => by
  rw [mg_mem _ a b rfl ha hb, both_mem]
  simp
theorem mg_either {a b : List Int} (ha : Inc a) (hb : Inc b) : mgF (fun x y => x || y) a b = eitherF a b := inc_ext (mg_inc _ a b rfl ha hb) (either_inc a hb) fun z => by
  rw [mg_mem _ a b rfl ha hb, either_mem]
  by_cases h1 : z ∈ a <;> by_cases h2 : z ∈ b <;> simp [h1, h2]
/-! ### A step, by where the rows are -/
theorem drop_at {l : List Int} {i : Nat} (h : i < l.length) : l.drop i = l.getD i 0 :: l.drop (i + 1) := by
  rw [List.drop_eq_getElem_cons h]
  simp [List.getD, List.getElem?_eq_getElem h]
section
variable {k : Bool → Bool → Bool} {a b : List Int} {i j : Nat}
theorem mg_a (hi : i < a.length) (hj : b.length ≤ j) : mgF k (a.drop i) (b.drop j) = (if k true false = true then [a.getD i 0] else []) ++ mgF k (a.drop (i + 1)) (b.drop j) := by
  rw [drop_at hi, List.drop_of_length_le hj, mgF]
theorem mg_b (hi : a.length ≤ i) (hj : j < b.length) : mgF k (a.drop i) (b.drop j) = (if k false true = true then [b.getD j 0] else []) ++ mgF k (a.drop i) (b.drop (j + 1)) := by
  rw [drop_at hj, List.drop_of_length_le hi, mgF]
theorem mg_lt (hi : i < a.length) (hj : j < b.length) (h : a.getD i 0 < b.getD j 0) : mgF k (a.drop i) (b.drop j) = (if k true false = true then [a.getD i 0] else []) ++ mgF k (a.drop (i + 1)) (b.drop j) := by
  rw [drop_at hi, drop_at hj, mgF, if_pos h]
theorem mg_gt (hi : i < a.length) (hj : j < b.length) (h : b.getD j 0 < a.getD i 0) : mgF k (a.drop i) (b.drop j) = (if k false true = true then [b.getD j 0] else []) ++ mgF k (a.drop i) (b.drop (j + 1)) := by
  rw [drop_at hi, drop_at hj, mgF, if_neg (by omega), if_pos h]
theorem mg_eq (hi : i < a.length) (hj : j < b.length) (h : a.getD i 0 = b.getD j 0) : mgF k (a.drop i) (b.drop j) = (if k true true = true then [b.getD j 0] else []) ++ mgF k (a.drop (i + 1)) (b.drop (j + 1)) := by
  rw [drop_at hi, drop_at hj, mgF, if_neg (by omega), if_neg (by omega)]
theorem mg_end (hi : a.length ≤ i) (hj : b.length ≤ j) : mgF k (a.drop i) (b.drop j) = [] := by
  rw [List.drop_of_length_le hi, List.drop_of_length_le hj, mgF]
end

/-! ### Positions by keys: of all, of a tag, of a type -/
abbrev Ky := Option (Bool × ByteArray)
structure Dt where
  all : List Int
  t : Bool → Tb
def lstD (D : Dt) : Ky → List Int
  | none => D.all
  | some (b, s) => allP (D.t b) s
/-- A number behind a row, but for one that ends with it. -/
def withF (l : List Int) (p : Int) : List Int := if l.getLast? = some p then l else l ++ [p]
def addK (T : Tb) (s : ByteArray) (p : Int) : Tb := if (allP T s).getLast? = some p then T else T ++ [(s, p)]
theorem addK_at (T : Tb) (s : ByteArray) (p : Int) : allP (addK T s p) s = withF (allP T s) p := by
  unfold addK withF
  split
  · rfl
  · rw [allP_hit]
theorem addK_ne (T : Tb) {s t : ByteArray} (h : t ≠ s) (p : Int) : allP (addK T s p) t = allP T t := by
  unfold addK
  split
  · rfl
  · rw [allP_miss T h]
theorem addK_len (T : Tb) (s : ByteArray) (p : Int) : (addK T s p).length ≤ T.length + 1 := by
  unfold addK
  split
  · omega
  · simp
def addKs (T : Tb) (ts : List ByteArray) (p : Int) : Tb := ts.foldl (fun T t => addK T t p) T
theorem addKs_snoc (T : Tb) (ts : List ByteArray) (t : ByteArray) (p : Int) : addKs T (ts ++ [t]) p = addK (addKs T ts p) t p := by
  unfold addKs
  rw [List.foldl_append]
  rfl
theorem addKs_len (T : Tb) (ts : List ByteArray) (p : Int) : (addKs T ts p).length ≤ T.length + ts.length := by
  induction ts generalizing T with
  | nil => exact Nat.le_refl _
  | cons t ts ih =>
    have := ih (addK T t p)
    have := addK_len T t p
    have e : addKs T (t :: ts) p = addKs (addK T t p) ts p := rfl
    rw [e, List.length_cons]
    omega
theorem last_ne {l : List Int} {p : Int} (h : ∀ q ∈ l, q < p) : l.getLast? ≠ some p := fun e => by
  have := h p (List.mem_of_getLast? e)
  omega
theorem addKs_at {T : Tb} {p : Int} {s : ByteArray} (h : ∀ q ∈ allP T s, q < p) (ts : List ByteArray) : allP (addKs T ts p) s = allP T s ++ (if hasB ts s = true then [p] else []) := by
  refine snoc_indL (P := fun ts => allP (addKs T ts p) s = allP T s ++ (if hasB ts s = true then [p] else [])) ?_ (fun ts t ih => ?_) ts
  · have : hasB [] s = false := by simp [hasB]
    simp [this, addKs]
  · rw [addKs_snoc]
    by_cases e : s = t
    · subst e
      have hy : hasB (ts ++ [s]) s = true := hasB_mem.2 (by simp)
      rw [addK_at, ih, hy, if_pos rfl]
      by_cases h2 : hasB ts s = true
      · rw [if_pos h2]
        unfold withF
        rw [if_pos (by simp)]
      · rw [if_neg h2, List.append_nil]
        unfold withF
        rw [if_neg (last_ne h)]
    · rw [addK_ne _ e, ih]
      have hy : (hasB (ts ++ [t]) s = true) = (hasB ts s = true) := propext (by rw [hasB_mem, hasB_mem]; simp [e])
      simp only [hy]
where
  snoc_indL {P : List ByteArray → Prop} (h0 : P []) (h1 : ∀ L y, P L → P (L ++ [y])) (l : List ByteArray) : P l := by
    suffices h : ∀ l : List ByteArray, P l.reverse by simpa using h l.reverse
    intro l
    induction l with
    | nil => exact h0
    | cons a l ih => rw [List.reverse_cons]; exact h1 _ _ ih

/-- The keys' rows are those of the events at positions L. -/
structure DOf (D : Dt) (L : Ls) : Prop where
  all : D.all = posP (fun _ => true) L
  tg : ∀ s, allP (D.t false) s = tagP L s
  ty : ∀ s, allP (D.t true) s = typP L s
  tl : (D.t false).length ≤ 100 * L.length
  yl : (D.t true).length ≤ L.length
theorem DOf.nil : DOf ⟨[], fun _ => []⟩ [] := ⟨rfl, fun _ => rfl, fun _ => rfl, Nat.le_refl _, Nat.le_refl _⟩
theorem posP_lt {L : Ls} (h : LOk L) {p : Int} (hp : lastL L < p) (f : Ev → Bool) : ∀ q ∈ posP f L, q < p := fun q hq => by
  obtain ⟨e, h1, _⟩ := posP_mem.1 hq
  have := lastL_le h _ h1
  simp only at this
  omega
theorem withF_new {l : List Int} {p : Int} (h : ∀ q ∈ l, q < p) : withF l p = l ++ [p] := by
  unfold withF
  rw [if_neg (last_ne h)]
theorem DOf.add {D D' : Dt} {L : Ls} (d : DOf D L) (h : LOk L) {e : Ev} {p : Int} (hp : lastL L < p) (ht : e.tags.length ≤ 100) (e1 : D'.all = withF D.all p) (e2 : D'.t false = addKs (D.t false) e.tags p) (e3 : D'.t true = addK (D.t true) e.t p) : DOf D' (L ++ [(e, p)]) := by
  refine ⟨?_, fun s => ?_, fun s => ?_, ?_, ?_⟩
  · rw [e1, d.all, withF_new (posP_lt h hp _), posP_append, posP_one, if_pos rfl]
  · rw [e2, addKs_at (by rw [d.tg]; exact posP_lt h hp _), d.tg]
    unfold tagP
    rw [posP_append, posP_one]
  · rw [e3]
    by_cases es : s = e.t
    · subst es
      rw [addK_at, d.ty, withF_new (by unfold typP; exact posP_lt h hp _)]
      unfold typP
      rw [posP_append, posP_one, if_pos (by simp)]
    · rw [addK_ne _ es, d.ty]
      unfold typP
      rw [posP_append, posP_one, if_neg (by simp; exact fun h => es h.symm), List.append_nil]
  · rw [e2]
    have := addKs_len (D.t false) e.tags p
    have := d.tl
    rw [List.length_append, List.length_singleton]
    omega
  · rw [e3]
    have := addK_len (D.t true) e.t p
    have := d.yl
    rw [List.length_append, List.length_singleton]
    omega
theorem all_last (L : Ls) : posP (fun _ => true) L = L.map (·.2) := by
  unfold posP
  rw [List.filter_eq_self.2 (fun _ _ => rfl)]
theorem DOf.len (D : Dt) (L : Ls) (d : DOf D L) : D.all.length = L.length := by
  rw [d.all]
  unfold posP
  rw [List.filter_eq_self.2 (fun _ _ => rfl), List.length_map]
/-- The last of all positions. -/
theorem DOf.last {D : Dt} {L : Ls} (d : DOf D L) (h0 : 0 < L.length) : D.all.getD (L.length - 1) 0 = lastL L := by
  rw [d.all]
  unfold posP
  rw [List.filter_eq_self.2 (fun _ _ => rfl)]
  rcases List.eq_nil_or_concat L with rfl | ⟨M, y, rfl⟩
  · simp at h0
  · rw [List.concat_eq_append, lastL_snoc]
    simp [List.getD]

/-! ### What Find comes to -/
theorem upF_take {l : List Int} (h : Inc l) (u : Int) : upF u l = l.take (verN l u) := (verN_filter h).1
theorem one_ev {L : Ls} (h : LOk L) {e e' : Ev} {x : Int} (h1 : (e, x) ∈ L) (h2 : (e', x) ∈ L) : e = e' := by
  have hp := h.inc
  clear h
  induction L with
  | nil => cases h1
  | cons y L ih =>
    obtain ⟨a1, a2⟩ := List.pairwise_cons.1 hp
    rcases List.mem_cons.1 h1 with h1 | h1
    · rcases List.mem_cons.1 h2 with h2 | h2
      · rw [← h2] at h1
        injection h1
      · have := a1 _ h2
        rw [← h1] at this
        simp only at this
        omega
    · rcases List.mem_cons.1 h2 with h2 | h2
      · have := a1 _ h1
        rw [← h2] at this
        simp only at this
        omega
      · exact ih h1 h2 a2
def seP (L : Ls) (u : Int) (f : Ev → Bool) : List Int := upF u (posP f L)
theorem se_mem {L : Ls} {u : Int} {f : Ev → Bool} {x : Int} : x ∈ seP L u f ↔ (∃ e, (e, x) ∈ L ∧ f e = true) ∧ x ≤ u := by unfold seP; rw [up_mem, posP_mem]
theorem se_inc {L : Ls} (h : LOk L) (u : Int) (f : Ev → Bool) : Inc (seP L u f) := up_inc (posP_inc h f) u
theorem se_len (L : Ls) (u : Int) (f : Ev → Bool) : (seP L u f).length ≤ L.length := Nat.le_trans (List.length_filter_le _ _) (posP_len _ L)
theorem se_both {L : Ls} (h : LOk L) (u : Int) (f g : Ev → Bool) : bothF (seP L u f) (seP L u g) = seP L u (fun e => f e && g e) := inc_ext (both_inc (se_inc h u f) _) (se_inc h u _) fun x => by
  rw [both_mem, se_mem, se_mem, se_mem]
  constructor
  · rintro ⟨⟨⟨e, h1, h2⟩, hu⟩, ⟨e', h3, h4⟩, _⟩
    obtain rfl := one_ev h h1 h3
    exact ⟨⟨e, h1, by simp [h2, h4]⟩, hu⟩
  · rintro ⟨⟨e, h1, h2⟩, hu⟩
    simp only [Bool.and_eq_true] at h2
    exact ⟨⟨⟨e, h1, h2.1⟩, hu⟩, ⟨e, h1, h2.2⟩, hu⟩
theorem se_either {L : Ls} (h : LOk L) (u : Int) (f g : Ev → Bool) : eitherF (seP L u f) (seP L u g) = seP L u (fun e => f e || g e) := inc_ext (either_inc _ (se_inc h u g)) (se_inc h u _) fun x => by
  rw [either_mem, se_mem, se_mem, se_mem]
  constructor
  · rintro (⟨⟨e, h1, h2⟩, hu⟩ | ⟨⟨e, h1, h2⟩, hu⟩)
    · exact ⟨⟨e, h1, by simp [h2]⟩, hu⟩
    · exact ⟨⟨e, h1, by simp [h2]⟩, hu⟩
  · rintro ⟨⟨e, h1, h2⟩, hu⟩
    simp only [Bool.or_eq_true] at h2
    rcases h2 with h2 | h2
    · exact .inl ⟨⟨e, h1, h2⟩, hu⟩
    · exact .inr ⟨⟨e, h1, h2⟩, hu⟩
theorem se_none (L : Ls) (u : Int) {f : Ev → Bool} (h : ∀ e, f e = false) : seP L u f = [] := by
  rw [List.eq_nil_iff_forall_not_mem]
  intro x hx
  obtain ⟨⟨e, _, h2⟩, _⟩ := se_mem.1 hx
  rw [h] at h2
  cases h2
/-- The types ahead of the k-th. -/
theorem se_types {L : Ls} (h : LOk L) (u : Int) (ts : List ByteArray) {k : Nat} (hk : k < ts.length) :
    eitherF (seP L u fun e => hasB (ts.take k) e.t) (upF u (typP L (ts.getD k ByteArray.empty))) = seP L u fun e => hasB (ts.take (k + 1)) e.t := by
  have e1 : upF u (typP L (ts.getD k ByteArray.empty)) = seP L u fun e => decide (e.t = ts.getD k ByteArray.empty) := rfl
  rw [e1, se_either h]
  congr 1
  funext e
  have ht : ts.take (k + 1) = ts.take k ++ [ts.getD k ByteArray.empty] := by
    rw [List.take_add_one]
    simp [List.getD, List.getElem?_eq_getElem hk]
  rw [ht, Bool.eq_iff_iff, Bool.or_eq_true, hasB_mem, hasB_mem, List.mem_append, List.mem_singleton, decide_eq_true_iff]
/-- What a clause asks for, one behind the other. -/
def psF (c : Cl) : List (Ev → Bool) := c.tags.map (fun t e => hasB e.tags t) ++ (if c.types = [] then [] else [fun e => hasB c.types e.t])
def conF (ps : List (Ev → Bool)) (e : Ev) : Bool := ps.all fun p => p e
theorem con_psF (c : Cl) : conF (psF c) = clauseB c := by
  funext e
  unfold conF psF clauseB
  rw [List.all_append, List.all_map]
  congr 1
  by_cases h : c.types = []
  · simp [h]
  · rw [if_neg h, decide_eq_false h]
    simp
theorem con_none (L : Ls) (u : Int) : seP L u (conF []) = upF u (posP (fun _ => true) L) := rfl
theorem con_step {L : Ls} (h : LOk L) (u : Int) (ps : List (Ev → Bool)) (p : Ev → Bool) : bothF (seP L u (conF ps)) (seP L u p) = seP L u (conF (ps ++ [p])) := by
  rw [se_both h]
  congr 1
  funext e
  unfold conF
  rw [List.all_append]
  simp
theorem con_one (L : Ls) (u : Int) (p : Ev → Bool) : seP L u p = seP L u (conF [p]) := by
  congr 1
  funext e
  simp [conF]
theorem find_clause {L : Ls} (h : LOk L) (u : Int) (q : List Cl) {k : Nat} (hk : k < q.length) : eitherF (findP L (q.take k) u) (seP L u (clauseB (q.getD k noCl))) = findP L (q.take (k + 1)) u := by
  have e1 : ∀ q, findP L q u = seP L u (matchQ q) := fun _ => rfl
  rw [e1, e1, se_either h]
  congr 1
  funext e
  have ht : q.take (k + 1) = q.take k ++ [q.getD k noCl] := by
    rw [List.take_add_one]
    simp [List.getD, List.getElem?_eq_getElem hk]
  rw [ht]
  unfold matchQ
  rw [List.any_append]
  simp
theorem find_zero (L : Ls) (u : Int) : findP L [] u = [] := se_none L u fun _ => rfl

end Go.Proofs.Ytppdljkfhoekpaa.PnWalk

/-
  The landed posting in memory: the lists of all keys, the box and its two maps; what a store makes of them, and of those that share lists.
-/
namespace Go.Proofs.Ytppdljkfhoekpaa.PnWalk
open Go.RowKit Go.Maps Go.Proofs.Ytppdljkfhoekpaa.MemRow Go.Proofs.Ytppdljkfhoekpaa.Ev Go.Proofs.Ytppdljkfhoekpaa.NameMath Go.Proofs.Ytppdljkfhoekpaa.NameWalk Go.Proofs.Ytppdljkfhoekpaa.EvWalk Go.Proofs.Ytppdljkfhoekpaa.NumMem Go.Proofs.Ytppdljkfhoekpaa.SmWalk Go.Proofs.Ytppdljkfhoekpaa.NMap Go.Proofs.Ytppdljkfhoekpaa.DkWalk Go.Proofs.Ytppdljkfhoekpaa.PoWalk

abbrev HdT := Ky → Option Hr
def setK {α : Type} (f : Ky → α) (k : Ky) (x : α) : Ky → α := fun t => if t = k then x else f t
theorem setK_at {α : Type} (f : Ky → α) (k : Ky) (x : α) : setK f k x k = x := if_pos rfl
theorem setK_ne {α : Type} (f : Ky → α) {k t : Ky} (x : α) (h : t ≠ k) : setK f k x t = f t := if_neg h
theorem setK_self {α : Type} (f : Ky → α) (k : Ky) : setK f k (f k) = f := by
  funext t
  by_cases e : t = k
  · rw [e, setK_at]
  · rw [setK_ne _ _ e]

/-! ### The lists of all keys -/
/-- Each key's list; where one has room, no other one lies. -/
structure Core (w : World) (F G : Nat → Prop) (l : Ky → List Int) (hd : HdT) : Prop where
  li : ∀ k, OldL w F G (hd k) (l k)
  apart : ∀ k k' h h', k' ≠ k → hd k = some h → hd k' = some h' → h.n < h.c → h'.b ≠ h.b
/-- Where the first one may still write, the second one reads no more than the first. -/
def Apt (hd hd' : HdT) : Prop := ∀ k k' h h', hd k = some h → hd' k' = some h' → h.n < h.c → h'.b = h.b → h'.n ≤ h.n
section
variable {w w1 w2 w' : World} {F F' G G' : Nat → Prop} {l l' : Ky → List Int} {hd hd' hd1 hd2 : HdT}
theorem OldL.wide {old : Option Hr} {x : List Int} (h : OldL w F G old x) (hF : ∀ k, F k → F' k) (hG : ∀ k, G k → G' k) : OldL w F' G' old x := by
  rcases h with ⟨y, e, r⟩ | h
  · exact .inl ⟨y, e, r.wide hF hG⟩
  · exact .inr h
theorem OldL.kept {old : Option Hr} {x : List Int} (h : OldL w F G old x) (hk : ∀ y, old = some y → w'.heap[y.b]? = w.heap[y.b]?) : OldL w' F G old x := by
  rcases h with ⟨y, e, r⟩ | h
  · exact .inl ⟨y, e, r.kept (hk y e)⟩
  · exact .inr h
theorem Core.lir (c : Core w F G l hd) {k : Ky} {h : Hr} (e : hd k = some h) : LiR w F G h (l k) := by
  rcases c.li k with ⟨y, e2, r⟩ | ⟨e2, _⟩
  · rw [e] at e2
    injection e2 with e2
    subst e2
    exact r
  · rw [e] at e2
    cases e2
theorem Core.wide (c : Core w F G l hd) (hF : ∀ k, F k → F' k) (hG : ∀ k, G k → G' k) : Core w F' G' l hd := ⟨fun k => (c.li k).wide hF hG, c.apart⟩
theorem Core.kept (c : Core w F G l hd) (hk : ∀ k h, hd k = some h → w'.heap[h.b]? = w.heap[h.b]?) : Core w' F G l hd := ⟨fun k => (c.li k).kept (hk k), c.apart⟩
theorem Core.keep (c : Core w F G l hd) (hk : ∀ k, G k → w'.heap[k]? = w.heap[k]?) : Core w' F G l hd := c.kept fun _ _ e => hk _ (c.lir e).gb
theorem Core.below (c : Core w F G l hd) (hb : Below w.heap.size w w') : Core w' F G l hd := c.kept fun _ _ e => hb.block _ (c.lir e).blt
/-- A store into a block of no numbers. -/
theorem Core.other (c : Core w F G l hd) {r : Nat} {o : Obj} (hg : w.grownBy w' (some r)) (hr : w.heap[r]? = some o) (ho : ∀ cs T fr, o = .cells cs T fr → T ≠ 3) : Core w' F G l hd :=
  c.kept fun _ _ e => hg.block _ (c.lir e).blt fun e2 => (c.lir e).not hr ho (by injection e2)

/-- What a step leaves of any other lists, that share some. -/
def KinC (w w' : World) (F : Nat → Prop) (hd hd1 : HdT) : Prop :=
  ∀ (F' G' : Nat → Prop) (l' : Ky → List Int) (hd' : HdT), Core w F' G' l' hd' → (∀ k, F' k → k < w.heap.size) → (∀ k, F k → ¬ F' k) → Apt hd hd' → Apt hd' hd → Core w' F' G' l' hd' ∧ Apt hd1 hd' ∧ Apt hd' hd1
theorem KinC.same (hb : Below w.heap.size w w') (F : Nat → Prop) (hd : HdT) : KinC w w' F hd hd := fun _ _ _ _ c _ _ a1 a2 => ⟨c.below hb, a1, a2⟩
theorem KinC.other {r : Nat} {o : Obj} (hg : w.grownBy w' (some r)) (hr : w.heap[r]? = some o) (ho : ∀ cs T fr, o = .cells cs T fr → T ≠ 3) (F : Nat → Prop) (hd : HdT) : KinC w w' F hd hd := fun _ _ _ _ c _ _ a1 a2 => ⟨c.other hg hr ho, a1, a2⟩
theorem KinC.trans (h1 : KinC w w1 F hd hd1) (h2 : KinC w1 w2 (up F w w1) hd1 hd2) (hs : w.heap.size ≤ w1.heap.size) : KinC w w2 F hd hd2 := fun F' G' l' hd' c hl hx a1 a2 => by
  obtain ⟨c1, b1, b2⟩ := h1 F' G' l' hd' c hl hx a1 a2
  refine h2 F' G' l' hd' c1 (fun k hk => Nat.lt_of_lt_of_le (hl k hk) hs) (fun k hk hf => ?_) b1 b2
  rcases hk with hk | hk
  · exact hx k hk hf
  · have := hl k hf
    omega

/-! ### A number behind a list -/
/-- What with(list, p) comes to: the list as it was, or with p. -/
def WOut (w w2 : World) (F G : Nat → Prop) (old : Option Hr) (l : List Int) (p : Int) (h' : Hr) : Prop :=
  (old = some h' ∧ l.getLast? = some p ∧ w2 = w) ∨ (l.getLast? ≠ some p ∧ AppOut w w2 F G old l p h')
theorem AppOut.ch {old : Option Hr} {x : List Int} {p : Int} {h' : Hr} (ap : AppOut w w2 F G old x p h') : Ch F w w2 := by
  rcases ap.how with ⟨y, _, _, hF, _, rfl⟩ | ⟨hb, _⟩
  · exact Ch.of_grown (setGrown w y.b y.n (.int .i64 p)) fun r e => by injection e with e; subst e; exact .inl hF
  · exact Ch.of_below hb
/-- A list of another key, or of others, behind an append. -/
theorem AppOut.stays {old : Option Hr} {x z : List Int} {p : Int} {h' y : Hr} (ap : AppOut w w2 F G old x p h') (r : LiR w F' G' y z) (hx : ∀ h, old = some h → h.n < h.c → y.b = h.b → y.n ≤ h.n) : LiR w2 F' G' y z := by
  rcases ap.how with ⟨h, e, hsp, _, _, rfl⟩ | ⟨hb, _⟩
  · exact r.put _ fun e2 => hx h e hsp e2.symm
  · exact r.kept (hb.block _ r.blt)
theorem Core.app (c : Core w F G l hd) {k : Ky} {p : Int} {h' : Hr} (ap : AppOut w w2 F G (hd k) (l k) p h') :
    Core w2 (up F w w2) (up G w w2) (setK l k (l k ++ [p])) (setK hd k (some h')) ∧ KinC w w2 F hd (setK hd k (some h')) := by
  have hnew : (∃ h, hd k = some h ∧ h.n < h.c ∧ F h.b ∧ h' = ⟨h.b, h.n + 1, h.c⟩) ∨ w.heap.size ≤ h'.b := by
    rcases ap.how with ⟨y, hy, hsp, hF, e, _⟩ | ⟨_, hb⟩
    · exact .inl ⟨y, hy, hsp, hF, e⟩
    · exact .inr hb
  refine ⟨⟨fun t => ?_, fun a t ha ht hta e1 e2 hsp => ?_⟩, fun F' G' l' hd' y hl hFF a1 a2 => ⟨⟨fun t => ?_, y.apart⟩, fun a t ha ht e1 e2 hsp e => ?_, fun t a ht ha e2 e1 hsp e => ?_⟩⟩
  · by_cases e : t = k
    · subst e
      rw [setK_at, setK_at]
      exact .inl ⟨_, rfl, ap.li⟩
    · rw [setK_ne _ _ e, setK_ne _ _ e]
      rcases c.li t with ⟨z, e2, r⟩ | h
      · exact .inl ⟨z, e2, (ap.stays r fun h eh hsp eb => absurd eb (c.apart k t h z e eh e2 hsp)).wide (fun _ h => .inl h) (fun _ h => .inl h)⟩
      · exact .inr h
  · by_cases ea : a = k
    · subst ea
      rw [setK_at] at e1
      rw [setK_ne _ _ hta] at e2
      injection e1 with e1
      subst e1
      rcases hnew with ⟨h, eh, hsp', _, rfl⟩ | hb
      · exact c.apart a t h ht hta eh e2 hsp'
      · have := (c.lir e2).blt
        omega
    · rw [setK_ne _ _ ea] at e1
      by_cases et : t = k
      · subst et
        rw [setK_at] at e2
        injection e2 with e2
        subst e2
        rcases hnew with ⟨h, eh, _, _, rfl⟩ | hb
        · exact c.apart a t ha h hta e1 eh hsp
        · have := (c.lir e1).blt
          omega
      · rw [setK_ne _ _ et] at e2
        exact c.apart a t ha ht hta e1 e2 hsp
  · rcases y.li t with ⟨z, e2, r⟩ | h
    · exact .inl ⟨z, e2, ap.stays r fun h eh hsp eb => a1 k t h z eh e2 hsp eb⟩
    · exact .inr h
  · by_cases ea : a = k
    · subst ea
      rw [setK_at] at e1
      injection e1 with e1
      subst e1
      rcases hnew with ⟨h, eh, hsp', _, rfl⟩ | hb
      · have := a1 a t h ht eh e2 hsp' e
        simp only
        omega
      · have := (y.lir e2).blt
        omega
    · rw [setK_ne _ _ ea] at e1
      exact a1 a t ha ht e1 e2 hsp e
  · by_cases ea : a = k
    · subst ea
      rw [setK_at] at e1
      injection e1 with e1
      subst e1
      rcases hnew with ⟨h, eh, _, hF, rfl⟩ | hb
      · exact absurd ((y.lir e2).own hsp) (by rw [← e]; exact hFF _ hF)
      · have := (y.lir e2).blt
        omega
    · rw [setK_ne _ _ ea] at e1
      exact a2 t a ht ha e2 e1 hsp e
theorem Core.with (c : Core w F G l hd) {k : Ky} {p : Int} {h' : Hr} (wo : WOut w w2 F G (hd k) (l k) p h') :
    Core w2 (up F w w2) (up G w w2) (setK l k (withF (l k) p)) (setK hd k (some h')) ∧ KinC w w2 F hd (setK hd k (some h')) ∧ Ch F w w2 := by
  rcases wo with ⟨e, hl, rfl⟩ | ⟨hl, ap⟩
  · have e1 : setK hd k (some h') = hd := by rw [← e, setK_self]
    have e2 : setK l k (withF (l k) p) = l := by
      unfold withF
      rw [if_pos hl, setK_self]
    rw [e1, e2]
    exact ⟨c.wide (fun _ h => .inl h) (fun _ h => .inl h), KinC.same (Below.refl _ _) _ _, Ch.refl _ _⟩
  · have e2 : withF (l k) p = l k ++ [p] := by
      unfold withF
      rw [if_neg hl]
    rw [e2]
    obtain ⟨h1, h2⟩ := c.app ap
    exact ⟨h1, h2, ap.ch⟩
end

end Go.Proofs.Ytppdljkfhoekpaa.PnWalk

/-
  The landed posting in memory: Lists behind a pointer; what a number behind the list of a key makes of it.
-/
namespace Go.Proofs.Ytppdljkfhoekpaa.PnWalk
open Go.RowKit Go.Maps Go.Proofs.Ytppdljkfhoekpaa.MemRow Go.Proofs.Ytppdljkfhoekpaa.Ev Go.Proofs.Ytppdljkfhoekpaa.NameMath Go.Proofs.Ytppdljkfhoekpaa.NameWalk Go.Proofs.Ytppdljkfhoekpaa.EvWalk Go.Proofs.Ytppdljkfhoekpaa.NumMem Go.Proofs.Ytppdljkfhoekpaa.SmWalk Go.Proofs.Ytppdljkfhoekpaa.NMap Go.Proofs.Ytppdljkfhoekpaa.DkWalk Go.Proofs.Ytppdljkfhoekpaa.PoWalk

def hv : Option Hr → Hr
  | some h => h
  | none => ⟨0, 0, 0⟩
def setB {α : Type} (f : Bool → α) (b : Bool) (x : α) : Bool → α := fun c => if c = b then x else f c
theorem setB_at {α : Type} (f : Bool → α) (b : Bool) (x : α) : setB f b x b = x := if_pos rfl
theorem setB_ne {α : Type} (f : Bool → α) {b c : Bool} (x : α) (h : c ≠ b) : setB f b x c = f c := if_neg h
/-- The lists D behind g: its own blocks F, all blocks that it reads G. -/
structure LnR (w : World) (F G : Nat → Prop) (g : Nat) (D : Dt) (mb : Bool → Nat) (M : Bool → DataW Hr) (hd : HdT) : Prop where
  box : w.heap[g]? = some (.cells #[mkL (hd none), .map (some (mb false)), .map (some (mb true))] 64 (0, 0))
  own : ∀ b, w.ownsMap Try.prog 9 slR (mb b) (Maps.size (M b)) (M b)
  nm : ∀ b, NOf (M b) (namesT (D.t b)) (fun s => hv (hd (some (b, s))))
  co : Core w F G (lstD D) hd
  ne : ∀ b c, c ≠ b → mb c ≠ mb b
  fg : F g
  fm : ∀ b, F (mb b)
  fG : ∀ k, F k → G k
  lt : ∀ k, G k → k < w.heap.size
section
variable {w w1 w2 w3 w' : World} {F F' G G' : Nat → Prop} {g : Nat} {D : Dt} {mb : Bool → Nat} {M : Bool → DataW Hr} {hd : HdT}
theorem LnR.c0 (h : LnR w F G g D mb M hd) : w.cell? ⟨g, 0, none⟩ = some (mkL (hd none)) := by rw [cell_of_row w g 0 _ _ _ h.box]; rfl
theorem LnR.c1 (h : LnR w F G g D mb M hd) : w.cell? ⟨g, 1, none⟩ = some (.map (some (mb false))) := by rw [cell_of_row w g 1 _ _ _ h.box]; rfl
theorem LnR.c2 (h : LnR w F G g D mb M hd) : w.cell? ⟨g, 2, none⟩ = some (.map (some (mb true))) := by rw [cell_of_row w g 2 _ _ _ h.box]; rfl
theorem LnR.frozen (h : LnR w F G g D mb M hd) (i : Nat) : w.frozen? ⟨g, i, none⟩ = false := by simp [World.frozen?, h.box]
theorem LnR.glt (h : LnR w F G g D mb M hd) : g < w.heap.size := h.lt _ (h.fG _ h.fg)
theorem LnR.mlt (h : LnR w F G g D mb M hd) (b : Bool) : mb b < w.heap.size := h.lt _ (h.fG _ (h.fm b))
theorem LnR.block (h : LnR w F G g D mb M hd) (b : Bool) : ∃ es clock, w.heap[mb b]? = some (.map es clock) := by
  obtain ⟨es, clock, hb, _⟩ := h.own b
  exact ⟨es, clock, hb⟩
theorem LnR.mg (h : LnR w F G g D mb M hd) (b : Bool) : mb b ≠ g := by
  obtain ⟨es, clock, hb⟩ := h.block b
  intro e
  rw [e, h.box] at hb
  injection hb with hb
  cases hb
theorem LnR.far (h : LnR w F G g D mb M hd) {F' G' : Nat → Prop} {x : Hr} {l : List Int} (r : LiR w F' G' x l) : x.b ≠ g ∧ ∀ b, x.b ≠ mb b := by
  refine ⟨r.not h.box fun cs T fr e => by injection e with _ e _; subst e; decide, fun b => ?_⟩
  obtain ⟨es, clock, hb⟩ := h.block b
  exact r.not hb fun cs T fr e => by cases e
theorem LnR.keep (h : LnR w F G g D mb M hd) (hs : w.heap.size ≤ w'.heap.size) (hk : ∀ k, G k → w'.heap[k]? = w.heap[k]?) : LnR w' F G g D mb M hd := by
  refine ⟨(hk g (h.fG _ h.fg)).trans h.box, fun b => ?_, h.nm, h.co.keep hk, h.ne, h.fg, h.fm, h.fG, fun k hg => Nat.lt_of_lt_of_le (h.lt k hg) hs⟩
  obtain ⟨es, clock, hb, ft, hn, hD⟩ := h.own b
  exact ⟨es, clock, (hk (mb b) (h.fG _ (h.fm b))).trans hb, ft, hn, hD⟩
theorem LnR.below (h : LnR w F G g D mb M hd) (hb : Below w.heap.size w w') : LnR w' F G g D mb M hd := h.keep hb.size fun k hk => hb.block k (h.lt k hk)
theorem LnR.wide (h : LnR w F G g D mb M hd) (hF : ∀ k, F k → F' k) (hG : ∀ k, G k → G' k) (hFG : ∀ k, F' k → G' k) (hl : ∀ k, G' k → k < w.heap.size) : LnR w F' G' g D mb M hd :=
  ⟨h.box, h.own, h.nm, h.co.wide hF hG, h.ne, hF _ h.fg, fun b => hF _ (h.fm b), hFG, hl⟩
theorem LnR.size (h : LnR w F G g D mb M hd) (b : Bool) : Maps.size (M b) = (namesT (D.t b)).length := (h.nm b).size ((h.own b).canon keyedN) (up_nodupN (namesT_up (D.t b)))
theorem LnR.isMap (h : LnR w F G g D mb M hd) (b : Bool) : IsMap (M b) := isMapN (h.own b)
theorem zeroRi (W : World) : (zeroValue 59).run Try.prog W = .ok (.slice none 0 0) W := Try.zeroValue59 W
theorem Core.has (c : Core w F G (lstD D) hd) {b : Bool} {s : ByteArray} (hs : s ∈ namesT (D.t b)) : ∃ h, hd (some (b, s)) = some h := by
  rcases c.li (some (b, s)) with ⟨y, e, _⟩ | ⟨_, e⟩
  · exact ⟨y, e⟩
  · have := allP_some hs
    have e : allP (D.t b) s = [] := e
    rw [e] at this
    cases this
theorem Core.no (c : Core w F G (lstD D) hd) {b : Bool} {s : ByteArray} (hs : ¬ s ∈ namesT (D.t b)) : hd (some (b, s)) = none := by
  rcases c.li (some (b, s)) with ⟨y, _, r⟩ | ⟨e, _⟩
  · have h1 := r.len
    have h2 := r.pos
    have e : lstD D (some (b, s)) = [] := allP_none hs
    rw [e] at h1
    simp only [List.length_nil] at h1
    omega
  · exact e
theorem LnR.look (h : LnR w F G g D mb M hd) (b : Bool) {s : ByteArray} (hs : s.size ≤ maxLen) : (Instr.lookup 62 (.map (some (mb b))) (.string s) false).run Try.prog w = .ok (mkL (hd (some (b, s)))) w := by
  obtain ⟨v, ps, hrun, hv'⟩ := (h.own b).lookup keyedN Try.underlying62 (zeroRi w) slR_none (keyN_of hs)
  rw [hrun]
  congr 1
  by_cases hk : s ∈ namesT (D.t b)
  · obtain ⟨x, e⟩ := h.co.has hk
    rw [(h.nm b).at_ s hk] at hv'
    have := slR_held _ _ _ hv'
    rw [e] at this ⊢
    exact this
  · rw [atKey_of_not_has ((h.nm b).no hk)] at hv'
    rw [h.co.no hk]
    exact slR_nil hv'
/-- What a key's list reads as. -/
theorem OldL.rd {old : Option Hr} {l : List Int} (h : OldL w F G old l) : ∃ A n c, mkL old = .slice A n c ∧ RdI w A n c l ∧ (A = none → n = 0) := by
  rcases h with ⟨y, rfl, r⟩ | ⟨rfl, rfl⟩
  · exact ⟨_, _, _, rfl, r.rd, fun e => by cases e⟩
  · exact ⟨none, 0, 0, rfl, RdC.nil _, fun _ => rfl⟩

/-! ### Stores -/
theorem WOut.other {old : Option Hr} {l : List Int} {p : Int} {h' : Hr} (wo : WOut w w2 F G old l p h') {k : Nat} (hk : k < w.heap.size) (hn : ∀ h, old = some h → k ≠ h.b) : w2.heap[k]? = w.heap[k]? := by
  rcases wo with ⟨_, _, rfl⟩ | ⟨_, ap⟩
  · rfl
  · exact ap.other hk hn
theorem LnR.with_box (h : LnR w F G g D mb M hd) {k : Ky} {p : Int} {h' : Hr} (wo : WOut w w2 F G (hd k) (lstD D k) p h') : w2.heap[g]? = w.heap[g]? ∧ ∀ b, w2.heap[mb b]? = w.heap[mb b]? := by
  have hne : ∀ x, hd k = some x → x.b ≠ g ∧ ∀ b, x.b ≠ mb b := fun x hx => h.far (h.co.lir hx)
  exact ⟨wo.other h.glt fun x hx => (hne x hx).1.symm, fun b => wo.other (h.mlt b) fun x hx => ((hne x hx).2 b).symm⟩
theorem LnR.with_own (h : LnR w F G g D mb M hd) {k : Ky} {p : Int} {h' : Hr} (wo : WOut w w2 F G (hd k) (lstD D k) p h') (b : Bool) : w2.ownsMap Try.prog 9 slR (mb b) (Maps.size (M b)) (M b) := by
  obtain ⟨es, clock, hb, ft, hn, hD⟩ := h.own b
  exact ⟨es, clock, ((h.with_box wo).2 b).trans hb, ft, hn, hD⟩
theorem names_addK {T : Tb} {s : ByteArray} {p : Int} (t : ByteArray) : t ∈ namesT (addK T s p) ↔ t = s ∨ t ∈ namesT T := by
  unfold addK
  split
  · rename_i h
    refine ⟨.inr, fun h2 => ?_⟩
    rcases h2 with rfl | h2
    · have hm := List.mem_of_getLast? h
      unfold allP at hm
      obtain ⟨x, hx, _⟩ := List.mem_map.1 hm
      obtain ⟨h3, h4⟩ := List.mem_filter.1 hx
      exact namesT_mem.2 ⟨x, h3, by simpa using h4⟩
    · exact h2
  · exact namesT_more t
theorem lstD_put (D : Dt) (b : Bool) (s : ByteArray) (p : Int) : lstD ⟨D.all, setB D.t b (addK (D.t b) s p)⟩ = setK (lstD D) (some (b, s)) (withF (lstD D (some (b, s))) p) := by
  funext k
  match k with
  | none => rw [setK_ne _ _ (by simp)]; rfl
  | some (c, t) =>
    show allP (setB D.t b (addK (D.t b) s p) c) t = _
    by_cases ec : c = b
    · subst ec
      rw [setB_at]
      by_cases et : t = s
      · subst et
        rw [setK_at, addK_at]
        rfl
      · rw [setK_ne _ _ (by simp [et]), addK_ne _ et]
        rfl
    · rw [setB_ne _ _ ec, setK_ne _ _ (by simp [ec])]
      rfl
theorem lstD_all (D : Dt) (p : Int) : lstD ⟨withF D.all p, D.t⟩ = setK (lstD D) none (withF (lstD D none) p) := by
  funext k
  match k with
  | none => rw [setK_at]; rfl
  | some (c, t) => rw [setK_ne _ _ (by simp)]; rfl
/-- What a step comes to, and what it leaves of others. -/
structure Grew (w w' : World) (F G : Nat → Prop) (g : Nat) (mb : Bool → Nat) (hd : HdT) (D1 : Dt) (M1 : Bool → DataW Hr) (hd1 : HdT) : Prop where
  ln : LnR w' (up F w w') (up G w w') g D1 mb M1 hd1
  ch : Ch F w w'
  kin : KinC w w' F hd hd1
theorem KinC.wide {hd1 : HdT} (h : KinC w w' F hd hd1) (hF : ∀ k, F k → F' k) : KinC w w' F' hd hd1 := fun F2 G2 l2 hd2 c hl hx a1 a2 => h F2 G2 l2 hd2 c hl (fun k hk => hx k (hF k hk)) a1 a2
theorem Grew.refl (h : LnR w F G g D mb M hd) : Grew w w F G g mb hd D M hd :=
  ⟨h.wide (fun _ h => .inl h) (fun _ h => .inl h) (fun k hk => by rcases hk with hk | hk; exact .inl (h.fG k hk); exact .inr hk) (fun k hk => up_lt h.lt (Nat.le_refl _) hk), Ch.refl _ _, KinC.same (Below.refl _ _) _ _⟩
theorem Grew.trans {D1 D2 : Dt} {M1 M2 : Bool → DataW Hr} {hd1 hd2 : HdT} (h1 : Grew w w1 F G g mb hd D1 M1 hd1) (h2 : Grew w1 w2 (up F w w1) (up G w w1) g mb hd1 D2 M2 hd2) : Grew w w2 F G g mb hd D2 M2 hd2 := by
  have s1 := h1.ch.size
  have s2 := h2.ch.size
  refine ⟨h2.ln.wide (fun k hk => up_up s1 s2 hk) (fun k hk => up_up s1 s2 hk) (fun k hk => ?_) (fun k hk => ?_), h1.ch.trans h2.ch, h1.kin.trans h2.kin s1⟩
  · have := h2.ln.fG k
    rcases hk with hk | hk
    · rcases h1.ln.fG k (.inl hk) with h3 | h3
      · exact .inl h3
      · exact .inr ⟨h3.1, by omega⟩
    · exact .inr hk
  · rcases hk with hk | hk
    · exact h2.ln.lt k (.inl (.inl hk))
    · exact hk.2
theorem Grew.below (hb : Below w.heap.size w w1) (h : LnR w F G g D mb M hd) : Grew w w1 F G g mb hd D M hd :=
  ⟨(h.below hb).wide (fun _ h => .inl h) (fun _ h => .inl h) (fun k hk => by rcases hk with hk | hk; exact .inl (h.fG k hk); exact .inr hk) (fun k hk => up_lt h.lt hb.size hk), Ch.of_below hb, KinC.same hb _ _⟩
theorem LnR.put_map (h : LnR w F G g D mb M hd) (b : Bool) {s : ByteArray} {p : Int} {h' : Hr} (wo : WOut w w2 F G (hd (some (b, s))) (lstD D (some (b, s))) p h') (hg : w2.grownBy w3 (some (mb b))) {n : Nat} (ho : w3.ownsMap Try.prog 9 slR (mb b) n ((M b).put (keyN s) (.held h'))) :
    Grew w w3 F G g mb hd ⟨D.all, setB D.t b (addK (D.t b) s p)⟩ (setB M b ((M b).put (keyN s) (.held h'))) (setK hd (some (b, s)) (some h')) := by
  obtain ⟨e1, e2⟩ := h.with_box wo
  obtain ⟨c2, k2, ch2⟩ := h.co.with wo
  have z2 := ch2.size
  have z3 := hg.size
  obtain ⟨es, clock, hbm⟩ := h.block b
  have hbm2 := (e2 b).trans hbm
  have hno : ∀ (cs : Array Value) (T : TypeId) (fr : Nat × Nat), (Obj.map es clock) = .cells cs T fr → T ≠ 3 := fun cs T fr e => by cases e
  have ch3 : Ch F w w3 := ch2.then_grown hg fun r e => by injection e with e; subst e; exact .inl (.inl (h.fm b))
  refine ⟨⟨?_, fun c => ?_, fun c => ?_, ?_, h.ne, .inl h.fg, fun c => .inl (h.fm c), fun k hk => ?_, fun k hk => up_lt h.lt ch3.size hk⟩, ch3, k2.trans (KinC.other hg hbm2 hno _ _) z2⟩
  · rw [setK_ne _ _ (by simp)]
    exact ((hg.block g (by have := h.glt; omega) (fun e => h.mg b (by injection e with e; exact e.symm))).trans e1).trans h.box
  · by_cases ec : c = b
    · subst ec
      rw [setB_at]
      exact tightN ho
    · rw [setB_ne _ _ ec]
      obtain ⟨es2, clock2, hb2, ft, hn, hD⟩ := h.own c
      exact ⟨es2, clock2, (hg.block (mb c) (by have := h.mlt c; omega) (fun e => h.ne b c ec (by injection e))).trans ((e2 c).trans hb2), ft, hn, hD⟩
  · by_cases ec : c = b
    · subst ec
      simp only [setB_at]
      have := (h.nm c).put (s := s) (h' := fun t => hv (setK hd (some (c, s)) (some h') (some (c, t)))) (h.isMap c) (ns' := namesT (addK (D.t c) s p)) (fun t => names_addK t) (fun t ht => by rw [setK_ne _ _ (by simp [ht])])
      simp only [setK_at, hv] at this
      exact this
    · simp only [setB_ne _ _ ec]
      exact (h.nm c).same (fun _ => Iff.rfl) fun t _ => by rw [setK_ne _ _ (by simp [ec])]
  · rw [lstD_put]
    exact (c2.other hg hbm2 hno).wide (fun k hk => up_mono z3 hk) (fun k hk => up_mono z3 hk)
  · rcases hk with hk | hk
    · exact .inl (h.fG k hk)
    · exact .inr hk
theorem three_set0 {w : World} {g : Nat} {a b c v : Value} {t : TypeId} (h : w.heap[g]? = some (.cells #[a, b, c] t (0, 0))) : (w.setCell ⟨g, 0, none⟩ v).heap[g]? = some (.cells #[v, b, c] t (0, 0)) := by
  rw [block_put w g 0 v h]
  rfl
theorem LnR.put_all (h : LnR w F G g D mb M hd) {p : Int} {h' : Hr} (wo : WOut w w2 F G (hd none) (lstD D none) p h') :
    Grew w (w2.setCell ⟨g, 0, none⟩ (valL h')) F G g mb hd ⟨withF D.all p, D.t⟩ M (setK hd none (some h')) := by
  obtain ⟨e1, e2⟩ := h.with_box wo
  obtain ⟨c2, k2, ch2⟩ := h.co.with wo
  have hg := setGrown w2 g 0 (valL h')
  have z2 := ch2.size
  have z3 := hg.size
  have hbm2 := e1.trans h.box
  have hno : ∀ (cs : Array Value) (T : TypeId) (fr : Nat × Nat), (Obj.cells #[mkL (hd none), .map (some (mb false)), .map (some (mb true))] 64 (0, 0)) = .cells cs T fr → T ≠ 3 := fun cs T fr e => by injection e with _ e _; subst e; decide
  have ch3 : Ch F w (w2.setCell ⟨g, 0, none⟩ (valL h')) := ch2.then_grown hg fun r e => by injection e with e; subst e; exact .inl (.inl h.fg)
  refine ⟨⟨?_, fun c => ?_, fun c => ?_, ?_, h.ne, .inl h.fg, fun c => .inl (h.fm c), fun k hk => ?_, fun k hk => up_lt h.lt ch3.size hk⟩, ch3, k2.trans (KinC.other hg hbm2 hno _ _) z2⟩
  · rw [setK_at]
    exact three_set0 hbm2
  · obtain ⟨es2, clock2, hb2, ft, hn, hD⟩ := h.own c
    exact ⟨es2, clock2, (hg.block (mb c) (by have := h.mlt c; omega) (fun e => h.mg c (by injection e))).trans ((e2 c).trans hb2), ft, hn, hD⟩
  · exact (h.nm c).same (fun _ => Iff.rfl) fun t _ => by rw [setK_ne _ _ (by simp)]
  · rw [lstD_all]
    exact (c2.other hg hbm2 hno).wide (fun k hk => up_mono z3 hk) (fun k hk => up_mono z3 hk)
  · rcases hk with hk | hk
    · exact .inl (h.fG k hk)
    · exact .inr hk
theorem Grew.from (hb : Below w.heap.size w w1) (h : LnR w F G g D mb M hd) {D1 : Dt} {M1 : Bool → DataW Hr} {hd1 : HdT} (gr : Grew w1 w2 F G g mb hd D1 M1 hd1) : Grew w w2 F G g mb hd D1 M1 hd1 := by
  have s1 := hb.size
  have s2 := gr.ch.size
  have hup : ∀ (H : Nat → Prop) k, up H w1 w2 k → up H w w2 k := fun H k hk => by
    rcases hk with hk | hk
    · exact .inl hk
    · exact .inr ⟨by omega, hk.2⟩
  have hch : Ch F w w2 := (Ch.of_below hb).trans (gr.ch.wide fun k hk => .inl hk)
  exact ⟨gr.ln.wide (hup F) (hup G) (fun k hk => by rcases hk with hk | hk; exact .inl (h.fG k hk); exact .inr hk) (fun k hk => up_lt h.lt hch.size hk), hch, (KinC.same hb F hd).trans (gr.kin.wide fun k hk => .inl hk) s1⟩
/-- Another one that shares lists, behind a step of the first. -/
theorem Grew.other {D1 : Dt} {M1 : Bool → DataW Hr} {hd1 : HdT} (gr : Grew w w' F G g mb hd D1 M1 hd1) {g' : Nat} {D' : Dt} {mb' : Bool → Nat} {M' : Bool → DataW Hr} {hd' : HdT} (y : LnR w F' G' g' D' mb' M' hd') (hx : ∀ k, F k → ¬ F' k) (a1 : Apt hd hd') (a2 : Apt hd' hd) :
    LnR w' F' G' g' D' mb' M' hd' ∧ Apt hd1 hd' ∧ Apt hd' hd1 := by
  obtain ⟨c, b1, b2⟩ := gr.kin F' G' (lstD D') hd' y.co (fun k hk => y.lt k (y.fG k hk)) hx a1 a2
  have kn : ∀ k, F' k → w'.heap[k]? = w.heap[k]? := fun k hk => gr.ch.block k (y.lt k (y.fG k hk)) fun hf => hx k hf hk
  refine ⟨⟨(kn g' y.fg).trans y.box, fun b => ?_, y.nm, c, y.ne, y.fg, y.fm, y.fG, fun k hk => Nat.lt_of_lt_of_le (y.lt k hk) gr.ch.size⟩, b1, b2⟩
  obtain ⟨es, clock, hb, ft, hn, hD⟩ := y.own b
  exact ⟨es, clock, (kn (mb' b) (y.fm b)).trans hb, ft, hn, hD⟩
end

end Go.Proofs.Ytppdljkfhoekpaa.PnWalk

/-
  Contracts of the landed posting: two rows gone through together (merged), both, either, Both, Either.
-/
namespace Go.Proofs.Ytppdljkfhoekpaa.PnWalk
open Go.RowKit Go.Proofs.Ytppdljkfhoekpaa.MemRow Go.Proofs.Ytppdljkfhoekpaa.Ev Go.Proofs.Ytppdljkfhoekpaa.NameMath Go.Proofs.Ytppdljkfhoekpaa.NameWalk Go.Proofs.Ytppdljkfhoekpaa.EvWalk Go.Proofs.Ytppdljkfhoekpaa.NumMem Go.Proofs.Ytppdljkfhoekpaa.SmWalk Go.Proofs.Ytppdljkfhoekpaa.Qu Go.Proofs.Ytppdljkfhoekpaa.QuWalk Go.Proofs.Ytppdljkfhoekpaa.PoWalk

/-- Which of two numbers stands first. -/
def cmpI (x y : Int) : Int := if x < y then -1 else if y < x then 1 else 0
set_option maxRecDepth 100000 in
theorem compare_any (x y : Int) (w : World) : Calls Try.prog 60 #[.int .i64 x, .int .i64 y] w fun e w' => e = .returned (.int .i64 (cmpI x y)) ∧ w' = w := by
  unfold cmpI
  by_cases h1 : x < y
  · rw [if_pos h1]
    go_enter Try.func60, Try.ntmps60
    go_wp2_with (go_at_call 63; refine (cmpNaN_any _ _).mono ?_; rintro e w' ⟨rfl, rfl⟩)
    go_ret
    exact ⟨rfl, rfl⟩
  · rw [if_neg h1]
    by_cases h2 : y < x
    · rw [if_pos h2]
      go_enter Try.func60, Try.ntmps60
      go_wp2_with (go_at_call 63; refine (cmpNaN_any _ _).mono ?_; rintro e w' ⟨rfl, rfl⟩)
      go_ret
      exact ⟨rfl, rfl⟩
    · rw [if_neg h2]
      go_enter Try.func60, Try.ntmps60
      go_wp2_with (go_at_call 63; refine (cmpNaN_any _ _).mono ?_; rintro e w' ⟨rfl, rfl⟩)
      go_ret
      exact ⟨rfl, rfl⟩

/-- Which of two rows has the next number. -/
def ordF (a b : List Int) : Int := if b = [] then -1 else if a = [] then 1 else cmpI (a.getD 0 0) (b.getD 0 0)
set_option maxHeartbeats 2000000 in
set_option maxRecDepth 100000 in
theorem firstOf_any {A B : Option Addr} {n m ca cb : Nat} {a b : List Int} {w : World} (ra : RdI w A n ca a) (rb : RdI w B m cb b) :
    Calls Try.prog 56 #[.slice A n ca, .slice B m cb] w fun e w' => e = .returned (.int .i64 (ordF a b)) ∧ ∃ q, w' = w.drewN q := by
  have la := ra.len
  have lb := rb.len
  by_cases h1 : m = 0
  · obtain rfl : b = [] := List.eq_nil_of_length_eq_zero (by omega)
    have i1 : ((m : Int) == 0) = true := by rw [beq_iff_eq]; omega
    unfold ordF
    rw [if_pos rfl]
    subst h1
    clear la lb ra rb
    go_enter Try.func56, Try.ntmps56
    go_wp2_with fail
    go_ret
    exact ⟨rfl, 0, rfl⟩
  · have i1 : ((m : Int) == 0) = false := by rw [beq_eq_false_iff_ne]; omega
    have hb : ¬ b = [] := fun e => by rw [e] at lb; exact h1 lb.symm
    by_cases h2 : n = 0
    · obtain rfl : a = [] := List.eq_nil_of_length_eq_zero (by omega)
      have i2 : ((n : Int) == 0) = true := by rw [beq_iff_eq]; omega
      unfold ordF
      rw [if_neg hb, if_pos rfl]
      subst h2
      clear la lb ra rb
      go_enter Try.func56, Try.ntmps56
      go_wp2_with fail
      go_ret
      exact ⟨rfl, 0, rfl⟩
    · have i2 : ((n : Int) == 0) = false := by rw [beq_eq_false_iff_ne]; omega
      have ha : ¬ a = [] := fun e => by rw [e] at la; exact h2 la.symm
      unfold ordF
      rw [if_neg hb, if_neg ha]
      obtain ⟨ba, oa, rfl, _, ka⟩ := ra.at_ (by omega)
      obtain ⟨bb, ob, rfl, _, kb⟩ := rb.at_ (by omega)
      have y1 : w.cell? ⟨ba, oa, none⟩ = some (.int .i64 (a.getD 0 0)) := ka 0 (by omega)
      have y2 : w.cell? ⟨bb, ob, none⟩ = some (.int .i64 (b.getD 0 0)) := kb 0 (by omega)
      have p1 : 0 < n := by omega
      have p2 : 0 < m := by omega
      have n1 : (0 : Int) < n := by omega
      have n2 : (0 : Int) < m := by omega
      clear ka kb la lb ra rb ha hb h1 h2
      generalize a.getD 0 0 = x at *
      generalize b.getD 0 0 = y at *
      go_enter Try.func56, Try.ntmps56
      go_upto_region 5 with (fail)
      have hcq : ∀ q, Calls Try.prog 60 #[.int .i64 x, .int .i64 y] (w.drewN q) fun e w' => e = .returned (.int .i64 (cmpI x y)) ∧ ∃ k, w' = w.drewN k := fun q => by
        refine (compare_any x y _).mono ?_
        rintro e w' ⟨rfl, rfl⟩
        exact ⟨rfl, q, rfl⟩
      go_quiet (first | (go_at_call 60; exact hcq _))
      go_wp2_with fail
      go_ret
      exact ⟨rfl, _, rfl⟩

/-- A function value that tells k of two truths, and does nothing else. -/
def KeepFn (g : Nat) (k : Bool → Bool → Bool) : Prop := Runs g ∧ ∀ x y W, Calls Try.prog g #[.bool x, .bool y] W fun e W' => e = .returned (.bool (k x y)) ∧ W' = W
set_option maxRecDepth 100000 in
theorem keepBoth : KeepFn 46 (fun x y => x && y) := by
  refine ⟨enters_of Try.func46 (by kernel_rfl) rfl, fun x y W => ?_⟩
  cases x <;> cases y
  all_goals
    go_enter Try.func46, Try.ntmps46
    go_wp2_with fail
    go_ret
    exact ⟨rfl, rfl⟩
set_option maxRecDepth 100000 in
theorem keepEither : KeepFn 47 (fun x y => x || y) := by
  refine ⟨enters_of Try.func47 (by kernel_rfl) rfl, fun x y W => ?_⟩
  cases x <;> cases y
  all_goals
    go_enter Try.func47, Try.ntmps47
    go_wp2_with fail
    go_ret
    exact ⟨rfl, rfl⟩

theorem elem_rising : Try.prog.elem 59 = 3 := by kernel_rfl
/-- v[1:] -/
theorem tail_any {A : Option Addr} {n c : Nat} {l : List Int} {w : World} (r : RdI w A n c l) (hn : 0 < n) :
    ∃ A1, (∀ W, (Instr.slice 59 (.slice A n c) (some (.int .i64 1)) none none).run Try.prog W = .ok (.slice A1 (n - 1) (c - 1)) W) ∧ RdI w A1 (n - 1) (c - 1) (l.drop 1) := by
  obtain ⟨A1, q, d⟩ := slice_lo (P := Try.prog) 59 3 Try.underlying59 elem_rising (by kernel_rfl) r (m := 1) (by omega)
  refine ⟨A1, q, ?_⟩
  unfold RdI
  have e : nums (l.drop 1) = (nums l).drop (1 * 1) := by simp [nums]
  rw [e]
  exact d
theorem ord_cases {a b : List Int} (h : ¬ (a = [] ∧ b = [])) :
    (ordF a b = -1 ∧ 0 < a.length ∧ ∀ k, mgF k a b = (if k true false = true then [a.getD 0 0] else []) ++ mgF k (a.drop 1) b) ∨
    (ordF a b = 1 ∧ 0 < b.length ∧ ∀ k, mgF k a b = (if k false true = true then [b.getD 0 0] else []) ++ mgF k a (b.drop 1)) ∨
    (ordF a b = 0 ∧ 0 < a.length ∧ 0 < b.length ∧ ∀ k, mgF k a b = (if k true true = true then [b.getD 0 0] else []) ++ mgF k (a.drop 1) (b.drop 1)) := by
  have pos : ∀ {l : List Int}, ¬ l = [] → 0 < l.length := fun {l} hl => List.length_pos_iff.2 hl
  unfold ordF
  by_cases hb : b = []
  · have ha : ¬ a = [] := fun e => h ⟨e, hb⟩
    rw [if_pos hb]
    subst hb
    exact .inl ⟨rfl, pos ha, fun k => by simpa using mg_a (k := k) (b := []) (i := 0) (j := 0) (pos ha) (Nat.le_refl _)⟩
  · rw [if_neg hb]
    by_cases ha : a = []
    · rw [if_pos ha]
      subst ha
      exact .inr (.inl ⟨rfl, pos hb, fun k => by simpa using mg_b (k := k) (a := []) (i := 0) (j := 0) (Nat.le_refl _) (pos hb)⟩)
    · rw [if_neg ha]
      unfold cmpI
      by_cases h1 : a.getD 0 0 < b.getD 0 0
      · rw [if_pos h1]
        exact .inl ⟨rfl, pos ha, fun k => by simpa using mg_lt (k := k) (i := 0) (j := 0) (pos ha) (pos hb) h1⟩
      · rw [if_neg h1]
        by_cases h2 : b.getD 0 0 < a.getD 0 0
        · rw [if_pos h2]
          exact .inr (.inl ⟨rfl, pos hb, fun k => by simpa using mg_gt (k := k) (i := 0) (j := 0) (pos ha) (pos hb) h2⟩)
        · rw [if_neg h2]
          exact .inr (.inr ⟨rfl, pos ha, pos hb, fun k => by simpa using mg_eq (k := k) (i := 0) (j := 0) (pos ha) (pos hb) (by omega)⟩)
def lenV : Value → Nat
  | .slice _ n _ => n
  | _ => 0
/-- How far the two rows are gone through: what is left of them, what is out. -/
structure MgAt (w wr : World) (k : Bool → Bool → Bool) (a b : List Int) (av bv ov : Value) (A1 : Option Addr) (n1 c1 : Nat) (a1 : List Int) (B1 : Option Addr) (m1 d1 : Nat) (b1 : List Int) (C : Option Addr) (q c : Nat) (O : List Int) : Prop where
  ea : av = .slice A1 n1 c1
  eb : bv = .slice B1 m1 d1
  eo : ov = .slice C q c
  ra : RdI w A1 n1 c1 a1
  rb : RdI w B1 m1 d1 b1
  sz : n1 + m1 + q ≤ 2000
  ow : OwnC 1 wr w.heap.size 3 C q c (nums O)
  be : Below w.heap.size w wr
  eq : O ++ mgF k a1 b1 = mgF k a b
set_option maxHeartbeats 4000000 in
set_option maxRecDepth 100000 in
theorem merged_any {A B : Option Addr} {n m ca cb : Nat} {a b : List Int} {w : World} (ra : RdI w A n ca a) (rb : RdI w B m cb b) (hn : n ≤ 1000) (hm : m ≤ 1000) {g : Nat} {k : Bool → Bool → Bool} (kp : KeepFn g k) :
    Calls Try.prog 45 #[.slice A n ca, .slice B m cb, .func (.func g) #[] #[]] w fun e w' => ∃ C q c, e = .returned (.slice C q c) ∧ OwnC 1 w' w.heap.size 3 C q c (nums (mgF k a b)) ∧ Below w.heap.size w w' := by
  obtain ⟨eg, kk⟩ := kp
  unfold Runs at eg
  have KK := Go.Lib.hid kk
  have H0 := Go.Lib.hid (show MgAt w w k a b (.slice A n ca) (.slice B m cb) (.slice none 0 0) A n ca a B m cb b none 0 0 [] from ⟨rfl, rfl, rfl, ra, rb, by omega, OwnC.nil _ _, Below.refl _ _, rfl⟩)
  clear ra rb kk hn hm
  go_enter Try.func45, Try.ntmps45
  go_wp2_with fail
  go_loopw [0, 1, 7] (fun av bv ov wr => ∃ A1 n1 c1 a1 B1 m1 d1 b1 C q c O, Hid (MgAt w wr k a b av bv ov A1 n1 c1 a1 B1 m1 d1 b1 C q c O)) (fun av bv _ _ => lenV av + lenV bv)
  case atStart => exact ⟨_, _, _, _, _, _, _, _, _, _, _, _, H0⟩
  case round =>
    obtain ⟨A1, n1, c1, a1, B1, m1, d1, b1, C, q, c, O, HA⟩ := hrel
    obtain ⟨rfl, rfl, rfl, ra, rb, hsz, ho, hB, he⟩ := HA.out
    clear HA H0
    have la := ra.len
    have lb := rb.len
    have lo := OwnC.len ho
    rw [nums_length, Nat.mul_one] at lo
    have HE := Go.Lib.hid he
    clear he
    go_upto_region 2 with (fail)
    go_cut [19] (fun v wx => v = .bool (decide (0 < n1 ∨ 0 < m1)) ∧ wr = wx)
    case first =>
      clear ra rb ho hB HE lo la lb
      by_cases h1 : 0 < n1
      · have i1 : (0 : Int) < n1 := by omega
        go_wp2_with fail
        go_meet
        exact ⟨by simp [h1], rfl⟩
      · have i1 : ¬ (0 : Int) < n1 := by omega
        by_cases h2 : 0 < m1
        · have i2 : (0 : Int) < m1 := by omega
          go_wp2_with fail
          go_meet
          exact ⟨by simp [h1, h2], rfl⟩
        · have i2 : ¬ (0 : Int) < m1 := by omega
          go_wp2_with fail
          go_meet
          exact ⟨by simp [h1, h2], rfl⟩
    obtain ⟨rfl, rfl⟩ := hcut
    by_cases hc : 0 < n1 ∨ 0 < m1
    · rw [show decide (0 < n1 ∨ 0 < m1) = true from decide_eq_true hc]
      have ra1 : RdI wr A1 n1 c1 a1 := RdC.below ra hB
      have rb1 : RdI wr B1 m1 d1 b1 := RdC.below rb hB
      have hcs := ord_cases (a := a1) (b := b1) (fun ⟨e1, e2⟩ => by rw [e1] at la; rw [e2] at lb; simp only [List.length_nil] at la lb; omega)
      have HC := Go.Lib.hid hcs
      clear hcs hc
      go_wp2_with fail
      refine (firstOf_any ra1 rb1).mono ?_
      rintro e w3 ⟨rfl, q3, rfl⟩
      have hB3 := bel_dn hB q3
      have o3 := ho.below (w' := wr.drewN q3) (bel_dn (Below.refl _ _) q3)
      clear ra1 rb1 ho hB
      generalize wr.drewN q3 = w3 at *
      rcases HC.out with ⟨e, hp, hk⟩ | ⟨e, hp, hk⟩ | ⟨e, hp, hp2, hk⟩
      · rw [e]
        have hk1 := hk k
        clear hk HC e
        obtain ⟨A2, q2, ra2⟩ := tail_any ra (by omega)
        obtain ⟨ba, oa, rfl, _, ka⟩ := ra.at_ (by omega)
        have y0 : w.cell? ⟨ba, oa, none⟩ = some (.int .i64 (a1.getD 0 0)) := ka 0 (by omega)
        have y1 := bcell hB3 y0
        have i1 : (0 : Int) < n1 := by omega
        have p1 : 0 < n1 := by omega
        clear ka ra la hp y0
        rw [hk1] at HE
        clear hk1
        generalize a1.getD 0 0 = x at *
        generalize a1.drop 1 = a2 at *
        go_upto_region 7 with (fail)
        go_quiet (fail)
        have hB4 := bel_dn hB3 nq
        have o4 := o3.below (w' := w3.drewN nq) (bel_dn (Below.refl _ _) nq)
        clear y1 q2 hB3 o3
        generalize w3.drewN nq = w4 at *
        have ck := Go.Lib.hid (KK.out true false w4)
        cases hk : k true false with
        | true =>
          rw [hk, if_pos rfl, ← List.append_assoc] at HE
          rw [hk] at ck
          have al := (Below.refl w4.heap.size w4).alloc (Nat.le_refl _) (.cells #[.int .i64 x] 3)
          have d1' : RdC 1 (w4.alloc (.cells #[.int .i64 x] 3)) (some ⟨w4.heap.size, 0, none⟩) 1 1 (nums [x]) := RdC.new w4 3 (nums [x]) rfl (by decide)
          have o5 := o4.below al
          clear hk
          go_wp2_with (first | (refine (ck.out).mono ?_; rintro e w5 ⟨rfl, rfl⟩) | (at_builtin; refine wpList_append_cells rfl (.tmp 43) (.tmp 45) 59 rfl 3 (.int .i64 0) 8 Try.underlying59 int_info rfl (by decide) rfl rfl o5 d1' (nums_one _) (by unfold maxLen; omega) (by omega) (Nat.le_trans hB4.size al.size) ?_; intro A8 c8 w8 o8 g8 _; have b8 := below_grown_own o5 (hB4.trans (al.mono hB4.size)) g8 (Nat.le_trans hB4.size al.size)))
          go_roundw
          case rel =>
            rw [← nums_append] at o8
            exact ⟨A2, n1 - 1, c1 - 1, a2, B1, m1, d1, b1, A8, q + 1, c8, _, Go.Lib.hid ⟨rfl, rfl, rfl, ra2, rb, by omega, o8, b8, HE.out⟩⟩
          case measure => simp only [lenV]; omega
        | false =>
          rw [hk] at HE ck
          rw [if_neg (by decide), List.nil_append] at HE
          clear hk
          go_wp2_with (refine (ck.out).mono ?_; rintro e w5 ⟨rfl, rfl⟩)
          go_roundw
          case rel => exact ⟨A2, n1 - 1, c1 - 1, a2, B1, m1, d1, b1, C, q, c, _, Go.Lib.hid ⟨rfl, rfl, rfl, ra2, rb, by omega, o4, hB4, HE.out⟩⟩
          case measure => simp only [lenV]; omega
      · rw [e]
        have hk1 := hk k
        clear hk HC e
        obtain ⟨B2, q4, rb2⟩ := tail_any rb (by omega)
        obtain ⟨bb, ob, rfl, _, kb⟩ := rb.at_ (by omega)
        have z0 : w.cell? ⟨bb, ob, none⟩ = some (.int .i64 (b1.getD 0 0)) := kb 0 (by omega)
        have z1 := bcell hB3 z0
        have i2 : (0 : Int) < m1 := by omega
        have p2 : 0 < m1 := by omega
        clear kb rb lb hp z0
        rw [hk1] at HE
        clear hk1
        generalize b1.getD 0 0 = y at *
        generalize b1.drop 1 = b2 at *
        go_upto_region 9 with (fail)
        go_quiet (fail)
        have hB4 := bel_dn hB3 nq
        have o4 := o3.below (w' := w3.drewN nq) (bel_dn (Below.refl _ _) nq)
        clear z1 q4 hB3 o3
        generalize w3.drewN nq = w4 at *
        have ck := Go.Lib.hid (KK.out false true w4)
        cases hk : k false true with
        | true =>
          rw [hk, if_pos rfl, ← List.append_assoc] at HE
          rw [hk] at ck
          have al := (Below.refl w4.heap.size w4).alloc (Nat.le_refl _) (.cells #[.int .i64 y] 3)
          have d1' : RdC 1 (w4.alloc (.cells #[.int .i64 y] 3)) (some ⟨w4.heap.size, 0, none⟩) 1 1 (nums [y]) := RdC.new w4 3 (nums [y]) rfl (by decide)
          have o5 := o4.below al
          clear hk
          go_wp2_with (first | (refine (ck.out).mono ?_; rintro e w5 ⟨rfl, rfl⟩) | (at_builtin; refine wpList_append_cells rfl (.tmp 43) (.tmp 45) 59 rfl 3 (.int .i64 0) 8 Try.underlying59 int_info rfl (by decide) rfl rfl o5 d1' (nums_one _) (by unfold maxLen; omega) (by omega) (Nat.le_trans hB4.size al.size) ?_; intro A8 c8 w8 o8 g8 _; have b8 := below_grown_own o5 (hB4.trans (al.mono hB4.size)) g8 (Nat.le_trans hB4.size al.size)))
          go_roundw
          case rel =>
            rw [← nums_append] at o8
            exact ⟨A1, n1, c1, a1, B2, m1 - 1, d1 - 1, b2, A8, q + 1, c8, _, Go.Lib.hid ⟨rfl, rfl, rfl, ra, rb2, by omega, o8, b8, HE.out⟩⟩
          case measure => simp only [lenV]; omega
        | false =>
          rw [hk] at HE ck
          rw [if_neg (by decide), List.nil_append] at HE
          clear hk
          go_wp2_with (refine (ck.out).mono ?_; rintro e w5 ⟨rfl, rfl⟩)
          go_roundw
          case rel => exact ⟨A1, n1, c1, a1, B2, m1 - 1, d1 - 1, b2, C, q, c, _, Go.Lib.hid ⟨rfl, rfl, rfl, ra, rb2, by omega, o4, hB4, HE.out⟩⟩
          case measure => simp only [lenV]; omega
      · rw [e]
        have hk1 := hk k
        clear hk HC e
        obtain ⟨A2, q2, ra2⟩ := tail_any ra (by omega)
        obtain ⟨ba, oa, rfl, _, ka⟩ := ra.at_ (by omega)
        have y0 : w.cell? ⟨ba, oa, none⟩ = some (.int .i64 (a1.getD 0 0)) := ka 0 (by omega)
        have y1 := bcell hB3 y0
        have i1 : (0 : Int) < n1 := by omega
        obtain ⟨B2, q4, rb2⟩ := tail_any rb (by omega)
        obtain ⟨bb, ob, rfl, _, kb⟩ := rb.at_ (by omega)
        have z0 : w.cell? ⟨bb, ob, none⟩ = some (.int .i64 (b1.getD 0 0)) := kb 0 (by omega)
        have z1 := bcell hB3 z0
        have i2 : (0 : Int) < m1 := by omega
        have p1 : 0 < n1 := by omega
        have p2 : 0 < m1 := by omega
        clear ka ra la kb rb lb hp hp2 y0
        rw [hk1] at HE
        clear hk1
        generalize a1.getD 0 0 = x at *
        generalize a1.drop 1 = a2 at *
        generalize b1.getD 0 0 = y at *
        generalize b1.drop 1 = b2 at *
        clear z1
        go_upto_region 7 with (fail)
        go_quiet (fail)
        have hB5 := bel_dn hB3 nq
        have o5' := o3.below (w' := w3.drewN nq) (bel_dn (Below.refl _ _) nq)
        have z1 := bcell hB5 z0
        clear y1 q2 hB3 o3 z0
        generalize w3.drewN nq = w5' at *
        go_upto_region 9 with (fail)
        go_quiet (fail)
        have hB4 := bel_dn hB5 nq
        have o4 := o5'.below (w' := w5'.drewN nq) (bel_dn (Below.refl _ _) nq)
        clear z1 q4 hB5 o5'
        generalize w5'.drewN nq = w4 at *
        have ck := Go.Lib.hid (KK.out true true w4)
        cases hk : k true true with
        | true =>
          rw [hk, if_pos rfl, ← List.append_assoc] at HE
          rw [hk] at ck
          have al := (Below.refl w4.heap.size w4).alloc (Nat.le_refl _) (.cells #[.int .i64 y] 3)
          have d1' : RdC 1 (w4.alloc (.cells #[.int .i64 y] 3)) (some ⟨w4.heap.size, 0, none⟩) 1 1 (nums [y]) := RdC.new w4 3 (nums [y]) rfl (by decide)
          have o5 := o4.below al
          clear hk
          go_wp2_with (first | (refine (ck.out).mono ?_; rintro e w5 ⟨rfl, rfl⟩) | (at_builtin; refine wpList_append_cells rfl (.tmp 43) (.tmp 45) 59 rfl 3 (.int .i64 0) 8 Try.underlying59 int_info rfl (by decide) rfl rfl o5 d1' (nums_one _) (by unfold maxLen; omega) (by omega) (Nat.le_trans hB4.size al.size) ?_; intro A8 c8 w8 o8 g8 _; have b8 := below_grown_own o5 (hB4.trans (al.mono hB4.size)) g8 (Nat.le_trans hB4.size al.size)))
          go_roundw
          case rel =>
            rw [← nums_append] at o8
            exact ⟨A2, n1 - 1, c1 - 1, a2, B2, m1 - 1, d1 - 1, b2, A8, q + 1, c8, _, Go.Lib.hid ⟨rfl, rfl, rfl, ra2, rb2, by omega, o8, b8, HE.out⟩⟩
          case measure => simp only [lenV]; omega
        | false =>
          rw [hk] at HE ck
          rw [if_neg (by decide), List.nil_append] at HE
          clear hk
          go_wp2_with (refine (ck.out).mono ?_; rintro e w5 ⟨rfl, rfl⟩)
          go_roundw
          case rel => exact ⟨A2, n1 - 1, c1 - 1, a2, B2, m1 - 1, d1 - 1, b2, C, q, c, _, Go.Lib.hid ⟨rfl, rfl, rfl, ra2, rb2, by omega, o4, hB4, HE.out⟩⟩
          case measure => simp only [lenV]; omega
    · rw [show decide (0 < n1 ∨ 0 < m1) = false from decide_eq_false hc]
      obtain rfl : a1 = [] := List.eq_nil_of_length_eq_zero (by omega)
      obtain rfl : b1 = [] := List.eq_nil_of_length_eq_zero (by omega)
      clear hc ra rb la lb
      go_wp2_with fail
      go_ret
      have he := HE.out
      rw [mgF, List.append_nil] at he
      rw [← he]
      exact ⟨C, _, c, rfl, ho, hB⟩

set_option maxRecDepth 100000 in
theorem both_any {A B : Option Addr} {n m ca cb : Nat} {a b : List Int} {w : World} (ra : RdI w A n ca a) (rb : RdI w B m cb b) (ha : Inc a) (hb : Inc b) (hn : n ≤ 1000) (hm : m ≤ 1000) :
    Calls Try.prog 30 #[.slice A n ca, .slice B m cb] w fun e w' => ∃ C q c, e = .returned (.slice C q c) ∧ OwnC 1 w' w.heap.size 3 C q c (nums (bothF a b)) ∧ Below w.heap.size w w' := by
  have c := Go.Lib.hid (merged_any ra rb hn hm keepBoth)
  rw [mg_both ha hb] at c
  clear ra rb ha hb
  go_enter Try.func30, Try.ntmps30
  go_wp2_with (refine (c.out).mono ?_; rintro e w' ⟨C, q, k, rfl, o, b1⟩)
  go_ret
  exact ⟨C, q, k, rfl, o, b1⟩
set_option maxRecDepth 100000 in
theorem either_any {A B : Option Addr} {n m ca cb : Nat} {a b : List Int} {w : World} (ra : RdI w A n ca a) (rb : RdI w B m cb b) (ha : Inc a) (hb : Inc b) (hn : n ≤ 1000) (hm : m ≤ 1000) :
    Calls Try.prog 32 #[.slice A n ca, .slice B m cb] w fun e w' => ∃ C q c, e = .returned (.slice C q c) ∧ OwnC 1 w' w.heap.size 3 C q c (nums (eitherF a b)) ∧ Below w.heap.size w w' := by
  have c := Go.Lib.hid (merged_any ra rb hn hm keepEither)
  rw [mg_either ha hb] at c
  clear ra rb ha hb
  go_enter Try.func32, Try.ntmps32
  go_wp2_with (refine (c.out).mono ?_; rintro e w' ⟨C, q, k, rfl, o, b1⟩)
  go_ret
  exact ⟨C, q, k, rfl, o, b1⟩
set_option maxRecDepth 100000 in
theorem twoApi : TwoApi where
  both := fun {A B n m ca cb a b w} ra rb ha hb hn hm => by
    have c := Go.Lib.hid (both_any ra rb ha hb hn hm)
    clear ra rb ha hb
    go_enter Try.func12, Try.ntmps12
    go_wp2_with (refine (c.out).mono ?_; rintro e w' ⟨C, q, k, rfl, o, b1⟩)
    go_ret
    exact ⟨C, q, k, rfl, OwnC.rd o, b1⟩
  either := fun {A B n m ca cb a b w} ra rb ha hb hn hm => by
    have c := Go.Lib.hid (either_any ra rb ha hb hn hm)
    clear ra rb ha hb
    go_enter Try.func14, Try.ntmps14
    go_wp2_with (refine (c.out).mono ?_; rintro e w' ⟨C, q, k, rfl, o, b1⟩)
    go_ret
    exact ⟨C, q, k, rfl, OwnC.rd o, b1⟩

end Go.Proofs.Ytppdljkfhoekpaa.PnWalk

/-
  Contracts of the landed posting: with, upTo, shared, New, Tag, Type; Add's closure.
-/
namespace Go.Proofs.Ytppdljkfhoekpaa.PnWalk
open Go.RowKit Go.Maps Go.Proofs.Ytppdljkfhoekpaa.MemRow Go.Proofs.Ytppdljkfhoekpaa.Ev Go.Proofs.Ytppdljkfhoekpaa.NameMath Go.Proofs.Ytppdljkfhoekpaa.NameWalk Go.Proofs.Ytppdljkfhoekpaa.EvWalk Go.Proofs.Ytppdljkfhoekpaa.NumMem Go.Proofs.Ytppdljkfhoekpaa.SmWalk Go.Proofs.Ytppdljkfhoekpaa.NMap Go.Proofs.Ytppdljkfhoekpaa.DkWalk Go.Proofs.Ytppdljkfhoekpaa.PoWalk

theorem last_getD {l : List Int} (h : 0 < l.length) : l.getLast? = some (l.getD (l.length - 1) 0) := by
  rcases List.eq_nil_or_concat l with rfl | ⟨m, y, rfl⟩
  · simp at h
  · rw [List.concat_eq_append]
    simp [List.getD]
theorem lit_int (w : World) {g : Nat} (hg : g = w.heap.size) (p : Int) : (w.alloc (.cells #[.int .i64 p] 3)).cell? ((⟨g, 0, none⟩ : Addr).add 0) = some (.int .i64 p) := by
  subst hg
  rw [add_plain, cell_of_row _ w.heap.size 0 _ _ _ (heap_alloc_new w (.cells #[.int .i64 p] 3))]
  rfl
section
variable {w : World} {F G : Nat → Prop} {g : Nat} {D : Dt} {mb : Bool → Nat} {M : Bool → DataW Hr} {hd : HdT}
set_option maxHeartbeats 4000000 in
set_option maxRecDepth 100000 in
theorem with_any {old : Option Hr} {l : List Int} (hold : OldL w F G old l) (hlen : l.length ≤ 1000000) (p : Int) :
    Calls Try.prog 36 #[mkL old, .int .i64 p] w fun e w' => ∃ h', e = .returned (valL h') ∧ ∃ w1, Below w.heap.size w w1 ∧ WOut w1 w' F G old l p h' := by
  have al : Below w.heap.size w (w.alloc (.cells #[.int .i64 p] 3)) := (Below.refl _ _).alloc (Nat.le_refl _) _
  have hlit := lit_int w rfl p
  have hold1 : OldL (w.alloc (.cells #[.int .i64 p] 3)) F G old l := by
    rcases hold with ⟨y, e, r⟩ | h
    · exact .inl ⟨y, e, r.kept (al.block _ r.blt)⟩
    · exact .inr h
  have AL := Go.Lib.hid al
  clear al
  rcases hold with ⟨⟨hb, hn, hc⟩, rfl, r⟩ | ⟨rfl, rfl⟩
  · have hln : l.length = hn := r.len
    have hpos : 0 < hn := r.pos
    obtain ⟨b, o, e, _, kc⟩ := r.rd.at_ hpos
    injection e with e
    injection e with e1 e2
    subst e1 e2
    have y1 := kc (hn - 1) (show hn - 1 < hn by omega)
    rw [Nat.zero_add] at y1
    have n1 : IntKind.i64.wrap ((hn : Int) - 1) = ((hn - 1 : Nat) : Int) := by rw [IntWalk.i64_in _ (by omega)]; omega
    have i1 : (0 : Int) < hn := by omega
    have hlast := last_getD (l := l) (by omega)
    rw [hln] at hlast
    have j1 : hn - 1 < hn := by omega
    have j2 : ((hn - 1 : Nat) : Int) < hn := by omega
    change Calls Try.prog 36 #[.slice (some ⟨hb, 0, none⟩) hn hc, .int .i64 p] w _
    clear kc r
    by_cases hz : l.getD (hn - 1) 0 = p
    · have i2 : ((l.getD (hn - 1) 0) == p) = true := by rw [beq_iff_eq]; exact hz
      rw [hz] at hlast
      have HL := Go.Lib.hid hlast
      clear hold1 hlast hz hlit
      generalize l.getD (hn - 1) 0 = x at *
      generalize hn - 1 = t at *
      go_enter Try.func36, Try.ntmps36
      go_wp2_with fail
      go_ret
      exact ⟨⟨hb, hn, hc⟩, rfl, w, Below.refl _ _, .inl ⟨rfl, HL.out, rfl⟩⟩
    · have i2 : ((l.getD (hn - 1) 0) == p) = false := by rw [beq_eq_false_iff_ne]; exact hz
      have HL := Go.Lib.hid (show l.getLast? ≠ some p from fun e => by rw [e] at hlast; injection hlast with e2; exact hz e2.symm)
      clear hlast hz
      generalize l.getD (hn - 1) 0 = x at *
      generalize hn - 1 = t at *
      go_enter Try.func36, Try.ntmps36
      go_wp2_with (at_builtin; refine wpList_app1 (F := F) (G := G) rfl (.tmp 20) (.tmp 22) rfl rfl rfl rfl hold1 (by omega) p hlit ?_; intro h' w2 ap)
      go_ret
      exact ⟨h', rfl, _, AL.out, .inr ⟨HL.out, ap⟩⟩
  · change Calls Try.prog 36 #[.slice none 0 0, .int .i64 p] w _
    go_enter Try.func36, Try.ntmps36
    go_wp2_with (at_builtin; refine wpList_app1 (F := F) (G := G) rfl (.tmp 20) (.tmp 22) rfl rfl rfl rfl hold1 (by simp) p hlit ?_; intro h' w2 ap)
    go_ret
    exact ⟨h', rfl, _, AL.out, .inr ⟨by simp, ap⟩⟩
set_option maxHeartbeats 4000000 in
set_option maxRecDepth 100000 in
/-- Add's closure: the number is laid behind the list of a tag, or of a type. -/
theorem addf_any (h : LnR w F G g D mb M hd) (b : Bool) (hl : (D.t b).length ≤ 1000000) {s : ByteArray} (hs : s.size ≤ maxLen) {p : Int} {pb : Nat} (hp : w.cell? ⟨pb, 0, none⟩ = some (.int .i64 p)) :
    Calls Try.prog 35 #[.map (some (mb b)), .string s, .pointer (some ⟨pb, 0, none⟩)] w fun e w' => e = .returned (.tuple #[]) ∧ ∃ M1 hd1, Grew w w' F G g mb hd ⟨D.all, setB D.t b (addK (D.t b) s p)⟩ M1 hd1 := by
  have ql := h.look b hs
  have hlen : (lstD D (some (b, s))).length ≤ 1000000 := Nat.le_trans (allP_len (D.t b) s) hl
  have CW := Go.Lib.hid (with_any (h.co.li (some (b, s))) hlen p)
  have hkey := keyN_of hs
  have hmx : Maps.size (M b) < maxLen := by
    have := h.size b
    have := namesT_len (D.t b)
    unfold maxLen
    omega
  have H := Go.Lib.hid h
  clear h hlen hl
  go_enter Try.func35, Try.ntmps35
  go_wp2_with (first
    | (refine (CW.out).mono ?_; rintro e w2 ⟨h', rfl, w1, b1, wo⟩; have H1 := Go.Lib.hid (H.out.below b1); have own2 := H1.out.with_own wo b; have WO := Go.Lib.hid wo; clear wo ql)
    | (at_mapUpdate; refine wpList_mapUpdate_own _ rfl _ _ _ 62 rfl 9 59 keyedN Try.underlying62 slR (mb b) (Maps.size (M b)) (M b) rfl own2 hmx _ _ _ rfl rfl hkey _ [] (slR_some h') ?_; intro w3 ho3 hg3))
  go_end0
  exact ⟨rfl, _, _, Grew.from b1 H.out (H1.out.put_map b WO.out hg3 ho3)⟩
end

end Go.Proofs.Ytppdljkfhoekpaa.PnWalk

