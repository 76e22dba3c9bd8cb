/-
  A call of both disks: the contract of the law's 'does'.
-/
import Derived.Deep.DeepCutAuto
import Derived.Deep.CutBlock
import Derived.Deep.QuietTactic
import Derived.BigQuiet
import Derived.Deep.RegionHeld
import Derived.Deep.RegionHeldLaw
import Derived.Laws.Concat
import Derived.Test.YtfdhfjmmmjhgbaaMg3
namespace Go.Proofs.Ytfdhfjmmmjhgbaa.DkWalk
open Go.RowKit Go.Maps Go.WideShapes Go.ChangeShapes Go.Proofs.Ytfdhfjmmmjhgbaa.MemRow Go.Proofs.Ytfdhfjmmmjhgbaa.Ev Go.Proofs.Ytfdhfjmmmjhgbaa.NameMath Go.Proofs.Ytfdhfjmmmjhgbaa.NameWalk Go.Proofs.Ytfdhfjmmmjhgbaa.EvWalk Go.Proofs.Ytfdhfjmmmjhgbaa.NumMem Go.Proofs.Ytfdhfjmmmjhgbaa.Open

def opK (k : Nat) (D : Dk) (o : Opd) : Int × Dk :=
  if k = 3 then syncD D o.name else if k = 4 then renameD D o.name o.tgt else if k = 5 then truncD D o.name o.n else if k = 6 then removeD D o.name
  else if k = 7 then (0, crashD D o.n) else if k = 8 then turnC D o.name o.n else appendD D o.name (o.b.take 200)
/-- What a call makes of a disk. -/
def opC (D : Dk) (o : Opd) : Int × Dk := opK (kindN o.kind 9) D o
theorem opC_go {D : Dk} (h : DkGo D) (o : Opd) : DkGo (opC D o).2 := by
  unfold opC opK
  repeat' split
  · exact sync_go h _
  · exact rename_go h _ _
  · exact trunc_go h _ _
  · exact remove_go h _
  · exact crash_go h _
  · exact turn_go h _ _
  · exact append_go h _ _
theorem opC_ok {D : Dk} (h : DkOk D) (o : Opd) : DkOk (opC D o).2 := by
  unfold opC opK
  repeat' split
  · exact sync_ok h _
  · exact rename_ok h _ _
  · exact trunc_ok h _ _
  · exact remove_ok h _
  · exact crash_ok h _
  · exact turn_ok h _ _
  · exact append_ok h _ _
section
variable {base : Nat} {w : World} {P Q : Thing} {g : Nat} {c0 c1 c2 c3 c4 : Value} {t : TypeId}
theorem bx0 (h : Pair base w P (With Q (BxT g #[c0, c1, c2, c3, c4] t))) : w.cell? ⟨g, 0, none⟩ = some c0 := by rw [cell_of_row w g 0 _ _ _ (pair_bx h)]; rfl
theorem bx1 (h : Pair base w P (With Q (BxT g #[c0, c1, c2, c3, c4] t))) : w.cell? ⟨g, 1, none⟩ = some c1 := by rw [cell_of_row w g 1 _ _ _ (pair_bx h)]; rfl
theorem bx2 (h : Pair base w P (With Q (BxT g #[c0, c1, c2, c3, c4] t))) : w.cell? ⟨g, 2, none⟩ = some c2 := by rw [cell_of_row w g 2 _ _ _ (pair_bx h)]; rfl
theorem bx3 (h : Pair base w P (With Q (BxT g #[c0, c1, c2, c3, c4] t))) : w.cell? ⟨g, 3, none⟩ = some c3 := by rw [cell_of_row w g 3 _ _ _ (pair_bx h)]; rfl
theorem bx4 (h : Pair base w P (With Q (BxT g #[c0, c1, c2, c3, c4] t))) : w.cell? ⟨g, 4, none⟩ = some c4 := by rw [cell_of_row w g 4 _ _ _ (pair_bx h)]; rfl
end

theorem ow_own {base : Nat} {w : World} {Q : Thing} {A : Option Addr} {n c : Nat} {l : List UInt8} (h : Pair base w (OwT A n c l) Q) : Own w 0 5 A n c l := by
  obtain ⟨_, _, h, _⟩ := h
  exact h.1
theorem ow_set {base : Nat} {w : World} {Q : Thing} {A : Option Addr} {n c blk : Nat} {l : List UInt8} (h : Pair base w (OwT A n c l) Q) (kq : Keeps Q) (hb : base ≤ w.heap.size) (hA : A = some ⟨blk, 0, none⟩) (i : Nat) (x : UInt8) :
    Pair base (w.setCell ⟨blk, i, none⟩ (.int .u8 (x.toNat : Int))) (OwT A n c (l.set i x)) Q ∧ Below base w (w.setCell ⟨blk, i, none⟩ (.int .u8 (x.toNat : Int))) := by
  obtain ⟨F, G, ⟨ho, hf, hlt⟩, hq, h1, h2, h3⟩ := h
  have hs := grownSet w blk i (.int .u8 (x.toNat : Int))
  have hfb : F blk := hf _ hA
  have hc : Ch F w (w.setCell ⟨blk, i, none⟩ (.int .u8 (x.toNat : Int))) := Ch.of_grown hs (fun r e => by injection e with e; subst e; exact .inl hfb)
  exact ⟨Pair.left hq kq h1 h2 h3 hb ⟨own8_set ho hA i x, fun a ha => .inl (hf a ha), fun k hk => up_lt hlt hc.size hk⟩ hc, ch_below (Below.refl _ _) hc h1 hb⟩
set_option maxHeartbeats 16000000 in
set_option maxRecDepth 100000 in
theorem does_any (W w : World) (gd : Nat) (D : Dk) (gy : Nat) (E : Dk) (o : Opd) (ok : OpdOk o) (A : Option Addr) (m ca : Nat) (hr : Rd W A m ca o.b) (B : Below W.heap.size W w) (p : Pair W.heap.size w (LdT gd D) (RfT gy E)) (go : DkGo D) (oe : DkOk E) :
    Calls Try.prog 18 #[.pointer (some ⟨gd, 0, none⟩), .pointer (some ⟨gy, 0, none⟩), .agg #[.int .i64 o.kind, .int .i64 o.n, .string o.name, .string o.tgt, .slice A m ca]] w fun e w' =>
      e = .returned (.bool ((opC D o).1 == (opC E o).1)) ∧ Pair W.heap.size w' (LdT gd (opC D o).2) (RfT gy (opC E o).2) ∧ Below W.heap.size W w' := by
  generalize hRD : opC D o = rd
  generalize hRE : opC E o = re
  have HRD := Go.Lib.hid hRD
  have HRE := Go.Lib.hid hRE
  clear hRD hRE
  have al : Below w.heap.size w (w.alloc (.cells #[.int .i64 o.kind, .int .i64 o.n, .string o.name, .string o.tgt, .slice A m ca] 36)) := (Below.refl _ _).alloc (Nat.le_refl _) _
  have p1 : Pair W.heap.size (w.alloc (.cells #[.int .i64 o.kind, .int .i64 o.n, .string o.name, .string o.tgt, .slice A m ca] 36)) (LdT gd D) (With (RfT gy E) (BxT w.heap.size #[.int .i64 o.kind, .int .i64 o.n, .string o.name, .string o.tgt, .slice A m ca] 36)) :=
    pair_more p (ldT_keeps _ _) (rfT_keeps _ _) B.size al ⟨heap_alloc_new w _, ⟨Nat.le_refl _, by simp⟩, fun k hk => hk.2⟩
  have B1 := below_chain B al
  have kq : Keeps (With (RfT gy E) (BxT w.heap.size #[.int .i64 o.kind, .int .i64 o.n, .string o.name, .string o.tgt, .slice A m ca] 36)) := with_keeps (rfT_keeps _ _) (bxT_keeps _ _ _)
  have y0 := bx0 p1
  have HP1 := Go.Lib.hid p1
  clear p al B p1
  go_enter Try.func18, Try.ntmps18
  go_upto_region 1 with (fail)
  generalize w.alloc (.cells #[.int .i64 o.kind, .int .i64 o.n, .string o.name, .string o.tgt, .slice A m ca] 36) = w1 at *
  go_wp2_with fail
  refine (kind_any o.kind 9 w1 ok.kind (by decide) (by decide)).mono ?_
  rintro e w' ⟨rfl, rfl⟩
  have hk9 := kindN_lt o.kind (n := 9) (by decide)
  have HD2 : Hid (opK (kindN o.kind 9) D o = rd) := HRD
  have HE2 : Hid (opK (kindN o.kind 9) E o = re) := HRE
  clear HRD HRE y0
  generalize kindN o.kind 9 = k at *
  have bd : Below w1.heap.size w1 w1.drew := bel_drew (Below.refl _ _)
  have pd := HP1.out.below (ldT_keeps _ _) kq bd
  have Bd := below_chain B1 bd
  have y1 := bx1 HP1.out
  have y2 := bx2 HP1.out
  have y3 := bx3 HP1.out
  have y4 := bx4 HP1.out
  by_cases h3 : k = 3
  · subst h3
    obtain rfl : rd = syncD D o.name := HD2.out.symm
    obtain rfl : re = syncD E o.name := HE2.out.symm
    clear HD2 HE2 y1 y3 y4
    go_wp2_with fail
    go_region_held (fun w' => w'.cell? ⟨w.heap.size, 2, none⟩ = some (.string o.name))
      (first | exact y2 | exact bx2 p3 | exact bx2 p4)
      (first
        | (go_at_call 37; refine (rf_sync (pair_rot (ldT_keeps _ _) p3) (with_keeps (ldT_keeps _ _) (bxT_keeps _ _ _)) B3.size oe o.name).mono ?_; rintro e w4 ⟨rfl, p4, b4⟩)
        | (go_at_call 29; refine (pr_sync pd kq Bd.size go ok.name).mono ?_; rintro e w3 ⟨rfl, p3, b3⟩; have B3 := Bd.trans b3))
    have p5 := pair_first (pair_rot (rfT_keeps _ _) p4)
    have B5 := B3.trans b4
    clear p3 p4 pd
    go_wp2_with fail
    go_ret
    exact ⟨rfl, p5, B5⟩
  by_cases h4 : k = 4
  · subst h4
    obtain rfl : rd = renameD D o.name o.tgt := HD2.out.symm
    obtain rfl : re = renameD E o.name o.tgt := HE2.out.symm
    clear HD2 HE2 y1 y4
    go_wp2_with fail
    go_region_held (fun w' => w'.cell? ⟨w.heap.size, 2, none⟩ = some (.string o.name) ∧ w'.cell? ⟨w.heap.size, 3, none⟩ = some (.string o.tgt))
      (first | exact ⟨y2, y3⟩ | exact ⟨bx2 p3, bx3 p3⟩ | exact ⟨bx2 p4, bx3 p4⟩)
      (first
        | (go_at_call 38; refine (rf_rename (pair_rot (ldT_keeps _ _) p3) (with_keeps (ldT_keeps _ _) (bxT_keeps _ _ _)) B3.size oe o.name ok.tgt).mono ?_; rintro e w4 ⟨rfl, p4, b4⟩)
        | (go_at_call 30; refine (pr_rename pd kq Bd.size go ok.name ok.tgt).mono ?_; rintro e w3 ⟨rfl, p3, b3⟩; have B3 := Bd.trans b3))
    have p5 := pair_first (pair_rot (rfT_keeps _ _) p4)
    have B5 := B3.trans b4
    clear p3 p4 pd
    go_wp2_with fail
    go_ret
    exact ⟨rfl, p5, B5⟩
  by_cases h5 : k = 5
  · subst h5
    obtain rfl : rd = truncD D o.name o.n := HD2.out.symm
    obtain rfl : re = truncD E o.name o.n := HE2.out.symm
    clear HD2 HE2 y3 y4
    go_wp2_with fail
    go_region_held (fun w' => w'.cell? ⟨w.heap.size, 2, none⟩ = some (.string o.name) ∧ w'.cell? ⟨w.heap.size, 1, none⟩ = some (.int .i64 o.n))
      (first | exact ⟨y2, y1⟩ | exact ⟨bx2 p3, bx1 p3⟩ | exact ⟨bx2 p4, bx1 p4⟩)
      (first
        | (go_at_call 39; refine (rf_trunc (pair_rot (ldT_keeps _ _) p3) (with_keeps (ldT_keeps _ _) (bxT_keeps _ _ _)) B3.size oe o.name o.n).mono ?_; rintro e w4 ⟨rfl, p4, b4⟩)
        | (go_at_call 31; refine (pr_trunc pd kq Bd.size go ok.name o.n).mono ?_; rintro e w3 ⟨rfl, p3, b3⟩; have B3 := Bd.trans b3))
    have p5 := pair_first (pair_rot (rfT_keeps _ _) p4)
    have B5 := B3.trans b4
    clear p3 p4 pd
    go_wp2_with fail
    go_ret
    exact ⟨rfl, p5, B5⟩
  by_cases h6 : k = 6
  · subst h6
    obtain rfl : rd = removeD D o.name := HD2.out.symm
    obtain rfl : re = removeD E o.name := HE2.out.symm
    clear HD2 HE2 y1 y3 y4
    go_wp2_with fail
    go_region_held (fun w' => w'.cell? ⟨w.heap.size, 2, none⟩ = some (.string o.name))
      (first | exact y2 | exact bx2 p3 | exact bx2 p4)
      (first
        | (go_at_call 40; refine (rf_remove (pair_rot (ldT_keeps _ _) p3) (with_keeps (ldT_keeps _ _) (bxT_keeps _ _ _)) B3.size oe o.name).mono ?_; rintro e w4 ⟨rfl, p4, b4⟩)
        | (go_at_call 33; refine (pr_remove pd kq Bd.size go ok.name).mono ?_; rintro e w3 ⟨rfl, p3, b3⟩; have B3 := Bd.trans b3))
    have p5 := pair_first (pair_rot (rfT_keeps _ _) p4)
    have B5 := B3.trans b4
    clear p3 p4 pd
    go_wp2_with fail
    go_ret
    exact ⟨rfl, p5, B5⟩
  by_cases h8 : k = 8
  · subst h8
    obtain rfl : rd = turnC D o.name o.n := HD2.out.symm
    obtain rfl : re = turnC E o.name o.n := HE2.out.symm
    clear HD2 HE2 y3 y4
    go_wp2_with fail
    go_region_held (fun w' => w'.cell? ⟨w.heap.size, 2, none⟩ = some (.string o.name) ∧ w'.cell? ⟨w.heap.size, 1, none⟩ = some (.int .i64 o.n))
      (first | exact ⟨y2, y1⟩ | exact ⟨bx2 p3, bx1 p3⟩ | exact ⟨bx2 p4, bx1 p4⟩)
      (first
        | (go_at_call 42; refine (rf_turn (pair_rot (ldT_keeps _ _) p3) (with_keeps (ldT_keeps _ _) (bxT_keeps _ _ _)) B3.size oe o.name o.n).mono ?_; rintro e w4 ⟨rfl, p4, b4⟩)
        | (go_at_call 32; refine (pr_turn pd kq Bd.size go ok.name o.n).mono ?_; rintro e w3 ⟨rfl, p3, b3⟩; have B3 := Bd.trans b3))
    have p5 := pair_first (pair_rot (rfT_keeps _ _) p4)
    have B5 := B3.trans b4
    clear p3 p4 pd
    go_wp2_with fail
    go_ret
    exact ⟨rfl, p5, B5⟩
  by_cases h7 : k = 7
  · subst h7
    obtain rfl : rd = (0, crashD D o.n) := HD2.out.symm
    obtain rfl : re = (0, crashD E o.n) := HE2.out.symm
    clear HD2 HE2 y2 y3 y4 pd Bd bd
    go_wp2_with fail
    refine (pr_crash HP1.out kq B1.size go ok.n).mono ?_
    rintro e w3 ⟨rfl, p3, b3⟩
    have B3 := B1.trans b3
    have x1 := bx1 p3
    clear y1
    go_wp2_with fail
    refine (rf_crash (pair_rot (ldT_keeps _ _) p3) (with_keeps (ldT_keeps _ _) (bxT_keeps _ _ _)) B3.size oe ok.n).mono ?_
    rintro e w4 ⟨rfl, p4, b4⟩
    have p5 := pair_first (pair_rot (rfT_keeps _ _) p4)
    have B5 := B3.trans b4
    clear p3 p4
    go_wp2_with fail
    go_ret
    exact ⟨by simp, p5, B5⟩
  obtain rfl : rd = appendD D o.name (o.b.take 200) := by rw [← HD2.out]; unfold opK; rw [if_neg h3, if_neg h4, if_neg h5, if_neg h6, if_neg h7, if_neg h8]
  obtain rfl : re = appendD E o.name (o.b.take 200) := by rw [← HE2.out]; unfold opK; rw [if_neg h3, if_neg h4, if_neg h5, if_neg h6, if_neg h7, if_neg h8]
  have e3 : ((k : Int) == 3) = false := by rw [beq_eq_false_iff_ne]; omega
  have e4 : ((k : Int) == 4) = false := by rw [beq_eq_false_iff_ne]; omega
  have e5 : ((k : Int) == 5) = false := by rw [beq_eq_false_iff_ne]; omega
  have e6 : ((k : Int) == 6) = false := by rw [beq_eq_false_iff_ne]; omega
  have e7 : ((k : Int) == 7) = false := by rw [beq_eq_false_iff_ne]; omega
  have e8 : ((k : Int) == 8) = false := by rw [beq_eq_false_iff_ne]; omega
  have al2 : Below w1.heap.size w1 (w1.alloc (.cells #[] 5)) := (Below.refl _ _).alloc (Nat.le_refl _) _
  have r2 := hr.below (below_chain B1 al2)
  have q4 := bcell al2 y4
  have HR := Go.Lib.hid (short_rd hr)
  have HRR := Go.Lib.hid hr
  clear HD2 HE2 h3 h4 h5 h6 h7 h8 hk9 y1 y3 pd Bd bd hr
  go_wp2_with fail
  refine (short_any A m ca o.b _ r2).mono ?_
  rintro e w' ⟨rfl, r3, rfl⟩
  have hm : min m 200 ≤ 200 := by omega
  generalize hmm : min m 200 = m' at *
  go_wp2_with (at_builtin; refine wpList_append_fresh rfl (.tmp 90) (.tmp 93) 33 rfl 5 Try.underlying33 u8_info rfl rfl (Own.empty w1 5 (Nat.le_refl _)) r3 (by omega) al2.size w1 al2 ?_; intro A5 c5 w5 o5 b5; have z2 := bcell b5 y2)
  have B5 := below_chain B1 b5
  have hbA : ∀ a, A5 = some a → w1.heap.size ≤ a.block ∧ a.block < w5.heap.size := fun a ha => World.ownsRow.lt o5 a.block (by simp [Value.ownBlock, ha])
  have p5 := pair_more (R := OwT A5 m' c5 (o.b.take 200)) HP1.out (ldT_keeps _ _) kq B1.size b5 ⟨own8_lower o5, hbA, fun k hk => hk.2⟩
  have kq5 := with_keeps kq (owT_keeps A5 m' c5 (o.b.take 200))
  have hlb := o5.len
  have hrd5 := o5.rd
  clear al2 r2 r3 q4 o5 b5 hbA y2 y4
  refine (pr_append p5 kq5 B5.size go ok.name hrd5 (by omega)).mono ?_
  rintro e w6 ⟨rfl, p6, b6⟩
  have B6 := B5.trans b6
  have p7 := pair_last (ldT_keeps _ _) p6
  have k7 := with_keeps (ldT_keeps gd (appendD D o.name (o.b.take 200)).2) kq
  clear p5 p6 b6 hrd5 z2 kq5
  generalize hDA : (appendD D o.name (o.b.take 200)).1 = da at *
  generalize hDB : (appendD D o.name (o.b.take 200)).2 = db at *
  go_upto_block 1 with (fail)
  go_cut [9] (fun _ wx => Below W.heap.size W wx ∧ Pair W.heap.size wx (LdT gd db) (With (RfT gy E) (BxT w.heap.size #[.int .i64 o.kind, .int .i64 o.n, .string o.name, .string o.tgt, .slice A m ca] 36)))
  case first =>
    go_wp2_with fail
    go_loopw [9] (fun i wr => ∃ (j : Nat) (l : List UInt8), j ≤ m' ∧ i = .int .i64 j ∧ l.length = m' ∧ Pair W.heap.size wr (OwT A5 m' c5 l) (With (LdT gd db) (With (RfT gy E) (BxT w.heap.size #[.int .i64 o.kind, .int .i64 o.n, .string o.name, .string o.tgt, .slice A m ca] 36))) ∧ Below W.heap.size W wr) (fun i _ => m' - (intOf i).toNat)
    case atStart => exact ⟨0, _, Nat.zero_le _, rfl, hlb, p7, B6⟩
    case round =>
      obtain ⟨j, l, hj, rfl, hl, pj, Bj⟩ := hrel
      clear p7 B6
      by_cases hlt : j < m'
      · have i1 : (j : Int) < m' := by omega
        have i0 : (0 : Int) ≤ j := by omega
        have ho := ow_own pj
        obtain ⟨blk, oo, hA, _, hcc⟩ := ho.rd.at_ (by omega)
        obtain ⟨rfl, hfz, _⟩ := own_zero (k := 1) (cs := cellsOf l) ho hA
        have hc := hcc j hlt
        rw [Nat.zero_add] at hc
        have hzf := hfz j
        obtain ⟨pn, bn⟩ := ow_set pj k7 Bj.size hA j 7
        have Bn := Bj.trans bn
        have PN := Go.Lib.hid pn
        have BN := Go.Lib.hid Bn
        subst hA
        clear pn bn Bn hcc hfz ho pj Bj
        go_wp2_with fail
        go_roundw
        case rel => exact ⟨j + 1, _, by omega, by go_num, by rw [List.length_set]; exact hl, PN.out, BN.out⟩
        case measure => simp [intOf]; omega
      · obtain rfl : m' = j := by omega
        clear hlt
        go_wp2_with fail
        go_meet
        exact ⟨Bj, pair_drop pj⟩
  case rest =>
    obtain ⟨B8, p8⟩ := hcut
    clear p7 B6
    have p9 := pair_rot (ldT_keeps _ _) p8
    have k9 := with_keeps (ldT_keeps gd db) (bxT_keeps w.heap.size #[.int .i64 o.kind, .int .i64 o.n, .string o.name, .string o.tgt, .slice A m ca] 36)
    have bd : Below wc.heap.size wc wc.drew := bel_drew (Below.refl _ _)
    have pd := p9.below (rfT_keeps _ _) k9 bd
    have Bd := below_chain B8 bd
    have rd := HRR.out.below Bd
    have rs := HR.out.below Bd
    have y2 := bx2 p9
    have y4 := bx4 p9
    have HE := Go.Lib.hid hDA
    have HF := Go.Lib.hid hDB
    clear p8 p9 hDA hDB
    go_wp2_with fail
    go_region_held (fun w' => w'.cell? ⟨w.heap.size, 2, none⟩ = some (.string o.name) ∧ w'.cell? ⟨w.heap.size, 4, none⟩ = some (.slice A m ca))
      (first | exact ⟨y2, y4⟩ | exact ⟨bx2 p10, bx4 p10⟩)
      (first
        | (go_at_call 43; refine (rf_append pd k9 Bd.size oe ok.name rs (by omega)).mono ?_; rintro e w10 ⟨rfl, p10, b10⟩)
        | (go_at_call 28; refine (short_any A m ca o.b wc.drew rd).mono ?_; rintro e w' ⟨rfl, _, rfl⟩; rw [hmm]))
    have p11 := pair_first (pair_rot (rfT_keeps _ _) p10)
    have B11 := Bd.trans b10
    clear p10 pd y2 y4 rd rs
    go_wp2_with fail
    go_ret
    rw [HE.out, HF.out]
    exact ⟨rfl, p11, B11⟩

end Go.Proofs.Ytfdhfjmmmjhgbaa.DkWalk

/-
  Walk of a statement of layer 8: DiskSafe.
-/
namespace Go.Proofs.Ytfdhfjmmmjhgbaa.DkWalk
open Go.RowKit Go.Maps Go.WideShapes Go.ChangeShapes Go.Proofs.Ytfdhfjmmmjhgbaa.MemRow Go.Proofs.Ytfdhfjmmmjhgbaa.Ev Go.Proofs.Ytfdhfjmmmjhgbaa.NameMath Go.Proofs.Ytfdhfjmmmjhgbaa.NameWalk Go.Proofs.Ytfdhfjmmmjhgbaa.EvWalk Go.Proofs.Ytfdhfjmmmjhgbaa.NumMem Go.Proofs.Ytfdhfjmmmjhgbaa.Open

/-- With a burnt fuse nothing changes. -/
theorem burnt {D : Dk} (h : D.left = 0) (o : Opd) (hk : kindN o.kind 9 < 7) : (opC D o).2 = D := by
  unfold opC opK
  rw [if_neg (show ¬ kindN o.kind 9 = 7 by omega), if_neg (show ¬ kindN o.kind 9 = 8 by omega)]
  repeat' split
  · unfold syncD; rw [if_pos h]
  · unfold renameD; rw [if_pos h]
  · unfold truncD; rw [if_pos h]
  · unfold removeD; rw [if_pos h]
  · unfold appendD; rw [if_pos h]
theorem cat_text2 (a b : List UInt8) (ha : a.length ≤ 1000) (hb : b.length ≤ 1000) (W : World) : (Op.stringOp .add ⟨a.toArray⟩ ⟨b.toArray⟩).run Try.prog W = .ok (.string ⟨(a ++ b).toArray⟩) W :=
  run_string_add_lists W a b (by omega) (by omega)
theorem crash_part {s : ByteArray} {a b : List UInt8} {keep : Int} {K : Nat} (hK : min (max keep 0) (b.length : Int) = (K : Int)) : crashL keep ⟨s, a ++ b, a.length⟩ = ⟨s, a ++ b.take K, a.length + K⟩ := by
  unfold crashL crashN
  have e : a.length + min (max keep 0).toNat ((a ++ b).length - a.length) = a.length + K := by
    rw [List.length_append]
    omega
  rw [e, List.take_append]
  congr 1
  · rw [List.take_of_length_le (by omega)]
    congr 2
    omega
theorem crash_whole {s : ByteArray} {b : List UInt8} {k : Nat} (h : b.length = k) : crashL 0 ⟨s, b, k⟩ = ⟨s, b, k⟩ := by
  unfold crashL crashN
  have e : k + min (max (0 : Int) 0).toNat (b.length - k) = k := by omega
  simp only [e]
  rw [List.take_of_length_le (by omega)]
set_option maxHeartbeats 8000000 in
set_option maxRecDepth 100000 in
theorem safe_walk (A : Option Addr) (n cap : Nat) (l : List UInt8) (B : Option Addr) (m cb : Nat) (k : List UInt8) (keep : Int) (L : Option Addr) (ln lc : Nat) (os : List Opd) (w0 : World) (hl0 : Rd w0 A n cap l) (hk0 : Rd w0 B m cb k) (hkp : -9223372036854775808 ≤ keep ∧ keep ≤ 9223372036854775807) (ho0 : RdO w0 L ln lc os) (hok : ∀ d ∈ os, OpdOk d) :
    Calls Try.prog 4 #[.slice A n cap, .slice B m cb, .agg #[.int .i64 keep, .slice L ln lc]] w0 fun e w' => e = .returned (.bool true) ∧ Below w0.heap.size w0 w' := by
  have hln := ho0.le
  unfold maxLen at hln
  have bx := heap_alloc_new w0 (.cells #[.int .i64 keep, .slice L ln lc] 46)
  have al : Below w0.heap.size w0 (w0.alloc (.cells #[.int .i64 keep, .slice L ln lc] 46)) := (Below.refl _ _).alloc (Nat.le_refl _) _
  have hl := hl0.below al
  have hk := hk0.below al
  have ho := ho0.below al
  have AL := Go.Lib.hid al
  clear hl0 hk0 ho0 al
  go_enter Try.func4, Try.ntmps4
  go_upto_region 1 with (fail)
  generalize w0.alloc (.cells #[.int .i64 keep, .slice L ln lc] 46) = w at *
  have c0 : w.cell? ⟨w0.heap.size, 0, none⟩ = some (.int .i64 keep) := by rw [cell_of_row w w0.heap.size 0 _ _ _ bx]; rfl
  have c1 : w.cell? ⟨w0.heap.size, 1, none⟩ = some (.slice L ln lc) := by rw [cell_of_row w w0.heap.size 1 _ _ _ bx]; rfl
  have C0 := Go.Lib.hid c0
  have C1 := Go.Lib.hid c1
  have HO := Go.Lib.hid ho
  clear bx c0 c1 ho
  go_wp2_with fail
  refine (shown8_any _).mono ?_
  rintro e w1 ⟨rfl, b1⟩
  go_wp2_with fail
  refine (pr_first b1.size 4000).mono ?_
  rintro e w2 ⟨g, rfl, p2, b2⟩
  have go2 : DkGo (newD 4000) := new_go (by decide)
  rw [newD_pos (by decide)] at p2 go2
  have B2 := below_chain b1 b2
  have r2 := hl.below B2
  have s2 := hk.below B2
  have hl' := short_rd hl
  have hk' := short_rd hk
  clear b1 b2 hl hk
  go_wp2_with fail
  refine (short_any A n cap l w2 r2).mono ?_
  rintro e w3 ⟨rfl, r3, rfl⟩
  go_wp2_with fail
  refine (short_any B m cb k w2 s2).mono ?_
  rintro e w3 ⟨rfl, s3, rfl⟩
  have hn : min n 200 ≤ 200 := by omega
  have hm : min m 200 ≤ 200 := by omega
  generalize min n 200 = n' at *
  generalize min m 200 = m' at *
  generalize l.take 200 = l' at *
  generalize k.take 200 = k' at *
  have hll := r3.len
  have hkl := s3.len
  have hcb := s3.le_cap
  have HA := Go.Lib.hid hl'
  have HK := Go.Lib.hid hk'
  clear r2 s2 s3 hl' hk'
  go_wp2_with fail
  refine (pr_append p2 noT_keeps B2.size go2 (s := nA) (by decide) r3 (by omega)).mono ?_
  rintro e w3 ⟨rfl, p3, b3⟩
  have go3 := append_go go2 nA l'
  rw [app_new nA mayA (by omega) (by omega)] at p3 go3 ⊢
  have B3 := B2.trans b3
  clear p2 B2 b3 go2 r3
  go_wp2_with fail
  refine (pr_sync p3 noT_keeps B3.size go3 (s := nA) (by decide)).mono ?_
  rintro e w4 ⟨rfl, p4, b4⟩
  have go4 := sync_go go3 nA
  rw [sync_one] at p4 go4 ⊢
  have B4 := B3.trans b4
  have s4 := HK.out.below B4
  clear p3 B3 b4 go3
  go_wp2_with fail
  refine (pr_append p4 noT_keeps B4.size go4 (s := nA) (by decide) s4 (by omega)).mono ?_
  rintro e w5 ⟨rfl, p5, b5⟩
  have go5 := append_go go4 nA k'
  rw [app_more nA mayA (by omega) (by omega)] at p5 go5 ⊢
  have B5 := B4.trans b5
  clear p4 B4 b5 go4 s4
  go_wp2_with fail
  refine (pr_fuse p5 noT_keeps B5.size 0).mono ?_
  rintro e w6 ⟨rfl, p6, b6⟩
  have go6 := fuse_go go5 (k := 0) (by decide)
  have e6 : fuseD ⟨4000, -1, [⟨nA, l' ++ k', l'.length⟩]⟩ 0 = ⟨4000, 0, [⟨nA, l' ++ k', l'.length⟩]⟩ := rfl
  have p6 : Pair w.heap.size w6 (LdT g (fuseD ⟨4000, -1, [⟨nA, l' ++ k', l'.length⟩]⟩ 0)) NoT := p6
  have go6 : DkGo (fuseD ⟨4000, -1, [⟨nA, l' ++ k', l'.length⟩]⟩ 0) := go6
  rw [e6] at p6 go6
  have B6 := B5.trans b6
  have P6 := Go.Lib.hid p6
  clear p5 B5 b6 go5 e6 p6
  go_wp2_with fail
  refine (refNew_any 0 w6 (by decide)).mono ?_
  rintro e w7 ⟨gy, rfl, ry, b7⟩
  have p7 := pair_second (pair_more (R := RfT gy (newD 0)) P6.out (ldT_keeps _ _) noT_keeps B6.size b7 ry)
  have B7 := below_chain B6 b7
  have oy : DkOk (newD 0) := new_ok (by decide)
  have GO6 := Go.Lib.hid go6
  clear P6 B6 b7 ry go6
  go_upto_block 0 with (fail)
  go_cut [10] (fun _ wx => ∃ E, Pair w.heap.size wx (LdT g ⟨4000, 0, [⟨nA, l' ++ k', l'.length⟩]⟩) (RfT gy E) ∧ Below w.heap.size w wx)
  case first =>
    go_wp2_with fail
    go_loopw [10] (fun i wr => ∃ (j : Nat) (E : Dk), j ≤ ln ∧ i = .int .i64 j ∧ Hid (DkOk E) ∧ Pair w.heap.size wr (LdT g ⟨4000, 0, [⟨nA, l' ++ k', l'.length⟩]⟩) (RfT gy E) ∧ Below w.heap.size w wr) (fun i _ => ln - (intOf i).toNat)
    case atStart => exact ⟨0, _, Nat.zero_le _, rfl, Go.Lib.hid oy, p7, B7⟩
    case round =>
      obtain ⟨j, E, hj, rfl, OE, pj, Bj⟩ := hrel
      clear p7 B7 oy
      have y1 := bcell Bj C1.out
      by_cases hlt : j < ln ∧ j < 20
      · obtain ⟨h1, h2⟩ := hlt
        have i1 : (j : Int) < ln := by omega
        have i2 : (j : Int) < 20 := by omega
        have i3 : (0 : Int) ≤ j := by omega
        obtain ⟨ba, oa, rfl, _, hca⟩ := HO.out.at_ (by omega)
        have hjo : j < os.length := by rw [HO.out.len]; exact h1
        have hdk := hok _ (opd_get hjo)
        obtain ⟨Ab, nb, kb, x0', x1', x2', x3', x4', rb⟩ := hca j h1
        have x0 := bcell Bj x0'
        have x1 := bcell Bj x1'
        have x2 := bcell Bj x2'
        have x3 := bcell Bj x3'
        have x4 := bcell Bj x4'
        clear hca x0' x1' x2' x3' x4' hjo
        generalize os.getD j noOpd = d at *
        go_wp2_with fail
        refine (kind_any d.kind 9 wr hdk.kind (by decide) (by decide)).mono ?_
        rintro e w' ⟨rfl, rfl⟩
        have HKD := Go.Lib.hid (fun h => burnt (D := ⟨4000, 0, [⟨nA, l' ++ k', l'.length⟩]⟩) rfl d h)
        generalize kindN d.kind 9 = kd at *
        by_cases h7 : kd < 7
        · have i7 : (kd : Int) < 7 := by omega
          go_wp2_with fail
          refine (does_any w wr g _ gy E d hdk Ab nb kb rb Bj pj GO6.out OE.out).mono ?_
          rintro e w8 ⟨rfl, p8, B8⟩
          rw [HKD.out h7] at p8
          have OE8 := Go.Lib.hid (opC_ok OE.out d)
          generalize (opC E d).2 = E8 at *
          generalize ((opC ⟨4000, 0, [⟨nA, l' ++ k', l'.length⟩]⟩ d).1 == (opC E d).1) = bb at *
          clear pj Bj x0 x1 x2 x3 x4 y1 rb
          go_wp2_with fail
          go_roundw
          case rel => exact ⟨j + 1, E8, by omega, by go_num, OE8, p8, B8⟩
          case measure => simp [intOf]; omega
        · have i7 : ¬ (kd : Int) < 7 := by omega
          clear x1 x2 x3 x4 rb
          go_wp2_with fail
          go_roundw
          case rel => exact ⟨j + 1, E, by omega, by go_num, OE, pj, Bj⟩
          case measure => simp [intOf]; omega
      · have hway : ¬ (j : Int) < ln ∨ ((j : Int) < ln ∧ ¬ (j : Int) < 20) := by omega
        clear hlt
        rcases hway with i1 | ⟨i1, i2⟩
        all_goals
          go_wp2_with fail
          go_meet
          exact ⟨E, pj, Bj⟩
  case rest =>
    obtain ⟨E, p8, B8⟩ := hcut
    clear p7 B7 oy
    have kE := rfT_keeps gy E
    go_wp2_with fail
    refine (pr_used p8 kE GO6.out).mono ?_
    rintro e w9 ⟨rfl, p9, b9⟩
    rw [used_one, List.length_append]
    have B9 := below_chain B8 b9
    have eu : l'.length + k'.length = n' + m' := by omega
    rw [eu]
    clear p8 B8 b9
    go_wp2_with fail
    refine (pr_sync p9 kE B9.size GO6.out (s := nA) (by decide)).mono ?_
    rintro e w10 ⟨rfl, p10, b10⟩
    have e10 : syncD ⟨4000, 0, [⟨nA, l' ++ k', l'.length⟩]⟩ nA = (14, ⟨4000, 0, [⟨nA, l' ++ k', l'.length⟩]⟩) := rfl
    rw [e10] at p10 ⊢
    have B10 := B9.trans b10
    have y0 := bcell B10 C0.out
    clear p9 B9 b10 e10
    go_wp2_with fail
    refine (pr_crash p10 kE B10.size GO6.out hkp).mono ?_
    rintro e w11 ⟨rfl, p11, b11⟩
    have go11 := crash_go GO6.out keep
    obtain ⟨K, hK⟩ : ∃ K : Nat, min (max keep 0) (k'.length : Int) = (K : Int) := ⟨(min (max keep 0) (k'.length : Int)).toNat, by omega⟩
    have hKm : K ≤ m' := by omega
    rw [crash_one, crash_part hK] at p11 go11
    have B11 := B10.trans b11
    have y1 := bcell B11 C0.out
    have HKK := Go.Lib.hid (show min (max keep 0) (m' : Int) = (K : Int) by rw [← hkl]; exact hK)
    clear p10 B10 b11 y0 hK eu
    go_upto_region 20 with (fail)
    rw [HKK.out]
    go_wp2_with fail
    refine (pr_reads p11 kE B11.size go11 (s := nA) (by decide)).mono ?_
    rintro e w12 ⟨C12, m12, c12, rfl, p12, b12⟩
    rw [(read_hd _ _ _ _ _ _).2] at p12
    rw [(read_hd _ _ _ _ _ _).1]
    have B12 := below_chain B11 b12
    have k12 := with_keeps kE (slT_keeps C12 m12 c12 (l' ++ k'.take K))
    clear p11 B11 b12 y1
    go_wp2_with fail
    refine (pr_crash p12 k12 B12.size go11 (keep := 0) (by decide)).mono ?_
    rintro e w13 ⟨rfl, p13, b13⟩
    have go13 := crash_go go11 0
    rw [crash_one, crash_whole (by rw [List.length_append, List.length_take]; omega)] at p13 go13
    have B13 := B12.trans b13
    clear p12 B12 b13
    go_wp2_with fail
    refine (pr_reads p13 k12 B13.size go13 (s := nA) (by decide)).mono ?_
    rintro e w14 ⟨C14, m14, c14, rfl, p14, b14⟩
    rw [(read_hd _ _ _ _ _ _).2] at p14
    rw [(read_hd _ _ _ _ _ _).1]
    have B14 := below_chain B13 b14
    have rz := pair_rd p14
    have rc := pair_rd (pair_first p14)
    have hB := HK.out.below B14
    have sc := fun q => rd_str (rc.drewN q)
    have sz := fun q => rd_str (rz.drewN q)
    have ta := fun q => rd_str ((HA.out.below B14).drewN q)
    have tb := fun q => rd_str ((hB.first (k := K) (by omega)).drewN q)
    have qs := slice_upto B m' cb K (by omega)
    have qc := cat_text2 l' (k'.take K) (by omega) (by rw [List.length_take]; omega)
    clear p13 B13 b14 p14 rz rc hB go11 go13 k12
    generalize l' ++ k'.take K = x' at *
    generalize k'.take K = kk at *
    go_wp2_with fail
    go_quiet (fail)
    go_wp2_with fail
    go_ret
    exact ⟨rfl, below_chain AL.out (bel_drewN B14 _)⟩
section
variable {H : Type} {enc : TypeId × Value → H}
set_option maxRecDepth 100000 in
theorem safe_main (W : World) (base : Nat) (v0 v1 v2 : Value) {d0 d1 d2 : DataW H} {p0 p1 p2 : List MemPlace} (o0 : Value.okWide Try.prog W .any base 33 v0) (o1 : Value.okWide Try.prog W .any base 33 v1) (o2 : Value.okWide Try.prog W .any base 46 v2)
    (h0 : DataW.Trod enc Try.prog W 0 (fun _ => true) true 33 v0 d0 p0) (h1 : DataW.Trod enc Try.prog W 0 (fun _ => true) true 33 v1 d1 p1) (h2 : DataW.Trod enc Try.prog W 0 (fun _ => true) true 46 v2 d2 p2) :
    Calls Try.prog 4 #[v0, v1, v2] W fun e W' => e = .returned (.bool true) ∧ Below W.heap.size W W' := by
  obtain ⟨A, n, cap, l, rfl, hl⟩ := op_bytes Try.underlying33 Try.underlying5 (by kernel_rfl) o0 h0
  obtain ⟨B, m, cb, k, rfl, hk⟩ := op_bytes Try.underlying33 Try.underlying5 (by kernel_rfl) o1 h1
  obtain ⟨z, L, ln, lc, os, rfl, hz, ho, hok⟩ := op_rest o2 h2
  exact safe_walk A n cap l B m cb k z L ln lc os W hl hk hz ho hok
end

end Go.Proofs.Ytfdhfjmmmjhgbaa.DkWalk

/-
  Walk of a statement of layer 8: DiskPlays.
-/
namespace Go.Proofs.Ytfdhfjmmmjhgbaa.DkWalk
open Go.RowKit Go.Maps Go.WideShapes Go.ChangeShapes Go.Proofs.Ytfdhfjmmmjhgbaa.MemRow Go.Proofs.Ytfdhfjmmmjhgbaa.Ev Go.Proofs.Ytfdhfjmmmjhgbaa.NameMath Go.Proofs.Ytfdhfjmmmjhgbaa.NameWalk Go.Proofs.Ytfdhfjmmmjhgbaa.EvWalk Go.Proofs.Ytfdhfjmmmjhgbaa.NumMem Go.Proofs.Ytfdhfjmmmjhgbaa.Open

section
variable {base : Nat} {w : World} {g : Nat} {D : Dk} {Q : Thing}
theorem rf_read (h : Pair base w (RfT g D) Q) (kq : Keeps Q) (ok : DkOk D) (s : ByteArray) :
    Calls Try.prog 27 #[.pointer (some ⟨g, 0, none⟩), .string s] w fun e w' => ∃ B m c, e = .returned (.tuple #[.slice B m c, .int .i64 (readC D s)]) ∧ Rd w' B m c (readB D s) ∧ Pair base w' (RfT g D) Q ∧ Below w.heap.size w w' := by
  have h' := h
  obtain ⟨F, G, hp, hq, h1, h2, h3⟩ := h
  exact (refRead_any g D F s w hp ok).mono fun e w' ⟨B, m, c, he, hr, hb⟩ => ⟨B, m, c, he, hr, h'.below (rfT_keeps g D) kq hb, hb⟩
theorem rf_list (h : Pair base w (RfT g D) Q) (kq : Keeps Q) (ok : DkOk D) :
    Calls Try.prog 23 #[.pointer (some ⟨g, 0, none⟩)] w fun e w' => ∃ B m c, e = .returned (.slice B m c) ∧ RdS w' B m c (names D.fs) ∧ Pair base w' (RfT g D) Q ∧ Below w.heap.size w w' := by
  have h' := h
  obtain ⟨F, G, hp, hq, h1, h2, h3⟩ := h
  exact (refList_any g D F w hp ok).mono fun e w' ⟨B, m, c, he, hr, hb⟩ => ⟨B, m, c, he, hr, h'.below (rfT_keeps g D) kq hb, hb⟩
theorem rf_used (h : Pair base w (RfT g D) Q) (kq : Keeps Q) (ok : DkOk D) :
    Calls Try.prog 25 #[.pointer (some ⟨g, 0, none⟩)] w fun e w' => e = .returned (.int .i64 (usedF D.fs : Nat)) ∧ Pair base w' (RfT g D) Q ∧ Below w.heap.size w w' := by
  have h' := h
  obtain ⟨F, G, ⟨A, n, cap, cs, hp⟩, hq, h1, h2, h3⟩ := h
  have hn : n ≤ 1000 := by
    have := ok.len
    have := hp.len
    omega
  exact (refUsed_bel g D F A n cap cs w hp hn fun f hf => (ok.fls f hf).1).mono fun e w' ⟨he, hb⟩ => ⟨he, h'.below (rfT_keeps g D) kq hb, hb⟩
end
theorem names_size {D : Dk} (go : DkGo D) {j : Nat} (hj : j < (names D.fs).length) : ((names D.fs).getD j ByteArray.empty).size ≤ maxLen := by
  unfold names at hj ⊢
  rw [List.length_map] at hj
  have h1 := mayN_size (go.may _ (List.getElem_mem hj))
  simp only [List.getD, List.getElem?_map, List.getElem?_eq_getElem hj, Option.map_some, Option.getD_some]
  unfold maxLen
  omega
set_option maxHeartbeats 8000000 in
set_option maxRecDepth 100000 in
theorem plays_walk (z : Int) (hz : -9223372036854775808 ≤ z ∧ z ≤ 9223372036854775807) (L : Option Addr) (ln lc : Nat) (os : List Opd) (k : Int) (hk : -9223372036854775808 ≤ k ∧ k ≤ 9223372036854775807) (w : World) (ho0 : RdO w L ln lc os) (hok : ∀ d ∈ os, OpdOk d) :
    Calls Try.prog 3 #[.int .i64 z, .slice L ln lc, .int .i64 k] w fun e w' => e = .returned (.bool true) ∧ Below w.heap.size w w' := by
  have hln := ho0.le
  unfold maxLen at hln
  have HO := Go.Lib.hid ho0
  clear ho0
  go_enter Try.func3, Try.ntmps3
  go_wp2_with fail
  refine (shown8_any _).mono ?_
  rintro e w1 ⟨rfl, b1⟩
  go_wp2_with fail
  refine (kind_any z 1000 w1 hz (by decide) (by decide)).mono ?_
  rintro e w' ⟨rfl, rfl⟩
  go_wp2_with fail
  refine (pr_first b1.size (kindN z 1000 : Int)).mono ?_
  rintro e w2 ⟨g, rfl, p2, b2⟩
  have B2 := below_chain b1 b2
  clear b1 b2
  go_wp2_with fail
  refine (kind_any z 1000 w2 hz (by decide) (by decide)).mono ?_
  rintro e w' ⟨rfl, rfl⟩
  have hq := kindN_lt z (n := 1000) (by decide)
  generalize kindN z 1000 = q at *
  go_wp2_with fail
  refine (refNew_any (q : Int) w2 (by omega)).mono ?_
  rintro e w3 ⟨gy, rfl, ry, b3⟩
  have p3 := pair_second (pair_more (R := RfT gy (newD q)) p2 (ldT_keeps _ _) noT_keeps B2.size b3 ry)
  have B3 := below_chain B2 b3
  have go3 : DkGo (newD (q : Int)) := new_go (by omega)
  clear p2 B2 ry b3
  go_upto_if 34 with (fail)
  go_cut [6] (fun _ wx => ∃ D, Pair w.heap.size wx (LdT g D) (RfT gy D) ∧ Hid (DkGo D) ∧ Below w.heap.size w wx)
  case first =>
    by_cases hf : k = -1
    · subst hf
      go_wp2_with fail
      go_meet
      exact ⟨_, p3, Go.Lib.hid go3, B3⟩
    · go_wp2_with fail
      refine (pr_fuse p3 (rfT_keeps _ _) B3.size k).mono ?_
      rintro e w4 ⟨rfl, p4, b4⟩
      have B4 := B3.trans b4
      clear p3 B3 b4
      go_wp2_with fail
      refine (rf_fuse p4.swap (ldT_keeps _ _) B4.size hk).mono ?_
      rintro e w5 ⟨rfl, p5, b5⟩
      have B5 := B4.trans b5
      go_wp2_with fail
      go_meet
      exact ⟨_, p5.swap, Go.Lib.hid (fuse_go go3 hk.2), B5⟩
  case rest =>
    obtain ⟨D0, p4, GO4, B4⟩ := hcut
    clear p3 B3 go3
    go_upto_block 0 with (fail)
    go_cut [8, 10, 11, 12] (fun v _ _ _ wx => ∃ (gd : Nat) (D : Dk), v = .pointer (some ⟨gd, 0, none⟩) ∧ Pair w.heap.size wx (LdT gd D) (RfT gy D) ∧ Hid (DkGo D) ∧ Below w.heap.size w wx)
    case first =>
      go_wp2_with fail
      go_loopw [8, 10, 11, 12] (fun v i _ _ wr => ∃ (j gd : Nat) (D : Dk), j ≤ ln ∧ i = .int .i64 j ∧ v = .pointer (some ⟨gd, 0, none⟩) ∧ Pair w.heap.size wr (LdT gd D) (RfT gy D) ∧ Hid (DkGo D) ∧ Below w.heap.size w wr) (fun _ i _ _ _ => ln - (intOf i).toNat)
      case atStart => exact ⟨0, g, D0, Nat.zero_le _, rfl, rfl, p4, GO4, B4⟩
      case round =>
        obtain ⟨j, gd, D, hj, rfl, rfl, pj, GOj, Bj⟩ := hrel
        clear p4 B4 GO4
        by_cases hlt : j < ln ∧ j < 70
        · obtain ⟨h1, h2⟩ := hlt
          have i1 : (j : Int) < ln := by omega
          have i2 : (j : Int) < 70 := by omega
          have i3 : (0 : Int) ≤ j := by omega
          have ht : Int.tmod (j : Int) 11 = ((j % 11 : Nat) : Int) := by
            rw [Int.tmod_eq_emod_of_nonneg (by omega)]
            rfl
          go_upto_if 53 with (fail)
          go_cut [8, 11] (fun v _ wx => ∃ ge : Nat, v = .pointer (some ⟨ge, 0, none⟩) ∧ Pair w.heap.size wx (LdT ge D) (RfT gy D) ∧ Below w.heap.size w wx)
          case first =>
            by_cases h10 : j % 11 = 10
            · rw [h10] at ht
              have ht : Int.tmod (j : Int) 11 = 10 := ht
              go_wp2_with fail
              refine (pr_clone pj (rfT_keeps _ _) Bj.size GOj.out).mono ?_
              rintro e w2 ⟨gn, rfl, p2, b2⟩
              have B2 := below_chain Bj b2
              have k2 := with_keeps (rfT_keeps gy D) (ldT_keeps gn D)
              obtain ⟨q3', r3, c3⟩ := conv_lit w2 w2.heap.size 2 [122, 122] rfl rfl (by decide)
              have q3 : (convert 33 33 (.slice (some ⟨w2.heap.size, 0, none⟩) 2 2)).run Try.prog (w2.alloc (.cells #[.int .u8 122, .int .u8 122] 5)) = _ := q3'
              have p3 := p2.below (ldT_keeps _ _) k2 c3
              have B3 := below_chain B2 c3
              generalize w2.alloc (.cells (cellsOf [122, 122]).toArray 5 ((cellsOf [122, 122]).toArray.size, (cellsOf [122, 122]).toArray.size + 1)) = w3 at *
              clear p2 B2 b2 c3 q3' pj Bj
              go_wp2_with fail
              refine (pr_append p3 k2 B3.size GOj.out (s := nA) (by decide) r3 (by decide)).mono ?_
              rintro e w4 ⟨rfl, p4, b4⟩
              have B4 := B3.trans b4
              have go4 := append_go GOj.out nA [122, 122]
              clear p3 B3 b4 q3 r3
              go_wp2_with fail
              refine (pr_crash p4 k2 B4.size go4 (keep := 0) (by decide)).mono ?_
              rintro e w5 ⟨rfl, p5, b5⟩
              have B5 := B4.trans b5
              have p6 := (pair_drop p5).swap
              clear p4 p5 B4 b5
              go_wp2_with fail
              go_meet
              exact ⟨gn, rfl, p6, B5⟩
            · have ht : ¬ Int.tmod (j : Int) 11 = 10 := by
                rw [ht]
                omega
              go_wp2_with fail
              go_meet
              exact ⟨gd, rfl, pj, Bj⟩
          case rest =>
            obtain ⟨ge, rfl, p1, B1⟩ := hcut
            clear pj Bj ht
            obtain ⟨ba, oa, rfl, _, hca⟩ := HO.out.at_ (by omega)
            have hjo : j < os.length := by rw [HO.out.len]; exact h1
            have hdk := hok _ (opd_get hjo)
            obtain ⟨Ab, nb, kb, x0', x1', x2', x3', x4', rb⟩ := hca j h1
            have x0 := bcell B1 x0'
            have x1 := bcell B1 x1'
            have x2 := bcell B1 x2'
            have x3 := bcell B1 x3'
            have x4 := bcell B1 x4'
            have X2 := Go.Lib.hid x2'
            clear hca x0' x1' x2' x3' x4' hjo
            generalize os.getD j noOpd = d at *
            go_wp2_with fail
            refine (does_any w wc ge D gy D d hdk Ab nb kb rb B1 p1 GOj.out GOj.out.ok).mono ?_
            rintro e w8 ⟨rfl, p8, B8⟩
            rw [beq_self_eq_true]
            have GO8 := Go.Lib.hid (opC_go GOj.out d)
            generalize (opC D d).2 = D8 at *
            have bd : Below w8.heap.size w8 w8.drew := bel_drew (Below.refl _ _)
            have y2 := bcell (below_chain B8 bd) X2.out
            clear p1 B1 x0 x1 x2 x3 x4 rb
            go_wp2_with fail
            go_region_held (fun w' => w'.cell? ⟨ba, oa + j * 5 + 2, none⟩ = some (.string d.name))
              (first | exact y2 | exact bcell b9 y2)
              (first
                | (go_at_call 19; refine (mayL_any d.name w8.drew hdk.name).mono ?_; rintro e w9 ⟨rfl, b9⟩)
                | (go_at_call 20; refine (refMayN_any d.name _ hdk.name).mono ?_; rintro e w' ⟨rfl, rfl⟩))
            have p9 := p8.below (ldT_keeps _ _) (rfT_keeps _ _) (bd.trans b9)
            have B9 := below_chain B8 (bd.trans b9)
            clear p8 B8 bd y2
            go_wp2_with fail
            go_roundw
            case rel => exact ⟨j + 1, ge, D8, by omega, by go_num, rfl, p9, GO8, B9⟩
            case measure => simp [intOf]; omega
        · have hway : ¬ (j : Int) < ln ∨ ((j : Int) < ln ∧ ¬ (j : Int) < 70) := by omega
          clear hlt
          rcases hway with i1 | ⟨i1, i2⟩
          all_goals
            go_wp2_with fail
            go_meet
            exact ⟨gd, D, rfl, pj, GOj, Bj⟩
    case rest =>
      obtain ⟨ge, D, rfl, p1, GO1, B1⟩ := hcut
      clear p4 B4 GO4
      go_wp2_with fail
      refine (pr_list p1 (rfT_keeps _ _) GO1.out).mono ?_
      rintro e w2 ⟨C2, m2, c2, rfl, r2, p2, b2⟩
      have B2 := below_chain B1 b2
      clear p1 B1 b2
      go_wp2_with fail
      refine (rf_list p2.swap (ldT_keeps _ _) GO1.out.ok).mono ?_
      rintro e w3 ⟨C3, m3, c3, rfl, r3, p3, b3⟩
      have B3 := below_chain B2 b3
      have s2 : RdS w3 C2 m2 c2 (names D.fs) := RdC.below r2 b3
      clear p2 B2 b3 r2
      go_wp2_with fail
      refine (refTexts_any C2 C3 m2 m3 c2 c3 _ _ w3 s2 r3).mono ?_
      rintro e w4 ⟨rfl, kk, rfl⟩
      rw [decide_eq_true (rfl : names D.fs = names D.fs)]
      have b4 : Below w3.heap.size w3 (w3.drewN kk) := bel_drewN (Below.refl _ _) kk
      have p4 := (p3.below (rfT_keeps _ _) (ldT_keeps _ _) b4).swap
      have B4 := below_chain B3 b4
      have s4 : RdS (w3.drewN kk) C2 m2 c2 (names D.fs) := RdC.below s2 b4
      generalize w3.drewN kk = w4 at *
      clear p3 B3 b4 s2 r3
      go_wp2_with fail
      refine (pr_used p4 (rfT_keeps _ _) GO1.out).mono ?_
      rintro e w5 ⟨rfl, p5, b5⟩
      have B5 := below_chain B4 b5
      have s5 : RdS w5 C2 m2 c2 (names D.fs) := RdC.below s4 b5
      clear p4 B4 b5 s4
      go_wp2_with fail
      refine (rf_used p5.swap (ldT_keeps _ _) GO1.out.ok).mono ?_
      rintro e w6 ⟨rfl, p6', b6⟩
      have p6 := p6'.swap
      have B6 := below_chain B5 b6
      have s6 : RdS w6 C2 m2 c2 (names D.fs) := RdC.below s5 b6
      generalize usedF D.fs = u at *
      have hm2 := RdC.le s6
      have hlm := RdS.len s6
      unfold maxLen at hm2
      have S6 := Go.Lib.hid s6
      clear p5 p6' B5 b6 s5 s6
      go_wp2_with fail
      go_loopw [15, 16, 17, 18, 19] (fun i _ _ _ _ wr => ∃ (j : Nat), j ≤ m2 ∧ i = .int .i64 j ∧ Pair w.heap.size wr (LdT ge D) (RfT gy D) ∧ Below w6.heap.size w6 wr) (fun i _ _ _ _ _ => m2 - (intOf i).toNat)
      case atStart => exact ⟨0, Nat.zero_le _, rfl, p6, Below.refl _ _⟩
      case round =>
        obtain ⟨j, hj, rfl, pj, Bj⟩ := hrel
        clear p6
        by_cases h1 : j < m2
        · have i1 : (j : Int) < m2 := by omega
          have i3 : (0 : Int) ≤ j := by omega
          obtain ⟨ba, oa, rfl, _, hca⟩ := RdS.at_ (RdC.below S6.out Bj) (by omega)
          have x0 := hca j h1
          have hsz := names_size GO1.out (j := j) (by omega)
          clear hca
          generalize (names D.fs).getD j ByteArray.empty = s at *
          go_wp2_with fail
          refine (pr_read pj (rfT_keeps _ _) GO1.out hsz).mono ?_
          rintro e w7 ⟨C7, m7, c7, rfl, r7, p7, b7⟩
          have B7 := below_chain Bj b7
          have x7 := bcell b7 x0
          clear pj Bj x0
          go_wp2_with fail
          refine (rf_read p7.swap (ldT_keeps _ _) GO1.out.ok s).mono ?_
          rintro e w8 ⟨C8, m8, c8, rfl, r8, p8', b8⟩
          have p8 := p8'.swap
          have B8 := below_chain B7 b8
          have q7 := rd_str (r7.below b8)
          have q8 := rd_str r8
          clear p7 p8' B7 b8 x7 r7 r8
          generalize readB D s = x at *
          generalize readC D s = c at *
          go_wp2_with fail
          go_roundw
          case rel => exact ⟨j + 1, by omega, by go_num, p8, B8⟩
          case measure => simp [intOf]; omega
        · have i1 : ¬ (j : Int) < m2 := by omega
          go_wp2_with fail
          go_ret
          exact ⟨rfl, below_chain B6 Bj⟩
section
variable {H : Type} {enc : TypeId × Value → H}
set_option maxRecDepth 100000 in
theorem plays_main (W : World) (base : Nat) (v0 v1 v2 : Value) {d0 d1 d2 : DataW H} {p0 p1 p2 : List MemPlace} (o0 : Value.okWide Try.prog W .any base 3 v0) (o1 : Value.okWide Try.prog W .any base 22 v1) (o2 : Value.okWide Try.prog W .any base 3 v2)
    (h0 : DataW.Trod enc Try.prog W 0 (fun _ => true) true 3 v0 d0 p0) (h1 : DataW.Trod enc Try.prog W 0 (fun _ => true) true 22 v1 d1 p1) (h2 : DataW.Trod enc Try.prog W 0 (fun _ => true) true 3 v2 d2 p2) :
    Calls Try.prog 3 #[v0, v1, v2] W fun e W' => e = .returned (.bool true) ∧ Below W.heap.size W W' := by
  obtain ⟨z, rfl, hz⟩ := op_i64 Try.underlying3 o0 h0
  obtain ⟨L, ln, lc, os, rfl, ho, hok⟩ := op_ops o1 h1
  obtain ⟨k, rfl, hk⟩ := op_i64 Try.underlying3 o2 h2
  exact plays_walk z hz L ln lc os k hk W ho hok
end

end Go.Proofs.Ytfdhfjmmmjhgbaa.DkWalk

