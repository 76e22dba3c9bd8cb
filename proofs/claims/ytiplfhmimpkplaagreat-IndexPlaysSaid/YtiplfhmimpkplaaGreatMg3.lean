/-
  Contracts of the document's answers of layer 14: Since, Same.
-/
import Derived.Deep.RegionHeld
import Derived.Deep.DeepCutAuto
import Derived.Test.YtiplfhmimpkplaaGreatProg
import Derived.Deep.CutBlock
import Derived.Deep.QuietTactic
import Derived.BigQuiet
import Derived.Test.YtiplfhmimpkplaaGreatMg2
namespace Go.Proofs.YtiplfhmimpkplaaGreat.IxWalk
open Go.RowKit Go.Proofs.YtiplfhmimpkplaaGreat.MemRow Go.Proofs.YtiplfhmimpkplaaGreat.Ev Go.Proofs.YtiplfhmimpkplaaGreat.NameMath Go.Proofs.YtiplfhmimpkplaaGreat.NameWalk Go.Proofs.YtiplfhmimpkplaaGreat.EvWalk Go.Proofs.YtiplfhmimpkplaaGreat.NumMem Go.Proofs.YtiplfhmimpkplaaGreat.Qu Go.Proofs.YtiplfhmimpkplaaGreat.QuWalk Go.Proofs.YtiplfhmimpkplaaGreat.SmWalk Go.Proofs.YtiplfhmimpkplaaGreat.BtWalk Go.Proofs.YtiplfhmimpkplaaGreat.DkWalk

set_option maxHeartbeats 8000000 in
set_option maxRecDepth 100000 in
theorem refSince14_any (W0 : World) (g : Nat) (es : List Ev) (G : Nat → Prop) (v : Value) (q : List Cl) (a : Int) (w : World) (h : RyT W0 g es w G) (hW : Below W0.heap.size W0 w) (hl : es.length ≤ 400) (hv : IsQ w v q) :
    Calls Tryz.prog 29 #[.pointer (some ⟨g, 0, none⟩), v, .int .i64 a] w fun e w' => e = .returned (.bool (sinceF es q a)) ∧ Below w.heap.size w w' := by
  obtain ⟨C, nC, cC, rfl, rC⟩ := hv
  have hkeep := ryT_keeps W0 g es
  obtain ⟨n, hn⟩ : ∃ n, es.length = n := ⟨_, rfl⟩
  obtain ⟨A, c, k0⟩ : ∃ A c, w.cell? ⟨g, 0, none⟩ = some (.slice A n c) := by
    obtain ⟨A, m, c, hh, hr, _⟩ := h
    have e : m = n := by have := hr.len; rw [rec_len] at this; omega
    exact ⟨A, c, by rw [cell_of_row w g 0 _ _ _ hh, ← e]; rfl⟩
  have al : Below w.heap.size w (w.alloc (.cells #[.slice C nC cC] 25)) := (Below.refl _ _).alloc (Nat.le_refl _) _
  have bx := heap_alloc_new w (.cells #[.slice C nC cC] 25)
  generalize hR : sinceF es q a = R
  have HR := Go.Lib.hid hR
  clear hR
  go_enter Tryz.func29, Tryz.ntmps29
  go_upto_region 1 with (fail)
  generalize w.alloc (.cells #[.slice C nC cC] 25) = w1 at *
  have x0 : w1.cell? ⟨w.heap.size, 0, none⟩ = some (.slice C nC cC) := by rw [cell_of_row w1 w.heap.size 0 _ _ _ bx]; rfl
  have k1 := bcell al k0
  have bd : Below w1.heap.size w1 w1.drew := ⟨rfl, rfl, rfl, Nat.le_refl _, fun _ _ => rfl⟩
  have b1 := below_chain al bd
  have hy := hkeep.keep h b1.size fun k hk => b1.block k (hkeep.lt h k hk)
  have CQ := Go.Lib.hid (refQry_any W0 g es G (.agg #[.slice C nC cC]) q (n : Int) w1.drew hy (below_chain hW b1) hl ⟨C, nC, cC, rfl, rC.below b1⟩)
  clear h hy hkeep
  go_region_held (fun w' => w'.cell? ⟨w.heap.size, 0, none⟩ = some (.slice C nC cC) ∧ w'.cell? ⟨g, 0, none⟩ = some (.slice A n c))
    (first | exact ⟨x0, k1⟩ | exact ⟨bcell b6 x0, bcell b6 k1⟩)
    (first | (go_at_call 27; refine (CQ.out).mono ?_; rintro e w6 ⟨B, m, cb, rfl, r6, b6'⟩; have b6 := below_chain bd b6'))
  have B6 := below_chain al b6
  have hm := tell_len (matchQ q) es (n : Int)
  have hml := r6.len
  have hm2 : m ≤ 400 := by omega
  have HL := since_last es q a
  rw [HR.out, hn] at HL
  unfold qryF at HL
  clear HR CQ k0 k1 x0 bx b1 bd b6 b6' al rC
  by_cases h0 : 0 < m
  · have i0 : (0 : Int) < m := by omega
    have n1 : IntKind.i64.wrap ((m : Int) - 1) = ((m - 1 : Nat) : Int) := by rw [IntWalk.i64_in _ (by omega)]; omega
    obtain ⟨bb, ob, T, nT, cT, F, nF, cF, rfl, y0, _⟩ := r6.rdo.at_ (j := m - 1) (by omega)
    have hlast : (tellF (matchQ q) es (n : Int)).getLast? = some ((tellF (matchQ q) es (n : Int)).getD (m - 1) noRc) := by
      rw [List.getLast?_eq_getElem?, hml, List.getD_eq_getElem?_getD, List.getElem?_eq_getElem (by omega)]
      rfl
    rw [hlast] at HL
    simp only at HL
    have HL2 := Go.Lib.hid HL
    clear HL
    have j1 : ((m - 1 : Nat) : Int) < m := by omega
    have hd : decide ((m : Int) > 0) = true := decide_eq_true i0
    clear r6 hm hml hlast h0 i0
    generalize (tellF (matchQ q) es (n : Int)).getD (m - 1) noRc = x at *
    generalize m - 1 = t at *
    obtain ⟨xp, xv, xe⟩ := x
    simp only at y0
    rename_i yrest
    clear yrest
    by_cases hlt : a < xp
    · have e := HL2.out
      rw [decide_eq_true hlt] at e
      subst e
      go_wp2_with fail
      go_ret
      exact ⟨rfl, B6⟩
    · have e := HL2.out
      rw [decide_eq_false hlt] at e
      subst e
      go_wp2_with fail
      go_ret
      exact ⟨by simp, B6⟩
  · obtain rfl : m = 0 := by omega
    have e0 : tellF (matchQ q) es (n : Int) = [] := List.eq_nil_of_length_eq_zero hml
    rw [e0] at HL
    simp only [List.getLast?_nil] at HL
    subst HL
    clear r6 hm hml e0
    go_wp2_with fail
    go_ret
    exact ⟨by simp, B6⟩

set_option maxHeartbeats 8000000 in
set_option maxRecDepth 100000 in
theorem refSame14_any (A B : Option Addr) (n m ca cb : Nat) (rs : List Rc) (w : World) (ha : RdRc w A n ca rs) (hb : RdRc w B m cb rs) :
    Calls Tryz.prog 11 #[.slice A n ca, .slice B m cb] w fun e w' => e = .returned (.bool true) ∧ Below w.heap.size w w' := by
  obtain rfl : n = m := ha.len.symm.trans hb.len
  have hn := ha.le
  unfold maxLen at hn
  go_enter Tryz.func11, Tryz.ntmps11
  go_wp2_with fail
  go_loopw [5, 6] (fun i _ wr => ∃ j : Nat, j ≤ n ∧ i = .int .i64 j ∧ Below w.heap.size w wr) (fun i _ _ => n - (intOf i).toNat)
  case atStart => exact ⟨0, Nat.zero_le _, rfl, Below.refl _ _⟩
  case round =>
    obtain ⟨j, hj, rfl, hw⟩ := hrel
    by_cases hlt : j < n
    · obtain ⟨ba, oa, rfl, _, ka⟩ := (ha.below hw).at_ (by omega)
      obtain ⟨bb, ob, rfl, _, kb⟩ := (hb.below hw).at_ (by omega)
      have i1 : (j : Int) < n := by omega
      have kx := ka j hlt
      have ky := kb j hlt
      clear ka kb
      generalize rs.getD j noRc = x at *
      obtain ⟨xp, xv, ⟨xs, xt, xg, xf⟩⟩ := x
      obtain ⟨A1, n1, k1, B1, m1, q1, x0, x1, x2, x3, x4, x5, rx1, rx2⟩ := kx
      obtain ⟨A2, n2, k2, B2, m2, q2, y0, y1, y2, y3, y4, y5, ry1, ry2⟩ := ky
      simp only at x0 x1 x2 x3 x4 x5 y0 y1 y2 y3 y4 y5 rx1 rx2 ry1 ry2
      have b0 : Below wr.heap.size wr wr.drew := ⟨rfl, rfl, rfl, Nat.le_refl _, fun _ _ => rfl⟩
      have vx : IsEv wr.drew (.agg #[.string xs, .string xt, .slice A1 n1 k1, .slice B1 m1 q1]) ⟨xs, xt, xg, xf⟩ := ⟨_, _, _, _, _, _, rfl, RdC.below rx1 b0, RdC.below rx2 b0⟩
      have vy : IsEv wr.drew (.agg #[.string xs, .string xt, .slice A2 n2 k2, .slice B2 m2 q2]) ⟨xs, xt, xg, xf⟩ := ⟨_, _, _, _, _, _, rfl, RdC.below ry1 b0, RdC.below ry2 b0⟩
      have CS := Go.Lib.hid (refSame_any _ _ ⟨xs, xt, xg, xf⟩ ⟨xs, xt, xg, xf⟩ wr.drew vx vy)
      have HE := Go.Lib.hid (sameB_refl ⟨xs, xt, xg, xf⟩)
      clear rx1 rx2 ry1 ry2 vx vy
      generalize sameB ⟨xs, xt, xg, xf⟩ ⟨xs, xt, xg, xf⟩ = S at *
      obtain rfl := HE.out
      go_upto_region 6 with (fail)
      go_region_held (fun w' => w'.cell? ⟨ba, oa + j * 6 + 2, none⟩ = some (.string xs) ∧ w'.cell? ⟨ba, oa + j * 6 + 3, none⟩ = some (.string xt) ∧ w'.cell? ⟨ba, oa + j * 6 + 4, none⟩ = some (.slice A1 n1 k1) ∧ w'.cell? ⟨ba, oa + j * 6 + 5, none⟩ = some (.slice B1 m1 q1) ∧ w'.cell? ⟨bb, ob + j * 6 + 2, none⟩ = some (.string xs) ∧ w'.cell? ⟨bb, ob + j * 6 + 3, none⟩ = some (.string xt) ∧ w'.cell? ⟨bb, ob + j * 6 + 4, none⟩ = some (.slice A2 n2 k2) ∧ w'.cell? ⟨bb, ob + j * 6 + 5, none⟩ = some (.slice B2 m2 q2))
        (first | exact ⟨x2, x3, x4, x5, y2, y3, y4, y5⟩ | exact ⟨bcell b8 x2, bcell b8 x3, bcell b8 x4, bcell b8 x5, bcell b8 y2, bcell b8 y3, bcell b8 y4, bcell b8 y5⟩)
        (first | (go_at_call 21; refine (CS.out).mono ?_; rintro e w8 ⟨rfl, bb8⟩; have b8 := below_chain b0 bb8))
      have B8 := below_chain hw b8
      have z0 := bcell b8 x0
      have z1 := bcell b8 x1
      have u0 := bcell b8 y0
      have u1 := bcell b8 y1
      clear CS b0 b8 bb8 x0 x1 x2 x3 x4 x5 y0 y1 y2 y3 y4 y5 HE hw
      have i2 : (xp != xp) = false := by simp
      have i3 : (xv != xv) = false := by simp
      go_upto_region 7 with (fail)
      go_quiet (fail)
      go_wp2_with fail
      go_roundw
      case rel => exact ⟨j + 1, by omega, by go_num, below_chain B8 ⟨rfl, rfl, rfl, Nat.le_refl _, fun _ _ => rfl⟩⟩
      case measure => simp [intOf]; omega
    · obtain rfl : n = j := by omega
      have i1 : ¬ (n : Int) < n := by omega
      go_wp2_with fail
      go_ret
      exact ⟨rfl, hw⟩

end Go.Proofs.YtiplfhmimpkplaaGreat.IxWalk

/-
  Contracts of the document's answers of layer 10: May.
-/
namespace Go.Proofs.YtiplfhmimpkplaaGreat.BtWalk
open Go.RowKit Go.Proofs.YtiplfhmimpkplaaGreat.MemRow Go.Proofs.YtiplfhmimpkplaaGreat.Ev Go.Proofs.YtiplfhmimpkplaaGreat.NameMath Go.Proofs.YtiplfhmimpkplaaGreat.NameWalk Go.Proofs.YtiplfhmimpkplaaGreat.EvWalk Go.Proofs.YtiplfhmimpkplaaGreat.NumMem
theorem mayX_none {a : Int} {es : List Ev} (h : es.length = 0) : mayX ⟨a, es⟩ = 22 := by unfold mayX; rw [if_pos h]
theorem mayX_big {a : Int} {es : List Ev} (h : 16 < es.length) : mayX ⟨a, es⟩ = 3 := by unfold mayX; simp only; rw [if_neg (by omega), if_pos h]
theorem mayX_ev {a : Int} {es : List Ev} (h0 : es.length ≠ 0) (h : ¬ 16 < es.length) (hm : mayEs es ≠ 0) : mayX ⟨a, es⟩ = mayEs es := by unfold mayX; simp only; rw [if_neg h0, if_neg h, if_pos hm]
theorem mayX_pos {a : Int} {es : List Ev} {n : Nat} (hl : es.length = n) (h0 : n ≠ 0) (h : ¬ 16 < n) (hm : mayEs es = 0) : mayX ⟨a, es⟩ = if a < 0 ∨ 1048576 - (n : Int) < a then 1 else 0 := by
  unfold mayX
  simp only
  rw [hl, if_neg h0, if_neg h, if_neg (by simpa using hm)]

set_option maxHeartbeats 4000000 in
set_option maxRecDepth 100000 in
theorem refMayX_any (v : Value) (x : Bat) (w : World) (hv : IsB w v x) (hok : BOk x) :
    Calls Tryz.prog 19 #[v] w fun e w' => e = .returned (.int .i64 (mayX x)) ∧ Below w.heap.size w w' := by
  obtain ⟨A, n, ca, rfl, rE⟩ := hv
  obtain ⟨a, es⟩ := x
  simp only at rE
  have oke := hok.evs
  have oka := hok.a
  simp only at oke oka
  have LE := Go.Lib.hid rE.len
  have hn := rE.le
  unfold maxLen at hn
  have s1 := BoxB.new w (.int .i64 a) (.slice A n ca)
  have H1 := Go.Lib.hid (fun h => mayX_none (a := a) (es := es) h)
  have H2 := Go.Lib.hid (fun h => mayX_big (a := a) (es := es) h)
  have HX := Go.Lib.hid (fun h0 h16 hm => mayX_pos (a := a) LE.out h0 h16 hm)
  have HE := Go.Lib.hid (fun h0 h16 hm => mayX_ev (a := a) (es := es) h0 h16 hm)
  clear hok
  generalize mayX ⟨a, es⟩ = M at *
  go_enter Tryz.func19, Tryz.ntmps19
  go_upto_region 1 with (fail)
  generalize w.alloc (.cells #[.int .i64 a, .slice A n ca] 45) = w1 at *
  have k1 := s1.eq.c1
  by_cases h0 : n = 0
  · subst h0
    obtain rfl : M = 22 := H1.out LE.out
    clear H1 H2 HX HE
    go_wp2_with fail
    go_ret
    exact ⟨rfl, s1.bel⟩
  have i0 : ((n : Int) == 0) = false := by rw [beq_eq_false_iff_ne]; omega
  by_cases h16 : 16 < n
  · obtain rfl : M = 3 := H2.out (by rw [LE.out]; exact h16)
    clear H1 H2 HX HE
    have i1 : (16 : Int) < n := by omega
    go_wp2_with fail
    go_ret
    exact ⟨rfl, s1.bel⟩
  have i1 : ¬ (16 : Int) < n := by omega
  have H0 := Go.Lib.hid h0
  replace HX := Go.Lib.hid (fun hm => HX.out h0 h16 hm)
  replace HE := Go.Lib.hid (fun hm => HE.out (by rw [LE.out]; exact h0) (by rw [LE.out]; exact h16) hm)
  clear h0 H1 H2
  go_wp2_with fail
  go_loopw [3, 4] (fun i _ wr => ∃ j : Nat, j ≤ n ∧ i = .int .i64 j ∧ Hid (mayEs (es.take j) = 0) ∧ BoxB wr w (.int .i64 a) (.slice A n ca)) (fun i _ _ => n - (intOf i).toNat)
  case atStart => exact ⟨0, Nat.zero_le _, rfl, Go.Lib.hid (by simp [mayEs]), s1⟩
  case round =>
    obtain ⟨j, hj, rfl, HJ, sr⟩ := hrel
    clear s1 k1
    have k0 := sr.eq.c0
    have k1 := sr.eq.c1
    by_cases hlt : j < n
    · obtain ⟨b, o, rfl, _, kt⟩ := rE.at_ (by omega)
      obtain ⟨A1, n1, c1, B1, m1, d1, x0, x1, x2, x3, r1, r2⟩ := (kt j hlt).below sr.bel
      have i2 : (j : Int) < n := by omega
      have hjl : j < es.length := by rw [LE.out]; exact hlt
      have hoe := oke _ (evsGet hjl)
      have HA := Go.Lib.hid (mayEs_at es j HJ.out hjl)
      have HT := Go.Lib.hid (mayEs_take es j HJ.out hjl)
      clear kt hjl
      generalize es.getD j noEv = ev at *
      have iv : IsEv wr (.agg #[.string ev.s, .string ev.t, .slice A1 n1 c1, .slice B1 m1 d1]) ev := ⟨_, _, _, _, _, _, rfl, r1, r2⟩
      go_wp2_with fail
      refine (refMayE_any _ ev wr iv hoe).mono ?_
      rintro e w6 ⟨rfl, b6⟩
      have s6 := sr.below b6
      clear x0 x1 x2 x3 r1 r2 iv k0 k1 sr b6
      by_cases he : mayE ev = 0
      · have HT2 := Go.Lib.hid (HT.out he)
        rw [he]
        clear he HT HA
        go_wp2_with fail
        go_roundw
        case rel => exact ⟨j + 1, by omega, by go_num, HT2, s6⟩
        case measure => simp [intOf]; omega
      · have hb : (mayE ev != 0) = true := by rw [bne_iff_ne]; exact he
        have hme := HA.out he
        have hM : M = mayE ev := by rw [HE.out (by rw [hme]; exact he), hme]
        rw [← hM] at hb ⊢
        clear HA HT HE HX hme he hM
        go_wp2_with fail
        go_ret
        exact ⟨rfl, s6.bel⟩
    · obtain rfl : n = j := by omega
      have hes : es.take n = es := List.take_of_length_le (by rw [LE.out]; exact Nat.le_refl _)
      have HM := Go.Lib.hid (HX.out (by rw [← hes]; exact HJ.out))
      clear hes HX HE HJ
      by_cases ha : a < 0
      · obtain rfl : M = 1 := by rw [HM.out, if_pos (.inl ha)]
        clear HM
        go_wp2_with fail
        go_ret
        exact ⟨rfl, sr.bel⟩
      · by_cases hb : 1048576 - (n : Int) < a
        · obtain rfl : M = 1 := by rw [HM.out, if_pos (.inr hb)]
          clear HM
          go_wp2_with fail
          go_ret
          exact ⟨rfl, sr.bel⟩
        · obtain rfl : M = 0 := by rw [HM.out, if_neg (by omega)]
          clear HM
          go_wp2_with fail
          go_ret
          exact ⟨rfl, sr.bel⟩

end Go.Proofs.YtiplfhmimpkplaaGreat.BtWalk

/-
  A drawing region by hand: an operation that is taken first, its slot named.
-/
namespace Go.Proofs.YtiplfhmimpkplaaGreat.HeldAt
open Go


theorem take_at {P : Program} {ops : Array Oper} {Q : Exit → Act → World → Prop} {md : Region.Mode} {S : World → Prop} {i d : Nat} {oi : Oper} {v : Value} {fuel : Nat} {listed : Array Bool} {a : Act} {w : World} (hi : ops[i]? = some oi) (hd : oi.dst = some d)
    (hs : Region.noSelect ops = true) (hf : Region.free md ops listed i = true) (hr : (Region.ready md ops listed).contains i = true)
    (hQ : ∀ c a w, Q (.panic c) (a.put oi.dst v) w → Q (.panic c) a w) (hy : YieldsIf P ops S oi v a) (hS : S w)
    (h : wpAnyH P md ops Q S fuel (listed.setIfInBounds i true) (a.put (some d) v) w) : wpAnyH P md ops Q S (fuel + 1) listed a w :=
  wpAnyH_take hi hs hf hr hQ hy hS (by rw [hd]; exact h)

/-- From here on a condition that says more: cells that an operation of the region has written. -/
theorem wpAnyH_more {P : Program} {ops : Array Oper} {Q : Exit → Act → World → Prop} {md : Region.Mode} {S S' : World → Prop} (hs : ∀ w, S' w → S w) : ∀ {fuel : Nat} {listed : Array Bool} {a : Act} {w : World}, wpAnyH P md ops Q S' fuel listed a w → wpAnyH P md ops Q S fuel listed a w
  | 0, _, _, _, h => h
  | _ + 1, _, _, _, h => ⟨h.1, fun i hi => wpOp_mono (fun _ w' h' => ⟨hs w' h'.1, wpAnyH_more hs h'.2⟩) (h.2 i hi)⟩

end Go.Proofs.YtiplfhmimpkplaaGreat.HeldAt

/-
  Contracts of the document's answers of layer 14: Add, but for the region where the index takes a record.
-/
namespace Go.Proofs.YtiplfhmimpkplaaGreat.IxWalk
open Go.Proofs.YtiplfhmimpkplaaGreat.HeldAt Go.RowKit Go.Proofs.YtiplfhmimpkplaaGreat.MemRow Go.Proofs.YtiplfhmimpkplaaGreat.Ev Go.Proofs.YtiplfhmimpkplaaGreat.NameMath Go.Proofs.YtiplfhmimpkplaaGreat.NameWalk Go.Proofs.YtiplfhmimpkplaaGreat.EvWalk Go.Proofs.YtiplfhmimpkplaaGreat.NumMem Go.Proofs.YtiplfhmimpkplaaGreat.Qu Go.Proofs.YtiplfhmimpkplaaGreat.QuWalk Go.Proofs.YtiplfhmimpkplaaGreat.SmWalk Go.Proofs.YtiplfhmimpkplaaGreat.BtWalk Go.Proofs.YtiplfhmimpkplaaGreat.DkWalk

/-- What stands while a batch is added: what was there (world w1) but for the box g; the box's row; the row of what is told. -/
structure AdR (W0 w1 : World) (G : Nat → Prop) (g : Nat) (wr : World) (A : Option Addr) (n c : Nat) (es : List Ev) (B : Option Addr) (m cb : Nat) (rs : List Rc) : Prop where
  ch : Ch (fun k => k = g) w1 wr
  box : wr.heap[g]? = some (.cells #[.slice A n c] 34 (0, 0))
  row : RdO W0 wr A n c (recF es)
  out : OwnR W0 wr w1.heap.size B m cb rs
  at_ : ∀ a, A = some a → (G a.block ∨ w1.heap.size ≤ a.block) ∧ a.block ≠ g ∧ a.block < wr.heap.size ∧ ∀ b, B = some b → a.block ≠ b.block
  gl : g < w1.heap.size
section
variable {W0 w1 wr w' : World} {G : Nat → Prop} {g : Nat} {A B : Option Addr} {n c m cb : Nat} {es : List Ev} {rs : List Rc}
theorem AdR.gr (h : AdR W0 w1 G g wr A n c es B m cb rs) : g < wr.heap.size := (Array.getElem?_eq_some_iff.1 h.box).1
theorem AdR.below (h : AdR W0 w1 G g wr A n c es B m cb rs) (hb : Below wr.heap.size wr w') : AdR W0 w1 G g w' A n c es B m cb rs :=
  ⟨h.ch.then_below hb, (hb.block g h.gr).trans h.box, h.row.below hb, h.out.below hb, fun a ha => by
    obtain ⟨h1, h2, h3, h4⟩ := h.at_ a ha
    exact ⟨h1, h2, Nat.lt_of_lt_of_le h3 hb.size, h4⟩, h.gl⟩
theorem AdR.c0 (h : AdR W0 w1 G g wr A n c es B m cb rs) : wr.cell? ⟨g, 0, none⟩ = some (.slice A n c) := by rw [cell_of_row wr g 0 _ _ _ h.box]; rfl
theorem AdR.fz (h : AdR W0 w1 G g wr A n c es B m cb rs) : wr.frozen? ⟨g, 0, none⟩ = false := by simp [World.frozen?, h.box]
theorem AdR.len (h : AdR W0 w1 G g wr A n c es B m cb rs) : es.length = n := by have := h.row.len; rw [rec_len] at this; exact this
theorem AdR.ry (h : AdR W0 w1 G g wr A n c es B m cb rs) : RyT W0 g es wr (fun k => k = g ∨ ∃ a, A = some a ∧ k = a.block) :=
  ⟨A, n, c, h.box, h.row, .inl rfl, fun a ha => ⟨.inr ⟨a, ha, rfl⟩, (h.at_ a ha).2.1⟩, fun k hk => by
    rcases hk with rfl | ⟨a, ha, rfl⟩
    · exact h.gr
    · exact (h.at_ a ha).2.2.1⟩
/-- What is there, in the end. -/
theorem AdR.fin (h : AdR W0 w1 G g wr A n c es B m cb rs) (hG : ∀ k, G k → k < w1.heap.size) (hg : G g) : RyT W0 g es wr (up G w1 wr) :=
  ⟨A, n, c, h.box, h.row, .inl hg, fun a ha => by
    obtain ⟨h1, h2, h3, _⟩ := h.at_ a ha
    refine ⟨?_, h2⟩
    rcases h1 with h1 | h1
    · exact .inl h1
    · exact .inr ⟨h1, h3⟩, fun k hk => up_lt hG h.ch.size hk⟩
/-- The index takes a record: a new row, and the box is written. -/
theorem AdR.took {e : Ev} {w9 : World} {A9 : Option Addr} {c9 : Nat} {cs : List Value} {T F : Option Addr} {nT cT nF cF : Nat} (h : AdR W0 w1 G g wr A n c es B m cb rs) (hr : RcsO W0 (recF es) cs) (hT : RdS W0 T nT cT e.tags) (hF : RdF W0 F nF cF e.fs)
    (o9 : OwnC 6 w9 wr.heap.size 51 A9 (n + 1) c9 (cs ++ rcV (nextR es e) T nT cT F nF cF)) (b9 : Below wr.heap.size wr w9) : AdR W0 w1 G g (w9.setCell ⟨g, 0, none⟩ (.slice A9 (n + 1) c9)) A9 (n + 1) c9 (es ++ [e]) B m cb rs := by
  have hlt := fun a (ha : A9 = some a) => OwnC.lt o9 a ha
  have hgr := h.gr
  have hs : (w9.setCell ⟨g, 0, none⟩ (.slice A9 (n + 1) c9)).heap.size = w9.heap.size := by simp [World.setCell]
  have far : ∀ k, k ≠ g → (w9.setCell ⟨g, 0, none⟩ (.slice A9 (n + 1) c9)).heap[k]? = w9.heap[k]? := fun k hk => by
    have : g ≠ k := fun e => hk e.symm
    simp [World.setCell, Array.getElem?_modify, this]
  have h9 := h.below b9
  refine ⟨h9.ch.then_grown (boxGrown w9 g 0 _) (fun r e => by injection e with e; exact .inl (.inl e.symm)), ?_, ?_, ?_, fun a ha => ?_, h.gl⟩
  · simp only [World.setCell, Array.getElem?_modify, h9.box]
    rfl
  · refine ⟨cs ++ rcV (nextR es e) T nT cT F nF cF, ?_, by rw [rec_len, List.length_append, h.len]; rfl, ?_⟩
    · refine (OwnC.rd o9).keep fun b o hA i v hc => ?_
      have e := far b (by have := (hlt _ hA).1; simp only at this; omega)
      exact (World.cell?_of_block (w := w9) (a := ⟨b, o + i, none⟩) e).trans hc
    · rw [rec_snoc]
      exact RcsO.snoc (r := nextR es e) hT hF _ _ hr
  · obtain ⟨ds, o, hl, hc⟩ := h9.out
    refine ⟨ds, OwnC.grown o (boxGrown w9 g 0 _) (fun a ha e => ?_), hl, hc⟩
    injection e with e
    have := (OwnC.lt o a ha).1
    have := h.gl
    omega
  · obtain ⟨l1, l2⟩ := hlt a ha
    have := h.ch.size
    refine ⟨.inr (by omega), by omega, by omega, fun b hb e => ?_⟩
    obtain ⟨ds, o, _⟩ := h.out
    have := (OwnC.lt o b hb).2
    omega
/-- What is told takes it, too. -/
theorem AdR.told {e : Rc} {w9 : World} {B9 : Option Addr} {c9 : Nat} {ds : List Value} {T F : Option Addr} {nT cT nF cF : Nat} (h : AdR W0 w1 G g wr A n c es B m cb rs) (o : OwnC 6 wr w1.heap.size 51 B m cb ds) (hl : rs.length = m) (hc : RcsO W0 rs ds) (hT : RdS W0 T nT cT e.e.tags) (hF : RdF W0 F nF cF e.e.fs)
    (o9 : OwnC 6 w9 w1.heap.size 51 B9 (m + 1) c9 (ds ++ rcV e T nT cT F nF cF)) (g9 : wr.grownBy w9 (B.map (·.block))) (loc : B9.map (·.block) = B.map (·.block) ∨ B9.map (·.block) = some wr.heap.size) : AdR W0 w1 G g w9 A n c es B9 (m + 1) c9 (rs ++ [e]) := by
  have low := fun r e => rowLow o (r := r) e
  have hne : some g ≠ B.map (·.block) := fun e => by have := low g e.symm; have := h.gl; omega
  refine ⟨h.ch.then_grown g9 (fun r e => .inl (.inr ⟨low r e, by cases hB : B with | none => rw [hB] at e; cases e | some b => rw [hB] at e; injection e with e; rw [← e]; exact (OwnC.lt o b hB).2⟩)), (g9.block g h.gr hne).trans h.box, ?_, ⟨_, o9, by rw [List.length_append, hl]; rfl, RcsO.snoc hT hF _ _ hc⟩, fun a ha => ?_, h.gl⟩
  · obtain ⟨cs, r, l, k⟩ := h.row
    refine ⟨cs, RdC.grown r g9 (fun b o hA e => ?_), l, k⟩
    obtain ⟨_, _, _, h4⟩ := h.at_ _ hA
    cases hB : B with
    | none => rw [hB] at e; cases e
    | some b' =>
      rw [hB] at e
      injection e with e
      exact h4 b' hB e
  · obtain ⟨h1, h2, h3, h4⟩ := h.at_ a ha
    refine ⟨h1, h2, Nat.lt_of_lt_of_le h3 g9.size, fun b hb e => ?_⟩
    rcases loc with hh | hh
    · cases hB : B with
      | none => rw [hb, hB] at hh; cases hh
      | some b' =>
        rw [hb, hB] at hh
        injection hh with hh
        exact h4 b' hB (by rw [e]; exact hh)
    · rw [hb] at hh
      injection hh with hh
      simp only at hh
      omega
end

end Go.Proofs.YtiplfhmimpkplaaGreat.IxWalk

/-
  Contracts of the document's answers of layer 14: Add.
-/
namespace Go.Proofs.YtiplfhmimpkplaaGreat.IxWalk
open Go.Proofs.YtiplfhmimpkplaaGreat.HeldAt Go.RowKit Go.Proofs.YtiplfhmimpkplaaGreat.MemRow Go.Proofs.YtiplfhmimpkplaaGreat.Ev Go.Proofs.YtiplfhmimpkplaaGreat.NameMath Go.Proofs.YtiplfhmimpkplaaGreat.NameWalk Go.Proofs.YtiplfhmimpkplaaGreat.EvWalk Go.Proofs.YtiplfhmimpkplaaGreat.NumMem Go.Proofs.YtiplfhmimpkplaaGreat.Qu Go.Proofs.YtiplfhmimpkplaaGreat.QuWalk Go.Proofs.YtiplfhmimpkplaaGreat.SmWalk Go.Proofs.YtiplfhmimpkplaaGreat.BtWalk Go.Proofs.YtiplfhmimpkplaaGreat.DkWalk

theorem newR_step (es fs : List Ev) {j : Nat} (h : j < fs.length) : newR es (fs.take (j + 1)) = newR es (fs.take j) ++ [nextR (es ++ fs.take j) (fs.getD j noEv)] := by rw [evsTake fs j h, newR_snoc]
set_option maxHeartbeats 16000000 in
set_option maxRecDepth 100000 in
theorem refAdd14_any (W0 : World) (g : Nat) (es : List Ev) (G : Nat → Prop) (x : Bat) (C : Option Addr) (nC cC lo : Nat) (w : World) (h : RyT W0 g es w G) (hW : Below W0.heap.size W0 w) (hv : OwnO W0 w lo C nC cC x.es) (hok : BOk x) (hl : es.length + x.es.length ≤ 400) :
    Calls Tryz.prog 10 #[.pointer (some ⟨g, 0, none⟩), .agg #[.int .i64 x.a, .slice C nC cC]] w fun e w' => ∃ B m cb, e = .returned (.tuple #[.slice B m cb, .int .i64 (addB es x).1]) ∧ OwnR W0 w' w.heap.size B m cb (addB es x).2.1 ∧ RyT W0 g (addB es x).2.2 w' (up G w w') ∧ Ch (fun k => k = g) w w' := by
  obtain ⟨a, bes⟩ := x
  simp only at hv hl
  have hisb := hv.isb (a := a) hW
  obtain ⟨dc, oC, lC, hdc⟩ := hv
  have rC := OwnC.rd oC
  have hyk := ryT_keeps W0 g es
  obtain ⟨A, n, c, hh, hr, hg, hA, hGl⟩ := h
  have hn : es.length = n := by have := hr.len; rw [rec_len] at this; exact this
  have hgl := hGl g hg
  have hCg : ∀ b o, C = some ⟨b, o, none⟩ → b ≠ g := fun b o hC => own_not oC hh (by decide) _ hC
  have al : Below w.heap.size w (w.alloc (.cells #[.int .i64 a, .slice C nC cC] 45)) := (Below.refl _ _).alloc (Nat.le_refl _) _
  have bx := BxAt.new w (.int .i64 a) (.slice C nC cC)
  generalize hR : addB es ⟨a, bes⟩ = R
  have HR := Go.Lib.hid hR
  clear hR
  go_enter Tryz.func10, Tryz.ntmps10
  go_upto_region 1 with (fail)
  generalize w.alloc (.cells #[.int .i64 a, .slice C nC cC] 45) = w1 at *
  have hw1 : w.heap.size < w1.heap.size := bx.lt
  have q0 := bx.c0
  have q1 := bx.c1
  have CM := Go.Lib.hid (refMayX_any (.agg #[.int .i64 a, .slice C nC cC]) ⟨a, bes⟩ w1 (hisb.below al) hok)
  go_wp2_with fail
  refine (CM.out).mono ?_
  rintro e w2 ⟨rfl, b2⟩
  have B2 := below_chain al b2
  have hw2 : w1.heap.size ≤ w2.heap.size := b2.size
  have q0 := bcell b2 q0
  have q1 := bcell b2 q1
  have bx2 := bx.below b2
  have h2 : w2.heap[g]? = _ := (B2.block g hgl).trans hh
  have r2 := hr.below B2
  have k0 : w2.cell? ⟨g, 0, none⟩ = some (.slice A n c) := by rw [cell_of_row w2 g 0 _ _ _ h2]; rfl
  have hG2 : ∀ k, G k → k < w2.heap.size := fun k hk => by have := hGl k hk; omega
  have HB2 := Go.Lib.hid B2
  have ry2 : RyT W0 g es w2 (up G w w2) := ⟨A, n, c, h2, r2, .inl hg, fun a ha => ⟨.inl (hA a ha).1, (hA a ha).2⟩, fun k hk => up_lt hGl B2.size hk⟩
  have RY2 := Go.Lib.hid ry2
  have ch2 := Go.Lib.hid (Ch.of_below (F := fun k => k = g) B2)
  have oC2 := oC.below B2
  have HOC := Go.Lib.hid oC2
  have rC2 := RdC.below rC B2
  have ad0 : ∀ q, AdR W0 w2 G g ((w2.drewN q).alloc (.cells #[] 51)) A n c es (some ⟨(w2.drewN q).heap.size, 0, none⟩) 0 0 [] := fun q => by
    have bq : Below w2.heap.size w2 (w2.drewN q) := ⟨rfl, rfl, rfl, Nat.le_refl _, fun _ _ => rfl⟩
    have al2 := bq.alloc (Nat.le_refl _) (.cells #[] 51)
    exact ⟨Ch.of_below al2, (al2.block g (by omega)).trans h2, r2.below al2, OwnR.empty W0 (w2.drewN q) (Nat.le_refl _), fun a ha => by
      have h3 := hG2 _ (hA a ha).1
      exact ⟨.inl (hA a ha).1, (hA a ha).2, by simp only [World.alloc, Array.size_push]; show a.block < w2.heap.size + 1; omega, fun b hb e => by injection hb with hb; subst hb; have e : a.block = w2.heap.size := e; omega⟩, by omega⟩
  have AD0 := Go.Lib.hid ad0
  clear ad0
  clear al bx CM hisb hh hr B2 b2 ry2 r2 h2 hA hyk rC oC2 oC hok
  have HW2 := Go.Lib.hid (below_chain hW HB2.out)
  by_cases hm : mayX ⟨a, bes⟩ = 0
  · rw [hm]
    by_cases ha : a = n
    · subst ha
      have e : R = (0, newR es bes, es ++ bes) := by rw [← HR.out]; exact addB_yes hm (by simp only; omega)
      have hne : ((n : Int) != (n : Int)) = false := by simp
      have hnC : nC ≤ 16 := by have := ((mayX_zero _).1 hm).2.1; simp only at this; omega
      subst e
      clear HR hm RY2 ch2
      go_upto_region 4 with (fail)
      go_quiet (fail)
      go_wp2_with fail
      have ad0 := AD0.out nq
      have EV := Go.Lib.hid (fun j (hj : j < bes.length) => newR_step es bes hj)
      have ET := Go.Lib.hid (fun j (hj : j < bes.length) => evsTake bes j hj)
      clear AD0 q0 q1
      generalize (w2.drewN nq).alloc (.cells #[] 51) = w3 at *
      go_loopw [7, 8, 9, 10] (fun ov iv _ _ wr => ∃ (A : Option Addr) (n c : Nat) (B : Option Addr) (m cb j : Nat), ov = .slice B m cb ∧ iv = .int .i64 (j : Int) ∧ j ≤ nC ∧ Hid (AdR W0 w2 G g wr A n c (es ++ bes.take j) B m cb (newR es (bes.take j)))) (fun _ iv _ _ _ => nC - (intOf iv).toNat)
      case atStart => exact ⟨A, n, c, _, 0, 0, 0, rfl, rfl, Nat.zero_le _, Go.Lib.hid (by rw [List.take_zero, List.append_nil]; exact ad0)⟩
      case round =>
        obtain ⟨A1, n1, c1, B, m, cb, j, rfl, rfl, hj, AD⟩ := hrel
        have ad := AD.out
        have hx : BxAt wr w.heap.size (.int .i64 (n : Int)) (.slice C nC cC) := (ad.ch.block _ (by omega) (by omega)).trans bx2
        have p1 := hx.c1
        have HX := Go.Lib.hid hx
        clear ad0 hx
        by_cases hlt : j < nC
        · have i1 : (j : Int) < nC := by omega
          have rCr : RdC 4 wr C nC cC dc := rC2.keep fun b o hC i v hc => by
            have hb := World.block_lt_of_cell? w2 _ hc
            have e := ad.ch.block b hb (hCg b o hC)
            exact (World.cell?_of_block (w := w2) (a := ⟨b, o + i, none⟩) e).trans hc
          obtain ⟨bC, oC, rfl, _, kC⟩ := rCr.at_ (by decide) (by omega)
          obtain ⟨T, nT, cT, F, nF, cF, z0, z1, z2, z3, rT, rF⟩ := EvsO.at_ bes dc hdc j (by omega)
          have y0 := kC _ _ z0
          have y1 := kC _ _ z1
          have y2 := kC _ _ z2
          have y3 := kC _ _ z3
          rw [← Nat.add_assoc] at y1 y2 y3
          have c0 := ad.c0
          have hn1 := ad.len
          have HST := Go.Lib.hid (EV.out j (by omega))
          have HET := Go.Lib.hid (ET.out j (by omega))
          have hn2 : n1 = n + j := by rw [← hn1, List.length_append, List.length_take]; omega
          have hl1 : (es ++ bes.take j).length ≤ 400 := by omega
          clear kC z0 z1 z2 z3 rCr
          generalize bes.getD j noEv = ev at *
          have bd : Below wr.heap.size wr wr.drew := ⟨rfl, rfl, rfl, Nat.le_refl _, fun _ _ => rfl⟩
          have add := ad.below bd
          have hcl := cnt_le (strs (es ++ bes.take j)) ev.s
          have hsl : (strs (es ++ bes.take j)).length = n1 := by simp only [strs, List.length_map]; exact hn1
          obtain ⟨d, hd⟩ : ∃ d, cnt (strs (es ++ bes.take j)) ev.s = d := ⟨_, rfl⟩
          have hd4 : d ≤ 400 := by omega
          have hn4 : n1 ≤ 400 := by omega
          have CS : Hid (Calls Tryz.prog 20 #[.pointer (some ⟨g, 0, none⟩), .string ev.s, .int .i64 (n1 : Int)] wr.drew fun e w' => ∃ D cd, e = .returned (.slice D d cd) ∧ Below wr.drew.heap.size wr.drew w') := Go.Lib.hid (by
            refine (refStr_any W0 g (es ++ bes.take j) _ ev.s (n1 : Int) wr.drew add.ry hl1).mono ?_
            rintro e w' ⟨D, m', cd, rfl, r, b⟩
            have h1 := str_all (es ++ bes.take j) ev.s (u := (n1 : Int)) (by omega)
            have h2 := r.len
            unfold strF at h1
            exact ⟨D, cd, by rw [← h2, h1, hd], b⟩)
          have HD := Go.Lib.hid hd
          clear hcl hsl hd
          clear add hl1
          have hw : IntKind.i64.wrap ((d : Int) + 1) = (d : Int) + 1 := IntWalk.i64_in _ (by omega)
          have HN1 := Go.Lib.hid hn1
          have HN2 := Go.Lib.hid hn2
          have HCG := Go.Lib.hid hCg
          have HGL := Go.Lib.hid hGl
          have HG2 := Go.Lib.hid hG2
          have HNL := Go.Lib.hid hn
          have AX := Go.Lib.hid ad
          have RC2 := Go.Lib.hid rC2
          have BX2 := Go.Lib.hid bx2
          clear hn1 hn2 hCg hGl hG2 hn ad rC2 bx2
          go_upto_region 10 with (fail)
          refine wp_region_held_drew (S := (fun w' => w'.cell? ⟨w.heap.size, 1, none⟩ = some (.slice (some ⟨bC, oC, none⟩) nC cC) ∧ w'.cell? ⟨g, 0, none⟩ = some (.slice A1 n1 c1) ∧ w'.cell? ⟨bC, oC + j * 4, none⟩ = some (.string ev.s))) (by kernel_rfl) ?_ (fun hHeld => ?_)
          · exact ⟨p1, c0, y0⟩
          refine take_at (i := 0) (d := 32) (v := ?_) rfl rfl (by kernel_rfl) (by kernel_rfl) (by kernel_rfl) (fun _ _ _ h => h) (Or.inl ⟨by rfl, ?hy⟩) (by assumption) ?_
          case hy => (intro wS hSw; (try dsimp only at hSw); first | (go_simp; done) | (go_simp; with_reducible rfl))
          simp only [Act.put, List.setIfInBounds_toArray, List.set_cons_zero, List.set_cons_succ]
          refine take_at (i := 1) (d := 33) (v := ?_) rfl rfl (by kernel_rfl) (by kernel_rfl) (by kernel_rfl) (fun _ _ _ h => h) (Or.inl ⟨by rfl, ?hy⟩) (by assumption) ?_
          case hy => (intro wS hSw; (try dsimp only at hSw); first | (go_simp; done) | (go_simp; with_reducible rfl))
          simp only [Act.put, List.setIfInBounds_toArray, List.set_cons_zero, List.set_cons_succ]
          refine take_at (i := 2) (d := 34) (v := ?_) rfl rfl (by kernel_rfl) (by kernel_rfl) (by kernel_rfl) (fun _ _ _ h => h) (Or.inl ⟨by rfl, ?hy⟩) (by assumption) ?_
          case hy => (intro wS hSw; (try dsimp only at hSw); first | (go_simp; done) | (go_simp; with_reducible rfl))
          simp only [Act.put, List.setIfInBounds_toArray, List.set_cons_zero, List.set_cons_succ]
          refine take_at (i := 3) (d := 35) (v := ?_) rfl rfl (by kernel_rfl) (by kernel_rfl) (by kernel_rfl) (fun _ _ _ h => h) (Or.inl ⟨by rfl, ?hy⟩) (by assumption) ?_
          case hy => (intro wS hSw; (try dsimp only at hSw); first | (go_simp; done) | (go_simp; with_reducible rfl))
          simp only [Act.put, List.setIfInBounds_toArray, List.set_cons_zero, List.set_cons_succ]
          refine take_at (i := 4) (d := 36) (v := ?_) rfl rfl (by kernel_rfl) (by kernel_rfl) (by kernel_rfl) (fun _ _ _ h => h) (Or.inl ⟨by rfl, ?hy⟩) (by assumption) ?_
          case hy => (intro wS hSw; (try dsimp only at hSw); first | (go_simp; done) | (go_simp; with_reducible rfl))
          simp only [Act.put, List.setIfInBounds_toArray, List.set_cons_zero, List.set_cons_succ]
          refine take_at (i := 5) (d := 37) (v := ?_) rfl rfl (by kernel_rfl) (by kernel_rfl) (by kernel_rfl) (fun _ _ _ h => h) (Or.inl ⟨by rfl, ?hy⟩) (by assumption) ?_
          case hy => (intro wS hSw; (try dsimp only at hSw); first | (go_simp; done) | (go_simp; with_reducible rfl))
          simp only [Act.put, List.setIfInBounds_toArray, List.set_cons_zero, List.set_cons_succ]
          refine take_at (i := 6) (d := 38) (v := ?_) rfl rfl (by kernel_rfl) (by kernel_rfl) (by kernel_rfl) (fun _ _ _ h => h) (Or.inl ⟨by rfl, ?hy⟩) (by assumption) ?_
          case hy => (intro wS hSw; (try dsimp only at hSw); first | (go_simp; done) | (go_simp; with_reducible rfl))
          simp only [Act.put, List.setIfInBounds_toArray, List.set_cons_zero, List.set_cons_succ]
          refine take_at (i := 7) (d := 39) (v := ?_) rfl rfl (by kernel_rfl) (by kernel_rfl) (by kernel_rfl) (fun _ _ _ h => h) (Or.inl ⟨by rfl, ?hy⟩) (by assumption) ?_
          case hy => (intro wS hSw; (try dsimp only at hSw); first | (go_simp; done) | (go_simp; with_reducible rfl))
          simp only [Act.put, List.setIfInBounds_toArray, List.set_cons_zero, List.set_cons_succ]
          refine take_at (i := 8) (d := 40) (v := ?_) rfl rfl (by kernel_rfl) (by kernel_rfl) (by kernel_rfl) (fun _ _ _ h => h) (Or.inl ⟨by rfl, ?hy⟩) (by assumption) ?_
          case hy => (intro wS hSw; (try dsimp only at hSw); first | (go_simp; done) | (go_simp; with_reducible rfl))
          simp only [Act.put, List.setIfInBounds_toArray, List.set_cons_zero, List.set_cons_succ]
          refine take_at (i := 9) (d := 41) (v := ?_) rfl rfl (by kernel_rfl) (by kernel_rfl) (by kernel_rfl) (fun _ _ _ h => h) (Or.inl ⟨by rfl, ?hy⟩) (by assumption) ?_
          case hy => (intro wS hSw; (try dsimp only at hSw); first | (go_simp; done) | (go_simp; with_reducible rfl))
          simp only [Act.put, List.setIfInBounds_toArray, List.set_cons_zero, List.set_cons_succ]
          refine take_at (i := 10) (d := 42) (v := ?_) rfl rfl (by kernel_rfl) (by kernel_rfl) (by kernel_rfl) (fun _ _ _ h => h) (Or.inl ⟨by rfl, ?hy⟩) (by assumption) ?_
          case hy => (intro wS hSw; (try dsimp only at hSw); first | (go_simp; done) | (go_simp; with_reducible rfl))
          simp only [Act.put, List.setIfInBounds_toArray, List.set_cons_zero, List.set_cons_succ]
          refine take_at (i := 11) (d := 43) (v := ?_) rfl rfl (by kernel_rfl) (by kernel_rfl) (by kernel_rfl) (fun _ _ _ h => h) (Or.inl ⟨by rfl, ?hy⟩) (by assumption) ?_
          case hy => (intro wS hSw; (try dsimp only at hSw); first | (go_simp; done) | (go_simp; with_reducible rfl))
          simp only [Act.put, List.setIfInBounds_toArray, List.set_cons_zero, List.set_cons_succ]
          refine wpAnyH_ready (rs := [12]) (by kernel_rfl) (by simp) ?_
          refine AllReadyH.cons rfl (fun K12 hK12 => ?_) AllReadyH.nil
          go_simp
          go_wp2_with (go_at_call 20; refine (CS.out).mono ?_; rintro e w6 ⟨D, cd, rfl, b6'⟩; have b6 := below_chain bd b6')
          refine hK12.out _ _ ?_ (fun hH12 => ?_)
          · exact ⟨bcell b6 p1, bcell b6 c0, bcell b6 y0⟩
          clear hK12 K12 hHeld
          refine take_at (i := 13) (d := 45) (v := ?_) rfl rfl (by kernel_rfl) (by kernel_rfl) (by kernel_rfl) (fun _ _ _ h => h) (Or.inl ⟨by rfl, ?hy⟩) (by assumption) ?_
          case hy => (intro wS hSw; (try dsimp only at hSw); first | (go_simp; done) | (go_simp; with_reducible rfl))
          simp only [Act.put, List.setIfInBounds_toArray, List.set_cons_zero, List.set_cons_succ]
          refine take_at (i := 14) (d := 46) (v := ?_) rfl rfl (by kernel_rfl) (by kernel_rfl) (by kernel_rfl) (fun _ _ _ h => h) (Or.inl ⟨by rfl, ?hy⟩) (by assumption) ?_
          case hy => (intro wS hSw; (try dsimp only at hSw); first | (go_simp; done) | (go_simp; with_reducible rfl))
          simp only [Act.put, List.setIfInBounds_toArray, List.set_cons_zero, List.set_cons_succ]
          refine take_at (i := 15) (d := 9) (v := ?_) rfl rfl (by kernel_rfl) (by kernel_rfl) (by kernel_rfl) (fun _ _ _ h => h) (Or.inl ⟨by rfl, ?hy⟩) (by assumption) ?_
          case hy => (intro wS hSw; (try dsimp only at hSw); first | (go_simp; done) | (go_simp; with_reducible rfl))
          simp only [Act.put, List.setIfInBounds_toArray, List.set_cons_zero, List.set_cons_succ]
          refine wpAnyH_done (by kernel_rfl) ?_ _
          have bq6 : Below wr.heap.size wr w6.drew := below_chain b6 ⟨rfl, rfl, rfl, Nat.le_refl _, fun _ _ => rfl⟩
          have A6 := AX.out.below bq6
          have c6 := A6.c0
          have p6 := bcell bq6 p1
          have z0 := bcell bq6 y0
          have z1 := bcell bq6 y1
          have z2 := bcell bq6 y2
          have z3 := bcell bq6 y3
          have A6H := Go.Lib.hid A6
          have X6 := Go.Lib.hid (HX.out.below bq6)
          have hwn : IntKind.i64.wrap ((n1 : Int) + 1) = (n1 : Int) + 1 := IntWalk.i64_in _ (by omega)
          clear A6 b6 bq6 b6' CS bd c0 p1 y0 y1 y2 y3 hw AD AX HX
          go_upto_region 11 with (fail)
          refine wp_region_held_drew (S := (fun w' => w'.cell? ⟨w.heap.size, 1, none⟩ = some (.slice (some ⟨bC, oC, none⟩) nC cC) ∧ w'.cell? ⟨g, 0, none⟩ = some (.slice A1 n1 c1) ∧ w'.cell? ⟨bC, oC + j * 4, none⟩ = some (.string ev.s) ∧ w'.cell? ⟨bC, oC + j * 4 + 1, none⟩ = some (.string ev.t) ∧ w'.cell? ⟨bC, oC + j * 4 + 2, none⟩ = some (.slice T nT cT) ∧ w'.cell? ⟨bC, oC + j * 4 + 3, none⟩ = some (.slice F nF cF))) (by kernel_rfl) ?_ (fun hHeld => ?_)
          · exact ⟨p6, c6, z0, z1, z2, z3⟩
          generalize w6.drew = wd at *
          refine take_at (i := 0) (d := 47) (v := ?_) rfl rfl (by kernel_rfl) (by kernel_rfl) (by kernel_rfl) (fun _ _ _ h => h) (Or.inl ⟨by rfl, ?hy⟩) (by assumption) ?_
          case hy => (intro wS hSw; (try dsimp only at hSw); first | (go_simp; done) | (go_simp; with_reducible rfl))
          simp only [Act.put, List.setIfInBounds_toArray, List.set_cons_zero, List.set_cons_succ]
          refine take_at (i := 1) (d := 48) (v := ?_) rfl rfl (by kernel_rfl) (by kernel_rfl) (by kernel_rfl) (fun _ _ _ h => h) (Or.inl ⟨by rfl, ?hy⟩) (by assumption) ?_
          case hy => (intro wS hSw; (try dsimp only at hSw); first | (go_simp; done) | (go_simp; with_reducible rfl))
          simp only [Act.put, List.setIfInBounds_toArray, List.set_cons_zero, List.set_cons_succ]
          refine take_at (i := 2) (d := 49) (v := ?_) rfl rfl (by kernel_rfl) (by kernel_rfl) (by kernel_rfl) (fun _ _ _ h => h) (Or.inl ⟨by rfl, ?hy⟩) (by assumption) ?_
          case hy => (intro wS hSw; (try dsimp only at hSw); first | (go_simp; done) | (go_simp; with_reducible rfl))
          simp only [Act.put, List.setIfInBounds_toArray, List.set_cons_zero, List.set_cons_succ]
          refine take_at (i := 3) (d := 50) (v := ?_) rfl rfl (by kernel_rfl) (by kernel_rfl) (by kernel_rfl) (fun _ _ _ h => h) (Or.inl ⟨by rfl, ?hy⟩) (by assumption) ?_
          case hy => (intro wS hSw; (try dsimp only at hSw); first | (go_simp; done) | (go_simp; with_reducible rfl))
          simp only [Act.put, List.setIfInBounds_toArray, List.set_cons_zero, List.set_cons_succ]
          refine take_at (i := 4) (d := 51) (v := ?_) rfl rfl (by kernel_rfl) (by kernel_rfl) (by kernel_rfl) (fun _ _ _ h => h) (Or.inl ⟨by rfl, ?hy⟩) (by assumption) ?_
          case hy => (intro wS hSw; (try dsimp only at hSw); first | (go_simp; done) | (go_simp; with_reducible rfl))
          simp only [Act.put, List.setIfInBounds_toArray, List.set_cons_zero, List.set_cons_succ]
          refine take_at (i := 5) (d := 52) (v := ?_) rfl rfl (by kernel_rfl) (by kernel_rfl) (by kernel_rfl) (fun _ _ _ h => h) (Or.inl ⟨by rfl, ?hy⟩) (by assumption) ?_
          case hy => (intro wS hSw; (try dsimp only at hSw); first | (go_simp; done) | (go_simp; with_reducible rfl))
          simp only [Act.put, List.setIfInBounds_toArray, List.set_cons_zero, List.set_cons_succ]
          refine take_at (i := 6) (d := 53) (v := ?_) rfl rfl (by kernel_rfl) (by kernel_rfl) (by kernel_rfl) (fun _ _ _ h => h) (Or.inl ⟨by rfl, ?hy⟩) (by assumption) ?_
          case hy => (intro wS hSw; (try dsimp only at hSw); first | (go_simp; done) | (go_simp; with_reducible rfl))
          simp only [Act.put, List.setIfInBounds_toArray, List.set_cons_zero, List.set_cons_succ]
          refine take_at (i := 7) (d := 54) (v := ?_) rfl rfl (by kernel_rfl) (by kernel_rfl) (by kernel_rfl) (fun _ _ _ h => h) (Or.inl ⟨by rfl, ?hy⟩) (by assumption) ?_
          case hy => (intro wS hSw; (try dsimp only at hSw); first | (go_simp; done) | (go_simp; with_reducible rfl))
          simp only [Act.put, List.setIfInBounds_toArray, List.set_cons_zero, List.set_cons_succ]
          refine take_at (i := 8) (d := 55) (v := ?_) rfl rfl (by kernel_rfl) (by kernel_rfl) (by kernel_rfl) (fun _ _ _ h => h) (Or.inl ⟨by rfl, ?hy⟩) (by assumption) ?_
          case hy => (intro wS hSw; (try dsimp only at hSw); first | (go_simp; done) | (go_simp; with_reducible rfl))
          simp only [Act.put, List.setIfInBounds_toArray, List.set_cons_zero, List.set_cons_succ]
          refine take_at (i := 9) (d := 56) (v := ?_) rfl rfl (by kernel_rfl) (by kernel_rfl) (by kernel_rfl) (fun _ _ _ h => h) (Or.inl ⟨by rfl, ?hy⟩) (by assumption) ?_
          case hy => (intro wS hSw; (try dsimp only at hSw); first | (go_simp; done) | (go_simp; with_reducible rfl))
          simp only [Act.put, List.setIfInBounds_toArray, List.set_cons_zero, List.set_cons_succ]
          refine take_at (i := 10) (d := 57) (v := ?_) rfl rfl (by kernel_rfl) (by kernel_rfl) (by kernel_rfl) (fun _ _ _ h => h) (Or.inl ⟨by rfl, ?hy⟩) (by assumption) ?_
          case hy => (intro wS hSw; (try dsimp only at hSw); first | (go_simp; done) | (go_simp; with_reducible rfl))
          simp only [Act.put, List.setIfInBounds_toArray, List.set_cons_zero, List.set_cons_succ]
          refine take_at (i := 11) (d := 58) (v := ?_) rfl rfl (by kernel_rfl) (by kernel_rfl) (by kernel_rfl) (fun _ _ _ h => h) (Or.inl ⟨by rfl, ?hy⟩) (by assumption) ?_
          case hy => (intro wS hSw; (try dsimp only at hSw); first | (go_simp; done) | (go_simp; with_reducible rfl))
          simp only [Act.put, List.setIfInBounds_toArray, List.set_cons_zero, List.set_cons_succ]
          refine take_at (i := 12) (d := 59) (v := ?_) rfl rfl (by kernel_rfl) (by kernel_rfl) (by kernel_rfl) (fun _ _ _ h => h) (Or.inl ⟨by rfl, ?hy⟩) (by assumption) ?_
          case hy => (intro wS hSw; (try dsimp only at hSw); first | (go_simp; done) | (go_simp; with_reducible rfl))
          simp only [Act.put, List.setIfInBounds_toArray, List.set_cons_zero, List.set_cons_succ]
          have bz := heap_alloc_new wd (.cells #[.int .i64 0, .int .i64 0, .string ⟨#[]⟩, .string ⟨#[]⟩, .slice none 0 0, .slice none 0 0] 51)
          have ba := (Below.refl wd.heap.size wd).alloc (Nat.le_refl _) (.cells #[.int .i64 0, .int .i64 0, .string ⟨#[]⟩, .string ⟨#[]⟩, .slice none 0 0, .slice none 0 0] 51)
          refine wpAnyH_ready (rs := [13]) (by kernel_rfl) (by simp) ?_
          refine AllReadyH.cons rfl (fun K13 hK13 => ?_) AllReadyH.nil
          go_simp
          refine hK13.out _ _ ?_ (fun hH13 => ?_)
          · exact ⟨bcell ba p6, bcell ba c6, bcell ba z0, bcell ba z1, bcell ba z2, bcell ba z3⟩
          clear hK13 K13
          have R7 := RxAt.new wd (.int .i64 0) (.int .i64 0) (.string ⟨#[]⟩) (.string ⟨#[]⟩) (.slice none 0 0) (.slice none 0 0)
          have u0 := R7.c0
          have u1 := R7.c1
          have u2 := R7.c2
          have u3 := R7.c3
          have u4 := R7.c4
          have u5 := R7.c5
          have f0 := R7.frozen 0
          have f1 := R7.frozen 1
          have f2 := R7.frozen 2
          have f3 := R7.frozen 3
          have f4 := R7.frozen 4
          have f5 := R7.frozen 5
          have R8 := Go.Lib.hid (R7.all (.int .i64 ((n1 : Int) + 1)) (.int .i64 ((d : Int) + 1)) (.string ev.s) (.string ev.t) (.slice T nT cT) (.slice F nF cF))
          have b8 := six_bel (g := wd.heap.size) ba (Nat.le_refl _) (.int .i64 ((n1 : Int) + 1)) (.int .i64 ((d : Int) + 1)) (.string ev.s) (.string ev.t) (.slice T nT cT) (.slice F nF cF)
          have B8 := Go.Lib.hid b8
          have p8 := bcell b8 p6
          have c8 := bcell b8 c6
          have o0 := bcell b8 z0
          have o1 := bcell b8 z1
          have o2 := bcell b8 z2
          have o3 := bcell b8 z3
          have A8 := Go.Lib.hid (A6H.out.below b8)
          have X8 := Go.Lib.hid (X6.out.below b8)
          clear R7 bz ba b8 p6 c6 z0 z1 z2 z3
          generalize wd.alloc (.cells #[.int .i64 0, .int .i64 0, .string ⟨#[]⟩, .string ⟨#[]⟩, .slice none 0 0, .slice none 0 0] 51) = w7 at *
          have hw2d : w2.heap.size ≤ wd.heap.size := A6H.out.ch.size
          have A6z := Go.Lib.hid hw2d
          clear hw2d
          generalize wd.heap.size = gb at *
          refine wpAnyH_ready (rs := [14]) (by kernel_rfl) (by simp) ?_
          refine AllReadyH.cons rfl (fun K14 hK14 => ?_) AllReadyH.nil
          go_simp
          refine hK14.out _ _ ?_ (fun hH14 => ?_)
          · exact ⟨p8, c8, o0, o1, o2, o3⟩
          clear hK14 K14 u0 u1 u2 u3 u4 u5 f0 f1 f2 f3 f4 f5 A6H X6 o0 o1 o2 o3
          refine wpAnyH_done (by kernel_rfl) ?_ _
          generalize (((((w7.setCell ⟨gb, 0, none⟩ (.int .i64 ((n1 : Int) + 1))).setCell ⟨gb, 1, none⟩ (.int .i64 ((d : Int) + 1))).setCell ⟨gb, 2, none⟩ (.string ev.s)).setCell ⟨gb, 3, none⟩ (.string ev.t)).setCell ⟨gb, 4, none⟩ (.slice T nT cT)).setCell ⟨gb, 5, none⟩ (.slice F nF cF) = w8 at *
          go_upto_region 12 with (fail)
          have hgs : gb < w8.heap.size := R8.out.lt
          have hnx : nextR (es ++ bes.take j) ev = ⟨(n1 : Int) + 1, (d : Int) + 1, ev⟩ := by unfold nextR; rw [HN1.out, HD.out]
          have HNX := Go.Lib.hid hnx
          have hgb : g ≠ gb := by
            have h1 := A8.out.gl
            have h2 := A6z.out
            omega
          obtain ⟨cs, rE, lcs, hcs⟩ := A8.out.row
          have kE := A8.out.c0
          have fE := A8.out.fz
          have e0 := R8.out.c0
          have e1 := R8.out.c1
          have e2 := R8.out.c2
          have e3 := R8.out.c3
          have e4 := R8.out.c4
          have e5 := R8.out.c5
          have hone := rc_one ⟨(n1 : Int) + 1, (d : Int) + 1, ev⟩ T F nT cT nF cF
          clear hnx p8 c8 lcs
          go_cut [69] (fun v wx => ∃ A9 c9 w9, v = .slice A9 (n1 + 1) c9 ∧ wx = w9.setCell ⟨g, 0, none⟩ (.slice A9 (n1 + 1) c9) ∧ OwnC 6 w9 w8.heap.size 51 A9 (n1 + 1) c9 (cs ++ [.int .i64 ((n1 : Int) + 1), .int .i64 ((d : Int) + 1), .string ev.s, .string ev.t, .slice T nT cT, .slice F nF cF]) ∧ Below w8.heap.size w8 w9)
          case first =>
            have B2d : Below w8.heap.size w8 w8.drew := ⟨rfl, rfl, rfl, Nat.le_refl _, fun _ _ => rfl⟩
            have HSZ : Hid (w8.drew.heap.size = w8.heap.size) := Go.Lib.hid rfl
            have bd0 : Below w8.drew.heap.size w8.drew w8.drew := Below.refl _ _
            have rE : RdC 6 w8.drew A1 n1 c1 cs := RdC.drew rE
            have kE : w8.drew.cell? ⟨g, 0, none⟩ = some (.slice A1 n1 c1) := kE
            have fE : w8.drew.frozen? ⟨g, 0, none⟩ = false := fE
            have e0 : w8.drew.cell? ⟨gb, 0, none⟩ = some (.int .i64 ((n1 : Int) + 1)) := e0
            have e1 : w8.drew.cell? ⟨gb, 1, none⟩ = some (.int .i64 ((d : Int) + 1)) := e1
            have e2 : w8.drew.cell? ⟨gb, 2, none⟩ = some (.string ev.s) := e2
            have e3 : w8.drew.cell? ⟨gb, 3, none⟩ = some (.string ev.t) := e3
            have e4 : w8.drew.cell? ⟨gb, 4, none⟩ = some (.slice T nT cT) := e4
            have e5 : w8.drew.cell? ⟨gb, 5, none⟩ = some (.slice F nF cF) := e5
            refine wp_region_held_drew (S := (fun w' => w'.cell? ⟨gb, 0, none⟩ = some (.int .i64 ((n1 : Int) + 1)) ∧ w'.cell? ⟨gb, 1, none⟩ = some (.int .i64 ((d : Int) + 1)) ∧ w'.cell? ⟨gb, 2, none⟩ = some (.string ev.s) ∧ w'.cell? ⟨gb, 3, none⟩ = some (.string ev.t) ∧ w'.cell? ⟨gb, 4, none⟩ = some (.slice T nT cT) ∧ w'.cell? ⟨gb, 5, none⟩ = some (.slice F nF cF))) (by kernel_rfl) ?_ (fun hHeld => ?_)
            · exact ⟨e0, e1, e2, e3, e4, e5⟩
            generalize w8.drew = wd at *
            refine take_at (i := 0) (d := 60) (v := ?_) rfl rfl (by kernel_rfl) (by kernel_rfl) (by kernel_rfl) (fun _ _ _ h => h) (Or.inl ⟨by rfl, ?hy⟩) (by assumption) ?_
            case hy => (intro wS hSw; (try dsimp only at hSw); first | (go_simp; done) | (go_simp; with_reducible rfl))
            simp only [Act.put, List.setIfInBounds_toArray, List.set_cons_zero, List.set_cons_succ]
            refine take_at (i := 2) (d := 62) (v := ?_) rfl rfl (by kernel_rfl) (by kernel_rfl) (by kernel_rfl) (fun _ _ _ h => h) (Or.inl ⟨by rfl, ?hy⟩) (by assumption) ?_
            case hy => (intro wS hSw; (try dsimp only at hSw); first | (go_simp; done) | (go_simp; with_reducible rfl))
            simp only [Act.put, List.setIfInBounds_toArray, List.set_cons_zero, List.set_cons_succ]
            refine take_at (i := 3) (d := 63) (v := ?_) rfl rfl (by kernel_rfl) (by kernel_rfl) (by kernel_rfl) (fun _ _ _ h => h) (Or.inl ⟨by rfl, ?hy⟩) (by assumption) ?_
            case hy => (intro wS hSw; (try dsimp only at hSw); first | (go_simp; done) | (go_simp; with_reducible rfl))
            simp only [Act.put, List.setIfInBounds_toArray, List.set_cons_zero, List.set_cons_succ]
            refine take_at (i := 4) (d := 64) (v := ?_) rfl rfl (by kernel_rfl) (by kernel_rfl) (by kernel_rfl) (fun _ _ _ h => h) (Or.inl ⟨by rfl, ?hy⟩) (by assumption) ?_
            case hy => (intro wS hSw; (try dsimp only at hSw); first | (go_simp; done) | (go_simp; with_reducible rfl))
            simp only [Act.put, List.setIfInBounds_toArray, List.set_cons_zero, List.set_cons_succ]
            refine take_at (i := 7) (d := 67) (v := ?_) rfl rfl (by kernel_rfl) (by kernel_rfl) (by kernel_rfl) (fun _ _ _ h => h) (Or.inl ⟨by rfl, ?hy⟩) (by assumption) ?_
            case hy => (intro wS hSw; (try dsimp only at hSw); first | (go_simp; done) | (go_simp; with_reducible rfl))
            simp only [Act.put, List.setIfInBounds_toArray, List.set_cons_zero, List.set_cons_succ]
            refine wpAnyH_ready (rs := [1, 5, 8]) (by kernel_rfl) (by simp) ?_
            refine AllReadyH.cons rfl (fun K0 hK0 => ?_) ?_
            · skip
              have bs0 := (Below.refl wd.heap.size wd).alloc (Nat.le_refl _) (.cells #[] 51)
              have es0 : wd.heap.size = wd.heap.size := rfl
              have b0 := below_chain bd0 bs0
              have o0 : OwnC 6 (wd.alloc (.cells #[] 51)) wd.heap.size 51 (some ⟨wd.heap.size, 0, none⟩) 0 0 [] := by rw [← es0]; exact OwnC.empty wd 51 bd0.size
              go_simp
              refine hK0.out _ _ ?_ (fun hH0 => ?_)
              · exact ⟨bcell b0 e0, bcell b0 e1, bcell b0 e2, bcell b0 e3, bcell b0 e4, bcell b0 e5⟩
              clear hK0 K0
              refine wpAnyH_ready (rs := [5, 8]) (by kernel_rfl) (by simp) ?_
              refine AllReadyH.cons rfl (fun K1 hK1 => ?_) ?_
              · skip
                have kx1 := bcell b0 kE
                go_simp
                refine hK1.out _ _ ?_ (fun hH1 => ?_)
                · exact ⟨bcell b0 e0, bcell b0 e1, bcell b0 e2, bcell b0 e3, bcell b0 e4, bcell b0 e5⟩
                clear hK1 K1
                refine wpAnyH_ready (rs := [6, 8]) (by kernel_rfl) (by simp) ?_
                refine AllReadyH.cons rfl (fun K2 hK2 => ?_) ?_
                · skip
                  refine step_append_cells (by rfl) (.tmp 61) (.tmp 65) 32 rfl 51 (.agg #[.int .i64 0, .int .i64 0, .string ⟨#[]⟩, .string ⟨#[]⟩, .slice none 0 0, .slice none 0 0]) 96 Tryz.underlying32 rec_info rfl (by decide) rfl rfl o0 (RdC.below rE b0) (RcsO.one _ _ hcs) (by unfold maxLen; omega) (by omega) b0.size ?_
                  intro A2 c2 w2 o2 g2 i2
                  have b2 := below_grown_own o0 b0 g2 b0.size
                  rw [Nat.zero_add, List.nil_append] at o2
                  (try go_simp)
                  refine hK2.out _ _ ?_ (fun hH2 => ?_)
                  · exact ⟨bcell b2 e0, bcell b2 e1, bcell b2 e2, bcell b2 e3, bcell b2 e4, bcell b2 e5⟩
                  clear hK2 K2
                  refine wpAnyH_ready (rs := [8]) (by kernel_rfl) (by simp) ?_
                  refine AllReadyH.cons rfl (fun K3 hK3 => ?_) AllReadyH.nil
                  have bs3 := (Below.refl w2.heap.size w2).alloc (Nat.le_refl _) (.cells #[.int .i64 ((n1 : Int) + 1), .int .i64 ((d : Int) + 1), .string ev.s, .string ev.t, .slice T nT cT, .slice F nF cF] 51)
                  have es3 : w2.heap.size = w2.heap.size := rfl
                  have b3 := below_chain b2 bs3
                  have d3 : RdC 6 (w2.alloc (.cells #[.int .i64 ((n1 : Int) + 1), .int .i64 ((d : Int) + 1), .string ev.s, .string ev.t, .slice T nT cT, .slice F nF cF] 51)) (some ⟨w2.heap.size, 0, none⟩) 1 1 [.int .i64 ((n1 : Int) + 1), .int .i64 ((d : Int) + 1), .string ev.s, .string ev.t, .slice T nT cT, .slice F nF cF] := by rw [← es3]; exact RdC.new w2 51 [.int .i64 ((n1 : Int) + 1), .int .i64 ((d : Int) + 1), .string ev.s, .string ev.t, .slice T nT cT, .slice F nF cF] rfl (by decide)
                  have o3 := OwnC.below o2 bs3
                  go_simp
                  refine hK3.out _ _ ?_ (fun hH3 => ?_)
                  · exact ⟨bcell b3 e0, bcell b3 e1, bcell b3 e2, bcell b3 e3, bcell b3 e4, bcell b3 e5⟩
                  clear hK3 K3
                  refine wpAnyH_ready (rs := [9]) (by kernel_rfl) (by simp) ?_
                  refine AllReadyH.cons rfl (fun K4 hK4 => ?_) AllReadyH.nil
                  refine step_append_cells (by rfl) (.tmp 66) (.tmp 68) 32 rfl 51 (.agg #[.int .i64 0, .int .i64 0, .string ⟨#[]⟩, .string ⟨#[]⟩, .slice none 0 0, .slice none 0 0]) 96 Tryz.underlying32 rec_info rfl (by decide) rfl rfl o3 d3 hone (by unfold maxLen; omega) (by omega) b3.size ?_
                  intro A4 c4 w4 o4 g4 i4
                  have b4 := below_grown_own o3 b3 g4 b3.size
                  (try go_simp)
                  refine hK4.out _ _ ?_ (fun hH4 => ?_)
                  · exact ⟨bcell b4 e0, bcell b4 e1, bcell b4 e2, bcell b4 e3, bcell b4 e4, bcell b4 e5⟩
                  clear hK4 K4
                  refine take_at (i := 10) (d := 70) (v := ?_) rfl rfl (by kernel_rfl) (by kernel_rfl) (by kernel_rfl) (fun _ _ _ h => h) (Or.inl ⟨by rfl, ?hy⟩) (by assumption) ?_
                  case hy => (intro wS hSw; (try dsimp only at hSw); first | (go_simp; done) | (go_simp; with_reducible rfl))
                  simp only [Act.put, List.setIfInBounds_toArray, List.set_cons_zero, List.set_cons_succ]
                  refine take_at (i := 11) (d := 71) (v := ?_) rfl rfl (by kernel_rfl) (by kernel_rfl) (by kernel_rfl) (fun _ _ _ h => h) (Or.inl ⟨by rfl, ?hy⟩) (by assumption) ?_
                  case hy => (intro wS hSw; (try dsimp only at hSw); first | (go_simp; done) | (go_simp; with_reducible rfl))
                  simp only [Act.put, List.setIfInBounds_toArray, List.set_cons_zero, List.set_cons_succ]
                  refine wpAnyH_ready (rs := [12]) (by kernel_rfl) (by simp) ?_
                  refine AllReadyH.cons rfl (fun K5 hK5 => ?_) AllReadyH.nil
                  have kx5 := bcell b4 kE
                  have fx5 : w4.frozen? ⟨g, 0, none⟩ = false := (b4.frozen (World.block_lt_of_cell? wd ⟨g, 0, none⟩ kE)).trans fE
                  go_simp
                  refine hK5.out _ _ ?_ (fun hH5 => ?_)
                  · exact ⟨(World.cell?_setCell_far _ _ _ _ hgb).trans (bcell b4 e0), (World.cell?_setCell_far _ _ _ _ hgb).trans (bcell b4 e1), (World.cell?_setCell_far _ _ _ _ hgb).trans (bcell b4 e2), (World.cell?_setCell_far _ _ _ _ hgb).trans (bcell b4 e3), (World.cell?_setCell_far _ _ _ _ hgb).trans (bcell b4 e4), (World.cell?_setCell_far _ _ _ _ hgb).trans (bcell b4 e5)⟩
                  clear hK5 K5
                  refine wpAnyH_done (by kernel_rfl) ?_ _
                  go_wp2_with fail
                  go_meet
                  exact ⟨_, _, _, rfl, rfl, by rw [← HSZ.out]; exact o4, below_chain B2d b4⟩
                refine AllReadyH.cons rfl (fun K6 hK6 => ?_) AllReadyH.nil
                have bs6 := (Below.refl (wd.alloc (.cells #[] 51)).heap.size (wd.alloc (.cells #[] 51))).alloc (Nat.le_refl _) (.cells #[.int .i64 ((n1 : Int) + 1), .int .i64 ((d : Int) + 1), .string ev.s, .string ev.t, .slice T nT cT, .slice F nF cF] 51)
                have es6 : (wd.alloc (.cells #[] 51)).heap.size = wd.heap.size + 1 := by simp only [World.alloc, Array.size_push]
                have b6 := below_chain b0 bs6
                have d6 : RdC 6 ((wd.alloc (.cells #[] 51)).alloc (.cells #[.int .i64 ((n1 : Int) + 1), .int .i64 ((d : Int) + 1), .string ev.s, .string ev.t, .slice T nT cT, .slice F nF cF] 51)) (some ⟨wd.heap.size + 1, 0, none⟩) 1 1 [.int .i64 ((n1 : Int) + 1), .int .i64 ((d : Int) + 1), .string ev.s, .string ev.t, .slice T nT cT, .slice F nF cF] := by rw [← es6]; exact RdC.new (wd.alloc (.cells #[] 51)) 51 [.int .i64 ((n1 : Int) + 1), .int .i64 ((d : Int) + 1), .string ev.s, .string ev.t, .slice T nT cT, .slice F nF cF] rfl (by decide)
                have o6 := OwnC.below o0 bs6
                go_simp
                refine hK6.out _ _ ?_ (fun hH6 => ?_)
                · exact ⟨bcell b6 e0, bcell b6 e1, bcell b6 e2, bcell b6 e3, bcell b6 e4, bcell b6 e5⟩
                clear hK6 K6
                refine wpAnyH_ready (rs := [6]) (by kernel_rfl) (by simp) ?_
                refine AllReadyH.cons rfl (fun K7 hK7 => ?_) AllReadyH.nil
                refine step_append_cells (by rfl) (.tmp 61) (.tmp 65) 32 rfl 51 (.agg #[.int .i64 0, .int .i64 0, .string ⟨#[]⟩, .string ⟨#[]⟩, .slice none 0 0, .slice none 0 0]) 96 Tryz.underlying32 rec_info rfl (by decide) rfl rfl o6 (RdC.below rE b6) (RcsO.one _ _ hcs) (by unfold maxLen; omega) (by omega) b6.size ?_
                intro A7 c7 w7 o7 g7 i7
                have b7 := below_grown_own o6 b6 g7 b6.size
                rw [Nat.zero_add, List.nil_append] at o7
                have d7 := RdC.grown d6 g7 (fun b o h => by injection h with h; injection h with h; rw [← h]; intro h2; injection h2 with h2; dsimp only at h2; omega)
                (try go_simp)
                refine hK7.out _ _ ?_ (fun hH7 => ?_)
                · exact ⟨bcell b7 e0, bcell b7 e1, bcell b7 e2, bcell b7 e3, bcell b7 e4, bcell b7 e5⟩
                clear hK7 K7
                refine wpAnyH_ready (rs := [9]) (by kernel_rfl) (by simp) ?_
                refine AllReadyH.cons rfl (fun K8 hK8 => ?_) AllReadyH.nil
                refine step_append_cells (by rfl) (.tmp 66) (.tmp 68) 32 rfl 51 (.agg #[.int .i64 0, .int .i64 0, .string ⟨#[]⟩, .string ⟨#[]⟩, .slice none 0 0, .slice none 0 0]) 96 Tryz.underlying32 rec_info rfl (by decide) rfl rfl o7 d7 hone (by unfold maxLen; omega) (by omega) b7.size ?_
                intro A8 c8 w8 o8 g8 i8
                have b8 := below_grown_own o7 b7 g8 b7.size
                (try go_simp)
                refine hK8.out _ _ ?_ (fun hH8 => ?_)
                · exact ⟨bcell b8 e0, bcell b8 e1, bcell b8 e2, bcell b8 e3, bcell b8 e4, bcell b8 e5⟩
                clear hK8 K8
                refine take_at (i := 10) (d := 70) (v := ?_) rfl rfl (by kernel_rfl) (by kernel_rfl) (by kernel_rfl) (fun _ _ _ h => h) (Or.inl ⟨by rfl, ?hy⟩) (by assumption) ?_
                case hy => (intro wS hSw; (try dsimp only at hSw); first | (go_simp; done) | (go_simp; with_reducible rfl))
                simp only [Act.put, List.setIfInBounds_toArray, List.set_cons_zero, List.set_cons_succ]
                refine take_at (i := 11) (d := 71) (v := ?_) rfl rfl (by kernel_rfl) (by kernel_rfl) (by kernel_rfl) (fun _ _ _ h => h) (Or.inl ⟨by rfl, ?hy⟩) (by assumption) ?_
                case hy => (intro wS hSw; (try dsimp only at hSw); first | (go_simp; done) | (go_simp; with_reducible rfl))
                simp only [Act.put, List.setIfInBounds_toArray, List.set_cons_zero, List.set_cons_succ]
                refine wpAnyH_ready (rs := [12]) (by kernel_rfl) (by simp) ?_
                refine AllReadyH.cons rfl (fun K9 hK9 => ?_) AllReadyH.nil
                have kx9 := bcell b8 kE
                have fx9 : w8.frozen? ⟨g, 0, none⟩ = false := (b8.frozen (World.block_lt_of_cell? wd ⟨g, 0, none⟩ kE)).trans fE
                go_simp
                refine hK9.out _ _ ?_ (fun hH9 => ?_)
                · exact ⟨(World.cell?_setCell_far _ _ _ _ hgb).trans (bcell b8 e0), (World.cell?_setCell_far _ _ _ _ hgb).trans (bcell b8 e1), (World.cell?_setCell_far _ _ _ _ hgb).trans (bcell b8 e2), (World.cell?_setCell_far _ _ _ _ hgb).trans (bcell b8 e3), (World.cell?_setCell_far _ _ _ _ hgb).trans (bcell b8 e4), (World.cell?_setCell_far _ _ _ _ hgb).trans (bcell b8 e5)⟩
                clear hK9 K9
                refine wpAnyH_done (by kernel_rfl) ?_ _
                go_wp2_with fail
                go_meet
                exact ⟨_, _, _, rfl, rfl, by rw [← HSZ.out]; exact o8, below_chain B2d b8⟩
              refine AllReadyH.cons rfl (fun K10 hK10 => ?_) AllReadyH.nil
              have bs10 := (Below.refl (wd.alloc (.cells #[] 51)).heap.size (wd.alloc (.cells #[] 51))).alloc (Nat.le_refl _) (.cells #[.int .i64 ((n1 : Int) + 1), .int .i64 ((d : Int) + 1), .string ev.s, .string ev.t, .slice T nT cT, .slice F nF cF] 51)
              have es10 : (wd.alloc (.cells #[] 51)).heap.size = wd.heap.size + 1 := by simp only [World.alloc, Array.size_push]
              have b10 := below_chain b0 bs10
              have d10 : RdC 6 ((wd.alloc (.cells #[] 51)).alloc (.cells #[.int .i64 ((n1 : Int) + 1), .int .i64 ((d : Int) + 1), .string ev.s, .string ev.t, .slice T nT cT, .slice F nF cF] 51)) (some ⟨wd.heap.size + 1, 0, none⟩) 1 1 [.int .i64 ((n1 : Int) + 1), .int .i64 ((d : Int) + 1), .string ev.s, .string ev.t, .slice T nT cT, .slice F nF cF] := by rw [← es10]; exact RdC.new (wd.alloc (.cells #[] 51)) 51 [.int .i64 ((n1 : Int) + 1), .int .i64 ((d : Int) + 1), .string ev.s, .string ev.t, .slice T nT cT, .slice F nF cF] rfl (by decide)
              have o10 := OwnC.below o0 bs10
              go_simp
              refine hK10.out _ _ ?_ (fun hH10 => ?_)
              · exact ⟨bcell b10 e0, bcell b10 e1, bcell b10 e2, bcell b10 e3, bcell b10 e4, bcell b10 e5⟩
              clear hK10 K10
              refine wpAnyH_ready (rs := [5]) (by kernel_rfl) (by simp) ?_
              refine AllReadyH.cons rfl (fun K11 hK11 => ?_) AllReadyH.nil
              have kx11 := bcell b10 kE
              go_simp
              refine hK11.out _ _ ?_ (fun hH11 => ?_)
              · exact ⟨bcell b10 e0, bcell b10 e1, bcell b10 e2, bcell b10 e3, bcell b10 e4, bcell b10 e5⟩
              clear hK11 K11
              refine wpAnyH_ready (rs := [6]) (by kernel_rfl) (by simp) ?_
              refine AllReadyH.cons rfl (fun K12 hK12 => ?_) AllReadyH.nil
              refine step_append_cells (by rfl) (.tmp 61) (.tmp 65) 32 rfl 51 (.agg #[.int .i64 0, .int .i64 0, .string ⟨#[]⟩, .string ⟨#[]⟩, .slice none 0 0, .slice none 0 0]) 96 Tryz.underlying32 rec_info rfl (by decide) rfl rfl o10 (RdC.below rE b10) (RcsO.one _ _ hcs) (by unfold maxLen; omega) (by omega) b10.size ?_
              intro A12 c12 w12 o12 g12 i12
              have b12 := below_grown_own o10 b10 g12 b10.size
              rw [Nat.zero_add, List.nil_append] at o12
              have d12 := RdC.grown d10 g12 (fun b o h => by injection h with h; injection h with h; rw [← h]; intro h2; injection h2 with h2; dsimp only at h2; omega)
              (try go_simp)
              refine hK12.out _ _ ?_ (fun hH12 => ?_)
              · exact ⟨bcell b12 e0, bcell b12 e1, bcell b12 e2, bcell b12 e3, bcell b12 e4, bcell b12 e5⟩
              clear hK12 K12
              refine wpAnyH_ready (rs := [9]) (by kernel_rfl) (by simp) ?_
              refine AllReadyH.cons rfl (fun K13 hK13 => ?_) AllReadyH.nil
              refine step_append_cells (by rfl) (.tmp 66) (.tmp 68) 32 rfl 51 (.agg #[.int .i64 0, .int .i64 0, .string ⟨#[]⟩, .string ⟨#[]⟩, .slice none 0 0, .slice none 0 0]) 96 Tryz.underlying32 rec_info rfl (by decide) rfl rfl o12 d12 hone (by unfold maxLen; omega) (by omega) b12.size ?_
              intro A13 c13 w13 o13 g13 i13
              have b13 := below_grown_own o12 b12 g13 b12.size
              (try go_simp)
              refine hK13.out _ _ ?_ (fun hH13 => ?_)
              · exact ⟨bcell b13 e0, bcell b13 e1, bcell b13 e2, bcell b13 e3, bcell b13 e4, bcell b13 e5⟩
              clear hK13 K13
              refine take_at (i := 10) (d := 70) (v := ?_) rfl rfl (by kernel_rfl) (by kernel_rfl) (by kernel_rfl) (fun _ _ _ h => h) (Or.inl ⟨by rfl, ?hy⟩) (by assumption) ?_
              case hy => (intro wS hSw; (try dsimp only at hSw); first | (go_simp; done) | (go_simp; with_reducible rfl))
              simp only [Act.put, List.setIfInBounds_toArray, List.set_cons_zero, List.set_cons_succ]
              refine take_at (i := 11) (d := 71) (v := ?_) rfl rfl (by kernel_rfl) (by kernel_rfl) (by kernel_rfl) (fun _ _ _ h => h) (Or.inl ⟨by rfl, ?hy⟩) (by assumption) ?_
              case hy => (intro wS hSw; (try dsimp only at hSw); first | (go_simp; done) | (go_simp; with_reducible rfl))
              simp only [Act.put, List.setIfInBounds_toArray, List.set_cons_zero, List.set_cons_succ]
              refine wpAnyH_ready (rs := [12]) (by kernel_rfl) (by simp) ?_
              refine AllReadyH.cons rfl (fun K14 hK14 => ?_) AllReadyH.nil
              have kx14 := bcell b13 kE
              have fx14 : w13.frozen? ⟨g, 0, none⟩ = false := (b13.frozen (World.block_lt_of_cell? wd ⟨g, 0, none⟩ kE)).trans fE
              go_simp
              refine hK14.out _ _ ?_ (fun hH14 => ?_)
              · exact ⟨(World.cell?_setCell_far _ _ _ _ hgb).trans (bcell b13 e0), (World.cell?_setCell_far _ _ _ _ hgb).trans (bcell b13 e1), (World.cell?_setCell_far _ _ _ _ hgb).trans (bcell b13 e2), (World.cell?_setCell_far _ _ _ _ hgb).trans (bcell b13 e3), (World.cell?_setCell_far _ _ _ _ hgb).trans (bcell b13 e4), (World.cell?_setCell_far _ _ _ _ hgb).trans (bcell b13 e5)⟩
              clear hK14 K14
              refine wpAnyH_done (by kernel_rfl) ?_ _
              go_wp2_with fail
              go_meet
              exact ⟨_, _, _, rfl, rfl, by rw [← HSZ.out]; exact o13, below_chain B2d b13⟩
            refine AllReadyH.cons rfl (fun K15 hK15 => ?_) ?_
            · skip
              have kx15 := bcell bd0 kE
              go_simp
              refine hK15.out _ _ ?_ (fun hH15 => ?_)
              · exact ⟨bcell bd0 e0, bcell bd0 e1, bcell bd0 e2, bcell bd0 e3, bcell bd0 e4, bcell bd0 e5⟩
              clear hK15 K15
              refine wpAnyH_ready (rs := [1, 8]) (by kernel_rfl) (by simp) ?_
              refine AllReadyH.cons rfl (fun K16 hK16 => ?_) ?_
              · skip
                have bs16 := (Below.refl wd.heap.size wd).alloc (Nat.le_refl _) (.cells #[] 51)
                have es16 : wd.heap.size = wd.heap.size := rfl
                have b16 := below_chain bd0 bs16
                have o16 : OwnC 6 (wd.alloc (.cells #[] 51)) wd.heap.size 51 (some ⟨wd.heap.size, 0, none⟩) 0 0 [] := by rw [← es16]; exact OwnC.empty wd 51 bd0.size
                go_simp
                refine hK16.out _ _ ?_ (fun hH16 => ?_)
                · exact ⟨bcell b16 e0, bcell b16 e1, bcell b16 e2, bcell b16 e3, bcell b16 e4, bcell b16 e5⟩
                clear hK16 K16
                refine wpAnyH_ready (rs := [6, 8]) (by kernel_rfl) (by simp) ?_
                refine AllReadyH.cons rfl (fun K17 hK17 => ?_) ?_
                · skip
                  refine step_append_cells (by rfl) (.tmp 61) (.tmp 65) 32 rfl 51 (.agg #[.int .i64 0, .int .i64 0, .string ⟨#[]⟩, .string ⟨#[]⟩, .slice none 0 0, .slice none 0 0]) 96 Tryz.underlying32 rec_info rfl (by decide) rfl rfl o16 (RdC.below rE b16) (RcsO.one _ _ hcs) (by unfold maxLen; omega) (by omega) b16.size ?_
                  intro A17 c17 w17 o17 g17 i17
                  have b17 := below_grown_own o16 b16 g17 b16.size
                  rw [Nat.zero_add, List.nil_append] at o17
                  (try go_simp)
                  refine hK17.out _ _ ?_ (fun hH17 => ?_)
                  · exact ⟨bcell b17 e0, bcell b17 e1, bcell b17 e2, bcell b17 e3, bcell b17 e4, bcell b17 e5⟩
                  clear hK17 K17
                  refine wpAnyH_ready (rs := [8]) (by kernel_rfl) (by simp) ?_
                  refine AllReadyH.cons rfl (fun K18 hK18 => ?_) AllReadyH.nil
                  have bs18 := (Below.refl w17.heap.size w17).alloc (Nat.le_refl _) (.cells #[.int .i64 ((n1 : Int) + 1), .int .i64 ((d : Int) + 1), .string ev.s, .string ev.t, .slice T nT cT, .slice F nF cF] 51)
                  have es18 : w17.heap.size = w17.heap.size := rfl
                  have b18 := below_chain b17 bs18
                  have d18 : RdC 6 (w17.alloc (.cells #[.int .i64 ((n1 : Int) + 1), .int .i64 ((d : Int) + 1), .string ev.s, .string ev.t, .slice T nT cT, .slice F nF cF] 51)) (some ⟨w17.heap.size, 0, none⟩) 1 1 [.int .i64 ((n1 : Int) + 1), .int .i64 ((d : Int) + 1), .string ev.s, .string ev.t, .slice T nT cT, .slice F nF cF] := by rw [← es18]; exact RdC.new w17 51 [.int .i64 ((n1 : Int) + 1), .int .i64 ((d : Int) + 1), .string ev.s, .string ev.t, .slice T nT cT, .slice F nF cF] rfl (by decide)
                  have o18 := OwnC.below o17 bs18
                  go_simp
                  refine hK18.out _ _ ?_ (fun hH18 => ?_)
                  · exact ⟨bcell b18 e0, bcell b18 e1, bcell b18 e2, bcell b18 e3, bcell b18 e4, bcell b18 e5⟩
                  clear hK18 K18
                  refine wpAnyH_ready (rs := [9]) (by kernel_rfl) (by simp) ?_
                  refine AllReadyH.cons rfl (fun K19 hK19 => ?_) AllReadyH.nil
                  refine step_append_cells (by rfl) (.tmp 66) (.tmp 68) 32 rfl 51 (.agg #[.int .i64 0, .int .i64 0, .string ⟨#[]⟩, .string ⟨#[]⟩, .slice none 0 0, .slice none 0 0]) 96 Tryz.underlying32 rec_info rfl (by decide) rfl rfl o18 d18 hone (by unfold maxLen; omega) (by omega) b18.size ?_
                  intro A19 c19 w19 o19 g19 i19
                  have b19 := below_grown_own o18 b18 g19 b18.size
                  (try go_simp)
                  refine hK19.out _ _ ?_ (fun hH19 => ?_)
                  · exact ⟨bcell b19 e0, bcell b19 e1, bcell b19 e2, bcell b19 e3, bcell b19 e4, bcell b19 e5⟩
                  clear hK19 K19
                  refine take_at (i := 10) (d := 70) (v := ?_) rfl rfl (by kernel_rfl) (by kernel_rfl) (by kernel_rfl) (fun _ _ _ h => h) (Or.inl ⟨by rfl, ?hy⟩) (by assumption) ?_
                  case hy => (intro wS hSw; (try dsimp only at hSw); first | (go_simp; done) | (go_simp; with_reducible rfl))
                  simp only [Act.put, List.setIfInBounds_toArray, List.set_cons_zero, List.set_cons_succ]
                  refine take_at (i := 11) (d := 71) (v := ?_) rfl rfl (by kernel_rfl) (by kernel_rfl) (by kernel_rfl) (fun _ _ _ h => h) (Or.inl ⟨by rfl, ?hy⟩) (by assumption) ?_
                  case hy => (intro wS hSw; (try dsimp only at hSw); first | (go_simp; done) | (go_simp; with_reducible rfl))
                  simp only [Act.put, List.setIfInBounds_toArray, List.set_cons_zero, List.set_cons_succ]
                  refine wpAnyH_ready (rs := [12]) (by kernel_rfl) (by simp) ?_
                  refine AllReadyH.cons rfl (fun K20 hK20 => ?_) AllReadyH.nil
                  have kx20 := bcell b19 kE
                  have fx20 : w19.frozen? ⟨g, 0, none⟩ = false := (b19.frozen (World.block_lt_of_cell? wd ⟨g, 0, none⟩ kE)).trans fE
                  go_simp
                  refine hK20.out _ _ ?_ (fun hH20 => ?_)
                  · exact ⟨(World.cell?_setCell_far _ _ _ _ hgb).trans (bcell b19 e0), (World.cell?_setCell_far _ _ _ _ hgb).trans (bcell b19 e1), (World.cell?_setCell_far _ _ _ _ hgb).trans (bcell b19 e2), (World.cell?_setCell_far _ _ _ _ hgb).trans (bcell b19 e3), (World.cell?_setCell_far _ _ _ _ hgb).trans (bcell b19 e4), (World.cell?_setCell_far _ _ _ _ hgb).trans (bcell b19 e5)⟩
                  clear hK20 K20
                  refine wpAnyH_done (by kernel_rfl) ?_ _
                  go_wp2_with fail
                  go_meet
                  exact ⟨_, _, _, rfl, rfl, by rw [← HSZ.out]; exact o19, below_chain B2d b19⟩
                refine AllReadyH.cons rfl (fun K21 hK21 => ?_) AllReadyH.nil
                have bs21 := (Below.refl (wd.alloc (.cells #[] 51)).heap.size (wd.alloc (.cells #[] 51))).alloc (Nat.le_refl _) (.cells #[.int .i64 ((n1 : Int) + 1), .int .i64 ((d : Int) + 1), .string ev.s, .string ev.t, .slice T nT cT, .slice F nF cF] 51)
                have es21 : (wd.alloc (.cells #[] 51)).heap.size = wd.heap.size + 1 := by simp only [World.alloc, Array.size_push]
                have b21 := below_chain b16 bs21
                have d21 : RdC 6 ((wd.alloc (.cells #[] 51)).alloc (.cells #[.int .i64 ((n1 : Int) + 1), .int .i64 ((d : Int) + 1), .string ev.s, .string ev.t, .slice T nT cT, .slice F nF cF] 51)) (some ⟨wd.heap.size + 1, 0, none⟩) 1 1 [.int .i64 ((n1 : Int) + 1), .int .i64 ((d : Int) + 1), .string ev.s, .string ev.t, .slice T nT cT, .slice F nF cF] := by rw [← es21]; exact RdC.new (wd.alloc (.cells #[] 51)) 51 [.int .i64 ((n1 : Int) + 1), .int .i64 ((d : Int) + 1), .string ev.s, .string ev.t, .slice T nT cT, .slice F nF cF] rfl (by decide)
                have o21 := OwnC.below o16 bs21
                go_simp
                refine hK21.out _ _ ?_ (fun hH21 => ?_)
                · exact ⟨bcell b21 e0, bcell b21 e1, bcell b21 e2, bcell b21 e3, bcell b21 e4, bcell b21 e5⟩
                clear hK21 K21
                refine wpAnyH_ready (rs := [6]) (by kernel_rfl) (by simp) ?_
                refine AllReadyH.cons rfl (fun K22 hK22 => ?_) AllReadyH.nil
                refine step_append_cells (by rfl) (.tmp 61) (.tmp 65) 32 rfl 51 (.agg #[.int .i64 0, .int .i64 0, .string ⟨#[]⟩, .string ⟨#[]⟩, .slice none 0 0, .slice none 0 0]) 96 Tryz.underlying32 rec_info rfl (by decide) rfl rfl o21 (RdC.below rE b21) (RcsO.one _ _ hcs) (by unfold maxLen; omega) (by omega) b21.size ?_
                intro A22 c22 w22 o22 g22 i22
                have b22 := below_grown_own o21 b21 g22 b21.size
                rw [Nat.zero_add, List.nil_append] at o22
                have d22 := RdC.grown d21 g22 (fun b o h => by injection h with h; injection h with h; rw [← h]; intro h2; injection h2 with h2; dsimp only at h2; omega)
                (try go_simp)
                refine hK22.out _ _ ?_ (fun hH22 => ?_)
                · exact ⟨bcell b22 e0, bcell b22 e1, bcell b22 e2, bcell b22 e3, bcell b22 e4, bcell b22 e5⟩
                clear hK22 K22
                refine wpAnyH_ready (rs := [9]) (by kernel_rfl) (by simp) ?_
                refine AllReadyH.cons rfl (fun K23 hK23 => ?_) AllReadyH.nil
                refine step_append_cells (by rfl) (.tmp 66) (.tmp 68) 32 rfl 51 (.agg #[.int .i64 0, .int .i64 0, .string ⟨#[]⟩, .string ⟨#[]⟩, .slice none 0 0, .slice none 0 0]) 96 Tryz.underlying32 rec_info rfl (by decide) rfl rfl o22 d22 hone (by unfold maxLen; omega) (by omega) b22.size ?_
                intro A23 c23 w23 o23 g23 i23
                have b23 := below_grown_own o22 b22 g23 b22.size
                (try go_simp)
                refine hK23.out _ _ ?_ (fun hH23 => ?_)
                · exact ⟨bcell b23 e0, bcell b23 e1, bcell b23 e2, bcell b23 e3, bcell b23 e4, bcell b23 e5⟩
                clear hK23 K23
                refine take_at (i := 10) (d := 70) (v := ?_) rfl rfl (by kernel_rfl) (by kernel_rfl) (by kernel_rfl) (fun _ _ _ h => h) (Or.inl ⟨by rfl, ?hy⟩) (by assumption) ?_
                case hy => (intro wS hSw; (try dsimp only at hSw); first | (go_simp; done) | (go_simp; with_reducible rfl))
                simp only [Act.put, List.setIfInBounds_toArray, List.set_cons_zero, List.set_cons_succ]
                refine take_at (i := 11) (d := 71) (v := ?_) rfl rfl (by kernel_rfl) (by kernel_rfl) (by kernel_rfl) (fun _ _ _ h => h) (Or.inl ⟨by rfl, ?hy⟩) (by assumption) ?_
                case hy => (intro wS hSw; (try dsimp only at hSw); first | (go_simp; done) | (go_simp; with_reducible rfl))
                simp only [Act.put, List.setIfInBounds_toArray, List.set_cons_zero, List.set_cons_succ]
                refine wpAnyH_ready (rs := [12]) (by kernel_rfl) (by simp) ?_
                refine AllReadyH.cons rfl (fun K24 hK24 => ?_) AllReadyH.nil
                have kx24 := bcell b23 kE
                have fx24 : w23.frozen? ⟨g, 0, none⟩ = false := (b23.frozen (World.block_lt_of_cell? wd ⟨g, 0, none⟩ kE)).trans fE
                go_simp
                refine hK24.out _ _ ?_ (fun hH24 => ?_)
                · exact ⟨(World.cell?_setCell_far _ _ _ _ hgb).trans (bcell b23 e0), (World.cell?_setCell_far _ _ _ _ hgb).trans (bcell b23 e1), (World.cell?_setCell_far _ _ _ _ hgb).trans (bcell b23 e2), (World.cell?_setCell_far _ _ _ _ hgb).trans (bcell b23 e3), (World.cell?_setCell_far _ _ _ _ hgb).trans (bcell b23 e4), (World.cell?_setCell_far _ _ _ _ hgb).trans (bcell b23 e5)⟩
                clear hK24 K24
                refine wpAnyH_done (by kernel_rfl) ?_ _
                go_wp2_with fail
                go_meet
                exact ⟨_, _, _, rfl, rfl, by rw [← HSZ.out]; exact o23, below_chain B2d b23⟩
              refine AllReadyH.cons rfl (fun K25 hK25 => ?_) AllReadyH.nil
              have bs25 := (Below.refl wd.heap.size wd).alloc (Nat.le_refl _) (.cells #[.int .i64 ((n1 : Int) + 1), .int .i64 ((d : Int) + 1), .string ev.s, .string ev.t, .slice T nT cT, .slice F nF cF] 51)
              have es25 : wd.heap.size = wd.heap.size := rfl
              have b25 := below_chain bd0 bs25
              have d25 : RdC 6 (wd.alloc (.cells #[.int .i64 ((n1 : Int) + 1), .int .i64 ((d : Int) + 1), .string ev.s, .string ev.t, .slice T nT cT, .slice F nF cF] 51)) (some ⟨wd.heap.size, 0, none⟩) 1 1 [.int .i64 ((n1 : Int) + 1), .int .i64 ((d : Int) + 1), .string ev.s, .string ev.t, .slice T nT cT, .slice F nF cF] := by rw [← es25]; exact RdC.new wd 51 [.int .i64 ((n1 : Int) + 1), .int .i64 ((d : Int) + 1), .string ev.s, .string ev.t, .slice T nT cT, .slice F nF cF] rfl (by decide)
              go_simp
              refine hK25.out _ _ ?_ (fun hH25 => ?_)
              · exact ⟨bcell b25 e0, bcell b25 e1, bcell b25 e2, bcell b25 e3, bcell b25 e4, bcell b25 e5⟩
              clear hK25 K25
              refine wpAnyH_ready (rs := [1]) (by kernel_rfl) (by simp) ?_
              refine AllReadyH.cons rfl (fun K26 hK26 => ?_) AllReadyH.nil
              have bs26 := (Below.refl (wd.alloc (.cells #[.int .i64 ((n1 : Int) + 1), .int .i64 ((d : Int) + 1), .string ev.s, .string ev.t, .slice T nT cT, .slice F nF cF] 51)).heap.size (wd.alloc (.cells #[.int .i64 ((n1 : Int) + 1), .int .i64 ((d : Int) + 1), .string ev.s, .string ev.t, .slice T nT cT, .slice F nF cF] 51))).alloc (Nat.le_refl _) (.cells #[] 51)
              have es26 : (wd.alloc (.cells #[.int .i64 ((n1 : Int) + 1), .int .i64 ((d : Int) + 1), .string ev.s, .string ev.t, .slice T nT cT, .slice F nF cF] 51)).heap.size = wd.heap.size + 1 := by simp only [World.alloc, Array.size_push]
              have b26 := below_chain b25 bs26
              have o26 : OwnC 6 ((wd.alloc (.cells #[.int .i64 ((n1 : Int) + 1), .int .i64 ((d : Int) + 1), .string ev.s, .string ev.t, .slice T nT cT, .slice F nF cF] 51)).alloc (.cells #[] 51)) wd.heap.size 51 (some ⟨wd.heap.size + 1, 0, none⟩) 0 0 [] := by rw [← es26]; exact OwnC.empty (wd.alloc (.cells #[.int .i64 ((n1 : Int) + 1), .int .i64 ((d : Int) + 1), .string ev.s, .string ev.t, .slice T nT cT, .slice F nF cF] 51)) 51 b25.size
              have d26 := RdC.below d25 bs26
              go_simp
              refine hK26.out _ _ ?_ (fun hH26 => ?_)
              · exact ⟨bcell b26 e0, bcell b26 e1, bcell b26 e2, bcell b26 e3, bcell b26 e4, bcell b26 e5⟩
              clear hK26 K26
              refine wpAnyH_ready (rs := [6]) (by kernel_rfl) (by simp) ?_
              refine AllReadyH.cons rfl (fun K27 hK27 => ?_) AllReadyH.nil
              refine step_append_cells (by rfl) (.tmp 61) (.tmp 65) 32 rfl 51 (.agg #[.int .i64 0, .int .i64 0, .string ⟨#[]⟩, .string ⟨#[]⟩, .slice none 0 0, .slice none 0 0]) 96 Tryz.underlying32 rec_info rfl (by decide) rfl rfl o26 (RdC.below rE b26) (RcsO.one _ _ hcs) (by unfold maxLen; omega) (by omega) b26.size ?_
              intro A27 c27 w27 o27 g27 i27
              have b27 := below_grown_own o26 b26 g27 b26.size
              rw [Nat.zero_add, List.nil_append] at o27
              have d27 := RdC.grown d26 g27 (fun b o h => by injection h with h; injection h with h; rw [← h]; intro h2; injection h2 with h2; dsimp only at h2; omega)
              (try go_simp)
              refine hK27.out _ _ ?_ (fun hH27 => ?_)
              · exact ⟨bcell b27 e0, bcell b27 e1, bcell b27 e2, bcell b27 e3, bcell b27 e4, bcell b27 e5⟩
              clear hK27 K27
              refine wpAnyH_ready (rs := [9]) (by kernel_rfl) (by simp) ?_
              refine AllReadyH.cons rfl (fun K28 hK28 => ?_) AllReadyH.nil
              refine step_append_cells (by rfl) (.tmp 66) (.tmp 68) 32 rfl 51 (.agg #[.int .i64 0, .int .i64 0, .string ⟨#[]⟩, .string ⟨#[]⟩, .slice none 0 0, .slice none 0 0]) 96 Tryz.underlying32 rec_info rfl (by decide) rfl rfl o27 d27 hone (by unfold maxLen; omega) (by omega) b27.size ?_
              intro A28 c28 w28 o28 g28 i28
              have b28 := below_grown_own o27 b27 g28 b27.size
              (try go_simp)
              refine hK28.out _ _ ?_ (fun hH28 => ?_)
              · exact ⟨bcell b28 e0, bcell b28 e1, bcell b28 e2, bcell b28 e3, bcell b28 e4, bcell b28 e5⟩
              clear hK28 K28
              refine take_at (i := 10) (d := 70) (v := ?_) rfl rfl (by kernel_rfl) (by kernel_rfl) (by kernel_rfl) (fun _ _ _ h => h) (Or.inl ⟨by rfl, ?hy⟩) (by assumption) ?_
              case hy => (intro wS hSw; (try dsimp only at hSw); first | (go_simp; done) | (go_simp; with_reducible rfl))
              simp only [Act.put, List.setIfInBounds_toArray, List.set_cons_zero, List.set_cons_succ]
              refine take_at (i := 11) (d := 71) (v := ?_) rfl rfl (by kernel_rfl) (by kernel_rfl) (by kernel_rfl) (fun _ _ _ h => h) (Or.inl ⟨by rfl, ?hy⟩) (by assumption) ?_
              case hy => (intro wS hSw; (try dsimp only at hSw); first | (go_simp; done) | (go_simp; with_reducible rfl))
              simp only [Act.put, List.setIfInBounds_toArray, List.set_cons_zero, List.set_cons_succ]
              refine wpAnyH_ready (rs := [12]) (by kernel_rfl) (by simp) ?_
              refine AllReadyH.cons rfl (fun K29 hK29 => ?_) AllReadyH.nil
              have kx29 := bcell b28 kE
              have fx29 : w28.frozen? ⟨g, 0, none⟩ = false := (b28.frozen (World.block_lt_of_cell? wd ⟨g, 0, none⟩ kE)).trans fE
              go_simp
              refine hK29.out _ _ ?_ (fun hH29 => ?_)
              · exact ⟨(World.cell?_setCell_far _ _ _ _ hgb).trans (bcell b28 e0), (World.cell?_setCell_far _ _ _ _ hgb).trans (bcell b28 e1), (World.cell?_setCell_far _ _ _ _ hgb).trans (bcell b28 e2), (World.cell?_setCell_far _ _ _ _ hgb).trans (bcell b28 e3), (World.cell?_setCell_far _ _ _ _ hgb).trans (bcell b28 e4), (World.cell?_setCell_far _ _ _ _ hgb).trans (bcell b28 e5)⟩
              clear hK29 K29
              refine wpAnyH_done (by kernel_rfl) ?_ _
              go_wp2_with fail
              go_meet
              exact ⟨_, _, _, rfl, rfl, by rw [← HSZ.out]; exact o28, below_chain B2d b28⟩
            refine AllReadyH.cons rfl (fun K30 hK30 => ?_) AllReadyH.nil
            have bs30 := (Below.refl wd.heap.size wd).alloc (Nat.le_refl _) (.cells #[.int .i64 ((n1 : Int) + 1), .int .i64 ((d : Int) + 1), .string ev.s, .string ev.t, .slice T nT cT, .slice F nF cF] 51)
            have es30 : wd.heap.size = wd.heap.size := rfl
            have b30 := below_chain bd0 bs30
            have d30 : RdC 6 (wd.alloc (.cells #[.int .i64 ((n1 : Int) + 1), .int .i64 ((d : Int) + 1), .string ev.s, .string ev.t, .slice T nT cT, .slice F nF cF] 51)) (some ⟨wd.heap.size, 0, none⟩) 1 1 [.int .i64 ((n1 : Int) + 1), .int .i64 ((d : Int) + 1), .string ev.s, .string ev.t, .slice T nT cT, .slice F nF cF] := by rw [← es30]; exact RdC.new wd 51 [.int .i64 ((n1 : Int) + 1), .int .i64 ((d : Int) + 1), .string ev.s, .string ev.t, .slice T nT cT, .slice F nF cF] rfl (by decide)
            go_simp
            refine hK30.out _ _ ?_ (fun hH30 => ?_)
            · exact ⟨bcell b30 e0, bcell b30 e1, bcell b30 e2, bcell b30 e3, bcell b30 e4, bcell b30 e5⟩
            clear hK30 K30
            refine wpAnyH_ready (rs := [1, 5]) (by kernel_rfl) (by simp) ?_
            refine AllReadyH.cons rfl (fun K31 hK31 => ?_) ?_
            · skip
              have bs31 := (Below.refl (wd.alloc (.cells #[.int .i64 ((n1 : Int) + 1), .int .i64 ((d : Int) + 1), .string ev.s, .string ev.t, .slice T nT cT, .slice F nF cF] 51)).heap.size (wd.alloc (.cells #[.int .i64 ((n1 : Int) + 1), .int .i64 ((d : Int) + 1), .string ev.s, .string ev.t, .slice T nT cT, .slice F nF cF] 51))).alloc (Nat.le_refl _) (.cells #[] 51)
              have es31 : (wd.alloc (.cells #[.int .i64 ((n1 : Int) + 1), .int .i64 ((d : Int) + 1), .string ev.s, .string ev.t, .slice T nT cT, .slice F nF cF] 51)).heap.size = wd.heap.size + 1 := by simp only [World.alloc, Array.size_push]
              have b31 := below_chain b30 bs31
              have o31 : OwnC 6 ((wd.alloc (.cells #[.int .i64 ((n1 : Int) + 1), .int .i64 ((d : Int) + 1), .string ev.s, .string ev.t, .slice T nT cT, .slice F nF cF] 51)).alloc (.cells #[] 51)) wd.heap.size 51 (some ⟨wd.heap.size + 1, 0, none⟩) 0 0 [] := by rw [← es31]; exact OwnC.empty (wd.alloc (.cells #[.int .i64 ((n1 : Int) + 1), .int .i64 ((d : Int) + 1), .string ev.s, .string ev.t, .slice T nT cT, .slice F nF cF] 51)) 51 b30.size
              have d31 := RdC.below d30 bs31
              go_simp
              refine hK31.out _ _ ?_ (fun hH31 => ?_)
              · exact ⟨bcell b31 e0, bcell b31 e1, bcell b31 e2, bcell b31 e3, bcell b31 e4, bcell b31 e5⟩
              clear hK31 K31
              refine wpAnyH_ready (rs := [5]) (by kernel_rfl) (by simp) ?_
              refine AllReadyH.cons rfl (fun K32 hK32 => ?_) AllReadyH.nil
              have kx32 := bcell b31 kE
              go_simp
              refine hK32.out _ _ ?_ (fun hH32 => ?_)
              · exact ⟨bcell b31 e0, bcell b31 e1, bcell b31 e2, bcell b31 e3, bcell b31 e4, bcell b31 e5⟩
              clear hK32 K32
              refine wpAnyH_ready (rs := [6]) (by kernel_rfl) (by simp) ?_
              refine AllReadyH.cons rfl (fun K33 hK33 => ?_) AllReadyH.nil
              refine step_append_cells (by rfl) (.tmp 61) (.tmp 65) 32 rfl 51 (.agg #[.int .i64 0, .int .i64 0, .string ⟨#[]⟩, .string ⟨#[]⟩, .slice none 0 0, .slice none 0 0]) 96 Tryz.underlying32 rec_info rfl (by decide) rfl rfl o31 (RdC.below rE b31) (RcsO.one _ _ hcs) (by unfold maxLen; omega) (by omega) b31.size ?_
              intro A33 c33 w33 o33 g33 i33
              have b33 := below_grown_own o31 b31 g33 b31.size
              rw [Nat.zero_add, List.nil_append] at o33
              have d33 := RdC.grown d31 g33 (fun b o h => by injection h with h; injection h with h; rw [← h]; intro h2; injection h2 with h2; dsimp only at h2; omega)
              (try go_simp)
              refine hK33.out _ _ ?_ (fun hH33 => ?_)
              · exact ⟨bcell b33 e0, bcell b33 e1, bcell b33 e2, bcell b33 e3, bcell b33 e4, bcell b33 e5⟩
              clear hK33 K33
              refine wpAnyH_ready (rs := [9]) (by kernel_rfl) (by simp) ?_
              refine AllReadyH.cons rfl (fun K34 hK34 => ?_) AllReadyH.nil
              refine step_append_cells (by rfl) (.tmp 66) (.tmp 68) 32 rfl 51 (.agg #[.int .i64 0, .int .i64 0, .string ⟨#[]⟩, .string ⟨#[]⟩, .slice none 0 0, .slice none 0 0]) 96 Tryz.underlying32 rec_info rfl (by decide) rfl rfl o33 d33 hone (by unfold maxLen; omega) (by omega) b33.size ?_
              intro A34 c34 w34 o34 g34 i34
              have b34 := below_grown_own o33 b33 g34 b33.size
              (try go_simp)
              refine hK34.out _ _ ?_ (fun hH34 => ?_)
              · exact ⟨bcell b34 e0, bcell b34 e1, bcell b34 e2, bcell b34 e3, bcell b34 e4, bcell b34 e5⟩
              clear hK34 K34
              refine take_at (i := 10) (d := 70) (v := ?_) rfl rfl (by kernel_rfl) (by kernel_rfl) (by kernel_rfl) (fun _ _ _ h => h) (Or.inl ⟨by rfl, ?hy⟩) (by assumption) ?_
              case hy => (intro wS hSw; (try dsimp only at hSw); first | (go_simp; done) | (go_simp; with_reducible rfl))
              simp only [Act.put, List.setIfInBounds_toArray, List.set_cons_zero, List.set_cons_succ]
              refine take_at (i := 11) (d := 71) (v := ?_) rfl rfl (by kernel_rfl) (by kernel_rfl) (by kernel_rfl) (fun _ _ _ h => h) (Or.inl ⟨by rfl, ?hy⟩) (by assumption) ?_
              case hy => (intro wS hSw; (try dsimp only at hSw); first | (go_simp; done) | (go_simp; with_reducible rfl))
              simp only [Act.put, List.setIfInBounds_toArray, List.set_cons_zero, List.set_cons_succ]
              refine wpAnyH_ready (rs := [12]) (by kernel_rfl) (by simp) ?_
              refine AllReadyH.cons rfl (fun K35 hK35 => ?_) AllReadyH.nil
              have kx35 := bcell b34 kE
              have fx35 : w34.frozen? ⟨g, 0, none⟩ = false := (b34.frozen (World.block_lt_of_cell? wd ⟨g, 0, none⟩ kE)).trans fE
              go_simp
              refine hK35.out _ _ ?_ (fun hH35 => ?_)
              · exact ⟨(World.cell?_setCell_far _ _ _ _ hgb).trans (bcell b34 e0), (World.cell?_setCell_far _ _ _ _ hgb).trans (bcell b34 e1), (World.cell?_setCell_far _ _ _ _ hgb).trans (bcell b34 e2), (World.cell?_setCell_far _ _ _ _ hgb).trans (bcell b34 e3), (World.cell?_setCell_far _ _ _ _ hgb).trans (bcell b34 e4), (World.cell?_setCell_far _ _ _ _ hgb).trans (bcell b34 e5)⟩
              clear hK35 K35
              refine wpAnyH_done (by kernel_rfl) ?_ _
              go_wp2_with fail
              go_meet
              exact ⟨_, _, _, rfl, rfl, by rw [← HSZ.out]; exact o34, below_chain B2d b34⟩
            refine AllReadyH.cons rfl (fun K36 hK36 => ?_) AllReadyH.nil
            have kx36 := bcell b30 kE
            go_simp
            refine hK36.out _ _ ?_ (fun hH36 => ?_)
            · exact ⟨bcell b30 e0, bcell b30 e1, bcell b30 e2, bcell b30 e3, bcell b30 e4, bcell b30 e5⟩
            clear hK36 K36
            refine wpAnyH_ready (rs := [1]) (by kernel_rfl) (by simp) ?_
            refine AllReadyH.cons rfl (fun K37 hK37 => ?_) AllReadyH.nil
            have bs37 := (Below.refl (wd.alloc (.cells #[.int .i64 ((n1 : Int) + 1), .int .i64 ((d : Int) + 1), .string ev.s, .string ev.t, .slice T nT cT, .slice F nF cF] 51)).heap.size (wd.alloc (.cells #[.int .i64 ((n1 : Int) + 1), .int .i64 ((d : Int) + 1), .string ev.s, .string ev.t, .slice T nT cT, .slice F nF cF] 51))).alloc (Nat.le_refl _) (.cells #[] 51)
            have es37 : (wd.alloc (.cells #[.int .i64 ((n1 : Int) + 1), .int .i64 ((d : Int) + 1), .string ev.s, .string ev.t, .slice T nT cT, .slice F nF cF] 51)).heap.size = wd.heap.size + 1 := by simp only [World.alloc, Array.size_push]
            have b37 := below_chain b30 bs37
            have o37 : OwnC 6 ((wd.alloc (.cells #[.int .i64 ((n1 : Int) + 1), .int .i64 ((d : Int) + 1), .string ev.s, .string ev.t, .slice T nT cT, .slice F nF cF] 51)).alloc (.cells #[] 51)) wd.heap.size 51 (some ⟨wd.heap.size + 1, 0, none⟩) 0 0 [] := by rw [← es37]; exact OwnC.empty (wd.alloc (.cells #[.int .i64 ((n1 : Int) + 1), .int .i64 ((d : Int) + 1), .string ev.s, .string ev.t, .slice T nT cT, .slice F nF cF] 51)) 51 b30.size
            have d37 := RdC.below d30 bs37
            go_simp
            refine hK37.out _ _ ?_ (fun hH37 => ?_)
            · exact ⟨bcell b37 e0, bcell b37 e1, bcell b37 e2, bcell b37 e3, bcell b37 e4, bcell b37 e5⟩
            clear hK37 K37
            refine wpAnyH_ready (rs := [6]) (by kernel_rfl) (by simp) ?_
            refine AllReadyH.cons rfl (fun K38 hK38 => ?_) AllReadyH.nil
            refine step_append_cells (by rfl) (.tmp 61) (.tmp 65) 32 rfl 51 (.agg #[.int .i64 0, .int .i64 0, .string ⟨#[]⟩, .string ⟨#[]⟩, .slice none 0 0, .slice none 0 0]) 96 Tryz.underlying32 rec_info rfl (by decide) rfl rfl o37 (RdC.below rE b37) (RcsO.one _ _ hcs) (by unfold maxLen; omega) (by omega) b37.size ?_
            intro A38 c38 w38 o38 g38 i38
            have b38 := below_grown_own o37 b37 g38 b37.size
            rw [Nat.zero_add, List.nil_append] at o38
            have d38 := RdC.grown d37 g38 (fun b o h => by injection h with h; injection h with h; rw [← h]; intro h2; injection h2 with h2; dsimp only at h2; omega)
            (try go_simp)
            refine hK38.out _ _ ?_ (fun hH38 => ?_)
            · exact ⟨bcell b38 e0, bcell b38 e1, bcell b38 e2, bcell b38 e3, bcell b38 e4, bcell b38 e5⟩
            clear hK38 K38
            refine wpAnyH_ready (rs := [9]) (by kernel_rfl) (by simp) ?_
            refine AllReadyH.cons rfl (fun K39 hK39 => ?_) AllReadyH.nil
            refine step_append_cells (by rfl) (.tmp 66) (.tmp 68) 32 rfl 51 (.agg #[.int .i64 0, .int .i64 0, .string ⟨#[]⟩, .string ⟨#[]⟩, .slice none 0 0, .slice none 0 0]) 96 Tryz.underlying32 rec_info rfl (by decide) rfl rfl o38 d38 hone (by unfold maxLen; omega) (by omega) b38.size ?_
            intro A39 c39 w39 o39 g39 i39
            have b39 := below_grown_own o38 b38 g39 b38.size
            (try go_simp)
            refine hK39.out _ _ ?_ (fun hH39 => ?_)
            · exact ⟨bcell b39 e0, bcell b39 e1, bcell b39 e2, bcell b39 e3, bcell b39 e4, bcell b39 e5⟩
            clear hK39 K39
            refine take_at (i := 10) (d := 70) (v := ?_) rfl rfl (by kernel_rfl) (by kernel_rfl) (by kernel_rfl) (fun _ _ _ h => h) (Or.inl ⟨by rfl, ?hy⟩) (by assumption) ?_
            case hy => (intro wS hSw; (try dsimp only at hSw); first | (go_simp; done) | (go_simp; with_reducible rfl))
            simp only [Act.put, List.setIfInBounds_toArray, List.set_cons_zero, List.set_cons_succ]
            refine take_at (i := 11) (d := 71) (v := ?_) rfl rfl (by kernel_rfl) (by kernel_rfl) (by kernel_rfl) (fun _ _ _ h => h) (Or.inl ⟨by rfl, ?hy⟩) (by assumption) ?_
            case hy => (intro wS hSw; (try dsimp only at hSw); first | (go_simp; done) | (go_simp; with_reducible rfl))
            simp only [Act.put, List.setIfInBounds_toArray, List.set_cons_zero, List.set_cons_succ]
            refine wpAnyH_ready (rs := [12]) (by kernel_rfl) (by simp) ?_
            refine AllReadyH.cons rfl (fun K40 hK40 => ?_) AllReadyH.nil
            have kx40 := bcell b39 kE
            have fx40 : w39.frozen? ⟨g, 0, none⟩ = false := (b39.frozen (World.block_lt_of_cell? wd ⟨g, 0, none⟩ kE)).trans fE
            go_simp
            refine hK40.out _ _ ?_ (fun hH40 => ?_)
            · exact ⟨(World.cell?_setCell_far _ _ _ _ hgb).trans (bcell b39 e0), (World.cell?_setCell_far _ _ _ _ hgb).trans (bcell b39 e1), (World.cell?_setCell_far _ _ _ _ hgb).trans (bcell b39 e2), (World.cell?_setCell_far _ _ _ _ hgb).trans (bcell b39 e3), (World.cell?_setCell_far _ _ _ _ hgb).trans (bcell b39 e4), (World.cell?_setCell_far _ _ _ _ hgb).trans (bcell b39 e5)⟩
            clear hK40 K40
            refine wpAnyH_done (by kernel_rfl) ?_ _
            go_wp2_with fail
            go_meet
            exact ⟨_, _, _, rfl, rfl, by rw [← HSZ.out]; exact o39, below_chain B2d b39⟩
          case rest =>
            obtain ⟨A9, c9, w9, rfl, rfl, o9, b9⟩ := hcut
            have o9' : OwnC 6 w9 w8.heap.size 51 A9 (n1 + 1) c9 (cs ++ rcV (nextR (es ++ bes.take j) ev) T nT cT F nF cF) := by rw [HNX.out]; exact o9
            have a10 := A8.out.took hcs rT rF o9' b9
            have R10 : RxAt (w9.setCell ⟨g, 0, none⟩ (.slice A9 (n1 + 1) c9)) gb (.int .i64 ((n1 : Int) + 1)) (.int .i64 ((d : Int) + 1)) (.string ev.s) (.string ev.t) (.slice T nT cT) (.slice F nF cF) := by
              have h1 := R8.out.below b9
              unfold RxAt at h1 ⊢
              have h2 : g ≠ gb := hgb
              simp only [World.setCell, Array.getElem?_modify, h1, if_neg h2]
            clear o9 o9' b9 e0 e1 e2 e3 e4 e5 hone rE kE fE hcs
            generalize w9.setCell ⟨g, 0, none⟩ (.slice A9 (n1 + 1) c9) = w10 at *
            have e0 := R10.c0
            have e1 := R10.c1
            have e2 := R10.c2
            have e3 := R10.c3
            have e4 := R10.c4
            have e5 := R10.c5
            have al := (Below.refl w10.heap.size w10).alloc (Nat.le_refl _) (.cells #[.int .i64 ((n1 : Int) + 1), .int .i64 ((d : Int) + 1), .string ev.s, .string ev.t, .slice T nT cT, .slice F nF cF] 51)
            have d1 : RdC 6 (w10.alloc (.cells #[.int .i64 ((n1 : Int) + 1), .int .i64 ((d : Int) + 1), .string ev.s, .string ev.t, .slice T nT cT, .slice F nF cF] 51)) (some ⟨w10.heap.size, 0, none⟩) 1 1 [.int .i64 ((n1 : Int) + 1), .int .i64 ((d : Int) + 1), .string ev.s, .string ev.t, .slice T nT cT, .slice F nF cF] := RdC.new w10 51 [.int .i64 ((n1 : Int) + 1), .int .i64 ((d : Int) + 1), .string ev.s, .string ev.t, .slice T nT cT, .slice F nF cF] rfl (by decide)
            have a11 := a10.below al
            obtain ⟨ds, oB, lB, hB⟩ := a11.out
            have hm : m ≤ 16 := by
              have h1 := newR_len (bes.take j) es
              rw [List.length_take] at h1
              omega
            have hbase : w2.heap.size ≤ (w10.alloc (.cells #[.int .i64 ((n1 : Int) + 1), .int .i64 ((d : Int) + 1), .string ev.s, .string ev.t, .slice T nT cT, .slice F nF cF] 51)).heap.size := a11.ch.size
            have A11 := Go.Lib.hid a11
            have hone := rc_one ⟨(n1 : Int) + 1, (d : Int) + 1, ev⟩ T F nT cT nF cF
            clear a10 a11 al R10 A8 R8 X8 B8
            go_wp2_with (at_builtin; refine wpList_append_cells rfl (.tmp 72) (.tmp 74) 32 rfl 51 (.agg #[.int .i64 0, .int .i64 0, .string ⟨#[]⟩, .string ⟨#[]⟩, .slice none 0 0, .slice none 0 0]) 96 Tryz.underlying32 rec_info rfl (by decide) rfl rfl oB d1 hone (by unfold maxLen; omega) (by omega) hbase ?_; intro B9 cb9 w12 o12 g12 loc12)
            have a12 := A11.out.told (e := nextR (es ++ bes.take j) ev) oB lB hB rT rF (by rw [HNX.out]; exact o12) g12 loc12
            have A12 : Hid (AdR W0 w2 G g w12 A9 (n1 + 1) c9 (es ++ bes.take (j + 1)) B9 (m + 1) cb9 (newR es (bes.take (j + 1)))) := Go.Lib.hid (by rw [HST.out, HET.out, ← List.append_assoc]; exact a12)
            go_roundw
            case rel => exact ⟨A9, n1 + 1, c9, B9, m + 1, cb9, j + 1, rfl, by go_num, by omega, A12⟩
            case measure => simp [intOf]; omega
        · obtain rfl : j = nC := by omega
          have i1 : ¬ (j : Int) < j := by omega
          have hbt : bes.take j = bes := List.take_of_length_le (by omega)
          rw [hbt] at ad
          have A12 := Go.Lib.hid ad
          clear ad AD
          go_wp2_with fail
          go_ret2
          have a12 := A12.out
          have hB2 := HB2.out
          have hs2 := hB2.size
          obtain ⟨ds, oB, lB, hB⟩ := a12.out
          obtain ⟨A', n', c', y1, y2, y3, y4, y5⟩ := a12.fin hG2 hg
          have hsr := a12.ch.size
          refine ⟨B, m, cb, rfl, ⟨ds, ownC_lower oB (by omega), lB, hB⟩, ⟨A', n', c', y1, y2, .inl hg, fun a ha => ⟨?_, (y4 a ha).2⟩, fun k hk => up_lt hGl (by omega) hk⟩, (Ch.of_below hB2).trans (a12.ch.wide fun k hk => .inl hk)⟩
          rcases (y4 a ha).1 with h1 | h1
          · exact .inl h1
          · exact .inr ⟨by omega, h1.2⟩
    · have e : R = (1, [], es) := by rw [← HR.out]; exact addB_no hm (by simp only; omega)
      subst e
      have hne : ((a : Int) != (n : Int)) = true := by rw [bne_iff_ne]; exact ha
      clear HR hm AD0
      go_wp2_with fail
      go_quiet (fail)
      go_wp2_with fail
      go_ret2
      exact ⟨none, 0, 0, rfl, OwnR.nil _ _ _, RY2.out, ch2.out.then_below ⟨rfl, rfl, rfl, Nat.le_refl _, fun _ _ => rfl⟩⟩
  · have e : R = (mayX ⟨a, bes⟩, [], es) := by rw [← HR.out]; exact addB_bad hm
    have hne : (mayX ⟨a, bes⟩ != 0) = true := by rw [bne_iff_ne]; exact hm
    generalize mayX ⟨a, bes⟩ = M at *
    subst e
    clear HR hm AD0
    go_wp2_with fail
    go_ret2
    exact ⟨none, 0, 0, rfl, OwnR.nil _ _ _, RY2.out, ch2.out⟩

end Go.Proofs.YtiplfhmimpkplaaGreat.IxWalk

/-
  Rows of clauses of a call's own, whose own rows are older.
-/
namespace Go.Proofs.YtiplfhmimpkplaaGreat.QuWalk
open Go.RowKit Go.Proofs.YtiplfhmimpkplaaGreat.MemRow Go.Proofs.YtiplfhmimpkplaaGreat.Ev Go.Proofs.YtiplfhmimpkplaaGreat.NameMath Go.Proofs.YtiplfhmimpkplaaGreat.NameWalk Go.Proofs.YtiplfhmimpkplaaGreat.EvWalk Go.Proofs.YtiplfhmimpkplaaGreat.Qu

theorem clause_info : (Tryz.prog.info? 87).map (fun i => (i.zero, i.size, i.bytes)) = some (some (.agg #[.slice none 0 0, .slice none 0 0]), 2, 48) := by kernel_rfl
theorem clause_size : (Tryz.prog.info? 87).map (·.size) = some 2 := by kernel_rfl
theorem elem_clauses : Tryz.prog.elem 23 = 87 := by kernel_rfl

/-- The cells cs are the clauses q, as world w0 has them. -/
def ClsR (w0 : World) : List Cl → List Value → Prop
  | [], cs => cs = []
  | c :: q, cs => ∃ T nT cT Y nY cY cs', cs = .slice T nT cT :: .slice Y nY cY :: cs' ∧ RdS w0 T nT cT c.tags ∧ RdS w0 Y nY cY c.types ∧ ClsR w0 q cs'
theorem ClsR.snoc {w : World} {c : Cl} {T Y : Option Addr} {nT cT nY cY : Nat} (o1 : RdS w T nT cT c.tags) (o2 : RdS w Y nY cY c.types) :
    ∀ (q : List Cl) (cs : List Value), ClsR w q cs → ClsR w (q ++ [c]) (cs ++ [.slice T nT cT, .slice Y nY cY])
  | [], cs, h => by
    obtain rfl : cs = [] := h
    exact ⟨T, nT, cT, Y, nY, cY, [], rfl, o1, o2, rfl⟩
  | x :: q, cs, ⟨T1, n1, c1, F1, m1, d1, cs', hc, p1, p2, h⟩ => by
    subst hc
    exact ⟨T1, n1, c1, F1, m1, d1, cs' ++ [.slice T nT cT, .slice Y nY cY], rfl, p1, p2, ClsR.snoc o1 o2 q cs' h⟩
theorem ClsR.below {w w' : World} (hb : Below w.heap.size w w') : ∀ (q : List Cl) (cs : List Value), ClsR w q cs → ClsR w' q cs
  | [], _, h => h
  | _ :: q, _, ⟨T, nT, cT, Y, nY, cY, cs', e, o1, o2, h⟩ => ⟨T, nT, cT, Y, nY, cY, cs', e, RdC.below o1 hb, RdC.below o2 hb, ClsR.below hb q cs' h⟩
theorem ClsR.at_ {w : World} : ∀ (q : List Cl) (cs : List Value), ClsR w q cs → ∀ i, i < q.length →
    ∃ T nT cT Y nY cY, cs[i * 2]? = some (.slice T nT cT) ∧ cs[i * 2 + 1]? = some (.slice Y nY cY) ∧ RdS w T nT cT (q.getD i noCl).tags ∧ RdS w Y nY cY (q.getD i noCl).types
  | [], _, _, i, hi => by simp at hi
  | c :: q, cs, ⟨T, nT, cT, Y, nY, cY, cs', hc, o1, o2, h⟩, i, hi => by
    subst hc
    cases i with
    | zero => exact ⟨T, nT, cT, Y, nY, cY, rfl, rfl, o1, o2⟩
    | succ i =>
      obtain ⟨T1, n1, c1, F1, m1, d1, q0, q1, p1, p2⟩ := ClsR.at_ q cs' h i (by simpa using hi)
      have e2 : (i + 1) * 2 = i * 2 + 2 := by omega
      rw [e2]
      exact ⟨T1, n1, c1, F1, m1, d1, by simpa using q0, by simpa using q1, by simpa using p1, by simpa using p2⟩
/-- A slice of a call's own that holds clauses, their rows as world w0 has them. -/
def OwnQ (w0 w : World) (base : Nat) (A : Option Addr) (n cap : Nat) (q : List Cl) : Prop := ∃ cs, OwnC 2 w base 87 A n cap cs ∧ q.length = n ∧ ClsR w0 q cs
theorem OwnQ.nil (w0 w : World) (base : Nat) : OwnQ w0 w base none 0 0 [] := ⟨[], OwnC.nil _ _, rfl, rfl⟩
theorem OwnQ.len {w0 w : World} {base : Nat} {A : Option Addr} {n cap : Nat} {q : List Cl} (h : OwnQ w0 w base A n cap q) : q.length = n := by
  obtain ⟨_, _, h, _⟩ := h
  exact h
theorem OwnQ.below {w0 w w' : World} {base : Nat} {A : Option Addr} {n cap : Nat} {q : List Cl} (h : OwnQ w0 w base A n cap q) (hb : Below w.heap.size w w') : OwnQ w0 w' base A n cap q := by
  obtain ⟨cs, o, hl, hc⟩ := h
  exact ⟨cs, OwnC.below o hb, hl, hc⟩
theorem OwnQ.grown {w0 w w' : World} {base : Nat} {A : Option Addr} {n cap : Nat} {q : List Cl} {g : Nat} (h : OwnQ w0 w base A n cap q) (hg : w.grownBy w' (some g)) (hb : g < base) : OwnQ w0 w' base A n cap q := by
  obtain ⟨cs, o, hl, hc⟩ := h
  exact ⟨cs, OwnC.grown o hg fun a hA e => by
    have := (OwnC.lt o a hA).1
    injection e with e
    omega, hl, hc⟩
theorem OwnQ.rd {w0 w : World} {base : Nat} {A : Option Addr} {n cap : Nat} {q : List Cl} (h : OwnQ w0 w base A n cap q) (hb : Below w0.heap.size w0 w) : RdQ w A n cap q := by
  obtain ⟨cs, o, hl, hc⟩ := h
  have r := OwnC.rd o
  refine ⟨hl, r.2.1, r.2.2.1, fun hn => ?_⟩
  obtain ⟨b, a, hA, hlt, hcell⟩ := RdC.at_ r (by omega) hn
  refine ⟨b, a, hA, hlt, fun i hi => ?_⟩
  obtain ⟨T, nT, cT, Y, nY, cY, q0, q1, p1, p2⟩ := ClsR.at_ q cs hc i (by omega)
  exact ⟨T, nT, cT, Y, nY, cY, hcell _ _ q0, by rw [Nat.add_assoc]; exact hcell _ _ q1, RdC.below p1 hb, RdC.below p2 hb⟩
/-- A clause more. -/
theorem OwnQ.more {w0 w' : World} {base : Nat} {A' : Option Addr} {n cap' : Nat} {q : List Cl} {cs : List Value} {c : Cl} {T Y : Option Addr} {nT cT nY cY : Nat} (hl : q.length = n) (hc : ClsR w0 q cs) (o1 : RdS w0 T nT cT c.tags) (o2 : RdS w0 Y nY cY c.types)
    (ho' : OwnC 2 w' base 87 A' (n + 1) cap' (cs ++ [.slice T nT cT, .slice Y nY cY])) : OwnQ w0 w' base A' (n + 1) cap' (q ++ [c]) :=
  ⟨_, ho', by rw [List.length_append, hl]; rfl, ClsR.snoc o1 o2 q cs hc⟩
theorem cl_one (T Y : Option Addr) (nT cT nY cY : Nat) : ∀ v ∈ ([.slice T nT cT, .slice Y nY cY] : List Value), v.oneCell' = true := by
  intro v hv
  simp only [List.mem_cons, List.not_mem_nil, or_false] at hv
  rcases hv with rfl | rfl <;> rfl
theorem ClAt.set0 {w : World} {g : Nat} {v0 v1 : Value} (h : ClAt w g v0 v1) (x : Value) : ClAt (w.setCell ⟨g, 0, none⟩ x) g x v1 := by
  unfold ClAt at h ⊢
  simp only [World.setCell, Array.getElem?_modify, h]
  rfl
theorem ClAt.set1 {w : World} {g : Nat} {v0 v1 : Value} (h : ClAt w g v0 v1) (x : Value) : ClAt (w.setCell ⟨g, 1, none⟩ x) g v0 x := by
  unfold ClAt at h ⊢
  simp only [World.setCell, Array.getElem?_modify, h]
  rfl
theorem ClAt.far {w : World} {g b i : Nat} {v0 v1 : Value} (h : ClAt w g v0 v1) (hne : g ≠ b) (x : Value) : ClAt (w.setCell ⟨b, i, none⟩ x) g v0 v1 := by
  unfold ClAt at h ⊢
  simp only [World.setCell, Array.getElem?_modify]
  rw [if_neg (fun e => hne e.symm)]
  exact h
theorem QAt.set {w : World} {g : Nat} {v0 : Value} (h : QAt w g v0) (x : Value) : QAt (w.setCell ⟨g, 0, none⟩ x) g x := by
  unfold QAt at h ⊢
  simp only [World.setCell, Array.getElem?_modify, h]
  rfl
theorem QAt.far {w : World} {g b i : Nat} {v0 : Value} (h : QAt w g v0) (hne : g ≠ b) (x : Value) : QAt (w.setCell ⟨b, i, none⟩ x) g v0 := by
  unfold QAt at h ⊢
  simp only [World.setCell, Array.getElem?_modify]
  rw [if_neg (fun e => hne e.symm)]
  exact h
theorem grownSet (w : World) (g i : Nat) (x : Value) : w.grownBy (w.setCell ⟨g, i, none⟩ x) (some g) := by
  refine ⟨rfl, rfl, rfl, by simp [World.setCell], fun k _ hne => ?_⟩
  have : g ≠ k := fun e => hne (by rw [e])
  simp [World.setCell, Array.getElem?_modify, this]

/-- What stands while a query is made of another one: the argument's box, the result's cell, the query that is made. -/
structure MkAt (w0 wr w : World) (vq : Value) (A : Option Addr) (n cap : Nat) (q : List Cl) : Prop where
  eq : QAt wr w.heap.size vq
  res : QAt wr (w.heap.size + 1) (.slice none 0 0)
  out : QAt wr (w.heap.size + 1 + 1) (.slice A n cap)
  own : OwnQ w0 wr (w.heap.size + 1 + 1 + 1) A n cap q
  bel : Below w.heap.size w wr
section
variable {w0 wr w w' : World} {vq : Value} {A : Option Addr} {n cap : Nat} {q : List Cl}
theorem MkAt.below (h : MkAt w0 wr w vq A n cap q) (hb : Below wr.heap.size wr w') : MkAt w0 w' w vq A n cap q := ⟨h.eq.below hb, h.res.below hb, h.out.below hb, h.own.below hb, below_chain h.bel hb⟩
theorem MkAt.far (h : MkAt w0 wr w vq A n cap q) {g : Nat} (hg : w.heap.size + 1 + 1 < g) (hA : ∀ a, A = some a → a.block ≠ g) (i : Nat) (x : Value) : MkAt w0 (wr.setCell ⟨g, i, none⟩ x) w vq A n cap q := by
  obtain ⟨cs, o, hl, hc⟩ := h.own
  exact ⟨h.eq.far (by omega) x, h.res.far (by omega) x, h.out.far (by omega) x, ⟨cs, OwnC.grown o (grownSet wr g i x) (fun a ha e => hA a ha (by injection e)), hl, hc⟩, h.bel.setCell (by show w.heap.size ≤ g; omega) x⟩
theorem MkAt.new (w0 w : World) (vq : Value) : MkAt w0 (((w.alloc (.cells #[vq] 25)).alloc (.cells #[.slice none 0 0] 25)).alloc (.cells #[.slice none 0 0] 25)) w vq none 0 0 [] := by
  have a1 := QAt.new w vq
  have b1 : Below w.heap.size w (w.alloc (.cells #[vq] 25)) := (Below.refl _ _).alloc (Nat.le_refl _) _
  generalize hw1 : w.alloc (.cells #[vq] 25) = w1 at *
  have s1 : w1.heap.size = w.heap.size + 1 := by rw [← hw1]; simp
  have a2 := QAt.new w1 (.slice none 0 0)
  have b2 : Below w1.heap.size w1 (w1.alloc (.cells #[.slice none 0 0] 25)) := (Below.refl _ _).alloc (Nat.le_refl _) _
  generalize hw2 : w1.alloc (.cells #[.slice none 0 0] 25) = w2 at *
  have s2 : w2.heap.size = w.heap.size + 1 + 1 := by rw [← hw2]; simp [s1]
  have a3 := QAt.new w2 (.slice none 0 0)
  have b3 : Below w2.heap.size w2 (w2.alloc (.cells #[.slice none 0 0] 25)) := (Below.refl _ _).alloc (Nat.le_refl _) _
  rw [s1] at a2
  rw [s2] at a3
  exact ⟨(a1.below b2).below b3, a2.below b3, a3, OwnQ.nil _ _ _, below_chain (below_chain b1 b2) b3⟩
/-- A clause is appended, and the query's cell is written. -/
theorem MkAt.more {cs : List Value} {c : Cl} {T Y : Option Addr} {nT cT nY cY : Nat} {A' : Option Addr} {cap' : Nat} {w8 : World} (h : MkAt w0 wr w vq A n cap q) (ho : OwnC 2 wr (w.heap.size + 1 + 1 + 1) 87 A n cap cs) (hc : ClsR w0 q cs) (o1 : RdS w0 T nT cT c.tags) (o2 : RdS w0 Y nY cY c.types)
    (ho8 : OwnC 2 w8 (w.heap.size + 1 + 1 + 1) 87 A' (n + 1) cap' (cs ++ [.slice T nT cT, .slice Y nY cY])) (hg : wr.grownBy w8 (A.map (·.block))) :
    w8.frozen? ⟨w.heap.size + 1 + 1, 0, none⟩ = false ∧ w8.cell? ⟨w.heap.size + 1 + 1, 0, none⟩ = some (.slice A n cap) ∧ MkAt w0 (w8.setCell ⟨w.heap.size + 1 + 1, 0, none⟩ (.slice A' (n + 1) cap')) w vq A' (n + 1) cap' (q ++ [c]) := by
  have low : ∀ r, A.map (·.block) = some r → w.heap.size + 1 + 1 + 1 ≤ r := fun r e => by
    cases A with
    | none => cases e
    | some a =>
      simp only [Option.map_some, Option.some.injEq] at e
      have := (OwnC.lt ho a rfl).1
      omega
  have hF : ∀ k, k < w.heap.size + 1 + 1 + 1 → some k ≠ A.map (·.block) := fun k hk e => by have := low k e.symm; omega
  have e8 := h.out.grown hg (hF _ (by omega))
  have hs := grownSet w8 (w.heap.size + 1 + 1) 0 (.slice A' (n + 1) cap')
  refine ⟨e8.frozen 0, e8.c0, (h.eq.grown hg (hF _ (by omega))).far (by omega) _, (h.res.grown hg (hF _ (by omega))).far (by omega) _, e8.set _, OwnQ.grown (OwnQ.more h.own.len hc o1 o2 ho8) hs (by omega), ?_⟩
  have b8 := h.bel.grown hg h.bel.size (fun r e => by have := low r e; omega)
  exact b8.setCell (by show w.heap.size ≤ w.heap.size + 1 + 1; omega) _
end

end Go.Proofs.YtiplfhmimpkplaaGreat.QuWalk

/-
  The laws' words of layer 6: few.
-/
namespace Go.Proofs.YtiplfhmimpkplaaGreat.QuWalk
open Go.RowKit Go.Proofs.YtiplfhmimpkplaaGreat.MemRow Go.Proofs.YtiplfhmimpkplaaGreat.Ev Go.Proofs.YtiplfhmimpkplaaGreat.NameMath Go.Proofs.YtiplfhmimpkplaaGreat.NameWalk Go.Proofs.YtiplfhmimpkplaaGreat.EvWalk Go.Proofs.YtiplfhmimpkplaaGreat.Qu

/-- At most eight clauses, of eight tags and eight types each. -/
def fewC (c : Cl) : Cl := ⟨c.tags.take 8, c.types.take 8⟩
def fewQ (q : List Cl) : List Cl := (q.take 8).map fewC
theorem fewC_ok {c : Cl} (h : ClOk c) : ClOk (fewC c) := ⟨fun x hx => h.tags x (List.mem_of_mem_take hx), fun x hx => h.types x (List.mem_of_mem_take hx)⟩
theorem fewQ_ok {q : List Cl} (h : QOk q) : QOk (fewQ q) := fun c hc => by
  obtain ⟨d, hd, rfl⟩ := List.mem_map.1 hc
  exact fewC_ok (h d (List.mem_of_mem_take hd))
theorem fewQ_len (q : List Cl) : (fewQ q).length ≤ 8 := by simp only [fewQ, List.length_map, List.length_take]; omega
theorem fewQ_terms (q : List Cl) : ∀ c ∈ fewQ q, c.tags.length ≤ 8 ∧ c.types.length ≤ 8 := fun c hc => by
  obtain ⟨d, hd, rfl⟩ := List.mem_map.1 hc
  simp only [fewC, List.length_take]
  omega
theorem fewQ_snoc (q : List Cl) (j : Nat) (h : j < q.length) (h8 : j < 8) : fewQ (q.take (j + 1)) = fewQ (q.take j) ++ [fewC (q.getD j noCl)] := by
  unfold fewQ
  rw [List.take_take, List.take_take, Nat.min_eq_right (by omega), Nat.min_eq_right (by omega), cl_take q j h, List.map_append]
  rfl
theorem fewQ_take (q : List Cl) (j : Nat) (h : q.length ≤ j ∨ 8 ≤ j) : fewQ (q.take j) = fewQ q := by
  unfold fewQ
  rw [List.take_take]
  rcases h with h | h
  · congr 1
    rcases Nat.le_total 8 j with h8 | h8
    · rw [Nat.min_eq_left h8]
    · rw [Nat.min_eq_right h8, List.take_of_length_le h, List.take_of_length_le (by omega)]
  · rw [Nat.min_eq_left h]

end Go.Proofs.YtiplfhmimpkplaaGreat.QuWalk

/-
  The laws' words of layer 14: few, less.
-/
namespace Go.Proofs.YtiplfhmimpkplaaGreat.IxWalk
open Go.RowKit Go.Proofs.YtiplfhmimpkplaaGreat.MemRow Go.Proofs.YtiplfhmimpkplaaGreat.Ev Go.Proofs.YtiplfhmimpkplaaGreat.NameMath Go.Proofs.YtiplfhmimpkplaaGreat.NameWalk Go.Proofs.YtiplfhmimpkplaaGreat.EvWalk Go.Proofs.YtiplfhmimpkplaaGreat.NumMem Go.Proofs.YtiplfhmimpkplaaGreat.Qu Go.Proofs.YtiplfhmimpkplaaGreat.QuWalk Go.Proofs.YtiplfhmimpkplaaGreat.BtWalk

theorem fldSize14 : (Tryz.prog.info? 85).map (·.size) = some 2 := by kernel_rfl
theorem elemFlds14 : Tryz.prog.elem 40 = 85 := by kernel_rfl
theorem evInfo14 : (Tryz.prog.info? 42).map (fun i => (i.zero, i.size, i.bytes)) = some (some (.agg #[.string ⟨#[]⟩, .string ⟨#[]⟩, .slice none 0 0, .slice none 0 0]), 4, 80) := by kernel_rfl
/-- At most ten tags and fields. -/
def fewD (e : Ev) : Ev := ⟨e.s, e.t, e.tags.take 10, e.fs.take 10⟩
theorem fewD_ok {e : Ev} (h : EvOk e) : EvOk (fewD e) :=
  ⟨h.s, h.t, fun x hx => h.tags x (List.mem_of_mem_take hx), fun f hf => h.names f (List.mem_of_mem_take hf), fun f hf => h.nums f (List.mem_of_mem_take hf)⟩
/-- At most eight events, of ten tags and fields each. -/
def few8 (es : List Ev) : List Ev := (es.take 8).map fewD
theorem few8_len (es : List Ev) : (few8 es).length ≤ 8 := by simp only [few8, List.length_map, List.length_take]; omega
theorem evs_take (l : List Ev) (j : Nat) (h : j < l.length) : l.take (j + 1) = l.take j ++ [l.getD j noEv] := by
  rw [List.take_add_one, List.getElem?_eq_getElem h]
  simp [List.getD, List.getElem?_eq_getElem h]
theorem few8_snoc (es : List Ev) (j : Nat) (h : j < es.length) (h6 : j < 8) : few8 (es.take (j + 1)) = few8 (es.take j) ++ [fewD (es.getD j noEv)] := by
  unfold few8
  rw [List.take_take, List.take_take, Nat.min_eq_right (by omega), Nat.min_eq_right (by omega), evs_take es j h, List.map_append]
  rfl
theorem few8_take (es : List Ev) (j : Nat) (h : es.length ≤ j ∨ 8 ≤ j) : few8 (es.take j) = few8 es := by
  unfold few8
  rw [List.take_take]
  rcases h with h | h
  · congr 1
    rcases Nat.le_total 8 j with h8 | h8
    · rw [Nat.min_eq_left h8]
    · rw [Nat.min_eq_right h8, List.take_of_length_le h, List.take_of_length_le (by omega)]
  · rw [Nat.min_eq_left h]
theorem fewD_all {x : Bat} (h : BOk x) : ∀ e ∈ few8 x.es, EvOk e := fun e he => by
  obtain ⟨d, hd, rfl⟩ := List.mem_map.1 he
  exact fewD_ok (h.evs d (List.mem_of_mem_take hd))
def fewB (x : Bat) : Bat := ⟨x.a, few8 x.es⟩
theorem fewB_ok {x : Bat} (h : BOk x) : BOk (fewB x) := ⟨fun e he => by
  obtain ⟨d, hd, rfl⟩ := List.mem_map.1 he
  exact fewD_ok (h.evs d (List.mem_of_mem_take hd)), h.a⟩

set_option maxHeartbeats 8000000 in
set_option maxRecDepth 100000 in
theorem few14_any (v : Value) (x : Bat) (w0 w : World) (hv : IsB w0 v x) (hb0 : Below w0.heap.size w0 w) :
    Calls Tryz.prog 9 #[v] w fun e w' => ∃ A n ca, e = .returned (.agg #[.int .i64 x.a, .slice A n ca]) ∧ OwnO w0 w' (w.heap.size + 1 + 1 + 1) A n ca (few8 x.es) ∧ Below w.heap.size w w' := by
  obtain ⟨C, n, cap, rfl, rC⟩ := hv
  obtain ⟨a, es⟩ := x
  simp only at rC
  have LC := Go.Lib.hid rC.len
  have hn := rC.le
  unfold maxLen at hn
  have s1 := MkB.new w0 w a (.slice C n cap)
  go_enter Tryz.func9, Tryz.ntmps9
  go_upto_region 2 with (fail)
  generalize ((w.alloc (.cells #[.int .i64 a, .slice C n cap] 45)).alloc (.cells #[.int .i64 0, .slice none 0 0] 45)).alloc (.cells #[.int .i64 a, .slice none 0 0] 45) = w1 at *
  go_wp2_with fail
  go_loopw [4, 5] (fun i _ wr => ∃ (j : Nat) (A : Option Addr) (ca : Nat), j ≤ n ∧ j ≤ 8 ∧ i = .int .i64 j ∧ MkB w0 wr w a (.slice C n cap) A j ca (few8 (es.take j))) (fun i _ _ => n - (intOf i).toNat)
  case atStart => exact ⟨0, none, 0, Nat.zero_le _, by omega, rfl, s1⟩
  case round =>
    obtain ⟨j, A, ca, hjn, hj20, rfl, sr⟩ := hrel
    clear s1
    have k0 := sr.eq.c0
    have k1 := sr.eq.c1
    by_cases hlt : j < n ∧ j < 8
    · obtain ⟨h1, h2⟩ := hlt
      obtain ⟨bt, ot, rfl, _, kt⟩ := rC.at_ (by omega)
      obtain ⟨T, nT, cT, Y, nY, cY, x0', x1', x2', x3', rT, rY⟩ := kt j h1
      have bb := below_chain hb0 sr.bel
      have x0 := bcell bb x0'
      have x1 := bcell bb x1'
      have x2 := bcell bb x2'
      have x3 := bcell bb x3'
      have i1 : (j : Int) < n := by omega
      have i2 : (j : Int) < 8 := by omega
      have HS := Go.Lib.hid (few8_snoc es j (by rw [LC.out]; exact h1) h2)
      clear kt x0' x1' x2' x3' bb
      generalize es.getD j noEv = ev at *
      go_upto_region 6 with (fail)
      have al : Below wr.heap.size wr (wr.alloc (.cells #[.string ev.s, .string ev.t, .slice T nT cT, .slice Y nY cY] 42)) := (Below.refl _ _).alloc (Nat.le_refl _) _
      have c5 := EvAt.new wr (.string ev.s) (.string ev.t) (.slice T nT cT) (.slice Y nY cY)
      have s5 := sr.below al
      have glt : w.heap.size + 1 + 1 < wr.heap.size := sr.out.lt
      have gA : ∀ a, A = some a → a.block ≠ wr.heap.size := fun a hA => by
        obtain ⟨cs, o, _, _⟩ := sr.own
        have := (OwnC.lt o a hA).2
        omega
      have GA := Go.Lib.hid gA
      generalize wr.alloc (.cells #[.string ev.s, .string ev.t, .slice T nT cT, .slice Y nY cY] 42) = w5 at *
      generalize wr.heap.size = g at *
      have LT := Go.Lib.hid rT.len
      have LY := Go.Lib.hid rY.len
      have hnT := RdC.le rT
      have hnY := RdC.le rY
      unfold maxLen at hnT hnY
      clear sr k0 k1 x0 x1 x2 x3 al gA
      have k2 := c5.c2
      go_upto_if 28 with (fail)
      go_cut [5] (fun p wx => p = .pointer (some ⟨g, 0, none⟩) ∧ ∃ nT', EvAt wx g (.string ev.s) (.string ev.t) (.slice T nT' cT) (.slice Y nY cY) ∧ RdS w0 T nT' cT (ev.tags.take 10) ∧ MkB w0 wx w a (.slice (some ⟨bt, ot, none⟩) n cap) A j ca (few8 (es.take j)))
      case first =>
        by_cases h8 : 10 < nT
        · obtain ⟨q1, d1⟩ := slice_hi (P := Tryz.prog) 39 9 Tryz.underlying39 elem_strs string_size rT (m := 10) (by omega)
          rw [strs_take] at d1
          have q1' : ∀ W, (Instr.slice 39 (.slice T nT cT) none (some (.int .i64 10)) none).run Tryz.prog W = .ok (.slice T 10 cT) W := q1
          have i3 : (10 : Int) < nT := by omega
          have z5 := c5.frozen 2
          have c6 := c5.set2 (.slice T 10 cT)
          have s6 := s5.far glt GA.out 2 (.slice T 10 cT)
          have C6 := Go.Lib.hid c6
          have S6 := Go.Lib.hid s6
          clear q1 c6 s6
          go_wp2_with fail
          go_meet
          exact ⟨rfl, 10, C6.out, d1, S6.out⟩
        · have i3 : ¬ (10 : Int) < nT := by omega
          have d1 : RdS w0 T nT cT (ev.tags.take 10) := by rw [List.take_of_length_le (by rw [LT.out]; omega)]; exact rT
          go_wp2_with fail
          go_meet
          exact ⟨rfl, nT, c5, d1, s5⟩
      case rest =>
        obtain ⟨rfl, nT', c6, d6, s6⟩ := hcut
        clear k2 c5 s5
        have k3 := c6.c3
        go_upto_if 36 with (fail)
        go_cut [5] (fun p wx => p = .pointer (some ⟨g, 0, none⟩) ∧ ∃ nY', EvAt wx g (.string ev.s) (.string ev.t) (.slice T nT' cT) (.slice Y nY' cY) ∧ RdF w0 Y nY' cY (ev.fs.take 10) ∧ MkB w0 wx w a (.slice (some ⟨bt, ot, none⟩) n cap) A j ca (few8 (es.take j)))
        case first =>
          by_cases h8 : 10 < nY
          · obtain ⟨q1, d1⟩ := slice_hi (P := Tryz.prog) 40 85 Tryz.underlying40 elemFlds14 fldSize14 rY (m := 10) (by omega)
            rw [flds_take] at d1
            have q1' : ∀ W, (Instr.slice 40 (.slice Y nY cY) none (some (.int .i64 10)) none).run Tryz.prog W = .ok (.slice Y 10 cY) W := q1
            have i3 : (10 : Int) < nY := by omega
            have z5 := c6.frozen 3
            have c7 := c6.set3 (.slice Y 10 cY)
            have s7 := s6.far glt GA.out 3 (.slice Y 10 cY)
            have C7 := Go.Lib.hid c7
            have S7 := Go.Lib.hid s7
            clear q1 c7 s7
            go_wp2_with fail
            go_meet
            exact ⟨rfl, 10, C7.out, d1, S7.out⟩
          · have i3 : ¬ (10 : Int) < nY := by omega
            have d1 : RdF w0 Y nY cY (ev.fs.take 10) := by rw [List.take_of_length_le (by rw [LY.out]; omega)]; exact rY
            go_wp2_with fail
            go_meet
            exact ⟨rfl, nY, c6, d1, s6⟩
        case rest =>
          obtain ⟨rfl, nY', c7, d7, s7⟩ := hcut
          clear k3 c6 s6
          have k0 := c7.c0
          have k1 := c7.c1
          have k2 := c7.c2
          have k3 := c7.c3
          have o1 := s7.out.c1
          have al : Below wc.heap.size wc (wc.alloc (.cells #[.string ev.s, .string ev.t, .slice T nT' cT, .slice Y nY' cY] 42)) := (Below.refl _ _).alloc (Nat.le_refl _) _
          have s8 := s7.below al
          have d8 : RdC 4 (wc.alloc (.cells #[.string ev.s, .string ev.t, .slice T nT' cT, .slice Y nY' cY] 42)) (some ⟨wc.heap.size, 0, none⟩) 1 1 [.string ev.s, .string ev.t, .slice T nT' cT, .slice Y nY' cY] := RdC.new wc 42 [.string ev.s, .string ev.t, .slice T nT' cT, .slice Y nY' cY] rfl (by decide)
          have big : w.heap.size + 1 + 1 + 1 ≤ (wc.alloc (.cells #[.string ev.s, .string ev.t, .slice T nT' cT, .slice Y nY' cY] 42)).heap.size := s8.out.lt
          have h63 : j + 1 ≤ maxLen := by unfold maxLen; omega
          have hsz : (j + 1) * 80 ≤ 140737488355328 := by omega
          obtain ⟨cs, oc, hcl, hcs⟩ := s8.own
          clear s7 c7 GA al LT LY hnT hnY
          go_wp2_with (at_builtin; refine wpList_append_cells rfl (.tmp 42) (.tmp 44) 43 rfl 42 (.agg #[.string ⟨#[]⟩, .string ⟨#[]⟩, .slice none 0 0, .slice none 0 0]) 80 Tryz.underlying43 evInfo14 rfl (by decide) rfl rfl oc d8 (ev_one ev _ _ _ _ _ _) h63 hsz big ?_; intro A9 c9 w9 o9 g9 _; obtain ⟨z9, k9, n9⟩ := s8.more (e := fewD ev) oc hcs d6 d7 o9 g9)
          go_roundw
          case rel => exact ⟨j + 1, A9, c9, by omega, by omega, by go_num, by rw [HS.out]; exact n9⟩
          case measure => simp [intOf]; omega
    · have hq : few8 (es.take j) = few8 es := few8_take es j (by rw [LC.out]; omega)
      rw [hq] at sr
      have HQ := Go.Lib.hid hq
      have o0 := sr.out.c0
      have o1 := sr.out.c1
      have r0 := sr.res.c0
      have r1 := sr.res.c1
      have z0 := sr.res.frozen 0
      have z1 := sr.res.frozen 1
      have E9 := Go.Lib.hid (sr.res.all (.int .i64 a) (.slice A j ca))
      have RQ := Go.Lib.hid (sr.own.setB (g := w.heap.size + 1) (by omega) (.int .i64 a) (.slice A j ca))
      have bq0 : Below w.heap.size w (wr.setCell ⟨w.heap.size + 1, 0, none⟩ (.int .i64 a)) := sr.bel.setCell (by show w.heap.size ≤ w.heap.size + 1; omega) _
      have bq1 : Below w.heap.size w ((wr.setCell ⟨w.heap.size + 1, 0, none⟩ (.int .i64 a)).setCell ⟨w.heap.size + 1, 1, none⟩ (.slice A j ca)) := bq0.setCell (by show w.heap.size ≤ w.heap.size + 1; omega) _
      have BQ := Go.Lib.hid bq1
      clear bq0 bq1
      clear hq
      by_cases h1 : j < n
      · have i2 : ¬ (j : Int) < 8 := by omega
        have i1 : (j : Int) < n := by omega
        clear hlt
        go_wp2_with fail
        have e9 := E9.out
        have rq9 := RQ.out
        have b9 := BQ.out
        generalize (wr.setCell ⟨w.heap.size + 1, 0, none⟩ (.int .i64 a)).setCell ⟨w.heap.size + 1, 1, none⟩ (.slice A j ca) = w9 at *
        have q0 := e9.c0
        have q1 := e9.c1
        exact bodyPost_ret (v := .agg #[.int .i64 a, .slice A j ca]) (by simp [results, Tryz.results9, go_sem, q0, q1]) rfl ⟨_, _, _, rfl, rq9, b9⟩
      · have i1 : ¬ (j : Int) < n := by omega
        clear hlt
        go_wp2_with fail
        have e9 := E9.out
        have rq9 := RQ.out
        have b9 := BQ.out
        generalize (wr.setCell ⟨w.heap.size + 1, 0, none⟩ (.int .i64 a)).setCell ⟨w.heap.size + 1, 1, none⟩ (.slice A j ca) = w9 at *
        have q0 := e9.c0
        have q1 := e9.c1
        exact bodyPost_ret (v := .agg #[.int .i64 a, .slice A j ca]) (by simp [results, Tryz.results9, go_sem, q0, q1]) rfl ⟨_, _, _, rfl, rq9, b9⟩

/-! ### The document's example -/

set_option maxHeartbeats 8000000 in
set_option maxRecDepth 100000 in
theorem less14_any (v : Value) (q : List Cl) (w0 w : World) (hv : IsQ w0 v q) (hb0 : Below w0.heap.size w0 w) :
    Calls Tryz.prog 22 #[v] w fun e w' => ∃ A n ca, e = .returned (.agg #[.slice A n ca]) ∧ OwnQ w0 w' (w.heap.size + 1 + 1 + 1) A n ca (fewQ q) ∧ Below w.heap.size w w' := by
  obtain ⟨C, n, cap, rfl, rC⟩ := hv
  have LC := Go.Lib.hid rC.len
  have hn := rC.le
  unfold maxLen at hn
  have s1 := MkAt.new w0 w (.slice C n cap)
  go_enter Tryz.func22, Tryz.ntmps22
  go_upto_region 2 with (fail)
  generalize ((w.alloc (.cells #[.slice C n cap] 25)).alloc (.cells #[.slice none 0 0] 25)).alloc (.cells #[.slice none 0 0] 25) = w1 at *
  go_wp2_with fail
  go_loopw [4, 5] (fun i _ wr => ∃ (j : Nat) (A : Option Addr) (ca : Nat), j ≤ n ∧ j ≤ 8 ∧ i = .int .i64 j ∧ MkAt w0 wr w (.slice C n cap) A j ca (fewQ (q.take j))) (fun i _ _ => n - (intOf i).toNat)
  case atStart => exact ⟨0, none, 0, Nat.zero_le _, by omega, rfl, s1⟩
  case round =>
    obtain ⟨j, A, ca, hjn, hj8, rfl, sr⟩ := hrel
    clear s1
    have k0 := sr.eq.c0
    by_cases hlt : j < n ∧ j < 8
    · obtain ⟨h1, h2⟩ := hlt
      obtain ⟨bt, ot, rfl, _, kt⟩ := rC.at_ (by omega)
      obtain ⟨T, nT, cT, Y, nY, cY, x0', x1', rT, rY⟩ := kt j h1
      have x0 := bcell (below_chain hb0 sr.bel) x0'
      have x1 := bcell (below_chain hb0 sr.bel) x1'
      have i1 : (j : Int) < n := by omega
      have i2 : (j : Int) < 8 := by omega
      have HS := Go.Lib.hid (fewQ_snoc q j (by rw [LC.out]; exact h1) h2)
      clear kt x0' x1'
      generalize q.getD j noCl = c at *
      go_upto_region 6 with (fail)
      have al : Below wr.heap.size wr (wr.alloc (.cells #[.slice T nT cT, .slice Y nY cY] 87)) := (Below.refl _ _).alloc (Nat.le_refl _) _
      have c5 := ClAt.new wr (.slice T nT cT) (.slice Y nY cY)
      have s5 := sr.below al
      have glt : w.heap.size + 1 + 1 < wr.heap.size := sr.out.lt
      have gA : ∀ a, A = some a → a.block ≠ wr.heap.size := fun a hA => by
        obtain ⟨cs, o, _, _⟩ := sr.own
        have := (OwnC.lt o a hA).2
        omega
      have GA := Go.Lib.hid gA
      generalize wr.alloc (.cells #[.slice T nT cT, .slice Y nY cY] 87) = w5 at *
      generalize wr.heap.size = g at *
      have LT := Go.Lib.hid rT.len
      have LY := Go.Lib.hid rY.len
      have hnT := RdC.le rT
      have hnY := RdC.le rY
      unfold maxLen at hnT hnY
      clear sr k0 x0 x1 al gA
      have k5 := c5.c0
      go_upto_if 26 with (fail)
      go_cut [5] (fun p wx => p = .pointer (some ⟨g, 0, none⟩) ∧ ∃ nT', ClAt wx g (.slice T nT' cT) (.slice Y nY cY) ∧ RdS w0 T nT' cT (c.tags.take 8) ∧ MkAt w0 wx w (.slice (some ⟨bt, ot, none⟩) n cap) A j ca (fewQ (q.take j)))
      case first =>
        by_cases h8 : 8 < nT
        · obtain ⟨q1, d1⟩ := slice_hi (P := Tryz.prog) 39 9 Tryz.underlying39 elem_strs string_size rT (m := 8) (by omega)
          rw [strs_take] at d1
          have q1' : ∀ W, (Instr.slice 39 (.slice T nT cT) none (some (.int .i64 8)) none).run Tryz.prog W = .ok (.slice T 8 cT) W := q1
          have i3 : (8 : Int) < nT := by omega
          have z5 := c5.frozen 0
          have c6 := c5.set0 (.slice T 8 cT)
          have s6 := s5.far glt GA.out 0 (.slice T 8 cT)
          have C6 := Go.Lib.hid c6
          have S6 := Go.Lib.hid s6
          clear q1 c6 s6
          go_wp2_with fail
          go_meet
          exact ⟨rfl, 8, C6.out, d1, S6.out⟩
        · have i3 : ¬ (8 : Int) < nT := by omega
          have d1 : RdS w0 T nT cT (c.tags.take 8) := by rw [List.take_of_length_le (by rw [LT.out]; omega)]; exact rT
          go_wp2_with fail
          go_meet
          exact ⟨rfl, nT, c5, d1, s5⟩
      case rest =>
        obtain ⟨rfl, nT', c6, d6, s6⟩ := hcut
        clear k5 c5 s5
        have k6 := c6.c1
        go_upto_if 34 with (fail)
        go_cut [5] (fun p wx => p = .pointer (some ⟨g, 0, none⟩) ∧ ∃ nY', ClAt wx g (.slice T nT' cT) (.slice Y nY' cY) ∧ RdS w0 Y nY' cY (c.types.take 8) ∧ MkAt w0 wx w (.slice (some ⟨bt, ot, none⟩) n cap) A j ca (fewQ (q.take j)))
        case first =>
          by_cases h8 : 8 < nY
          · obtain ⟨q1, d1⟩ := slice_hi (P := Tryz.prog) 39 9 Tryz.underlying39 elem_strs string_size rY (m := 8) (by omega)
            rw [strs_take] at d1
            have q1' : ∀ W, (Instr.slice 39 (.slice Y nY cY) none (some (.int .i64 8)) none).run Tryz.prog W = .ok (.slice Y 8 cY) W := q1
            have i3 : (8 : Int) < nY := by omega
            have z5 := c6.frozen 1
            have c7 := c6.set1 (.slice Y 8 cY)
            have s7 := s6.far glt GA.out 1 (.slice Y 8 cY)
            have C7 := Go.Lib.hid c7
            have S7 := Go.Lib.hid s7
            clear q1 c7 s7
            go_wp2_with fail
            go_meet
            exact ⟨rfl, 8, C7.out, d1, S7.out⟩
          · have i3 : ¬ (8 : Int) < nY := by omega
            have d1 : RdS w0 Y nY cY (c.types.take 8) := by rw [List.take_of_length_le (by rw [LY.out]; omega)]; exact rY
            go_wp2_with fail
            go_meet
            exact ⟨rfl, nY, c6, d1, s6⟩
        case rest =>
          obtain ⟨rfl, nY', c7, d7, s7⟩ := hcut
          clear k6 c6 s6
          have k0 := c7.c0
          have k1 := c7.c1
          have o0 := s7.out.c0
          have al : Below wc.heap.size wc (wc.alloc (.cells #[.slice T nT' cT, .slice Y nY' cY] 87)) := (Below.refl _ _).alloc (Nat.le_refl _) _
          have s8 := s7.below al
          have d8 : RdC 2 (wc.alloc (.cells #[.slice T nT' cT, .slice Y nY' cY] 87)) (some ⟨wc.heap.size, 0, none⟩) 1 1 [.slice T nT' cT, .slice Y nY' cY] := RdC.new wc 87 [.slice T nT' cT, .slice Y nY' cY] rfl (by decide)
          have big : w.heap.size + 1 + 1 + 1 ≤ (wc.alloc (.cells #[.slice T nT' cT, .slice Y nY' cY] 87)).heap.size := s8.out.lt
          have h63 : j + 1 ≤ maxLen := by unfold maxLen; omega
          have hsz : (j + 1) * 48 ≤ 140737488355328 := by omega
          obtain ⟨cs, oc, hcl, hcs⟩ := s8.own
          clear s7 c7 GA al LT LY hnT hnY
          go_wp2_with (at_builtin; refine wpList_append_cells rfl (.tmp 40) (.tmp 42) 23 rfl 87 (.agg #[.slice none 0 0, .slice none 0 0]) 48 Tryz.underlying23 clause_info rfl (by decide) rfl rfl oc d8 (cl_one _ _ _ _ _ _) h63 hsz big ?_; intro A9 c9 w9 o9 g9 _; obtain ⟨z9, k9, n9⟩ := s8.more (c := fewC c) oc hcs d6 d7 o9 g9)
          go_roundw
          case rel => exact ⟨j + 1, A9, c9, by omega, by omega, by go_num, by rw [HS.out]; exact n9⟩
          case measure => simp [intOf]; omega
    · have hq : fewQ (q.take j) = fewQ q := fewQ_take q j (by rw [LC.out]; omega)
      rw [hq] at sr
      have HQ := Go.Lib.hid hq
      have o0 := sr.out.c0
      have r0 := sr.res.c0
      have z0 := sr.res.frozen 0
      have e9 := sr.res.set (.slice A j ca)
      have rq9 : OwnQ w0 (wr.setCell ⟨w.heap.size + 1, 0, none⟩ (.slice A j ca)) (w.heap.size + 1 + 1 + 1) A j ca (fewQ q) :=
        OwnQ.grown sr.own (grownSet wr (w.heap.size + 1) 0 (.slice A j ca)) (by omega)
      have b9 : Below w.heap.size w (wr.setCell ⟨w.heap.size + 1, 0, none⟩ (.slice A j ca)) := sr.bel.setCell (by show w.heap.size ≤ w.heap.size + 1; omega) _
      have E9 := Go.Lib.hid e9
      have RQ := Go.Lib.hid rq9
      have BQ := Go.Lib.hid b9
      clear hq e9 rq9 b9
      by_cases h1 : j < n
      · have i2 : ¬ (j : Int) < 8 := by omega
        have i1 : (j : Int) < n := by omega
        clear hlt
        go_wp2_with fail
        have e9 := E9.out
        have rq9 := RQ.out
        have b9 := BQ.out
        generalize wr.setCell ⟨w.heap.size + 1, 0, none⟩ (.slice A j ca) = w9 at *
        have q0 := e9.c0
        exact bodyPost_ret (v := .agg #[.slice A j ca]) (by simp [results, Tryz.results22, go_sem, q0]) rfl ⟨_, _, _, rfl, rq9, b9⟩
      · have i1 : ¬ (j : Int) < n := by omega
        clear hlt
        go_wp2_with fail
        have e9 := E9.out
        have rq9 := RQ.out
        have b9 := BQ.out
        generalize wr.setCell ⟨w.heap.size + 1, 0, none⟩ (.slice A j ca) = w9 at *
        have q0 := e9.c0
        exact bodyPost_ret (v := .agg #[.slice A j ca]) (by simp [results, Tryz.results22, go_sem, q0]) rfl ⟨_, _, _, rfl, rq9, b9⟩



end Go.Proofs.YtiplfhmimpkplaaGreat.IxWalk

/-
  Rows of batches, read. No encodings here.
-/
namespace Go.Proofs.YtiplfhmimpkplaaGreat.BtWalk
open Go.RowKit Go.Proofs.YtiplfhmimpkplaaGreat.MemRow Go.Proofs.YtiplfhmimpkplaaGreat.Ev Go.Proofs.YtiplfhmimpkplaaGreat.NameMath Go.Proofs.YtiplfhmimpkplaaGreat.NameWalk Go.Proofs.YtiplfhmimpkplaaGreat.EvWalk Go.Proofs.YtiplfhmimpkplaaGreat.NumMem

/-- The two cells at an address read as a batch. -/
def BaCells (w : World) (b o : Nat) (x : Bat) : Prop := ∃ A n ca, w.cell? ⟨b, o, none⟩ = some (.int .i64 x.a) ∧ w.cell? ⟨b, o + 1, none⟩ = some (.slice A n ca) ∧ RdE w A n ca x.es
theorem BaCells.below {w w' : World} {b o : Nat} {x : Bat} (h : BaCells w b o x) (hb : Below w.heap.size w w') : BaCells w' b o x := by
  obtain ⟨A, n, ca, h0, h1, h2⟩ := h
  exact ⟨A, n, ca, bcell hb h0, bcell hb h1, h2.below hb⟩
/-- A slice that reads as batches. -/
def RdBs (w : World) (A : Option Addr) (n cap : Nat) (xs : List Bat) : Prop :=
  xs.length = n ∧ n ≤ cap ∧ cap ≤ maxLen ∧ (0 < n → ∃ b o, A = some ⟨b, o, none⟩ ∧ b < w.heap.size ∧ ∀ i, i < n → BaCells w b (o + i * 2) (xs.getD i noBat))
section
variable {w w' : World} {A : Option Addr} {n cap : Nat} {xs : List Bat}
theorem RdBs.nil (w : World) : RdBs w none 0 0 [] := ⟨rfl, Nat.le_refl _, Nat.zero_le _, fun h => absurd h (by omega)⟩
theorem RdBs.len (h : RdBs w A n cap xs) : xs.length = n := h.1
theorem RdBs.le (h : RdBs w A n cap xs) : n ≤ maxLen := Nat.le_trans h.2.1 h.2.2.1
theorem RdBs.at_ (h : RdBs w A n cap xs) (hn : 0 < n) : ∃ b o, A = some ⟨b, o, none⟩ ∧ b < w.heap.size ∧ ∀ i, i < n → BaCells w b (o + i * 2) (xs.getD i noBat) := h.2.2.2 hn
theorem RdBs.below (h : RdBs w A n cap xs) (hb : Below w.heap.size w w') : RdBs w' A n cap xs :=
  ⟨h.1, h.2.1, h.2.2.1, fun hn => by
    obtain ⟨b, o, hA, hlt, hc⟩ := h.2.2.2 hn
    exact ⟨b, o, hA, Nat.lt_of_lt_of_le hlt hb.size, fun i hi => (hc i hi).below hb⟩⟩
end

theorem bat_take (l : List Bat) (j : Nat) (h : j < l.length) : l.take (j + 1) = l.take j ++ [l.getD j noBat] := by
  rw [List.take_succ_eq_append_getElem h]
  simp [List.getD, List.getElem?_eq_getElem h]
theorem bat_get {l : List Bat} {j : Nat} (h : j < l.length) : l.getD j noBat ∈ l := by
  simp only [List.getD, List.getElem?_eq_getElem h, Option.getD_some]
  exact List.getElem_mem h


end Go.Proofs.YtiplfhmimpkplaaGreat.BtWalk

/-
  Layer 14: records that a call gave, the caller's own; what is asked of the landed index.
-/
namespace Go.Proofs.YtiplfhmimpkplaaGreat.IxWalk
open Go.RowKit Go.Proofs.YtiplfhmimpkplaaGreat.MemRow Go.Proofs.YtiplfhmimpkplaaGreat.Ev Go.Proofs.YtiplfhmimpkplaaGreat.NameMath Go.Proofs.YtiplfhmimpkplaaGreat.NameWalk Go.Proofs.YtiplfhmimpkplaaGreat.EvWalk Go.Proofs.YtiplfhmimpkplaaGreat.NumMem Go.Proofs.YtiplfhmimpkplaaGreat.Qu Go.Proofs.YtiplfhmimpkplaaGreat.QuWalk Go.Proofs.YtiplfhmimpkplaaGreat.SmWalk Go.Proofs.YtiplfhmimpkplaaGreat.BtWalk Go.Proofs.YtiplfhmimpkplaaGreat.DkWalk

/-! ### Records that a call gave -/
/-- A row that may be written, in the blocks G. -/
def Wr (w : World) (G : Nat → Prop) (A : Option Addr) (n k : Nat) (t : TypeId) : Prop := 0 < n → ∃ b o cur, A = some ⟨b, o, none⟩ ∧ G b ∧ w.heap[b]? = some (.cells cur t (0, 0)) ∧ o + n * k ≤ cur.size
theorem Wr.keep {w w' : World} {G : Nat → Prop} {A : Option Addr} {n k : Nat} {t : TypeId} (h : Wr w G A n k t) (hk : ∀ i, G i → w'.heap[i]? = w.heap[i]?) : Wr w' G A n k t := fun hn => by
  obtain ⟨b, o, cur, e, hg, hb, hs⟩ := h hn
  exact ⟨b, o, cur, e, hg, (hk b hg).trans hb, hs⟩
theorem Wr.rd {w w' : World} {G : Nat → Prop} {A : Option Addr} {n k c : Nat} {t : TypeId} {cs : List Value} (h : Wr w G A n k t) (hr : RdC k w A n c cs) (hk : ∀ i, G i → w'.heap[i]? = w.heap[i]?) : RdC k w' A n c cs := by
  refine RdC.keepN hr fun hn b o hA i v hc => ?_
  obtain ⟨b', o', cur, e, hg, _, _⟩ := h hn
  rw [hA] at e
  injection e with e
  injection e with e1 e2
  subst e1
  have e := hk b hg
  exact (World.cell?_of_block (w := w) (a := ⟨b, o + i, none⟩) e).trans hc
/-- The six cells of a record whose rows may be written, in the blocks G. -/
def RoCells (w : World) (G : Nat → Prop) (b o : Nat) (r : Rc) : Prop :=
  ∃ T nT cT F nF cF, w.cell? ⟨b, o, none⟩ = some (.int .i64 r.pos) ∧ w.cell? ⟨b, o + 1, none⟩ = some (.int .i64 r.ver) ∧ w.cell? ⟨b, o + 2, none⟩ = some (.string r.e.s) ∧ w.cell? ⟨b, o + 3, none⟩ = some (.string r.e.t) ∧ w.cell? ⟨b, o + 4, none⟩ = some (.slice T nT cT) ∧ w.cell? ⟨b, o + 5, none⟩ = some (.slice F nF cF) ∧ RdS w T nT cT r.e.tags ∧ RdF w F nF cF r.e.fs ∧ Wr w G T nT 1 9 ∧ Wr w G F nF 2 85
/-- A row of records of the caller's own: the row in G1, the records' rows in G2. -/
def RoW (w : World) (G1 G2 : Nat → Prop) (A : Option Addr) (n c : Nat) (rs : List Rc) : Prop :=
  rs.length = n ∧ n ≤ c ∧ c ≤ maxLen ∧ (0 < n → ∃ b o, A = some ⟨b, o, none⟩ ∧ b < w.heap.size ∧ G1 b ∧ ∀ i, i < n → RoCells w G2 b (o + i * 6) (rs.getD i noRc))
theorem RoW.rd {w : World} {G1 G2 : Nat → Prop} {A : Option Addr} {n c : Nat} {rs : List Rc} (h : RoW w G1 G2 A n c rs) : RdRc w A n c rs :=
  ⟨h.1, h.2.1, h.2.2.1, fun hn => by
    obtain ⟨b, o, hA, hlt, _, hc⟩ := h.2.2.2 hn
    exact ⟨b, o, hA, hlt, fun i hi => by
      obtain ⟨T, nT, cT, F, nF, cF, h0, h1, h2, h3, h4, h5, h6, h7, _⟩ := hc i hi
      exact ⟨T, nT, cT, F, nF, cF, h0, h1, h2, h3, h4, h5, h6, h7⟩⟩⟩
theorem RoW.keep {w w' : World} {G1 G2 : Nat → Prop} {A : Option Addr} {n c : Nat} {rs : List Rc} (h : RoW w G1 G2 A n c rs) (hs : w.heap.size ≤ w'.heap.size) (h1 : ∀ i, G1 i → w'.heap[i]? = w.heap[i]?) (h2 : ∀ i, G2 i → w'.heap[i]? = w.heap[i]?) : RoW w' G1 G2 A n c rs :=
  ⟨h.1, h.2.1, h.2.2.1, fun hn => by
    obtain ⟨b, o, hA, hlt, hg, hc⟩ := h.2.2.2 hn
    refine ⟨b, o, hA, Nat.lt_of_lt_of_le hlt hs, hg, fun i hi => ?_⟩
    obtain ⟨T, nT, cT, F, nF, cF, k0, k1, k2, k3, k4, k5, k6, k7, k8, k9⟩ := hc i hi
    have kk : ∀ (j : Nat) (v : Value), w.cell? ⟨b, j, none⟩ = some v → w'.cell? ⟨b, j, none⟩ = some v := fun j v hv => by
      have e := h1 b hg
      exact (World.cell?_of_block (w := w) (a := ⟨b, j, none⟩) e).trans hv
    exact ⟨T, nT, cT, F, nF, cF, kk _ _ k0, kk _ _ k1, kk _ _ k2, kk _ _ k3, kk _ _ k4, kk _ _ k5, k8.rd k6 h2, k9.rd k7 h2, k8.keep h2, k9.keep h2⟩⟩
def RoT (A : Option Addr) (n c : Nat) (rs : List Rc) : Thing := fun w G => ∃ G1 G2 : Nat → Prop, RoW w G1 G2 A n c rs ∧ (∀ k, G1 k → G k) ∧ (∀ k, G2 k → G k) ∧ (∀ k, G1 k → ¬ G2 k) ∧ ∀ k, G k → k < w.heap.size
theorem roT_keeps (A : Option Addr) (n c : Nat) (rs : List Rc) : Keeps (RoT A n c rs) :=
  ⟨fun ⟨G1, G2, h, i1, i2, i3, i4⟩ hs hk => ⟨G1, G2, h.keep hs (fun k hk1 => hk k (i1 k hk1)) (fun k hk2 => hk k (i2 k hk2)), i1, i2, i3, fun k hg => Nat.lt_of_lt_of_le (i4 k hg) hs⟩, fun ⟨_, _, _, _, _, _, h⟩ => h⟩
theorem pair_ro {base : Nat} {w : World} {P Q : Thing} {A : Option Addr} {n c : Nat} {rs : List Rc} (h : Pair base w P (With Q (RoT A n c rs))) : RdRc w A n c rs := by
  obtain ⟨_, _, _, ⟨_, _, _, ⟨_, _, hr, _⟩, _⟩, _⟩ := h
  exact hr.rd

/-! ### What is asked of the landed index -/
/-- A query as the laws hand it over. -/
def QFew (q : List Cl) : Prop := QOk q ∧ q.length ≤ 8 ∧ ∀ c ∈ q, c.tags.length ≤ 8 ∧ c.types.length ≤ 8
/-- A log as the laws make it. -/
def LogOk (es : List Ev) : Prop := es.length ≤ 400 ∧ ∀ e ∈ es, mayE e = 0
structure IApi (Ix : Nat → List Ev → Thing) : Prop where
  keeps : ∀ g es, Keeps (Ix g es)
  new : ∀ {base : Nat} {w : World} {G : Nat → Prop} {Q : Thing}, Q w G → Keeps Q → (∀ k, G k → base ≤ k) → base ≤ w.heap.size →
    Calls Tryz.prog 5 #[] w fun e w' => ∃ g, e = .returned (.pointer (some ⟨g, 0, none⟩)) ∧ Pair base w' (Ix g []) Q ∧ Below w.heap.size w w'
  add : ∀ {base : Nat} {w : World} {g : Nat} {es : List Ev} {Q : Thing} {v : Value} {x : Bat}, Pair base w (Ix g es) Q → Keeps Q → base ≤ w.heap.size → LogOk es → es.length + x.es.length ≤ 400 → (∀ (w' : World) (G : Nat → Prop), Q w' G → Below base w w' → IsB w' v x) → BOk x →
    Calls Tryz.prog 7 #[.pointer (some ⟨g, 0, none⟩), v] w fun r w' => ∃ B m c, r = .returned (.tuple #[.slice B m c, .int .i64 (addB es x).1]) ∧ Pair base w' (Ix g (addB es x).2.2) (With Q (RoT B m c (addB es x).2.1)) ∧ Below base w w'
  last : ∀ {base : Nat} {w : World} {g : Nat} {es : List Ev} {Q : Thing}, Pair base w (Ix g es) Q → Keeps Q → LogOk es →
    Calls Tryz.prog 8 #[.pointer (some ⟨g, 0, none⟩)] w fun e w' => e = .returned (.int .i64 (es.length : Nat)) ∧ Pair base w' (Ix g es) Q ∧ Below w.heap.size w w'
  all : ∀ {base : Nat} {w : World} {g : Nat} {es : List Ev} {Q : Thing} {u : Int}, Pair base w (Ix g es) Q → Keeps Q → base ≤ w.heap.size → LogOk es → (-9223372036854775808 ≤ u ∧ u ≤ 9223372036854775807) →
    Calls Tryz.prog 23 #[.pointer (some ⟨g, 0, none⟩), .int .i64 u] w fun e w' => ∃ B m c, e = .returned (.slice B m c) ∧ Pair base w' (Ix g es) (With Q (RoT B m c (allF es u))) ∧ Below w.heap.size w w'
  str : ∀ {base : Nat} {w : World} {g : Nat} {es : List Ev} {Q : Thing} {s : ByteArray} {u : Int}, Pair base w (Ix g es) Q → Keeps Q → base ≤ w.heap.size → LogOk es → s.size ≤ maxLen → (-9223372036854775808 ≤ u ∧ u ≤ 9223372036854775807) →
    Calls Tryz.prog 25 #[.pointer (some ⟨g, 0, none⟩), .string s, .int .i64 u] w fun e w' => ∃ B m c, e = .returned (.slice B m c) ∧ Pair base w' (Ix g es) (With Q (RoT B m c (strF es s u))) ∧ Below w.heap.size w w'
  qry : ∀ {base : Nat} {w : World} {g : Nat} {es : List Ev} {Q : Thing} {v : Value} {q : List Cl} {u : Int}, Pair base w (Ix g es) Q → Keeps Q → base ≤ w.heap.size → LogOk es → IsQ w v q → QFew q → (-9223372036854775808 ≤ u ∧ u ≤ 9223372036854775807) →
    Calls Tryz.prog 26 #[.pointer (some ⟨g, 0, none⟩), v, .int .i64 u] w fun e w' => ∃ B m c, e = .returned (.slice B m c) ∧ Pair base w' (Ix g es) (With Q (RoT B m c (qryF es q u))) ∧ Below w.heap.size w w'
  ver : ∀ {base : Nat} {w : World} {g : Nat} {es : List Ev} {Q : Thing} {s : ByteArray} {u : Int}, Pair base w (Ix g es) Q → Keeps Q → LogOk es → s.size ≤ maxLen → (-9223372036854775808 ≤ u ∧ u ≤ 9223372036854775807) →
    Calls Tryz.prog 13 #[.pointer (some ⟨g, 0, none⟩), .string s, .int .i64 u] w fun e w' => e = .returned (.int .i64 ((strF es s u).length : Nat)) ∧ Pair base w' (Ix g es) Q ∧ Below w.heap.size w w'
  since : ∀ {base : Nat} {w : World} {g : Nat} {es : List Ev} {Q : Thing} {v : Value} {q : List Cl} {a : Int}, Pair base w (Ix g es) Q → Keeps Q → LogOk es → IsQ w v q → QFew q → (-9223372036854775808 ≤ a ∧ a ≤ 9223372036854775807) →
    Calls Tryz.prog 28 #[.pointer (some ⟨g, 0, none⟩), v, .int .i64 a] w fun e w' => e = .returned (.bool (sinceF es q a)) ∧ Pair base w' (Ix g es) Q ∧ Below w.heap.size w w'
/-- .. and two, one of them made by Clone: they may share memory. -/
structure ITwo (Ix : Nat → List Ev → Thing) (It : Nat → List Ev → Nat → List Ev → Thing) : Prop extends IApi Ix where
  tkeeps : ∀ g es g' es', Keeps (It g es g' es')
  swap : ∀ g es g' es', Imp (It g es g' es') (It g' es' g es)
  fst : ∀ g es g' es', Imp (It g es g' es') (Ix g es)
  clone : ∀ {base : Nat} {w : World} {g : Nat} {es : List Ev} {Q : Thing}, Pair base w (Ix g es) Q → Keeps Q → base ≤ w.heap.size → LogOk es →
    Calls Tryz.prog 6 #[.pointer (some ⟨g, 0, none⟩)] w fun e w' => ∃ g', e = .returned (.pointer (some ⟨g', 0, none⟩)) ∧ Pair base w' (It g es g' es) Q ∧ Below w.heap.size w w'
  tadd : ∀ {base : Nat} {w : World} {g g' : Nat} {es es' : List Ev} {Q : Thing} {v : Value} {x : Bat}, Pair base w (It g es g' es') Q → Keeps Q → base ≤ w.heap.size → LogOk es → es.length + x.es.length ≤ 400 → (∀ (w' : World) (G : Nat → Prop), Q w' G → Below base w w' → IsB w' v x) → BOk x →
    Calls Tryz.prog 7 #[.pointer (some ⟨g, 0, none⟩), v] w fun r w' => ∃ B m c, r = .returned (.tuple #[.slice B m c, .int .i64 (addB es x).1]) ∧ Pair base w' (It g (addB es x).2.2 g' es') (With Q (RoT B m c (addB es x).2.1)) ∧ Below base w w'
  tlast : ∀ {base : Nat} {w : World} {g g' : Nat} {es es' : List Ev} {Q : Thing}, Pair base w (It g es g' es') Q → Keeps Q → LogOk es →
    Calls Tryz.prog 8 #[.pointer (some ⟨g, 0, none⟩)] w fun e w' => e = .returned (.int .i64 (es.length : Nat)) ∧ Pair base w' (It g es g' es') Q ∧ Below w.heap.size w w'
  tall : ∀ {base : Nat} {w : World} {g g' : Nat} {es es' : List Ev} {Q : Thing} {u : Int}, Pair base w (It g es g' es') Q → Keeps Q → base ≤ w.heap.size → LogOk es → (-9223372036854775808 ≤ u ∧ u ≤ 9223372036854775807) →
    Calls Tryz.prog 23 #[.pointer (some ⟨g, 0, none⟩), .int .i64 u] w fun e w' => ∃ B m c, e = .returned (.slice B m c) ∧ Pair base w' (It g es g' es') (With Q (RoT B m c (allF es u))) ∧ Below w.heap.size w w'
theorem logOk_nil : LogOk [] := ⟨Nat.zero_le _, fun _ h => by cases h⟩
theorem logOk_add {es : List Ev} {x : Bat} (h : LogOk es) (hl : es.length + x.es.length ≤ 400) : LogOk (addB es x).2.2 := by
  by_cases h1 : mayX x = 0
  · by_cases h2 : x.a = es.length
    · rw [addB_yes h1 h2]
      refine ⟨by simp only [List.length_append]; omega, fun e he => ?_⟩
      rcases List.mem_append.1 he with he | he
      · exact h.2 e he
      · exact ((mayX_zero x).1 h1).2.2.1 e he
    · rw [addB_no h1 h2]; exact h
  · rw [addB_bad h1]; exact h

end Go.Proofs.YtiplfhmimpkplaaGreat.IxWalk

/-
  Layer 14's readings: rows of batches that came in; an ask that came in.
-/
namespace Go.Proofs.YtiplfhmimpkplaaGreat.IxWalk
open Go.RowKit Go.WideShapes Go.ChangeShapes Go.Joins Go.Deep Go.Proofs.YtiplfhmimpkplaaGreat.MemRow Go.Proofs.YtiplfhmimpkplaaGreat.Ev Go.Proofs.YtiplfhmimpkplaaGreat.NameMath Go.Proofs.YtiplfhmimpkplaaGreat.NameWalk Go.Proofs.YtiplfhmimpkplaaGreat.EvWalk Go.Proofs.YtiplfhmimpkplaaGreat.NumMem Go.Proofs.YtiplfhmimpkplaaGreat.Open Go.Proofs.YtiplfhmimpkplaaGreat.BtWalk Go.Proofs.YtiplfhmimpkplaaGreat.Qu

section
variable {H : Type} {enc : TypeId × Value → H} {P : Program} {W : World} {base : Nat} {t e : TypeId} {v : Value} {d : DataW H} {p : List MemPlace}
theorem trodTwo {spare : Nat → Bool} {held : Bool} {f0 f1 : Field} {fuel : Nat} {cs : List Value} {x : DataW H × List MemPlace} (ht : P.underlying t = some (.struct #[f0, f1])) (h : DataW.trod enc P W base spare held fuel t cs = some x) :
    ∃ y0 y1 n, DataW.trod enc P W base spare held n f0.type ((cs.drop f0.offset).take (P.cellsOf f0.type)) = some y0 ∧ DataW.trod enc P W base spare held n f1.type ((cs.drop f1.offset).take (P.cellsOf f1.type)) = some y1 := by
  obtain ⟨xs, n, _, rfl, hl, hlen, hf⟩ := DataW.trod_struct ht h
  match xs, hlen with
  | [y0, y1], _ => exact ⟨y0, y1, n, by simpa using hf 0 f0 rfl, by simpa using hf 1 f1 rfl⟩
end
section
variable {H : Type} {enc : TypeId × Value → H}
set_option maxRecDepth 100000 in
theorem tr_batch {W : World} {fuel : Nat} {v0 v1 : Value} {y : DataW H × List MemPlace} (h : DataW.trod enc Tryz.prog W 0 (fun _ => true) true fuel 45 [v0, v1] = some y) :
    ∃ x : Bat, BOk x ∧ ∃ A n ca, v0 = .int .i64 x.a ∧ v1 = .slice A n ca ∧ RdE W A n ca x.es := by
  have c0 : Tryz.prog.cellsOf 3 = 1 := by kernel_rfl
  have c4 : Tryz.prog.cellsOf 43 = 1 := by kernel_rfl
  obtain ⟨u0, u1, m, b0, b1⟩ := trodTwo Tryz.underlying45 h
  have b0' : DataW.trod enc Tryz.prog W 0 (fun _ => true) true m 3 [v0] = some u0 := by simpa [c0] using b0
  have b1' : DataW.trod enc Tryz.prog W 0 (fun _ => true) true m 43 [v1] = some u1 := by simpa [c4] using b1
  obtain ⟨zd, x3, _, w3⟩ := DataW.trod_int Tryz.underlying3 b0'
  obtain ⟨A, k, ca, es, rfl, r, ok⟩ := tr_events Tryz.underlying43 Tryz.underlying42 (by kernel_rfl) (by kernel_rfl) Tryz.underlying9 Tryz.underlying9 Tryz.underlying39 Tryz.underlying9 (by kernel_rfl) Tryz.underlying40 Tryz.underlying85 (by kernel_rfl) rfl rfl (by kernel_rfl) (by kernel_rfl) Tryz.underlying9 Tryz.underlying3 b1'
  injection x3 with x3
  subst x3
  exact ⟨⟨zd, es⟩, ⟨ok, (bounds_i64 w3).1, (bounds_i64 w3).2⟩, A, k, ca, rfl, rfl, r⟩
set_option maxRecDepth 100000 in
theorem tr_batches {W : World} {v : Value} {fuel : Nat} {y : DataW H × List MemPlace} (hf : DataW.trod enc Tryz.prog W 0 (fun _ => true) true fuel 22 [v] = some y) :
    ∃ A n ca xs, v = .slice A n ca ∧ RdBs W A n ca xs ∧ ∀ x ∈ xs, BOk x := by
  have ce : Tryz.prog.cellsOf 45 = 2 := by kernel_rfl
  rcases open_slice Tryz.underlying22 hf with ⟨hcs, _⟩ | ⟨a, l, c, m, nn, D, Pl, hcs, _, hl, hm, hmm, _, hx⟩
  · simp only [List.cons.injEq, and_true] at hcs
    subst hcs
    exact ⟨none, 0, 0, [], rfl, RdBs.nil W, fun d hd => by simp at hd⟩
  · simp only [List.cons.injEq, and_true] at hcs
    subst hcs
    have hm' : m = c := by simpa using hmm
    subst hm'
    have each : ∀ i, i < m → ∃ d : Bat, BOk d ∧ ∃ A n ca, W.cell? (a.add (i * 2)) = some (.int .i64 d.a) ∧ W.cell? (a.add (i * 2 + 1)) = some (.slice A n ca) ∧ RdE W A n ca d.es := by
      intro i hi
      obtain ⟨cs', h1, h2⟩ := hx i hi
      rw [ce] at h1
      obtain ⟨_, hlen, hcell⟩ := World.cells?_some h1
      match cs', hlen with
      | [v0, v1], _ =>
        have e0 := hcell 0 (by omega)
        have e1 := hcell 1 (by omega)
        rw [add_add] at e0 e1
        obtain ⟨d, ok, A, n, ca, rfl, rfl, r⟩ := tr_batch h2
        exact ⟨d, ok, A, n, ca, by simpa using e0, by simpa using e1, r⟩
    have hex : ∃ F : Nat → Bat, ∀ i, i < m → BOk (F i) ∧ ∃ A n ca, W.cell? (a.add (i * 2)) = some (.int .i64 (F i).a) ∧ W.cell? (a.add (i * 2 + 1)) = some (.slice A n ca) ∧ RdE W A n ca (F i).es :=
      ⟨fun i => if hi : i < m then (each i hi).choose else noBat, fun i hi => by simp only [hi, dif_pos]; exact (each i hi).choose_spec⟩
    obtain ⟨F, hF'⟩ := hex
    refine ⟨_, l, m, (List.range l).map F, rfl, ⟨by simp, hl, hm, fun hn => ?_⟩, ?_⟩
    · obtain ⟨_, _, _, _, hc0, _⟩ := hF' 0 (by omega)
      rw [Nat.zero_mul] at hc0
      have e0 := spot_none hc0
      have hb := World.block_lt_of_cell? W _ hc0
      rw [e0, add_at] at hb
      refine ⟨a.block, a.off, by rw [← e0], hb, fun i hi => ?_⟩
      have hFj : ((List.range l).map F).getD i noBat = F i := by simp [List.getD, hi]
      rw [hFj]
      obtain ⟨_, A, n, ca, h0, h1, r⟩ := hF' i (by omega)
      rw [e0, add_at] at h0 h1
      exact ⟨A, n, ca, h0, h1, r⟩
    · intro x hxm
      obtain ⟨j, hj, rfl⟩ := List.mem_map.1 hxm
      exact (hF' j (by have := List.mem_range.1 hj; omega)).1
set_option maxRecDepth 100000 in
/-- Batches that came in. -/
theorem op_batches {W : World} {base : Nat} {v : Value} {d : DataW H} {p : List MemPlace} (ho : Value.okWide Tryz.prog W .any base 22 v) (h : DataW.Trod enc Tryz.prog W 0 (fun _ => true) true 22 v d p) :
    ∃ A n ca xs, v = .slice A n ca ∧ RdBs W A n ca xs ∧ ∀ x ∈ xs, BOk x := by
  obtain ⟨a, len, cap, rfl⟩ := okWide_slice Tryz.underlying22 ho
  obtain ⟨fuel, hf⟩ := h
  exact tr_batches hf
end

end Go.Proofs.YtiplfhmimpkplaaGreat.IxWalk

/-
  Layer 14's statements: the document's example.
-/
namespace Go.Proofs.YtiplfhmimpkplaaGreat.IxWalk
open Go.RowKit Go.Proofs.YtiplfhmimpkplaaGreat.MemRow Go.Proofs.YtiplfhmimpkplaaGreat.Ev Go.Proofs.YtiplfhmimpkplaaGreat.NameMath Go.Proofs.YtiplfhmimpkplaaGreat.NameWalk Go.Proofs.YtiplfhmimpkplaaGreat.EvWalk Go.Proofs.YtiplfhmimpkplaaGreat.NumMem Go.Proofs.YtiplfhmimpkplaaGreat.Qu Go.Proofs.YtiplfhmimpkplaaGreat.QuWalk Go.Proofs.YtiplfhmimpkplaaGreat.SmWalk Go.Proofs.YtiplfhmimpkplaaGreat.BtWalk Go.Proofs.YtiplfhmimpkplaaGreat.DkWalk

def eS : Ev := ⟨⟨#[115]⟩, ⟨#[116]⟩, [], []⟩
def eT : Ev := ⟨⟨#[116]⟩, ⟨#[116]⟩, [], []⟩
theorem eS_may : mayE eS = 0 := by decide
theorem eT_may : mayE eT = 0 := by decide
theorem eS_ok : EvOk eS := ⟨by decide, by decide, (fun _ h => by cases h), (fun _ h => by cases h), (fun _ h => by cases h)⟩
theorem eT_ok : EvOk eT := ⟨by decide, by decide, (fun _ h => by cases h), (fun _ h => by cases h), (fun _ h => by cases h)⟩
def x1 : Bat := ⟨0, [eS, eS]⟩
def x2 : Bat := ⟨2, [eT]⟩
theorem x1_may : mayX x1 = 0 := (mayX_zero _).2 ⟨by decide, by decide, (by intro e he; simp only [x1, List.mem_cons, List.not_mem_nil, or_false, or_self] at he; subst he; exact eS_may), by decide, by decide⟩
theorem x2_may : mayX x2 = 0 := (mayX_zero _).2 ⟨by decide, by decide, (by intro e he; simp only [x2, List.mem_cons, List.not_mem_nil, or_false] at he; subst he; exact eT_may), by decide, by decide⟩
theorem x1_ok : BOk x1 := ⟨by intro e he; simp only [x1, List.mem_cons, List.not_mem_nil, or_false, or_self] at he; subst he; exact eS_ok, by decide, by decide⟩
theorem x2_ok : BOk x2 := ⟨by intro e he; simp only [x2, List.mem_cons, List.not_mem_nil, or_false] at he; subst he; exact eT_ok, by decide, by decide⟩
theorem add_x1 : addB [] x1 = (0, [⟨1, 1, eS⟩, ⟨2, 2, eS⟩], [eS, eS]) := by rw [addB_yes x1_may rfl]; rfl
theorem add_x2 : addB [eS, eS] x2 = (0, [⟨3, 1, eT⟩], [eS, eS, eT]) := by rw [addB_yes x2_may rfl]; rfl
theorem ver_s1 : (strF [eS, eS, eT] ⟨#[115]⟩ 1).length = 1 := by decide

theorem two_isb (w : World) (g : Nat) (hg : w.heap[g]? = some (.cells #[.string ⟨#[115]⟩, .string ⟨#[116]⟩, .slice none 0 0, .slice none 0 0, .string ⟨#[115]⟩, .string ⟨#[116]⟩, .slice none 0 0, .slice none 0 0] 42 (0, 0))) : IsB w (.agg #[.int .i64 0, .slice (some ⟨g, 0, none⟩) 2 2]) x1 := by
  refine ⟨_, _, _, rfl, rfl, Nat.le_refl _, by decide, fun _ => ⟨g, 0, rfl, (Array.getElem?_eq_some_iff.1 hg).1, fun i hi => ?_⟩⟩
  have h : ∀ k, w.cell? ⟨g, k, none⟩ = (#[.string ⟨#[115]⟩, .string ⟨#[116]⟩, .slice none 0 0, .slice none 0 0, .string ⟨#[115]⟩, .string ⟨#[116]⟩, .slice none 0 0, .slice none 0 0] : Array Value)[k]? := fun k => cell_of_row w g k _ _ _ hg
  rcases (by omega : i = 0 ∨ i = 1) with rfl | rfl
  · exact ⟨none, 0, 0, none, 0, 0, h 0, h 1, h 2, h 3, RdC.nil _, RdC.nil _⟩
  · exact ⟨none, 0, 0, none, 0, 0, h 4, h 5, h 6, h 7, RdC.nil _, RdC.nil _⟩
theorem one_isb (w : World) (g : Nat) (hg : w.heap[g]? = some (.cells #[.string ⟨#[116]⟩, .string ⟨#[116]⟩, .slice none 0 0, .slice none 0 0] 42 (0, 0))) : IsB w (.agg #[.int .i64 2, .slice (some ⟨g, 0, none⟩) 1 1]) x2 := by
  refine ⟨_, _, _, rfl, rfl, Nat.le_refl _, by decide, fun _ => ⟨g, 0, rfl, (Array.getElem?_eq_some_iff.1 hg).1, fun i hi => ?_⟩⟩
  have h : ∀ k, w.cell? ⟨g, k, none⟩ = (#[.string ⟨#[116]⟩, .string ⟨#[116]⟩, .slice none 0 0, .slice none 0 0] : Array Value)[k]? := fun k => cell_of_row w g k _ _ _ hg
  obtain rfl : i = 0 := by omega
  exact ⟨none, 0, 0, none, 0, 0, h 0, h 1, h 2, h 3, RdC.nil _, RdC.nil _⟩

section
variable {Ix : Nat → List Ev → Thing}
set_option maxHeartbeats 8000000 in
set_option maxRecDepth 100000 in
/-- The document's example. -/
theorem shown14_any (api : IApi Ix) (w : World) : Calls Tryz.prog 4 #[] w fun e w' => e = .returned (.bool true) ∧ Below w.heap.size w w' := by
  go_enter Tryz.func4, Tryz.ntmps4
  go_wp2_with fail
  refine (api.new (base := w.heap.size) (w := w) (Q := NoT) (G := fun _ => False) (fun k h => h) noT_keeps (fun k h => h.elim) (Nat.le_refl _)).mono ?_
  rintro e w1 ⟨g, rfl, p1, B1⟩
  go_upto_region 5 with (fail)
  have b2 := (Below.refl w1.heap.size w1).alloc (Nat.le_refl _) (.cells #[.string ⟨#[115]⟩, .string ⟨#[116]⟩, .slice none 0 0, .slice none 0 0] 42)
  have bx := EvAt.new w1 (.string ⟨#[115]⟩) (.string ⟨#[116]⟩) (.slice none 0 0) (.slice none 0 0)
  have p2 := p1.below (api.keeps _ _) noT_keeps b2
  have B2 := below_chain B1 b2
  clear p1 B1 b2
  generalize w1.alloc (.cells #[.string ⟨#[115]⟩, .string ⟨#[116]⟩, .slice none 0 0, .slice none 0 0] 42) = w2 at *
  generalize w1.heap.size = ge at *
  have k0 := bx.c0
  have k1 := bx.c1
  have k2 := bx.c2
  have k3 := bx.c3
  obtain ⟨p3, b3⟩ := bx_new (api.keeps _ _) noT_keeps B2.size p2 #[.string ⟨#[115]⟩, .string ⟨#[116]⟩, .slice none 0 0, .slice none 0 0, .string ⟨#[115]⟩, .string ⟨#[116]⟩, .slice none 0 0, .slice none 0 0] 42
  have kb := with_keeps noT_keeps (bxT_keeps w2.heap.size #[.string ⟨#[115]⟩, .string ⟨#[116]⟩, .slice none 0 0, .slice none 0 0, .string ⟨#[115]⟩, .string ⟨#[116]⟩, .slice none 0 0, .slice none 0 0] 42)
  have B3 := below_chain B2 b3
  have C := Go.Lib.hid (api.add p3 kb B3.size logOk_nil (by decide) (fun w' G hq _ => by obtain ⟨_, _, _, hbx, _⟩ := hq; exact two_isb w' _ hbx.1) x1_ok)
  clear p2 B2 b3 p3 bx kb
  go_wp2_with fail
  refine (C.out).mono ?_
  rintro e w4 ⟨A4, n4, c4, rfl, p4, B4'⟩
  have p4 := pair_imp (th_drop) p4
  rw [add_x1] at p4 ⊢
  simp only at p4 ⊢
  have B4 := B3.trans B4'
  obtain rfl : n4 = 2 := (pair_ro p4).len.symm
  have kq : Keeps (With NoT (RoT A4 2 c4 [⟨1, 1, eS⟩, ⟨2, 2, eS⟩])) := with_keeps noT_keeps (roT_keeps _ _ _ _)
  obtain ⟨p5, b5⟩ := bx_new (api.keeps _ _) kq B4.size p4 #[.string ⟨#[116]⟩, .string ⟨#[116]⟩, .slice none 0 0, .slice none 0 0] 42
  have kb := with_keeps kq (bxT_keeps w4.heap.size #[.string ⟨#[116]⟩, .string ⟨#[116]⟩, .slice none 0 0, .slice none 0 0] 42)
  have B5 := below_chain B4 b5
  have lo : LogOk [eS, eS] := ⟨by decide, fun e he => by simp only [List.mem_cons, List.not_mem_nil, or_false, or_self] at he; subst he; exact eS_may⟩
  have lo2 : LogOk [eS, eS, eT] := ⟨by decide, fun e he => by
    simp only [List.mem_cons, List.not_mem_nil, or_false] at he
    rcases he with rfl | rfl | rfl
    · exact eS_may
    · exact eS_may
    · exact eT_may⟩
  have C2 := Go.Lib.hid (api.add p5 kb B5.size lo (by decide) (fun w' G hq _ => by obtain ⟨_, _, _, hbx, _⟩ := hq; exact one_isb w' _ hbx.1) x2_ok)
  have KQ := Go.Lib.hid kq
  have LO2 := Go.Lib.hid lo2
  clear p4 B3 B4' B4 b5 p5 lo lo2 kq kb C k0 k1 k2 k3
  go_wp2_with fail
  refine (C2.out).mono ?_
  rintro e w6 ⟨A6, n6, c6, rfl, p6, B6'⟩
  have p6 := pair_imp (th_drop) p6
  rw [add_x2] at p6 ⊢
  simp only at p6 ⊢
  have B6 := B5.trans B6'
  have r6 := pair_ro p6
  have r4 := pair_ro (pair_first p6)
  obtain rfl : n6 = 1 := r6.len.symm
  obtain ⟨b4, o4, rfl, _, q4⟩ := r4.at_ (by decide)
  obtain ⟨bb6, o6, rfl, _, q6⟩ := r6.at_ (by decide)
  obtain ⟨_, _, _, _, _, _, _, y1, _⟩ := q4 1 (by decide)
  obtain ⟨_, _, _, _, _, _, z0, z1, _⟩ := q6 0 (by decide)
  have y1 : w6.cell? ⟨b4, o4 + 6 + 1, none⟩ = some (.int .i64 2) := y1
  have z0 : w6.cell? ⟨bb6, o6, none⟩ = some (.int .i64 3) := z0
  have z1 : w6.cell? ⟨bb6, o6 + 1, none⟩ = some (.int .i64 1) := z1
  have CV := Go.Lib.hid (api.ver (s := ⟨#[115]⟩) (u := 1) p6 (with_keeps KQ.out (roT_keeps _ _ _ _)) LO2.out (by decide) (by decide))
  clear C2 B5 B6' r4 r6 q4 q6 p6
  go_wp2_with fail
  refine (CV.out).mono ?_
  rintro e w7 ⟨rfl, _, b7⟩
  rw [ver_s1]
  have B7 := below_chain B6 b7
  go_wp2_with fail
  go_ret
  exact ⟨by simp, B7⟩
end

end Go.Proofs.YtiplfhmimpkplaaGreat.IxWalk

/-
  Walk of a statement of layer 14: IndexRefuses.
-/
namespace Go.Proofs.YtiplfhmimpkplaaGreat.IxWalk
open Go.RowKit Go.WideShapes Go.ChangeShapes Go.Proofs.YtiplfhmimpkplaaGreat.MemRow Go.Proofs.YtiplfhmimpkplaaGreat.Ev Go.Proofs.YtiplfhmimpkplaaGreat.Open Go.Proofs.YtiplfhmimpkplaaGreat.NameMath Go.Proofs.YtiplfhmimpkplaaGreat.NameWalk Go.Proofs.YtiplfhmimpkplaaGreat.EvWalk Go.Proofs.YtiplfhmimpkplaaGreat.NumMem Go.Proofs.YtiplfhmimpkplaaGreat.Qu Go.Proofs.YtiplfhmimpkplaaGreat.QuWalk Go.Proofs.YtiplfhmimpkplaaGreat.SmWalk Go.Proofs.YtiplfhmimpkplaaGreat.BtWalk Go.Proofs.YtiplfhmimpkplaaGreat.DkWalk

theorem pair_set {base : Nat} {w : World} {P Q : Thing} (h : Pair base w P Q) (kp : Keeps P) (kq : Keeps Q) {g : Nat} (hg : g < base) (i : Nat) (v : Value) : Pair base (w.setCell ⟨g, i, none⟩ v) P Q := by
  obtain ⟨F, G, hp, hq, h1, h2, h3⟩ := h
  have hs : w.heap.size ≤ (w.setCell ⟨g, i, none⟩ v).heap.size := by simp [World.setCell]
  have hk : ∀ k, base ≤ k → (w.setCell ⟨g, i, none⟩ v).heap[k]? = w.heap[k]? := fun k hk => by
    have : g ≠ k := by omega
    simp [World.setCell, Array.getElem?_modify, this]
  exact ⟨F, G, kp.keep hp hs fun k hf => hk k (h1 k hf), kq.keep hq hs fun k hf => hk k (h2 k hf), h1, h2, h3⟩
theorem ownO_other {W0 w : World} {lo : Nat} {A : Option Addr} {n c : Nat} {es : List Ev} (h : OwnO W0 w lo A n c es) {g : Nat} (hne : ∀ a, A = some a → a.block ≠ g) (i : Nat) (v : Value) : OwnO W0 (w.setCell ⟨g, i, none⟩ v) lo A n c es := by
  obtain ⟨cs, o, hl, hc⟩ := h
  exact ⟨cs, OwnC.grown o (boxGrown w g i v) (fun a ha e => hne a ha (by injection e)), hl, hc⟩
theorem ownO_lt {W0 w : World} {lo : Nat} {A : Option Addr} {n c : Nat} {es : List Ev} (h : OwnO W0 w lo A n c es) : ∀ a, A = some a → lo ≤ a.block ∧ a.block < w.heap.size := by
  obtain ⟨cs, o, _⟩ := h
  exact OwnC.lt o
theorem addB_most (es : List Ev) (x : Bat) : (addB es x).2.2.length ≤ es.length + x.es.length := by
  obtain ⟨fs, h1, _, h2⟩ := addB_grows es x
  rw [h1, List.length_append]
  rcases h2 with rfl | rfl
  · simp
  · omega
theorem bats_ok {xs : List Bat} (h : ∀ x ∈ xs, BOk x) (j : Nat) : BOk (xs.getD j noBat) := by
  by_cases hj : j < xs.length
  · exact h _ (bat_get hj)
  · have : xs.getD j noBat = noBat := by simp [List.getD, List.getElem?_eq_none (Nat.le_of_not_lt hj)]
    rw [this]
    exact ⟨fun _ h => (by cases h), by decide, by decide⟩
theorem logOk_more {es : List Ev} {x : Bat} {N : Nat} (h : LogOk es) (hl : es.length ≤ N) (hx : x.es.length ≤ 8) (hN : N + 8 ≤ 400) : LogOk (addB es x).2.2 ∧ (addB es x).2.2.length ≤ N + 8 := by
  have := addB_most es x
  exact ⟨logOk_add h (by omega), by omega⟩
/-- Events that can be read while the blocks G stay, and what is older than W0. -/
def EvK (W0 : World) (E : Option Addr) (i d : Nat) (es : List Ev) : Thing := fun w G => (∀ w', Below W0.heap.size W0 w' → (∀ k, G k → w'.heap[k]? = w.heap[k]?) → RdE w' E i d es) ∧ ∀ k, G k → k < w.heap.size
theorem evK_keeps (W0 : World) (E : Option Addr) (i d : Nat) (es : List Ev) : Keeps (EvK W0 E i d es) :=
  ⟨fun h hs hk => ⟨fun w2 hb h2 => h.1 w2 hb fun k hf => (h2 k hf).trans (hk k hf), fun k hf => Nat.lt_of_lt_of_le (h.2 k hf) hs⟩, fun h => h.2⟩
theorem evK_of {W0 w w' : World} {lo : Nat} {E : Option Addr} {i d : Nat} {es : List Ev} (h : OwnO W0 w' lo E i d es) (hlo : w.heap.size ≤ lo) : EvK W0 E i d es w' (fun k => w.heap.size ≤ k ∧ k < w'.heap.size) := by
  refine ⟨fun w2 hb hk => ?_, fun k hk => hk.2⟩
  obtain ⟨cs, o, hl, hc⟩ := h
  have o2 : OwnC 4 w2 lo 42 E i d cs := own_keep o fun a ha => hk _ ⟨Nat.le_trans hlo (OwnC.lt o a ha).1, (OwnC.lt o a ha).2⟩
  exact OwnO.rd (base := lo) ⟨cs, o2, hl, hc⟩ hb
theorem pair_evk {W0 w : World} {base : Nat} {P Q : Thing} {E : Option Addr} {i d : Nat} {es : List Ev} (hp : Pair base w P (With Q (EvK W0 E i d es))) (hB : Below W0.heap.size W0 w) : RdE w E i d es := by
  obtain ⟨_, _, _, ⟨_, _, _, h, _⟩, _⟩ := hp
  exact h.1 w hB fun _ _ => rfl
theorem evk_isb {W0 w : World} {G : Nat → Prop} {Q R : Thing} {E : Option Addr} {i d : Nat} {es : List Ev} {a : Int} (h : With (With Q (EvK W0 E i d es)) R w G) (hB : Below W0.heap.size W0 w) : IsB w (.agg #[.int .i64 a, .slice E i d]) ⟨a, es⟩ := by
  obtain ⟨_, _, ⟨_, _, _, h, _⟩, _⟩ := h
  exact ⟨E, i, d, rfl, h.1 w hB fun _ _ => rfl⟩
theorem evk_isb1 {W0 w : World} {G : Nat → Prop} {Q : Thing} {E : Option Addr} {i d : Nat} {es : List Ev} {a : Int} (h : With Q (EvK W0 E i d es) w G) (hB : Below W0.heap.size W0 w) : IsB w (.agg #[.int .i64 a, .slice E i d]) ⟨a, es⟩ := by
  obtain ⟨_, _, _, h, _⟩ := h
  exact ⟨E, i, d, rfl, h.1 w hB fun _ _ => rfl⟩
section
variable {Ix : Nat → List Ev → Thing}
end

end Go.Proofs.YtiplfhmimpkplaaGreat.IxWalk

/-
  The laws' word of layer 14: add.
-/
namespace Go.Proofs.YtiplfhmimpkplaaGreat.IxWalk
open Go.RowKit Go.WideShapes Go.ChangeShapes Go.Proofs.YtiplfhmimpkplaaGreat.MemRow Go.Proofs.YtiplfhmimpkplaaGreat.Ev Go.Proofs.YtiplfhmimpkplaaGreat.Open Go.Proofs.YtiplfhmimpkplaaGreat.NameMath Go.Proofs.YtiplfhmimpkplaaGreat.NameWalk Go.Proofs.YtiplfhmimpkplaaGreat.EvWalk Go.Proofs.YtiplfhmimpkplaaGreat.NumMem Go.Proofs.YtiplfhmimpkplaaGreat.Qu Go.Proofs.YtiplfhmimpkplaaGreat.QuWalk Go.Proofs.YtiplfhmimpkplaaGreat.SmWalk Go.Proofs.YtiplfhmimpkplaaGreat.BtWalk Go.Proofs.YtiplfhmimpkplaaGreat.DkWalk

/-- What add makes of a log. -/
def playN (es : List Ev) (xs : List Bat) (k : Nat) : List Ev := playB es ((xs.take k).map fewB)
theorem playN_zero (es : List Ev) (xs : List Bat) : playN es xs 0 = es := rfl
theorem playN_step (es : List Ev) {xs : List Bat} {j : Nat} (h : j < xs.length) : playN es xs (j + 1) = (addB (playN es xs j) ⟨(playN es xs j).length, few8 (xs.getD j noBat).es⟩).2.2 := by
  unfold playN
  rw [bat_take xs j h, List.map_append, List.map_singleton, playB_snoc]
  rfl
theorem playN_ok {es : List Ev} (h : LogOk es) (hl : es.length ≤ 200) (xs : List Bat) : ∀ k, k ≤ 24 → LogOk (playN es xs k) ∧ (playN es xs k).length ≤ es.length + 8 * k
  | 0, _ => ⟨h, Nat.le_refl _⟩
  | k + 1, hk => by
    obtain ⟨h1, h2⟩ := playN_ok h hl xs k (by omega)
    by_cases hx : k < xs.length
    · rw [playN_step es hx]
      obtain ⟨h3, h4⟩ := logOk_more (x := ⟨(playN es xs k).length, few8 (xs.getD k noBat).es⟩) h1 h2 (few8_len _) (by omega)
      exact ⟨h3, by omega⟩
    · have e : playN es xs (k + 1) = playN es xs k := by
        unfold playN
        rw [List.take_of_length_le (by omega), List.take_of_length_le (by omega)]
      rw [e]
      exact ⟨h1, by omega⟩
theorem playN_all (es : List Ev) (xs : List Bat) {j k : Nat} (h : xs.length ≤ j) (hk : xs.length ≤ k) : playN es xs j = playN es xs k := by
  unfold playN
  rw [List.take_of_length_le h, List.take_of_length_le hk]

/-- An index among others. -/
structure OneApi (g : Nat) (Px : List Ev → Thing) : Prop where
  keeps : ∀ es, Keeps (Px es)
  add : ∀ {base : Nat} {w : World} {es : List Ev} {Q : Thing} {v : Value} {x : Bat}, Pair base w (Px es) Q → Keeps Q → base ≤ w.heap.size → LogOk es → es.length + x.es.length ≤ 400 → (∀ (w' : World) (G : Nat → Prop), Q w' G → Below base w w' → IsB w' v x) → BOk x →
    Calls Tryz.prog 7 #[.pointer (some ⟨g, 0, none⟩), v] w fun r w' => ∃ B m c, r = .returned (.tuple #[.slice B m c, .int .i64 (addB es x).1]) ∧ Pair base w' (Px (addB es x).2.2) (With Q (RoT B m c (addB es x).2.1)) ∧ Below base w w'
  last : ∀ {base : Nat} {w : World} {es : List Ev} {Q : Thing}, Pair base w (Px es) Q → Keeps Q → LogOk es →
    Calls Tryz.prog 8 #[.pointer (some ⟨g, 0, none⟩)] w fun e w' => e = .returned (.int .i64 (es.length : Nat)) ∧ Pair base w' (Px es) Q ∧ Below w.heap.size w w'
theorem one_of {Ix : Nat → List Ev → Thing} (api : IApi Ix) (g : Nat) : OneApi g (Ix g) := ⟨api.keeps g, api.add, api.last⟩
theorem one_two {Ix : Nat → List Ev → Thing} {It : Nat → List Ev → Nat → List Ev → Thing} (api : ITwo Ix It) (g g' : Nat) (es' : List Ev) : OneApi g (fun es => It g es g' es') := ⟨fun es => api.tkeeps g es g' es', api.tadd, api.tlast⟩

end Go.Proofs.YtiplfhmimpkplaaGreat.IxWalk

/-
  Walk of a statement of layer 14: IndexCopies.
-/
namespace Go.Proofs.YtiplfhmimpkplaaGreat.IxWalk
open Go.RowKit Go.WideShapes Go.ChangeShapes Go.Proofs.YtiplfhmimpkplaaGreat.MemRow Go.Proofs.YtiplfhmimpkplaaGreat.Ev Go.Proofs.YtiplfhmimpkplaaGreat.Open Go.Proofs.YtiplfhmimpkplaaGreat.NameMath Go.Proofs.YtiplfhmimpkplaaGreat.NameWalk Go.Proofs.YtiplfhmimpkplaaGreat.EvWalk Go.Proofs.YtiplfhmimpkplaaGreat.NumMem Go.Proofs.YtiplfhmimpkplaaGreat.Qu Go.Proofs.YtiplfhmimpkplaaGreat.QuWalk Go.Proofs.YtiplfhmimpkplaaGreat.SmWalk Go.Proofs.YtiplfhmimpkplaaGreat.BtWalk Go.Proofs.YtiplfhmimpkplaaGreat.DkWalk

theorem pairImpL {base : Nat} {w : World} {P P' Q : Thing} (i : Imp P P') (h : Pair base w P Q) : Pair base w P' Q := (pair_imp i h.swap).swap
theorem pair_all {base : Nat} {w : World} {P Q : Thing} (h : Pair base w P Q) (kp : Keeps P) (kq : Keeps Q) : ∃ G, With P Q w G ∧ ∀ k, G k → base ≤ k := by
  obtain ⟨F, G, hp, hq, h1, h2, h3⟩ := h
  refine ⟨fun k => F k ∨ G k, ⟨F, G, hp, hq, fun _ h => .inl h, fun _ h => .inr h, fun k hk => ?_, h3⟩, fun k hk => ?_⟩
  · rcases hk with hk | hk
    · exact kp.lt hp k hk
    · exact kq.lt hq k hk
  · rcases hk with hk | hk
    · exact h1 k hk
    · exact h2 k hk
section
variable {Ix : Nat → List Ev → Thing} {It : Nat → List Ev → Nat → List Ev → Thing}
theorem new_with (api : IApi Ix) {base : Nat} {w : World} {P Q : Thing} (h : Pair base w P Q) (kp : Keeps P) (kq : Keeps Q) (hb : base ≤ w.heap.size) :
    Calls Tryz.prog 5 #[] w fun e w' => ∃ g, e = .returned (.pointer (some ⟨g, 0, none⟩)) ∧ Pair base w' (Ix g []) (With P Q) ∧ Below w.heap.size w w' := by
  obtain ⟨G, hw, hG⟩ := pair_all h kp kq
  exact api.new hw (with_keeps kp kq) hG hb
end

end Go.Proofs.YtiplfhmimpkplaaGreat.IxWalk

/-
  Layer 14's statements: a query as a thing; an ask that came in.
-/
namespace Go.Proofs.YtiplfhmimpkplaaGreat.IxWalk
open Go.RowKit Go.WideShapes Go.ChangeShapes Go.Joins Go.Deep Go.Proofs.YtiplfhmimpkplaaGreat.MemRow Go.Proofs.YtiplfhmimpkplaaGreat.Ev Go.Proofs.YtiplfhmimpkplaaGreat.Open Go.Proofs.YtiplfhmimpkplaaGreat.NameMath Go.Proofs.YtiplfhmimpkplaaGreat.NameWalk Go.Proofs.YtiplfhmimpkplaaGreat.EvWalk Go.Proofs.YtiplfhmimpkplaaGreat.NumMem Go.Proofs.YtiplfhmimpkplaaGreat.Qu Go.Proofs.YtiplfhmimpkplaaGreat.QuWalk Go.Proofs.YtiplfhmimpkplaaGreat.SmWalk Go.Proofs.YtiplfhmimpkplaaGreat.BtWalk Go.Proofs.YtiplfhmimpkplaaGreat.DkWalk

theorem qfew_of {q : List Cl} (h : QOk q) : QFew (fewQ q) := ⟨fewQ_ok h, fewQ_len q, fewQ_terms q⟩
/-- A query's clauses, told by whatever agrees on its blocks. -/
def QkT (W0 : World) (A : Option Addr) (n c : Nat) (q : List Cl) : Thing := fun w G => (∀ w', Below W0.heap.size W0 w' → (∀ k, G k → w'.heap[k]? = w.heap[k]?) → RdQ w' A n c q) ∧ ∀ k, G k → k < w.heap.size
theorem qkT_keeps (W0 : World) (A : Option Addr) (n c : Nat) (q : List Cl) : Keeps (QkT W0 A n c q) :=
  ⟨fun h hs hk => ⟨fun w2 hb h2 => h.1 w2 hb fun k hk2 => (h2 k hk2).trans (hk k hk2), fun k h3 => Nat.lt_of_lt_of_le (h.2 k h3) hs⟩, fun h => h.2⟩
theorem qkT_of {W0 w w' : World} {lo : Nat} {A : Option Addr} {n c : Nat} {q : List Cl} (h : OwnQ W0 w' lo A n c q) (hlo : w.heap.size ≤ lo) : QkT W0 A n c q w' (fun k => w.heap.size ≤ k ∧ k < w'.heap.size) := by
  refine ⟨fun w2 hb h2 => ?_, fun k hk => hk.2⟩
  obtain ⟨cs, o, hl, hc⟩ := h
  refine OwnQ.rd ⟨cs, own_keep o fun a ha => h2 _ ?_, hl, hc⟩ hb
  have := OwnC.lt o a ha
  exact ⟨by omega, this.2⟩
theorem pair_qk {base : Nat} {W0 w : World} {P Q : Thing} {A : Option Addr} {n c : Nat} {q : List Cl} (h : Pair base w P (With Q (QkT W0 A n c q))) (hB : Below W0.heap.size W0 w) : RdQ w A n c q := by
  obtain ⟨_, _, _, ⟨_, _, _, hr, _⟩, _⟩ := h
  exact hr.1 w hB fun _ _ => rfl
theorem getD_of {rs : List Rc} {j : Nat} (h : j < rs.length) : rs.getD j noRc = rs[j] := by
  rw [List.getD_eq_getElem?_getD, List.getElem?_eq_getElem h]; rfl
theorem rows_at (es : List Ev) (s : ByteArray) (u : Int) {j : Nat} (h : j < (strF es s u).length) : ((strF es s u).getD j noRc).ver = (j : Int) + 1 ∧ ((strF es s u).getD j noRc).e.s = s := by
  rw [getD_of h]
  exact str_at es s u j h
/-- A query's rows: each matches, and positions rise. -/
theorem qry_at (es : List Ev) (q : List Cl) (u : Int) {j : Nat} (h : j < (qryF es q u).length) : matchQ q ((qryF es q u).getD j noRc).e = true := by
  rw [getD_of h]
  exact (tell_mem.1 (List.getElem_mem h)).2.2
theorem qry_up (es : List Ev) (q : List Cl) (u : Int) {j : Nat} (h : j < (qryF es q u).length) (h0 : 0 < j) : ((qryF es q u).getD (j - 1) noRc).pos < ((qryF es q u).getD j noRc).pos := by
  have h1 : j - 1 < (qryF es q u).length := by omega
  rw [getD_of h, getD_of h1]
  exact List.pairwise_iff_getElem.1 (tell_inc (matchQ q) es u) (j - 1) j h1 h (by omega)

end Go.Proofs.YtiplfhmimpkplaaGreat.IxWalk

/-
  Walk of a statement of layer 14: IndexStays. (Written by genstays.py.)
-/
namespace Go.Proofs.YtiplfhmimpkplaaGreat.IxWalk
open Go.Proofs.YtiplfhmimpkplaaGreat.HeldAt Go.RowKit Go.WideShapes Go.ChangeShapes Go.Proofs.YtiplfhmimpkplaaGreat.MemRow Go.Proofs.YtiplfhmimpkplaaGreat.Ev Go.Proofs.YtiplfhmimpkplaaGreat.Open Go.Proofs.YtiplfhmimpkplaaGreat.NameMath Go.Proofs.YtiplfhmimpkplaaGreat.NameWalk Go.Proofs.YtiplfhmimpkplaaGreat.EvWalk Go.Proofs.YtiplfhmimpkplaaGreat.NumMem Go.Proofs.YtiplfhmimpkplaaGreat.Qu Go.Proofs.YtiplfhmimpkplaaGreat.QuWalk Go.Proofs.YtiplfhmimpkplaaGreat.SmWalk Go.Proofs.YtiplfhmimpkplaaGreat.BtWalk Go.Proofs.YtiplfhmimpkplaaGreat.DkWalk

section
variable {Ix : Nat → List Ev → Thing}
end

end Go.Proofs.YtiplfhmimpkplaaGreat.IxWalk

