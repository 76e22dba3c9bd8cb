/-
  Contracts of the landed posting: New, Add.
-/
import Derived.Test.YtppdljkfhoekpaaMg4
namespace Go.Proofs.Ytppdljkfhoekpaa.PnWalk
open Go.RowKit Go.Maps Go.Proofs.Ytppdljkfhoekpaa.MemRow Go.Proofs.Ytppdljkfhoekpaa.Ev Go.Proofs.Ytppdljkfhoekpaa.NameMath Go.Proofs.Ytppdljkfhoekpaa.NameWalk Go.Proofs.Ytppdljkfhoekpaa.EvWalk Go.Proofs.Ytppdljkfhoekpaa.NumMem Go.Proofs.Ytppdljkfhoekpaa.SmWalk Go.Proofs.Ytppdljkfhoekpaa.NMap Go.Proofs.Ytppdljkfhoekpaa.DkWalk Go.Proofs.Ytppdljkfhoekpaa.PoWalk Go.Proofs.Ytppdljkfhoekpaa.Qu Go.Proofs.Ytppdljkfhoekpaa.QuWalk

/-- The landed lists of the events at positions L, behind g. -/
def LnT (g : Nat) (L : Ls) : Thing := fun w G => ∃ F D mb M hd, LnR w F G g D mb M hd ∧ DOf D L
theorem lnT_keeps (g : Nat) (L : Ls) : Keeps (LnT g L) := ⟨fun ⟨F, D, mb, M, hd, h, d⟩ hs hk => ⟨F, D, mb, M, hd, h.keep hs hk, d⟩, fun ⟨_, _, _, _, _, h, _⟩ => h.lt⟩
set_option maxHeartbeats 4000000 in
set_option maxRecDepth 100000 in
theorem new13_any (w : World) : Calls Try.prog 16 #[] w fun e w' => ∃ g, e = .returned (.pointer (some ⟨g, 0, none⟩)) ∧ LnT g [] w' (fun k => w.heap.size ≤ k ∧ k < w'.heap.size) ∧ Below w.heap.size w w' := by
  have hmm := fun W => run_makeMap (P := Try.prog) 62 W
  go_enter Try.func16, Try.ntmps16
  go_wp2_with fail
  go_ret
  have s1 : (w.alloc (.map #[] 0)).heap.size = w.heap.size + 1 := by simp
  have s2 : ((w.alloc (.map #[] 0)).alloc (.map #[] 0)).heap.size = w.heap.size + 2 := by simp
  have b1 : Below w.heap.size w (w.alloc (.map #[] 0)) := (Below.refl _ w).alloc (Nat.le_refl _) _
  have b2 := b1.alloc b1.size (.map #[] 0)
  have b3 := b2.alloc b2.size (.cells #[.slice none 0 0, .map (some w.heap.size), .map (some (w.heap.size + 1))] 64)
  have o1 := ((World.ownsMap_made w Try.prog 9 slR).alloc (.map #[] 0)).alloc (.cells #[.slice none 0 0, .map (some w.heap.size), .map (some (w.heap.size + 1))] 64)
  have o2 := (World.ownsMap_made (w.alloc (.map #[] 0)) Try.prog 9 slR).alloc (.cells #[.slice none 0 0, .map (some w.heap.size), .map (some (w.heap.size + 1))] 64)
  have bx := heap_alloc_new ((w.alloc (.map #[] 0)).alloc (.map #[] 0)) (.cells #[.slice none 0 0, .map (some w.heap.size), .map (some (w.heap.size + 1))] 64)
  have s3 : (((w.alloc (.map #[] 0)).alloc (.map #[] 0)).alloc (.cells #[.slice none 0 0, .map (some w.heap.size), .map (some (w.heap.size + 1))] 64)).heap.size = w.heap.size + 3 := by simp
  rw [s2] at bx
  rw [s1] at o2
  refine ⟨w.heap.size + 2, rfl, ⟨fun k => w.heap.size ≤ k ∧ k < w.heap.size + 3, ⟨[], fun _ => []⟩, fun b => if b then w.heap.size + 1 else w.heap.size, fun _ => .map [], fun _ => none, ⟨bx, fun b => ?_, fun b => NOf.empty _, ⟨fun k => .inr ⟨rfl, ?_⟩, fun k k' h h' _ e => by cases e⟩, fun b c e => ?_, ⟨by omega, by omega⟩, fun b => ?_, fun k hk => by rw [s3]; exact hk, fun k hk => hk.2⟩, DOf.nil⟩, b3⟩
  · cases b
    · exact o1
    · exact o2
  · match k with
    | none => rfl
    | some (b, s) => rfl
  · cases b <;> cases c <;> simp at e ⊢
  · cases b <;> simp

section
variable {w : World} {F G : Nat → Prop} {g : Nat} {D : Dt} {mb : Bool → Nat} {M : Bool → DataW Hr} {hd : HdT} {L : Ls}
set_option maxHeartbeats 4000000 in
set_option maxRecDepth 100000 in
theorem add13_any (h : LnR w F G g D mb M hd) (d : DOf D L) (ok : LOk L) (hl : L.length < 200) {ev : Ev} {T Y : Option Addr} {nT cT nY cY : Nat} (hev : ∀ w', Ch F w w' → RdS w' T nT cT ev.tags) (hok : EvOk ev) (ht : ev.tags.length ≤ 100) {p : Int} (hp : -9223372036854775808 ≤ p ∧ p ≤ 9223372036854775807) :
    Calls Try.prog 18 #[.pointer (some ⟨g, 0, none⟩), .agg #[.string ev.s, .string ev.t, .slice T nT cT, .slice Y nY cY], .int .i64 p] w fun e w' => e = .returned (.int .i64 (addL L ev p).1) ∧
      ∃ D1 M1 hd1, Grew w w' F G g mb hd D1 M1 hd1 ∧ DOf D1 (addL L ev p).2 := by
  obtain ⟨es, et, ts, fs⟩ := ev
  simp only at hev ht
  have b1 : Below w.heap.size w (w.alloc (.cells #[.string es, .string et, .slice T nT cT, .slice Y nY cY] 42)) := (Below.refl _ _).alloc (Nat.le_refl _) _
  have b2 := b1.alloc b1.size (.cells #[.int .i64 p] 3)
  have x1 := heap_alloc_new w (.cells #[.string es, .string et, .slice T nT cT, .slice Y nY cY] 42)
  have x2 := heap_alloc_new (w.alloc (.cells #[.string es, .string et, .slice T nT cT, .slice Y nY cY] 42)) (.cells #[.int .i64 p] 3)
  have s1 : (w.alloc (.cells #[.string es, .string et, .slice T nT cT, .slice Y nY cY] 42)).heap.size = w.heap.size + 1 := by simp
  rw [s1] at x2
  go_enter Try.func18, Try.ntmps18
  go_upto_region 1 with (fail)
  have x1 := (((Below.refl _ (w.alloc (.cells #[.string es, .string et, .slice T nT cT, .slice Y nY cY] 42))).alloc (Nat.le_refl _) (.cells #[.int .i64 p] 3)).block w.heap.size (by omega)).trans x1
  have s2 : ((w.alloc (.cells #[.string es, .string et, .slice T nT cT, .slice Y nY cY] 42)).alloc (.cells #[.int .i64 p] 3)).heap.size = w.heap.size + 2 := by simp
  clear b1 s1
  generalize (w.alloc (.cells #[.string es, .string et, .slice T nT cT, .slice Y nY cY] 42)).alloc (.cells #[.int .i64 p] 3) = w1 at *
  have h1 := h.below b2
  have HEV := Go.Lib.hid (fun w' (c : Ch F w1 w') => hev w' ((Ch.of_below b2).trans (c.wide fun k hk => .inl hk)))
  obtain ⟨A, n, c, eA, rA, _⟩ := (h1.co.li none).rd
  have k0 := h1.c0
  have k1 := h1.c1
  have z0 := h1.frozen 0
  rw [eA] at k0
  have hln : n = L.length := by rw [← rA.len]; exact d.len
  have hall := posP_lt (p := p) ok
  have hlast : 0 < n → (lstD D none).getD (n - 1) 0 = lastL L := fun h0 => by rw [hln]; exact d.last (by omega)
  have hlast0 : n = 0 → lastL L = 0 := fun h0 => by
    have : L = [] := List.eq_nil_of_length_eq_zero (by omega)
    rw [this]
    rfl
  have y0 : w1.cell? ⟨w.heap.size + 1, 0, none⟩ = some (.int .i64 p) := by rw [cell_of_row w1 _ 0 _ _ _ x2]; rfl
  have H := Go.Lib.hid h
  have H1 := Go.Lib.hid h1
  have DD := Go.Lib.hid d
  have OK := Go.Lib.hid ok
  have X1 := Go.Lib.hid x1
  have X2 := Go.Lib.hid x2
  have B2 := Go.Lib.hid b2
  have HOK := Go.Lib.hid hok
  have HLN := Go.Lib.hid hln
  have hn200 : n < 200 := by omega
  clear h h1 d ok x1 x2 b2 hev hok hall hln
  go_upto_region 2 with (fail)
  go_cut [33] (fun v wx => v = .bool (decide (p < 1 ∨ p ≤ lastL L)) ∧ ∃ q, wx = w1.drewN q)
  case first =>
    by_cases h1 : p < 1
    · have hd1 : decide (p < 1 ∨ p ≤ lastL L) = true := decide_eq_true (.inl h1)
      have HD := Go.Lib.hid hd1
      clear hd1 rA hlast hlast0
      go_quiet (fail)
      go_wp2_with fail
      go_meet
      exact ⟨by rw [HD.out], _, rfl⟩
    · by_cases h2 : 0 < n
      · have hl1 := hlast h2
        obtain ⟨b, o, rfl, _, kc⟩ := rA.at_ h2
        have yc := kc (n - 1) (by omega)
        rw [hl1] at yc
        have n1 : IntKind.i64.wrap ((n : Int) - 1) = ((n - 1 : Nat) : Int) := by rw [IntWalk.i64_in _ (by omega)]; omega
        have i2 : (0 : Int) < n := by omega
        have g2 : decide ((n : Int) > 0) = true := decide_eq_true i2
        have g3 : decide (0 < n) = true := decide_eq_true h2
        have j2 : ((n - 1 : Nat) : Int) < n := by omega
        by_cases h3 : p ≤ lastL L
        · have hd1 : decide (p < 1 ∨ p ≤ lastL L) = true := decide_eq_true (.inr h3)
          have HD := Go.Lib.hid hd1
          clear hd1 rA kc hlast hlast0 hl1
          generalize lastL L = x at *
          generalize n - 1 = t at *
          go_quiet (fail)
          go_wp2_with fail
          go_meet
          exact ⟨by rw [HD.out], _, rfl⟩
        · have hd1 : decide (p < 1 ∨ p ≤ lastL L) = false := decide_eq_false (by omega)
          have HD := Go.Lib.hid hd1
          clear hd1 rA kc hlast hlast0 hl1
          generalize lastL L = x at *
          generalize n - 1 = t at *
          go_quiet (fail)
          go_wp2_with fail
          go_meet
          exact ⟨by rw [HD.out], _, rfl⟩
      · have hl1 := hlast0 (by omega)
        have hd1 : decide (p < 1 ∨ p ≤ lastL L) = false := decide_eq_false (by omega)
        have HD := Go.Lib.hid hd1
        have i2 : ¬ (0 : Int) < n := by omega
        have g2 : decide ((n : Int) > 0) = false := decide_eq_false i2
        have g3 : decide (0 < n) = false := decide_eq_false h2
        clear hd1 rA hlast hlast0 hl1
        go_quiet (fail)
        go_wp2_with fail
        go_meet
        exact ⟨by rw [HD.out], _, rfl⟩
  case rest =>
    obtain ⟨rfl, q, rfl⟩ := hcut
    have bq : Below w1.heap.size w1 (w1.drewN q) := bel_dn (Below.refl _ _) q
    have h2 := H1.out.below bq
    have b2 := B2.out.trans (bq.mono B2.out.size)
    have x1 := (bq.block w.heap.size (by omega)).trans X1.out
    have x2 := (bq.block (w.heap.size + 1) (by omega)).trans X2.out
    have s2 : (w1.drewN q).heap.size = w.heap.size + 2 := s2
    have HEV := Go.Lib.hid (fun w' (c : Ch F (w1.drewN q) w') => HEV.out w' ((Ch.of_below bq).trans (c.wide fun k hk => .inl hk)))
    have k0 : (w1.drewN q).cell? ⟨g, 0, none⟩ = some (.slice A n c) := k0
    have k1 : (w1.drewN q).cell? ⟨g, 1, none⟩ = some (.map (some (mb false))) := k1
    have y0 : (w1.drewN q).cell? ⟨w.heap.size + 1, 0, none⟩ = some (.int .i64 p) := y0
    clear hlast hlast0 rA bq
    generalize w1.drewN q = w2 at *
    clear H1 B2 X1 X2
    have H2 := Go.Lib.hid h2
    have B2 := Go.Lib.hid b2
    have X1 := Go.Lib.hid x1
    have X2 := Go.Lib.hid x2
    clear h2 b2 x1 x2
    by_cases hc : p < 1 ∨ p ≤ lastL L
    · rw [decide_eq_true hc]
      have HL := Go.Lib.hid (show addL L ⟨es, et, ts, fs⟩ p = (1, L) by unfold addL; rw [if_pos hc])
      clear hc
      go_wp2_with fail
      go_ret
      rw [HL.out]
      exact ⟨rfl, D, M, hd, Grew.below B2.out H.out, DD.out⟩
    · rw [decide_eq_false hc]
      have HY := Go.Lib.hid (show addL L ⟨es, et, ts, fs⟩ p = (0, L ++ [(⟨es, et, ts, fs⟩, p)]) from addL_yes (by omega) (by omega))
      have HLP := Go.Lib.hid (show lastL L < p by omega)
      clear hc
      have qm : ∀ W, (binOp .eql 62 (.map (some (mb false))) (.map none)).run Try.prog W = .ok (.bool (some (mb false)).isNone) W := fun W => run_eql_map_nil W _ _ _ _ Try.underlying62
      have cw := fun W (b : Below w2.heap.size w2 W) => with_any ((H2.out.below b).co.li none) (by show D.all.length ≤ _; rw [DD.out.len]; omega) p
      simp only [eA] at cw
      have CW := Go.Lib.hid cw
      clear cw
      go_upto_region 7 with (fail)
      go_cut [8] (fun v wx => v = .func (.func 35) #[] #[.pointer (some ⟨w.heap.size + 1, 0, none⟩)] ∧ ∃ hd1, Hid (Grew w2 wx F G g mb hd ⟨withF D.all p, D.t⟩ M hd1))
      case first =>
        have bd : Below w2.heap.size w2 w2.drew := ⟨rfl, rfl, rfl, Nat.le_refl _, fun _ _ => rfl⟩
        have BD := Go.Lib.hid bd
        have HD := Go.Lib.hid (H2.out.below bd)
        clear bd
        have AFTER := Go.Lib.hid (fun (w4 w5 : World) (h' : Hr) (b4 : Below w2.drew.heap.size w2.drew w4) (wo : WOut w4 w5 F G (hd none) (lstD D none) p h') => show Hid (Grew w2 (w5.setCell ⟨g, 0, none⟩ (valL h')) F G g mb hd ⟨withF D.all p, D.t⟩ M (setK hd none (some h'))) ∧ w5.cell? ⟨g, 0, none⟩ = some (.slice A n c) ∧ w5.frozen? ⟨g, 0, none⟩ = false by
          have h4 := HD.out.below b4
          have bx5 := (h4.with_box wo).1.trans h4.box
          refine ⟨Go.Lib.hid (Grew.from (BD.out.trans b4) H2.out (h4.put_all wo)), ?_, by simp [World.frozen?, bx5]⟩
          rw [cell_of_row w5 g 0 _ _ _ bx5, eA]
          rfl)
        go_region_with (first | (go_at_call 36; refine (CW.out _ BD.out).mono ?_; rintro e w5 ⟨h', rfl, w4, b4, wo⟩; obtain ⟨gr, y5, z5⟩ := AFTER.out w4 w5 h' b4 wo; clear wo b4))
        all_goals
          go_wp2_with fail
          go_meet
          exact ⟨rfl, _, gr⟩
      case rest =>
        obtain ⟨rfl, hd1, g1⟩ := hcut
        have HB := Go.Lib.hid (fun (wx : World) (c : Ch F w2 wx) => (⟨(c.block _ (by omega) (fun hf => by have := H.out.lt _ (H.out.fG _ hf); omega)).trans X1.out, (c.block _ (by omega) (fun hf => by have := H.out.lt _ (H.out.fG _ hf); omega)).trans X2.out⟩ : wx.heap[w.heap.size]? = some (.cells #[.string es, .string et, .slice T nT cT, .slice Y nY cY] 42 (0, 0)) ∧ wx.heap[w.heap.size + 1]? = some (.cells #[.int .i64 p] 3 (0, 0))))
        have e2 : wc.cell? ⟨w.heap.size, 2, none⟩ = some (.slice T nT cT) := by rw [cell_of_row wc _ 2 _ _ _ (HB.out _ g1.out.ch).1]; rfl
        have htn : ts.length = nT := (HEV.out _ g1.out.ch).len
        have HTN := Go.Lib.hid htn
        have hn100 : nT ≤ 100 := by omega
        have eg : Runs 35 := enters_of Try.func35 (by kernel_rfl) rfl
        unfold Runs at eg
        have G1 := Go.Lib.hid (show ∃ D1 M1 hd1, Grew w2 wc F G g mb hd D1 M1 hd1 ∧ D1.all = withF D.all p ∧ D1.t false = addKs (D.t false) (ts.take 0) p ∧ D1.t true = D.t true from ⟨_, _, _, g1.out, rfl, rfl, rfl⟩)
        clear g1 k0 k1 y0 htn qm CW eA
        go_wp2_with fail
        go_loopw [57] (fun i wr => ∃ j : Nat, i = .int .i64 j ∧ j ≤ nT ∧ Hid (∃ D1 M1 hd1, Grew w2 wr F G g mb hd D1 M1 hd1 ∧ D1.all = withF D.all p ∧ D1.t false = addKs (D.t false) (ts.take j) p ∧ D1.t true = D.t true)) (fun i _ => nT - (intOf i).toNat)
        case atStart => exact ⟨0, rfl, Nat.zero_le _, G1⟩
        case round =>
          obtain ⟨j, rfl, hj, HG⟩ := hrel
          clear G1 e2
          obtain ⟨D1, M1, hd2, gr, q1, q2, q3⟩ := HG.out
          have GR := Go.Lib.hid gr
          have Q1 := Go.Lib.hid q1
          have Q2 := Go.Lib.hid q2
          have Q3 := Go.Lib.hid q3
          clear HG
          by_cases hlt : j < nT
          · have rT := HEV.out _ gr.ch
            obtain ⟨bt, ot, rfl, _, kt⟩ := RdS.at_ rT (by omega)
            have yt := kt j hlt
            have yg := gr.ln.c1
            have yp : wr.cell? ⟨w.heap.size + 1, 0, none⟩ = some (.int .i64 p) := by rw [cell_of_row wr _ 0 _ _ _ (HB.out _ gr.ch).2]; rfl
            have hsz : (ts.getD j ByteArray.empty).size ≤ maxLen := HOK.out.tags _ (mem_getD ts j (by rw [HTN.out]; exact hlt))
            have ca := Go.Lib.hid (addf_any gr.ln false (by
              rw [q2]
              have := addKs_len (D.t false) (ts.take j) p
              have := DD.out.tl
              rw [List.length_take] at *
              omega) hsz yp)
            have hst : addK (D1.t false) (ts.getD j ByteArray.empty) p = addKs (D.t false) (ts.take (j + 1)) p := by
              rw [q2, ← addKs_snoc, List.take_add_one]
              simp [List.getD, List.getElem?_eq_getElem (show j < ts.length by rw [HTN.out]; exact hlt)]
            have HST := Go.Lib.hid hst
            have i1 : (j : Int) < nT := by omega
            clear rT kt hst gr q1 q2 q3 yp hsz
            generalize ts.getD j ByteArray.empty = t at *
            go_wp2_with (refine (ca.out).mono ?_; rintro e w5 ⟨rfl, M5, hd5, g5⟩)
            go_roundw
            case rel => exact ⟨j + 1, by go_num, by omega, Go.Lib.hid ⟨_, _, _, GR.out.trans g5, Q1.out, by rw [← HST.out]; show setB D1.t false _ false = _; exact setB_at _ _ _, by show setB D1.t false (addK (D1.t false) t p) true = _; exact (setB_ne _ _ (by decide)).trans Q3.out⟩⟩
            case measure => simp [intOf]; omega
          · obtain rfl : nT = j := by omega
            have i1 : ¬ (nT : Int) < nT := by omega
            have bd : Below wr.heap.size wr wr.drew := ⟨rfl, rfl, rfl, Nat.le_refl _, fun _ _ => rfl⟩
            have yg := gr.ln.c2
            have ye : wr.cell? ⟨w.heap.size, 1, none⟩ = some (.string et) := by rw [cell_of_row wr _ 1 _ _ _ (HB.out _ gr.ch).1]; rfl
            have yp : wr.drew.cell? ⟨w.heap.size + 1, 0, none⟩ = some (.int .i64 p) := by
              show wr.cell? _ = _
              rw [cell_of_row wr _ 0 _ _ _ (HB.out _ gr.ch).2]
              rfl
            have ca := Go.Lib.hid (addf_any (gr.ln.below bd) true (by
              rw [q3]
              have := DD.out.yl
              omega) HOK.out.t yp)
            have BD := Go.Lib.hid bd
            clear q1 q2 q3 yp bd gr hlt
            go_upto_region 13 with (fail)
            go_region_with (first | (refine (ca.out).mono ?_; rintro e w5 ⟨rfl, M5, hd5, g5⟩))
            all_goals
              go_wp2_with fail
              go_ret
              rw [HY.out]
              refine ⟨rfl, _, _, _, Grew.from B2.out H.out (GR.out.trans (Grew.from BD.out GR.out.ln g5)), DD.out.add OK.out HLP.out ht Q1.out ?_ ?_⟩
              · show setB D1.t true (addK (D1.t true) et p) false = _
                rw [setB_ne _ _ (by decide), Q2.out, List.take_of_length_le (by rw [HTN.out]; exact Nat.le_refl _)]
              · show setB D1.t true _ true = _
                rw [setB_at, Q3.out]
                rfl
end

end Go.Proofs.Ytppdljkfhoekpaa.PnWalk

/-
  Contracts of the landed posting: shared, sharedAll, Clone.
-/
namespace Go.Proofs.Ytppdljkfhoekpaa.PnWalk
open Go.RowKit Go.Maps Go.Proofs.Ytppdljkfhoekpaa.MemRow Go.Proofs.Ytppdljkfhoekpaa.Ev Go.Proofs.Ytppdljkfhoekpaa.NameMath Go.Proofs.Ytppdljkfhoekpaa.NameWalk Go.Proofs.Ytppdljkfhoekpaa.EvWalk Go.Proofs.Ytppdljkfhoekpaa.NumMem Go.Proofs.Ytppdljkfhoekpaa.SmWalk Go.Proofs.Ytppdljkfhoekpaa.NMap Go.Proofs.Ytppdljkfhoekpaa.DkWalk Go.Proofs.Ytppdljkfhoekpaa.PoWalk Go.Proofs.Ytppdljkfhoekpaa.Qu Go.Proofs.Ytppdljkfhoekpaa.QuWalk

/-- A list without room. -/
def fullO : Option Hr → Option Hr
  | some h => some ⟨h.b, h.n, h.n⟩
  | none => none
/-- v[:n:n] -/
theorem slice_fullR (A : Option Addr) (n c : Nat) (hc : n ≤ c) (hA : A = none → n = 0) (h0 : ∀ a, A = some a → a = ⟨a.block, 0, none⟩) (W : World) : (Instr.slice 59 (.slice A n c) none (some (.int .i64 (n : Int))) (some (.int .i64 (n : Int)))).run Try.prog W = .ok (.slice A n n) W := by
  have hu : Try.prog.underlying 59 = some (.slice (Try.prog.elem 59)) := by rw [elem_rising]; exact Try.underlying59
  rw [run_slice_hm (P := Try.prog) W 59 _ n c hu .i64 .i64 (n : Int) (n : Int) (by omega) (by omega) (by omega), elem_rising, run_size (k := 1) (by kernel_rfl)]
  simp only [Result.andThen, sliced, Int.toNat_natCast, Nat.zero_mul, Nat.sub_zero]
  cases A with
  | none => simp
  | some a =>
    have e := h0 a rfl
    rw [e]
    simp only [Option.map_some, Addr.add]
    congr 2
    split <;> rfl
set_option maxRecDepth 100000 in
theorem shared_any {w : World} {F G : Nat → Prop} {old : Option Hr} {l : List Int} (h : OldL w F G old l) (W : World) :
    Calls Try.prog 33 #[mkL old] W fun e w' => e = .returned (mkL (fullO old)) ∧ w' = W := by
  rcases h with ⟨⟨hb, hn, hc⟩, rfl, r⟩ | ⟨rfl, rfl⟩
  · have hs := slice_fullR (some ⟨hb, 0, none⟩) hn hc r.le (fun e => by cases e) (fun a e => by injection e with e; rw [← e])
    clear r
    change Calls Try.prog 33 #[.slice (some ⟨hb, 0, none⟩) hn hc] W _
    go_enter Try.func33, Try.ntmps33
    go_wp2_with fail
    go_ret
    exact ⟨rfl, rfl⟩
  · have hs := slice_fullR none 0 0 (Nat.le_refl _) (fun _ => rfl) (fun a e => by cases e)
    change Calls Try.prog 33 #[.slice none 0 0] W _
    have hs : ∀ W, (Instr.slice 59 (.slice none 0 0) none (some (.int .i64 0)) (some (.int .i64 0))).run Try.prog W = .ok (.slice none 0 0) W := hs
    go_enter Try.func33, Try.ntmps33
    go_wp2_with fail
    go_ret
    exact ⟨rfl, rfl⟩

/-- A map that is being made. -/
structure CmR (w : World) (m2 : Nat) (ns : List ByteArray) (M : DataW Hr) (f : ByteArray → Hr) : Prop where
  own : w.ownsMap Try.prog 9 slR m2 (Maps.size M) M
  nm : NOf M ns f
theorem CmR.grown {w w' : World} {m2 : Nat} {ns : List ByteArray} {M : DataW Hr} {f : ByteArray → Hr} {row : Option Nat} (h : CmR w m2 ns M f) (hg : w.grownBy w' row) (h2 : some m2 ≠ row) : CmR w' m2 ns M f := ⟨h.own.kept hg h2, h.nm⟩
theorem CmR.lt {w : World} {m2 : Nat} {ns : List ByteArray} {M : DataW Hr} {f : ByteArray → Hr} (h : CmR w m2 ns M f) : m2 < w.heap.size := by
  obtain ⟨es, clock, hb, _⟩ := h.own
  exact (Array.getElem?_eq_some_iff.1 hb).1
section
variable {w : World} {F G : Nat → Prop} {g : Nat} {D : Dt} {mb : Bool → Nat} {M : Bool → DataW Hr} {hd : HdT} {L : Ls}
set_option maxHeartbeats 8000000 in
set_option maxRecDepth 100000 in
theorem sharedAll_any (h : LnR w F G g D mb M hd) (b : Bool) (hl : (D.t b).length ≤ 1000000) :
    Calls Try.prog 34 #[.map (some (mb b))] w fun e w' => ∃ m2 M2, e = .returned (.map (some m2)) ∧ w.heap.size ≤ m2 ∧ CmR w' m2 (namesT (D.t b)) M2 (fun s => hv (fullO (hd (some (b, s))))) ∧ Below w.heap.size w w' := by
  have hsz := h.size b
  have hns := namesT_len (D.t b)
  have ql : ∀ ty, (Builtin.len_ #[62] ty #[.map (some (mb b))]).run Try.prog w = .ok (.int .i64 (Maps.size (M b) : Nat)) w := fun ty => (h.own b).len Try.underlying62 ty
  have hmm := run_makeHintN (P := Try.prog) (t := 62) Try.underlying62
  have b1 := (Below.refl w.heap.size w).alloc (Nat.le_refl _) (.map #[] 0)
  have H := Go.Lib.hid h
  have HSZ := Go.Lib.hid hsz
  have h1 := h.below b1
  have C1 := Go.Lib.hid (show CmR (w.alloc (.map #[] 0)) w.heap.size [] (.map []) (fun s => hv (fullO (hd (some (b, s))))) from ⟨World.ownsMap_made w Try.prog 9 slR, NOf.empty _⟩)
  have s1 : (w.alloc (.map #[] 0)).heap.size = w.heap.size + 1 := by simp
  clear h hsz
  go_enter Try.func34, Try.ntmps34
  go_upto_region 2 with (fail)
  generalize w.alloc (.map #[] 0) = w3 at *
  have hown := h1.own b
  have NM := h1.nm b
  have BB := Go.Lib.hid b1
  have SS := Go.Lib.hid s1
  have H1 := Go.Lib.hid h1
  clear h1 b1 s1 ql hmm
  go_wp2_with (at_range; refine wpList_range_own _ rfl _ 62 rfl 9 59 keyedN Try.underlying62 slR (mb b) (Maps.size (M b)) (M b) rfl hown ?_; intro w4 hrg4 hg4 hs4)
  go_frame
  go_loopw [4, 5] (fun _ _ wr => ∃ (left : Lit → Bool) (cnt : Nat) (Mc : DataW Hr), wr.ranges Try.prog 9 slR (mb b) w3.heap.size (Maps.size (M b)) (M b) left cnt ∧ Hid (CmR wr w.heap.size (cameN left (namesT (D.t b))) Mc (fun s => hv (fullO (hd (some (b, s)))))) ∧ Below w.heap.size w wr) (fun _ _ wr => wr.rangeLeft (mb b) w3.heap.size)
  case atStart =>
    have hb4 := grown_below hg4
    have hl : ∀ s ∈ namesT (D.t b), has (M b) (keyN s) = true := fun s hs => NM.yes hs
    refine ⟨_, _, .map [], hrg4, Go.Lib.hid ?_, below_chain BB.out hb4⟩
    rw [cameN_start hl]
    exact C1.out.grown hg4 (by simp)
  case round =>
    obtain ⟨left, cnt, Mc, hrg, HA, hb⟩ := hrel
    clear hrg4 hg4 hs4
    go_wp2_with (at_next; refine wpList_next_ns _ slR mkL mkL_inv valL slR_held rfl _ rfl NM (mb b) w3.heap.size (Maps.size (M b)) _ _ rfl hrg ?_ ?_)
    · intro hc0 hl0
      have ha := HA.out
      rw [cameN_end _ hl0] at ha
      have HR := Go.Lib.hid ha
      clear ha HA hrg
      go_wp2_with fail
      go_ret
      exact ⟨_, _, rfl, Nat.le_refl _, HR.out, hb⟩
    · intro s hs w5 cnt5 hlk hss hrg5 hlt5 hg5 hs5 hen
      have s3 := SS.out
      have h5 := HA.out.grown hg5 (by rw [s3]; simp)
      have b5 : Below w.heap.size w w5 := hb.grown hg5 hb.size (fun r e => by injection e with e; omega)
      have hcn : (cameN left (namesT (D.t b))).length ≤ (namesT (D.t b)).length := List.length_filter_le _ _
      have hmx : Maps.size Mc < maxLen := by
        rw [h5.nm.size (h5.own.canon keyedN) ((up_nodupN (namesT_up (D.t b))).sublist (List.filter_sublist (p := fun s => !left (keyN s))))]
        unfold maxLen
        omega
      have hkey := keyN_of hss
      obtain ⟨x, ex⟩ := H.out.co.has hs
      have cs := shared_any (H.out.co.li (some (b, s))) w5
      rw [ex] at cs
      have ev : valL (hv (hd (some (b, s)))) = .slice (some ⟨x.b, 0, none⟩) x.n x.c := by rw [ex]; rfl
      have fx : hv (fullO (hd (some (b, s)))) = ⟨x.b, x.n, x.n⟩ := by rw [ex]; rfl
      rw [ev] at hen ⊢
      have CS := Go.Lib.hid (show Calls Try.prog 33 #[.slice (some ⟨x.b, 0, none⟩) x.n x.c] w5 fun e w' => e = .returned (.slice (some ⟨x.b, 0, none⟩) x.n x.n) ∧ w' = w5 from cs)
      have own5 := h5.own
      have HRG := Go.Lib.hid hrg5
      have HLEFT := hrg.left_eq
      have nm5 := h5.nm.put (isMapN h5.own) (s := s) (ns' := cameN (cutN left s) (namesT (D.t b))) (h' := fun s => hv (fullO (hd (some (b, s))))) (cameN_step hs) (fun _ _ => rfl)
      simp only [fx] at nm5
      have NM5 := Go.Lib.hid nm5
      have HG := Go.Lib.hid (H.out.mlt b)
      have hsr := slR_some (⟨x.b, x.n, x.n⟩ : Hr)
      clear hcn hb HA hg5 hs5 hrg hrg5 ex fx h5 cs ev nm5 NM s3
      go_wp2_with (first
        | (go_at_call 33; refine (CS.out).mono ?_; rintro e w6 ⟨rfl, rfl⟩)
        | (at_mapUpdate; refine wpList_mapUpdate_own _ rfl _ _ _ 62 rfl 9 59 keyedN Try.underlying62 slR w.heap.size (Maps.size Mc) Mc rfl own5 hmx _ _ _ rfl rfl hkey _ [] hsr ?_; intro w8 ho8 hg8))
      have z5 := b5.size
      have hmb := HG.out
      have s3 := SS.out
      have b8 : Below w.heap.size w w8 := b5.grown hg8 b5.size (fun j e => by injection e with e; omega)
      have hrg8 := HRG.out.kept hg8 (fun e => by injection e with e; omega) (fun e => by injection e with e; omega)
      go_roundw
      case rel => exact ⟨_, _, _, _, _, _, _, _, _, _, _, ⟨_, cnt5, _, hrg8, Go.Lib.hid ⟨tightN ho8, NM5.out⟩, b8⟩, rfl⟩
      case measure => rw [hrg8.left_eq, HLEFT]; exact hlt5
theorem LiR.full {w' : World} {F' G' : Nat → Prop} {h : Hr} {l : List Int} (r : LiR w F G h l) (hk : w'.heap[h.b]? = w.heap[h.b]?) (hG : G' h.b) : LiR w' F' G' ⟨h.b, h.n, h.n⟩ l := by
  obtain ⟨cur, e1, e2, e3⟩ := r.ex
  have := r.le
  have := r.cap
  exact ⟨⟨cur, hk.trans e1, by simp only; omega, e3⟩, r.len, r.pos, Nat.le_refl _, by simp only; omega, fun hx => absurd hx (Nat.lt_irrefl _), hG⟩
theorem OldL.full {old : Option Hr} {l : List Int} (h : OldL w F G old l) : ∃ A n c, mkL old = .slice A n c ∧ mkL (fullO old) = .slice A n n := by
  rcases h with ⟨y, rfl, r⟩ | ⟨rfl, rfl⟩
  · exact ⟨_, _, _, rfl, rfl⟩
  · exact ⟨none, 0, 0, rfl, rfl⟩
theorem full_room {old : Option Hr} {h : Hr} (e : fullO old = some h) : ¬ h.n < h.c := by
  cases old with
  | none => cases e
  | some x =>
    injection e with e
    subst e
    exact Nat.lt_irrefl _
set_option maxHeartbeats 8000000 in
set_option maxRecDepth 100000 in
theorem clone13_any (h : LnR w F G g D mb M hd) (hl : ∀ b, (D.t b).length ≤ 1000000) :
    Calls Try.prog 17 #[.pointer (some ⟨g, 0, none⟩)] w fun e w' => ∃ g', e = .returned (.pointer (some ⟨g', 0, none⟩)) ∧ Below w.heap.size w w' ∧
      ∃ mb2 M2, LnR w' (fun k => w.heap.size ≤ k ∧ k < w'.heap.size) (up G w w') g' D mb2 M2 (fun k => fullO (hd k)) := by
  have bd : Below w.heap.size w w.drew := ⟨rfl, rfl, rfl, Nat.le_refl _, fun _ _ => rfl⟩
  have k0 : w.drew.cell? ⟨g, 0, none⟩ = some (mkL (hd none)) := h.c0
  have k1 : w.drew.cell? ⟨g, 1, none⟩ = some (.map (some (mb false))) := h.c1
  have k2 : w.drew.cell? ⟨g, 2, none⟩ = some (.map (some (mb true))) := h.c2
  obtain ⟨A, n, c, eA, eF⟩ := (h.co.li none).full
  have cs := shared_any (h.co.li none)
  rw [eA, eF] at cs
  rw [eA] at k0
  have CS := Go.Lib.hid cs
  have CM1 := Go.Lib.hid (fun W (b : Below w.heap.size w W) => sharedAll_any (h.below b) false (hl false))
  have CM2 := Go.Lib.hid (fun W (b : Below w.heap.size w W) => sharedAll_any (h.below b) true (hl true))
  have H := Go.Lib.hid h
  have HL := Go.Lib.hid hl
  have BD := Go.Lib.hid bd
  have EF := Go.Lib.hid eF
  clear h hl bd cs eA eF
  generalize mb false = m1 at k1 CM1
  generalize mb true = m2 at k2 CM2
  go_enter Try.func17, Try.ntmps17
  go_upto_region 1 with (fail)
  go_region_held (fun w' => w'.cell? ⟨g, 0, none⟩ = some (.slice A n c) ∧ w'.cell? ⟨g, 1, none⟩ = some (.map (some m1)) ∧ w'.cell? ⟨g, 2, none⟩ = some (.map (some m2)))
    (first | exact ⟨k0, k1, k2⟩ | exact ⟨y0, y1, y2⟩ | exact ⟨q0, q1, q2⟩ | exact ⟨z0, z1, z2⟩)
    (first
      | (go_at_call 33; refine (CS.out _).mono ?_; rintro e w3 ⟨rfl, rfl⟩)
      | (go_at_call 34; refine (CM2.out _ (below_chain BD.out b4)).mono ?_; rintro e w5 ⟨m5, M5, rfl, l5, c5, b5⟩; have z0 := bcell b5 y0; have z1 := bcell b5 y1; have z2 := bcell b5 y2; have al := (Below.refl w5.heap.size w5).alloc (Nat.le_refl _) (.cells #[.slice A n n, .map (some m4), .map (some m5)] 64); have q0 := bcell al z0; have q1 := bcell al z1; have q2 := bcell al z2; have AL := Go.Lib.hid al; clear al; have HM5 := Go.Lib.hid (And.intro l5 c5); clear l5 c5)
      | (go_at_call 34; refine (CM1.out _ BD.out).mono ?_; rintro e w4 ⟨m4, M4, rfl, l4, c4, b4⟩; have y0 := bcell b4 k0; have y1 := bcell b4 k1; have y2 := bcell b4 k2; have HM4 := Go.Lib.hid (And.intro l4 c4); clear l4 c4))
  go_wp2_with fail
  go_ret
  obtain ⟨l4, c4⟩ := HM4.out
  obtain ⟨l5, c5⟩ := HM5.out
  have l4 : w.heap.size ≤ m4 := l4
  have bx := heap_alloc_new w5 (.cells #[.slice A n n, .map (some m4), .map (some m5)] 64)
  have s6 : (w5.alloc (.cells #[.slice A n n, .map (some m4), .map (some m5)] 64)).heap.size = w5.heap.size + 1 := by simp
  have B6 := below_chain (below_chain (below_chain BD.out b4) b5) AL.out
  have z4 : w.heap.size ≤ w4.heap.size := b4.size
  have z5 := b5.size
  have t4 := c4.lt
  have t5 := c5.lt
  have gr : ∀ {u v : World}, Below u.heap.size u v → u.grownBy v none := fun b => ⟨b.os, b.tape, b.output, b.size, fun j hj _ => b.block j hj⟩
  have d4 := (c4.grown (gr b5) (by simp)).grown (gr AL.out) (by simp)
  have d5 := c5.grown (gr AL.out) (by simp)
  have h6 := H.out.below B6
  generalize w5.alloc (.cells #[.slice A n n, .map (some m4), .map (some m5)] 64) = w6 at *
  refine ⟨w5.heap.size, rfl, B6, fun b => if b then m5 else m4, fun b => if b then M5 else M4, ⟨?_, fun b => ?_, fun b => ?_, ⟨fun k => ?_, fun k k' h h' _ e _ hsp => absurd hsp (full_room e)⟩, fun b c e => ?_, ⟨by omega, by omega⟩, fun b => ?_, fun k hk => .inr hk, fun k hk => up_lt H.out.lt B6.size hk⟩⟩
  · rw [EF.out]
    exact bx
  · cases b
    · exact d4.own
    · exact d5.own
  · cases b
    · exact d4.nm
    · exact d5.nm
  · rcases h6.co.li k with ⟨y, e, r⟩ | ⟨e, hn⟩
    · exact .inl ⟨⟨y.b, y.n, y.n⟩, by rw [e]; rfl, r.full rfl (.inl r.gb)⟩
    · exact .inr ⟨by rw [e]; rfl, hn⟩
  · cases b <;> cases c <;> simp at e ⊢ <;> omega
  · cases b <;> simp <;> omega
end

end Go.Proofs.Ytppdljkfhoekpaa.PnWalk

/-
  Contracts of the landed posting: upTo, Tag, Type, ofTypes.
-/
namespace Go.Proofs.Ytppdljkfhoekpaa.PnWalk
open Go.RowKit Go.Maps Go.Proofs.Ytppdljkfhoekpaa.MemRow Go.Proofs.Ytppdljkfhoekpaa.Ev Go.Proofs.Ytppdljkfhoekpaa.NameMath Go.Proofs.Ytppdljkfhoekpaa.NameWalk Go.Proofs.Ytppdljkfhoekpaa.EvWalk Go.Proofs.Ytppdljkfhoekpaa.NumMem Go.Proofs.Ytppdljkfhoekpaa.SmWalk Go.Proofs.Ytppdljkfhoekpaa.NMap Go.Proofs.Ytppdljkfhoekpaa.DkWalk Go.Proofs.Ytppdljkfhoekpaa.PoWalk Go.Proofs.Ytppdljkfhoekpaa.Qu Go.Proofs.Ytppdljkfhoekpaa.QuWalk

set_option maxHeartbeats 4000000 in
set_option maxRecDepth 100000 in
theorem upTo_any {A : Option Addr} {n c : Nat} {l : List Int} {w : World} (rd : RdI w A n c l) (hi : Inc l) (hn : n ≤ 1000000) (u : Int) :
    Calls Try.prog 48 #[.slice A n c, .int .i64 u] w fun e w' => ∃ m, e = .returned (.slice A m c) ∧ (∀ W, RdI W A n c l → RdI W A m c (upF u l)) ∧ m ≤ n ∧ ∃ q, w' = w.drewN q := by
  have hp : l.Pairwise (· ≤ ·) := hi.imp fun h => by omega
  have hln := rd.len
  have hv := verN_le hi u
  obtain ⟨qs, rs⟩ := slice_hi (k := 1) 59 3 Try.underlying59 elem_rising (by kernel_rfl) rd (m := verN l u) (by omega)
  have rs' : ∀ W, RdI W A n c l → RdI W A (verN l u) c (upF u l) := fun W r => by
    rw [upF_take hi]
    unfold RdI
    have e2 : nums (l.take (verN l u)) = (nums l).take (verN l u * 1) := by simp [nums, List.map_take]
    rw [e2]
    exact RdC.first r (by omega)
  have RS := Go.Lib.hid rs'
  have hcp := List.countP_le_length (p := fun x : Int => decide (x < u)) (l := l)
  have HV : Hid (verN l u = l.countP (· < u) + if u ∈ l then 1 else 0) := Go.Lib.hid rfl
  have hm : verN l u ≤ n := by omega
  clear rs' hi hv rs
  generalize verN l u = V at *
  generalize upF u l = ul at *
  go_enter Try.func48, Try.ntmps48
  go_wp2_with fail
  refine (search_any A n c l u w rd hn hp).mono ?_
  rintro e w1 ⟨rfl, q, rfl⟩
  clear rd hp
  by_cases hu : u ∈ l
  · have hv := HV.out
    rw [if_pos hu] at hv
    rw [decide_eq_true hu]
    generalize l.countP (· < u) = cn at *
    subst hv
    clear HV hu
    have i1 : IntKind.i64.wrap ((cn : Int) + 1) = (cn : Int) + 1 := IntWalk.i64_in _ (by omega)
    have qs2 : ∀ W, (Instr.slice 59 (.slice A n c) none (some (.int .i64 ((cn : Int) + 1))) none).run Try.prog W = .ok (.slice A (cn + 1) c) W := qs
    clear qs
    go_wp2_with fail
    go_ret
    exact ⟨_, rfl, RS.out, hm, _, rfl⟩
  · have hv := HV.out
    rw [if_neg hu, Nat.add_zero] at hv
    rw [decide_eq_false hu]
    generalize l.countP (· < u) = cn at *
    subst hv
    clear HV hu
    go_wp2_with fail
    go_ret
    exact ⟨_, rfl, RS.out, hm, _, rfl⟩
section
variable {w : World} {F G : Nat → Prop} {g : Nat} {D : Dt} {mb : Bool → Nat} {M : Bool → DataW Hr} {hd : HdT} {L : Ls}
theorem DOf.inc (d : DOf D L) (ok : LOk L) (k : Ky) : Inc (lstD D k) := by
  match k with
  | none => show Inc D.all; rw [d.all]; exact posP_inc ok _
  | some (false, s) => show Inc (allP (D.t false) s); rw [d.tg]; exact posP_inc ok _
  | some (true, s) => show Inc (allP (D.t true) s); rw [d.ty]; exact posP_inc ok _
theorem DOf.le (d : DOf D L) (ok : LOk L) (k : Ky) : (lstD D k).length ≤ 200 := by
  have := ok.len
  match k with
  | none => show D.all.length ≤ _; rw [d.len]; exact this
  | some (false, s) => show (allP (D.t false) s).length ≤ _; rw [d.tg]; exact Nat.le_trans (posP_len _ _) this
  | some (true, s) => show (allP (D.t true) s).length ≤ _; rw [d.ty]; exact Nat.le_trans (posP_len _ _) this
set_option maxHeartbeats 4000000 in
set_option maxRecDepth 100000 in
theorem tag13_any (h : LnR w F G g D mb M hd) (d : DOf D L) (ok : LOk L) {t : ByteArray} (ht : t.size ≤ maxLen) :
    Calls Try.prog 21 #[.pointer (some ⟨g, 0, none⟩), .string t] w fun e w' => ∃ B m c, e = .returned (.slice B m c) ∧ OwnC 1 w' w.heap.size 3 B m c (nums (tagP L t)) ∧ Below w.heap.size w w' := by
  have k1 := h.c1
  have ql := h.look false ht
  obtain ⟨A, n, c, e, rd, hA⟩ := (h.co.li (some (false, t))).rd
  rw [e] at ql
  have hl := d.le ok (some (false, t))
  have e2 : lstD D (some (false, t)) = tagP L t := d.tg t
  rw [e2] at rd hl
  have CC := Go.Lib.hid (cloneI_any A n c (tagP L t) w rd hA (by rw [← rd.len]; omega))
  clear h d ok rd hA hl e
  go_enter Try.func21, Try.ntmps21
  go_wp2_with (refine (CC.out).mono ?_; rintro e w6 ⟨B, m2, c2, rfl, r6, o6, b6⟩)
  go_ret
  exact ⟨_, _, _, rfl, o6, b6⟩
set_option maxHeartbeats 4000000 in
set_option maxRecDepth 100000 in
theorem typ13_any (h : LnR w F G g D mb M hd) (d : DOf D L) (ok : LOk L) {t : ByteArray} (ht : t.size ≤ maxLen) :
    Calls Try.prog 23 #[.pointer (some ⟨g, 0, none⟩), .string t] w fun e w' => ∃ B m c, e = .returned (.slice B m c) ∧ OwnC 1 w' w.heap.size 3 B m c (nums (typP L t)) ∧ Below w.heap.size w w' := by
  have k1 := h.c2
  have ql := h.look true ht
  obtain ⟨A, n, c, e, rd, hA⟩ := (h.co.li (some (true, t))).rd
  rw [e] at ql
  have hl := d.le ok (some (true, t))
  have e2 : lstD D (some (true, t)) = typP L t := d.ty t
  rw [e2] at rd hl
  have CC := Go.Lib.hid (cloneI_any A n c (typP L t) w rd hA (by rw [← rd.len]; omega))
  clear h d ok rd hA hl e
  go_enter Try.func23, Try.ntmps23
  go_wp2_with (refine (CC.out).mono ?_; rintro e w6 ⟨B, m2, c2, rfl, r6, o6, b6⟩)
  go_ret
  exact ⟨_, _, _, rfl, o6, b6⟩
set_option maxHeartbeats 4000000 in
set_option maxRecDepth 100000 in
theorem ofTypes_any (h : LnR w F G g D mb M hd) (d : DOf D L) (ok : LOk L) {T : Option Addr} {nT cT : Nat} {ts : List ByteArray} (rT : RdS w T nT cT ts) (hs : ∀ x ∈ ts, x.size ≤ maxLen) (u : Int) :
    Calls Try.prog 49 #[.pointer (some ⟨g, 0, none⟩), .slice T nT cT, .int .i64 u] w fun e w' => ∃ B m c, e = .returned (.slice B m c) ∧ OwnC 1 w' w.heap.size 3 B m c (nums (seP L u fun e => hasB ts e.t)) ∧ Below w.heap.size w w' := by
  have hnm := rT.le
  unfold maxLen at hnm
  have HTN := Go.Lib.hid rT.len
  have H := Go.Lib.hid h
  have DD := Go.Lib.hid d
  have OK := Go.Lib.hid ok
  have RT := Go.Lib.hid rT
  have HS := Go.Lib.hid hs
  have e0 : seP L u (fun e => hasB (ts.take 0) e.t) = [] := se_none L u fun _ => by simp [hasB]
  have O0 := Go.Lib.hid (show OwnC 1 w w.heap.size 3 none 0 0 (nums (seP L u fun e => hasB (ts.take 0) e.t)) by rw [e0]; exact OwnC.nil _ _)
  clear h d ok rT hs e0
  go_enter Try.func49, Try.ntmps49
  go_wp2_with fail
  go_loopw [7, 12] (fun ov i wr => ∃ (C : Option Addr) (m c j : Nat), ov = .slice C m c ∧ i = .int .i64 (j : Int) ∧ j ≤ nT ∧ Hid (OwnC 1 wr w.heap.size 3 C m c (nums (seP L u fun e => hasB (ts.take j) e.t))) ∧ Below w.heap.size w wr) (fun _ i _ => nT - (intOf i).toNat)
  case atStart => exact ⟨_, _, _, 0, rfl, rfl, Nat.zero_le _, O0, Below.refl _ _⟩
  case round =>
    obtain ⟨C, m, c, j, rfl, rfl, hj, HO, hB⟩ := hrel
    clear O0
    by_cases hlt : j < nT
    · have hr := H.out.below hB
      obtain ⟨bt, ot, rfl, _, kt⟩ := RdS.at_ (RdC.below RT.out hB) (by omega)
      have yt := kt j hlt
      have hsz : (ts.getD j ByteArray.empty).size ≤ maxLen := HS.out _ (mem_getD ts j (by rw [HTN.out]; exact hlt))
      have k2 := hr.c2
      have ql := hr.look true hsz
      obtain ⟨A, n, ca, e, rd, _⟩ := (hr.co.li (some (true, ts.getD j ByteArray.empty))).rd
      rw [e] at ql
      have hl2 := DD.out.le OK.out (some (true, ts.getD j ByteArray.empty))
      have hin := DD.out.inc OK.out (some (true, ts.getD j ByteArray.empty))
      have hnl := rd.len
      have RD := Go.Lib.hid rd
      have CU := Go.Lib.hid (upTo_any rd hin (by omega) u)
      have e2 : upF u (lstD D (some (true, ts.getD j ByteArray.empty))) = upF u (typP L (ts.getD j ByteArray.empty)) := congrArg _ (DD.out.ty _)
      rw [e2] at CU
      have hst := se_types OK.out u ts (k := j) (by rw [HTN.out]; exact hlt)
      have HST := Go.Lib.hid hst
      have hin2 : Inc (upF u (typP L (ts.getD j ByteArray.empty))) := up_inc (posP_inc OK.out _) u
      have HI2 := Go.Lib.hid hin2
      have HI1 := Go.Lib.hid (se_inc OK.out u fun e => hasB (ts.take j) e.t)
      have rO := OwnC.rd HO.out
      have hm : m ≤ 1000 := by
        have := RdI.len rO
        have := se_len L u fun e => hasB (ts.take j) e.t
        have := OK.out.len
        omega
      have hn1 : n ≤ 1000 := by omega
      have RO := Go.Lib.hid rO
      have i1 : (j : Int) < nT := by omega
      clear kt hr hsz e rd hl2 hin e2 hst hin2 rO HO hnl
      generalize ts.getD j ByteArray.empty = t at *
      generalize upF u (typP L t) = lt at *
      go_wp2_with (first
        | (go_at_call 48; refine (CU.out).mono ?_; rintro e w4 ⟨m4, rfl, r4, h4, q, rfl⟩; have bq := bel_dn (Below.refl wr.heap.size wr) q)
        | (go_at_call 32; refine (either_any (RdC.below RO.out bq) (RdC.below (r4 _ RD.out) bq) HI1.out HI2.out hm (by omega)).mono ?_; rintro e w5 ⟨C5, m5, c5, rfl, o5, b5⟩))
      rw [HST.out] at o5
      have B5 := below_chain hB (bq.trans b5)
      go_roundw
      case rel => exact ⟨C5, m5, c5, j + 1, rfl, by go_num, by omega, Go.Lib.hid (own_low hB.size o5), B5⟩
      case measure => simp [intOf]; omega
    · obtain rfl : nT = j := by omega
      have i1 : ¬ (nT : Int) < nT := by omega
      have he : ts.take nT = ts := List.take_of_length_le (by rw [HTN.out]; exact Nat.le_refl _)
      rw [he] at HO
      clear he hlt
      go_wp2_with fail
      go_ret
      exact ⟨_, _, _, rfl, HO.out, hB⟩
end

end Go.Proofs.Ytppdljkfhoekpaa.PnWalk

/-
  Contracts of the landed posting: clause.
-/
namespace Go.Proofs.Ytppdljkfhoekpaa.PnWalk
open Go.RowKit Go.Maps Go.Proofs.Ytppdljkfhoekpaa.MemRow Go.Proofs.Ytppdljkfhoekpaa.Ev Go.Proofs.Ytppdljkfhoekpaa.NameMath Go.Proofs.Ytppdljkfhoekpaa.NameWalk Go.Proofs.Ytppdljkfhoekpaa.EvWalk Go.Proofs.Ytppdljkfhoekpaa.NumMem Go.Proofs.Ytppdljkfhoekpaa.SmWalk Go.Proofs.Ytppdljkfhoekpaa.NMap Go.Proofs.Ytppdljkfhoekpaa.DkWalk Go.Proofs.Ytppdljkfhoekpaa.PoWalk Go.Proofs.Ytppdljkfhoekpaa.Qu Go.Proofs.Ytppdljkfhoekpaa.QuWalk

theorem rising_info : (Try.prog.info? 59).map (fun i => (i.zero, i.size, i.bytes)) = some (some (.slice none 0 0), 1, 24) := by kernel_rfl
theorem elem_asked : Try.prog.elem 76 = 59 := by kernel_rfl
/-- The cells cs are rows that read as xs. -/
def RsC (w : World) : List (List Int) → List Value → Prop
  | [], cs => cs = []
  | x :: xs, cs => ∃ A n c cs', cs = .slice A n c :: cs' ∧ RdI w A n c x ∧ RsC w xs cs'
theorem RsC.below {w w' : World} (hb : Below w.heap.size w w') : ∀ (xs : List (List Int)) (cs : List Value), RsC w xs cs → RsC w' xs cs
  | [], _, k => k
  | _ :: xs, _, ⟨A, n, c, cs', e, r, k⟩ => ⟨A, n, c, cs', e, RdC.below r hb, RsC.below hb xs cs' k⟩
theorem RsC.snoc {w : World} {x : List Int} {A : Option Addr} {n c : Nat} (r : RdI w A n c x) : ∀ (xs : List (List Int)) (cs : List Value), RsC w xs cs → RsC w (xs ++ [x]) (cs ++ [.slice A n c])
  | [], cs, h => by
    obtain rfl : cs = [] := h
    exact ⟨A, n, c, [], rfl, r, rfl⟩
  | y :: xs, cs, ⟨A1, n1, c1, cs', hc, r1, h⟩ => by
    subst hc
    exact ⟨A1, n1, c1, cs' ++ [.slice A n c], rfl, r1, RsC.snoc r xs cs' h⟩
theorem RsC.len {w : World} : ∀ (xs : List (List Int)) (cs : List Value), RsC w xs cs → cs.length = xs.length
  | [], cs, h => by
    obtain rfl : cs = [] := h
    rfl
  | _ :: xs, _, ⟨_, _, _, cs', e, _, k⟩ => by
    subst e
    rw [List.length_cons, List.length_cons, RsC.len xs cs' k]
theorem RsC.at_ {w : World} : ∀ (xs : List (List Int)) (cs : List Value), RsC w xs cs → ∀ i, i < xs.length → ∃ A n c, cs[i]? = some (.slice A n c) ∧ RdI w A n c (xs.getD i [])
  | [], _, _, i, hi => by simp at hi
  | x :: xs, cs, ⟨A, n, c, cs', hc, r, h⟩, i, hi => by
    subst hc
    cases i with
    | zero => exact ⟨A, n, c, rfl, r⟩
    | succ i =>
      obtain ⟨A1, n1, c1, q, r1⟩ := RsC.at_ xs cs' h i (by simpa using hi)
      exact ⟨A1, n1, c1, by simpa using q, by simpa using r1⟩
theorem RsC.one {w : World} : ∀ (xs : List (List Int)) (cs : List Value), RsC w xs cs → ∀ v ∈ cs, v.oneCell' = true
  | [], cs, h => by
    obtain rfl : cs = [] := h
    simp
  | _ :: xs, cs, ⟨A, n, c, cs', hc, _, h⟩ => by
    subst hc
    intro v hv
    rcases List.mem_cons.1 hv with rfl | hv
    · rfl
    · exact RsC.one xs cs' h v hv
/-- The rows that a clause asks for, in a row of the call's own; they read as world w0 has them. -/
def AskR (w0 wr : World) (base : Nat) (A : Option Addr) (n c : Nat) (xs : List (List Int)) : Prop := ∃ cs, OwnC 1 wr base 59 A n c cs ∧ RsC w0 xs cs
theorem AskR.len {w0 wr : World} {base : Nat} {A : Option Addr} {n c : Nat} {xs : List (List Int)} (h : AskR w0 wr base A n c xs) : xs.length = n := by
  obtain ⟨cs, o, r⟩ := h
  have := OwnC.len o
  have := r.len
  omega
theorem own_far8 {k k' : Nat} {w : World} {base base' : Nat} {t t' : TypeId} {A A' : Option Addr} {n n' cap cap' : Nat} {cs cs' : List Value} (h : OwnC k w base t A n cap cs) (h' : OwnC k' w base' t' A' n' cap' cs') (ht : t ≠ t') : ∀ a, A = some a → some a.block ≠ A'.map (·.block) := by
  rintro a rfl e
  cases A' with
  | none => cases e
  | some a' =>
    simp only [Option.map_some, Option.some.injEq] at e
    rcases h.2 with ⟨hv, _⟩ | ⟨g, c, cur, hv, _, hg, _⟩
    · cases hv
    · rcases h'.2 with ⟨hv', _⟩ | ⟨g', c', cur', hv', _, hg', _⟩
      · cases hv'
      · injection hv with e1
        injection e1 with e1
        injection hv' with e2
        injection e2 with e2
        subst e1 e2
        simp only at e
        subst e
        rw [hg] at hg'
        injection hg' with hg'
        injection hg' with _ e3
        exact ht e3
def seL (L : Ls) (u : Int) (ps : List (Ev → Bool)) : List (List Int) := ps.map fun p => seP L u p
theorem seL_len (L : Ls) (u : Int) (ps : List (Ev → Bool)) : (seL L u ps).length = ps.length := by unfold seL; rw [List.length_map]
theorem seL_snoc (L : Ls) (u : Int) (ps : List (Ev → Bool)) (p : Ev → Bool) : seL L u (ps ++ [p]) = seL L u ps ++ [seP L u p] := by unfold seL; rw [List.map_append]; rfl
def tagPs (ts : List ByteArray) : List (Ev → Bool) := ts.map fun t e => hasB e.tags t
theorem tagPs_step (ts : List ByteArray) {j : Nat} (h : j < ts.length) : tagPs (ts.take (j + 1)) = tagPs (ts.take j) ++ [fun e => hasB e.tags (ts.getD j ByteArray.empty)] := by
  have e : ts.take (j + 1) = ts.take j ++ [ts.getD j ByteArray.empty] := by
    rw [List.take_add_one]
    simp [List.getD, List.getElem?_eq_getElem h]
  unfold tagPs
  rw [e, List.map_append]
  rfl
theorem seL_get {L : Ls} {u : Int} {ps : List (Ev → Bool)} {i : Nat} (h : i < ps.length) : ∃ p, (seL L u ps).getD i [] = seP L u p ∧ ps.take (i + 1) = ps.take i ++ [p] := by
  refine ⟨ps[i], ?_, ?_⟩
  · unfold seL
    simp [List.getD, List.getElem?_eq_getElem h]
  · rw [List.take_add_one]
    simp [List.getElem?_eq_getElem h]

section
variable {w : World} {F G : Nat → Prop} {g : Nat} {D : Dt} {mb : Bool → Nat} {M : Bool → DataW Hr} {hd : HdT} {L : Ls}
set_option maxHeartbeats 4000000 in
set_option maxRecDepth 100000 in
theorem clause13_any (h : LnR w F G g D mb M hd) (d : DOf D L) (ok : LOk L) {c : Cl} {T Y : Option Addr} {nT cT nY cY : Nat} (rT : RdS w T nT cT c.tags) (rY : RdS w Y nY cY c.types) (hsT : ∀ x ∈ c.tags, x.size ≤ maxLen) (hsY : ∀ x ∈ c.types, x.size ≤ maxLen) (hnT : nT ≤ 1000) (u : Int) :
    Calls Try.prog 39 #[.pointer (some ⟨g, 0, none⟩), .agg #[.slice T nT cT, .slice Y nY cY], .int .i64 u] w fun e w' => ∃ B m k, e = .returned (.slice B m k) ∧ RdI w' B m k (seP L u (clauseB c)) ∧ Below w.heap.size w w' := by
  obtain ⟨ts, ys⟩ := c
  simp only at rT rY hsT hsY
  have b1 : Below w.heap.size w (w.alloc (.cells #[.slice T nT cT, .slice Y nY cY] 54)) := (Below.refl _ _).alloc (Nat.le_refl _) _
  have x1 := heap_alloc_new w (.cells #[.slice T nT cT, .slice Y nY cY] 54)
  have hnY := rY.le
  unfold maxLen at hnY
  have s1 : (w.alloc (.cells #[.slice T nT cT, .slice Y nY cY] 54)).heap.size = w.heap.size + 1 := by simp
  have HTN := Go.Lib.hid rT.len
  have HYN := Go.Lib.hid rY.len
  have H := Go.Lib.hid (h.below b1)
  have DD := Go.Lib.hid d
  have OK := Go.Lib.hid ok
  have RT := Go.Lib.hid (RdC.below rT b1)
  have RY := Go.Lib.hid (RdC.below rY b1)
  have HST := Go.Lib.hid hsT
  have HSY := Go.Lib.hid hsY
  clear h d ok rT rY hsT hsY
  go_enter Try.func39, Try.ntmps39
  go_upto_region 1 with (fail)
  have HX := Go.Lib.hid (fun (wx : World) (b : Below (w.alloc (.cells #[.slice T nT cT, .slice Y nY cY] 54)).heap.size (w.alloc (.cells #[.slice T nT cT, .slice Y nY cY] 54)) wx) => (b.block w.heap.size (by omega)).trans x1)
  have y0 : (w.alloc (.cells #[.slice T nT cT, .slice Y nY cY] 54)).cell? ⟨w.heap.size, 0, none⟩ = some (.slice T nT cT) := by rw [cell_of_row _ _ 0 _ _ _ x1]; rfl
  have B1 := Go.Lib.hid b1
  have S1 := Go.Lib.hid s1
  clear b1 x1 s1
  generalize w.alloc (.cells #[.slice T nT cT, .slice Y nY cY] 54) = w1 at *
  have A0 := Go.Lib.hid (show AskR w1 w1 w1.heap.size none 0 0 (seL L u (tagPs (ts.take 0))) from ⟨[], OwnC.nil _ _, rfl⟩)
  go_upto_region 2 with (fail)
  go_wp2_with fail
  go_loopw [7, 16] (fun av i wr => ∃ (A : Option Addr) (n c j : Nat), av = .slice A n c ∧ i = .int .i64 (j : Int) ∧ j ≤ nT ∧ Hid (AskR w1 wr w1.heap.size A n c (seL L u (tagPs (ts.take j)))) ∧ Below w1.heap.size w1 wr) (fun _ i _ => nT - (intOf i).toNat)
  case atStart => exact ⟨none, 0, 0, 0, rfl, rfl, Nat.zero_le _, A0, Below.refl _ _⟩
  case round =>
    obtain ⟨A, n, c, j, rfl, rfl, hj, HA, hB⟩ := hrel
    clear A0 y0
    have hn : n = j := by
      rw [← HA.out.len, seL_len]
      unfold tagPs
      rw [List.length_map, List.length_take, HTN.out]
      omega
    by_cases hlt : j < nT
    · have hr := H.out.below hB
      obtain ⟨bt, ot, rfl, _, kt⟩ := RdS.at_ (RdC.below RT.out hB) (by omega)
      have yt := kt j hlt
      have hjl : j < ts.length := by rw [HTN.out]; exact hlt
      have hsz : (ts.getD j ByteArray.empty).size ≤ maxLen := HST.out _ (mem_getD ts j hjl)
      have k2 := hr.c1
      have ql := hr.look false hsz
      obtain ⟨Al, nl, cl, e, rd1, _⟩ := (H.out.co.li (some (false, ts.getD j ByteArray.empty))).rd
      rw [e] at ql
      have rd := RdC.below rd1 hB
      have hl2 := DD.out.le OK.out (some (false, ts.getD j ByteArray.empty))
      have hin := DD.out.inc OK.out (some (false, ts.getD j ByteArray.empty))
      have hnl := rd1.len
      have CU := Go.Lib.hid (upTo_any rd hin (by omega) u)
      have RD1 := Go.Lib.hid rd1
      have e2 : upF u (lstD D (some (false, ts.getD j ByteArray.empty))) = seP L u (fun e => hasB e.tags (ts.getD j ByteArray.empty)) := congrArg _ (DD.out.tg _)
      rw [e2] at CU
      have HSL := Go.Lib.hid (show seL L u (tagPs (ts.take (j + 1))) = seL L u (tagPs (ts.take j)) ++ [seP L u (fun e => hasB e.tags (ts.getD j ByteArray.empty))] by rw [tagPs_step ts hjl, seL_snoc])
      have i1 : (j : Int) < nT := by omega
      obtain ⟨cs, oc, rc⟩ := HA.out
      have RC := Go.Lib.hid rc
      have OC := Go.Lib.hid oc
      have HN := Go.Lib.hid hn
      clear kt hr hsz e rd rd1 hl2 hin e2 hnl HA hjl oc rc hn
      generalize seP L u (fun e => hasB e.tags (ts.getD j ByteArray.empty)) = sj at *
      generalize lstD D (some (false, ts.getD j ByteArray.empty)) = lj at *
      generalize ts.getD j ByteArray.empty = t at *
      generalize seL L u (tagPs (ts.take j)) = xs at *
      go_wp2_with (first
        | (go_at_call 48; refine (CU.out).mono ?_; rintro e w4 ⟨m4, rfl, r4, h4, q, rfl⟩; have B5 := bel_dn hB q; have o5 := OC.out.below (w' := wr.drewN q) (bel_dn (Below.refl _ _) q); have R4 := Go.Lib.hid (r4 _ RD1.out); clear r4 hB k2 ql yt OC CU; generalize wr.drewN q = w5 at *; have al := (Below.refl w5.heap.size w5).alloc (Nat.le_refl _) (.cells #[.slice Al m4 cl] 59); have d1 : RdC 1 (w5.alloc (.cells #[.slice Al m4 cl] 59)) (some ⟨w5.heap.size, 0, none⟩) 1 1 [.slice Al m4 cl] := RdC.new w5 59 [.slice Al m4 cl] rfl (by decide); have o6 := o5.below al)
        | (at_builtin; refine wpList_append_cells rfl (.tmp 20) (.tmp 29) 76 rfl 59 (.slice none 0 0) 24 Try.underlying76 rising_info rfl (by decide) rfl rfl o6 d1 (fun v hv => by rw [List.mem_singleton] at hv; rw [hv]; rfl) (by have := HN.out; unfold maxLen; omega) (by have := HN.out; omega) (Nat.le_trans B5.size al.size) ?_; intro A8 c8 w8 o8 g8 _; have b8 := below_grown_own o6 (B5.trans (al.mono B5.size)) g8 (Nat.le_trans B5.size al.size)))
      go_roundw
      case rel => exact ⟨A8, n + 1, c8, j + 1, rfl, by go_num, by omega, Go.Lib.hid (by rw [HSL.out]; exact ⟨_, o8, RsC.snoc R4.out _ _ RC.out⟩), b8⟩
      case measure => simp [intOf]; omega
    · obtain rfl : nT = j := by omega
      have i1 : ¬ (nT : Int) < nT := by omega
      have he : ts.take nT = ts := List.take_of_length_le (by rw [HTN.out]; exact Nat.le_refl _)
      rw [he] at HA
      have HN := Go.Lib.hid hn
      go_upto_region 7 with (fail)
      clear he hlt hn i1 hj
      have ye : wr.cell? ⟨w.heap.size, 1, none⟩ = some (.slice Y nY cY) := by rw [cell_of_row wr _ 1 _ _ _ (HX.out _ hB)]; rfl
      go_upto_if 35 with (fail)
      go_cut [7] (fun v wx => ∃ (A : Option Addr) (n c : Nat), v = .slice A n c ∧ Hid (AskR wx wx w1.heap.size A n c (seL L u (psF ⟨ts, ys⟩))) ∧ Below w1.heap.size w1 wx)
      case first =>
        obtain ⟨cs, oc, rc⟩ := HA.out
        by_cases h0 : nY = 0
        · have hy : ys = [] := List.eq_nil_of_length_eq_zero (by rw [HYN.out]; exact h0)
          have i0 : ¬ (0 : Int) < nY := by omega
          have j0 : decide (0 < nY) = false := decide_eq_false (by omega)
          have j1 : decide ((nY : Int) > 0) = false := decide_eq_false i0
          have HQ := Go.Lib.hid (show seL L u (psF ⟨ts, ys⟩) = seL L u (tagPs ts) by subst hy; unfold psF tagPs; simp)
          have RC := Go.Lib.hid (RsC.below hB _ _ rc)
          have OC := Go.Lib.hid oc
          clear hy h0 HA oc rc
          go_wp2_with fail
          go_meet
          exact ⟨A, n, c, rfl, Go.Lib.hid (by rw [HQ.out]; exact ⟨cs, OC.out, RC.out⟩), hB⟩
        · have hy : ¬ ys = [] := fun e => h0 (by rw [← HYN.out, e]; rfl)
          have i0 : (0 : Int) < nY := by omega
          have j0 : decide (0 < nY) = true := decide_eq_true (by omega)
          have j1 : decide ((nY : Int) > 0) = true := decide_eq_true i0
          have HQ := Go.Lib.hid (show seL L u (psF ⟨ts, ys⟩) = seL L u (tagPs ts) ++ [seP L u fun e => hasB ys e.t] by unfold psF; rw [if_neg hy, seL_snoc]; rfl)
          have CO := Go.Lib.hid (ofTypes_any (H.out.below hB) DD.out OK.out (RdC.below RY.out hB) HSY.out u)
          have RC := Go.Lib.hid (fun wx (b : Below w1.heap.size w1 wx) => RsC.below b _ _ rc)
          have OC := Go.Lib.hid oc
          clear hy h0 HA oc rc
          generalize seP L u (fun e => hasB ys e.t) = sj at *
          generalize seL L u (tagPs ts) = xs at *
          go_wp2_with (first
            | (go_at_call 49; refine (CO.out).mono ?_; rintro e w5 ⟨C5, m5, c5, rfl, p5, b5⟩; have B5 := below_chain hB b5; have o5 := OC.out.below b5; clear hB b5 ye OC CO; have al := (Below.refl w5.heap.size w5).alloc (Nat.le_refl _) (.cells #[.slice C5 m5 c5] 59); have d1 : RdC 1 (w5.alloc (.cells #[.slice C5 m5 c5] 59)) (some ⟨w5.heap.size, 0, none⟩) 1 1 [.slice C5 m5 c5] := RdC.new w5 59 [.slice C5 m5 c5] rfl (by decide); have o6 := o5.below al; have P6 := Go.Lib.hid (OwnC.below p5 al))
            | (at_builtin; refine wpList_append_cells rfl (.tmp 36) (.tmp 42) 76 rfl 59 (.slice none 0 0) 24 Try.underlying76 rising_info rfl (by decide) rfl rfl o6 d1 (fun v hv => by rw [List.mem_singleton] at hv; rw [hv]; rfl) (by have := HN.out; unfold maxLen; omega) (by have := HN.out; omega) (Nat.le_trans B5.size al.size) ?_; intro A8 c8 w8 o8 g8 _; have b8 := below_grown_own o6 (B5.trans (al.mono B5.size)) g8 (Nat.le_trans B5.size al.size)))
          have p8 := P6.out.grown g8 (own_far8 P6.out o6 (by decide))
          go_meet
          exact ⟨A8, n + 1, c8, rfl, Go.Lib.hid (by rw [HQ.out]; exact ⟨_, o8, RsC.snoc (OwnC.rd p8) _ _ (RC.out _ b8)⟩), b8⟩
      case rest =>
        obtain ⟨A2, n2, c2, rfl, HA2, hB2⟩ := hcut
        have hn2 : n2 = (psF ⟨ts, ys⟩).length := by rw [← HA2.out.len, seL_len]
        have hcl : seP L u (clauseB ⟨ts, ys⟩) = seP L u (conF (psF ⟨ts, ys⟩)) := by rw [con_psF]
        have BW := Go.Lib.hid (B1.out.trans (hB2.mono B1.out.size))
        clear HA ye HN
        by_cases h0 : n2 = 0
        · have hr := H.out.below hB2
          have k0 := hr.c0
          obtain ⟨Al, nl, cl, e, rd, _⟩ := (hr.co.li none).rd
          rw [e] at k0
          have hl2 := DD.out.le OK.out none
          have hin := DD.out.inc OK.out none
          have hnl := rd.len
          have hps : psF ⟨ts, ys⟩ = [] := List.eq_nil_of_length_eq_zero (by omega)
          have e2 : upF u (lstD D none) = seP L u (clauseB ⟨ts, ys⟩) := by
            rw [hcl, hps, con_none]
            exact congrArg _ DD.out.all
          have RD := Go.Lib.hid rd
          have CU := Go.Lib.hid (upTo_any rd hin (by omega) u)
          rw [e2] at CU
          have i0 : ((n2 : Int) == 0) = true := by rw [beq_iff_eq]; omega
          clear hr e rd hl2 hin hnl hps e2 hcl hn2 HA2 hB hB2 h0
          go_wp2_with (refine (CU.out).mono ?_; rintro e w4 ⟨m4, rfl, r4, h4, q, rfl⟩)
          go_ret
          exact ⟨_, _, _, rfl, RdC.drewN (r4 _ RD.out) q, bel_dn BW.out q⟩
        · obtain ⟨cs, oc, rc⟩ := HA2.out
          have oc' := OwnC.rd oc
          obtain ⟨p0, e0, t0⟩ := seL_get (L := L) (u := u) (ps := psF ⟨ts, ys⟩) (i := 0) (by omega)
          obtain ⟨A0, m0, k0, q0, r0⟩ := RsC.at_ _ _ rc 0 (by rw [seL_len]; omega)
          rw [e0] at r0
          obtain ⟨A3, q3, d3⟩ := slice_lo (P := Try.prog) 76 59 Try.underlying76 elem_asked (by kernel_rfl) oc' (m := 1) (by omega)
          obtain ⟨b2, o2, rfl, _, kc⟩ := RdC.at_ oc' (by decide) (by omega)
          have y0 : wc.cell? ⟨b2, o2, none⟩ = some (.slice A0 m0 k0) := kc 0 _ q0
          have q3 : ∀ W, (Instr.slice 76 (.slice (some ⟨b2, o2, none⟩) n2 c2) (some (.int .i64 1)) none none).run Try.prog W = .ok (.slice A3 (n2 - 1) (c2 - 1)) W := q3
          have hst : seP L u p0 = seP L u (conF ((psF ⟨ts, ys⟩).take 1)) := by rw [t0, List.take_zero, List.nil_append]; exact con_one L u p0
          rw [hst] at r0
          have R0 := Go.Lib.hid r0
          have RC := Go.Lib.hid rc
          have D3 := Go.Lib.hid d3
          have HCL := Go.Lib.hid hcl
          have HN2 := Go.Lib.hid hn2
          have i0 : ((n2 : Int) == 0) = false := by rw [beq_eq_false_iff_ne]; omega
          have i1 : (0 : Int) < n2 := by omega
          have i2 : 0 < n2 := by omega
          have hle : n2 ≤ c2 := oc'.le_cap
          have hmx : n2 ≤ 2 ^ 63 - 1 := by have := oc'.le; unfold maxLen at this; exact this
          clear oc oc' rc kc q0 e0 t0 r0 hst d3 hcl hn2 HA2 hB hB2 h0
          go_upto_region 12 with (fail)
          go_wp2_with fail
          go_loopw [10, 59] (fun ov i wr => ∃ (C : Option Addr) (m k j : Nat), ov = .slice C m k ∧ i = .int .i64 (j : Int) ∧ j ≤ n2 - 1 ∧ Hid (RdI wr C m k (seP L u (conF ((psF ⟨ts, ys⟩).take (j + 1))))) ∧ Below wc.heap.size wc wr) (fun _ i _ => n2 - 1 - (intOf i).toNat)
          case atStart => exact ⟨A0, m0, k0, 0, rfl, rfl, Nat.zero_le _, R0, Below.refl _ _⟩
          case round =>
            obtain ⟨C, m, k, j, rfl, rfl, hj, HR, hB⟩ := hrel
            clear R0 y0 q3
            by_cases hlt : j < n2 - 1
            · obtain ⟨p1, e1, t1⟩ := seL_get (L := L) (u := u) (ps := psF ⟨ts, ys⟩) (i := j + 1) (by rw [← HN2.out]; omega)
              obtain ⟨A1, m1, k1, q1, r1⟩ := RsC.at_ _ _ RC.out (j + 1) (by rw [seL_len, ← HN2.out]; omega)
              rw [e1] at r1
              obtain ⟨b3, o3, rfl, _, kc⟩ := RdC.at_ D3.out (by decide) (by omega)
              have y3 := kc j (.slice A1 m1 k1) (by rw [List.getElem?_drop, show 1 * 1 + j = j + 1 by omega]; exact q1)
              have y3 := bcell hB y3
              have hst := con_step OK.out u ((psF ⟨ts, ys⟩).take (j + 1)) p1
              rw [← t1] at hst
              have hm : m ≤ 1000 := by
                have := RdI.len HR.out
                have := se_len L u (conF ((psF ⟨ts, ys⟩).take (j + 1)))
                have := OK.out.len
                omega
              have hm1 : m1 ≤ 1000 := by
                have := RdI.len r1
                have := se_len L u p1
                have := OK.out.len
                omega
              have CB := Go.Lib.hid (both_any HR.out (RdC.below r1 hB) (se_inc OK.out u _) (se_inc OK.out u _) hm hm1)
              rw [hst] at CB
              have i3 : (j : Int) < ((n2 - 1 : Nat) : Int) := by omega
              clear e1 t1 q1 r1 kc hst hm hm1 HR
              go_wp2_with (refine (CB.out).mono ?_; rintro e w5 ⟨C5, m5, c5, rfl, o5, b5⟩)
              go_roundw
              case rel => exact ⟨C5, m5, c5, j + 1, rfl, by go_num, by omega, Go.Lib.hid (OwnC.rd o5), below_chain hB b5⟩
              case measure => simp [intOf]; omega
            · have hjn : j + 1 = n2 := by omega
              have i3 : ¬ (j : Int) < ((n2 - 1 : Nat) : Int) := by omega
              have HF := Go.Lib.hid (show seP L u (conF ((psF ⟨ts, ys⟩).take (j + 1))) = seP L u (clauseB ⟨ts, ys⟩) by rw [HCL.out, List.take_of_length_le (by rw [← HN2.out]; omega)])
              have BF := Go.Lib.hid (below_chain BW.out hB)
              clear hlt hjn hj
              go_wp2_with fail
              go_ret
              exact ⟨C, m, k, rfl, by rw [← HF.out]; exact HR.out, BF.out⟩
end

end Go.Proofs.Ytppdljkfhoekpaa.PnWalk

/-
  Contracts of the landed posting: Find.
-/
namespace Go.Proofs.Ytppdljkfhoekpaa.PnWalk
open Go.RowKit Go.Maps Go.Proofs.Ytppdljkfhoekpaa.MemRow Go.Proofs.Ytppdljkfhoekpaa.Ev Go.Proofs.Ytppdljkfhoekpaa.NameMath Go.Proofs.Ytppdljkfhoekpaa.NameWalk Go.Proofs.Ytppdljkfhoekpaa.EvWalk Go.Proofs.Ytppdljkfhoekpaa.NumMem Go.Proofs.Ytppdljkfhoekpaa.SmWalk Go.Proofs.Ytppdljkfhoekpaa.NMap Go.Proofs.Ytppdljkfhoekpaa.DkWalk Go.Proofs.Ytppdljkfhoekpaa.PoWalk Go.Proofs.Ytppdljkfhoekpaa.Qu Go.Proofs.Ytppdljkfhoekpaa.QuWalk

section
variable {w : World} {F G : Nat → Prop} {g : Nat} {D : Dt} {mb : Bool → Nat} {M : Bool → DataW Hr} {hd : HdT} {L : Ls}
set_option maxHeartbeats 4000000 in
set_option maxRecDepth 100000 in
theorem find13_any (h : LnR w F G g D mb M hd) (d : DOf D L) (ok : LOk L) {v : Value} {q : List Cl} (hq : IsQ w v q) (hok : QOk q) (hc8 : ∀ c ∈ q, c.tags.length ≤ 8 ∧ c.types.length ≤ 8) (u : Int) :
    Calls Try.prog 26 #[.pointer (some ⟨g, 0, none⟩), v, .int .i64 u] w fun e w' => ∃ B m c, e = .returned (.slice B m c) ∧ OwnC 1 w' w.heap.size 3 B m c (nums (findP L q u)) ∧ Below w.heap.size w w' := by
  obtain ⟨Aq, nq, cq, rfl, rq⟩ := hq
  have b1 : Below w.heap.size w (w.alloc (.cells #[.slice Aq nq cq] 30)) := (Below.refl _ _).alloc (Nat.le_refl _) _
  have x1 := heap_alloc_new w (.cells #[.slice Aq nq cq] 30)
  have hnq := rq.le
  unfold maxLen at hnq
  have HQN := Go.Lib.hid rq.len
  have H := Go.Lib.hid (h.below b1)
  have DD := Go.Lib.hid d
  have OK := Go.Lib.hid ok
  have RQ := Go.Lib.hid (rq.below b1)
  have HOK := Go.Lib.hid hok
  have HC8 := Go.Lib.hid hc8
  clear h d ok rq hok hc8
  go_enter Try.func26, Try.ntmps26
  go_upto_region 1 with (fail)
  have y0 : (w.alloc (.cells #[.slice Aq nq cq] 30)).cell? ⟨w.heap.size, 0, none⟩ = some (.slice Aq nq cq) := by rw [cell_of_row _ _ 0 _ _ _ x1]; rfl
  have B1 := Go.Lib.hid b1
  clear b1 x1
  generalize w.alloc (.cells #[.slice Aq nq cq] 30) = w1 at *
  have O0 := Go.Lib.hid (show OwnC 1 w1 w1.heap.size 3 none 0 0 (nums (findP L (q.take 0) u)) by rw [List.take_zero, find_zero]; exact OwnC.nil _ _)
  go_upto_region 2 with (fail)
  go_wp2_with fail
  go_loopw [7, 13] (fun ov i wr => ∃ (C : Option Addr) (m c j : Nat), ov = .slice C m c ∧ i = .int .i64 (j : Int) ∧ j ≤ nq ∧ Hid (OwnC 1 wr w1.heap.size 3 C m c (nums (findP L (q.take j) u))) ∧ Below w1.heap.size w1 wr) (fun _ i _ => nq - (intOf i).toNat)
  case atStart => exact ⟨none, 0, 0, 0, rfl, rfl, Nat.zero_le _, O0, Below.refl _ _⟩
  case round =>
    obtain ⟨C, m, c, j, rfl, rfl, hj, HO, hB⟩ := hrel
    clear O0 y0
    by_cases hlt : j < nq
    · obtain ⟨ba, oa, rfl, _, ka⟩ := (RQ.out.below hB).at_ (by omega)
      obtain ⟨T, nT, cT, Y, nY, cY, x0, x1, rT, rY⟩ := ka j hlt
      have hjl : j < q.length := by rw [HQN.out]; exact hlt
      have hmem : q.getD j noCl ∈ q := cl_get hjl
      have hst := find_clause OK.out u q hjl
      have b5 : Below wr.heap.size wr (wr.alloc (.cells #[.slice T nT cT, .slice Y nY cY] 54)) := (Below.refl _ _).alloc (Nat.le_refl _) _
      have hnT : nT ≤ 1000 := by
        have := rT.len
        have := (HC8.out _ hmem).1
        omega
      have CC := Go.Lib.hid (clause13_any ((H.out.below hB).below b5) DD.out OK.out (RdC.below rT b5) (RdC.below rY b5) (HOK.out _ hmem).tags (HOK.out _ hmem).types hnT u)
      have B5 := below_chain hB b5
      have o5 := Go.Lib.hid (OwnC.below HO.out b5)
      have hm : m ≤ 1000 := by
        have := RdI.len (OwnC.rd HO.out)
        have := find_len L (q.take j) u
        have := OK.out.len
        omega
      have HI1 := Go.Lib.hid (find_inc OK.out (q.take j) u)
      have HI2 := Go.Lib.hid (se_inc OK.out u (clauseB (q.getD j noCl)))
      have HLN := Go.Lib.hid (show (seP L u (clauseB (q.getD j noCl))).length ≤ 1000 by have := se_len L u (clauseB (q.getD j noCl)); have := OK.out.len; omega)
      have HST := Go.Lib.hid hst
      have i1 : (j : Int) < nq := by omega
      clear ka rT rY hjl hmem hst hnT b5 HO
      generalize seP L u (clauseB (q.getD j noCl)) = sj at *
      generalize findP L (q.take j) u = fj at *
      go_wp2_with (first
        | (go_at_call 39; refine (CC.out).mono ?_; rintro e w6 ⟨C6, m6, c6, rfl, r6, b6⟩; have B6 := below_chain B5 b6; have o6 := OwnC.below o5.out b6; have h6 : m6 ≤ 1000 := by rw [← RdI.len r6]; exact HLN.out)
        | (go_at_call 32; refine (either_any (OwnC.rd o6) r6 HI1.out HI2.out hm h6).mono ?_; rintro e w7 ⟨C7, m7, c7, rfl, o7, b7⟩))
      rw [HST.out] at o7
      have B7 := below_chain B6 b7
      go_roundw
      case rel => exact ⟨C7, m7, c7, j + 1, rfl, by go_num, by omega, Go.Lib.hid (own_low B6.size o7), B7⟩
      case measure => simp [intOf]; omega
    · obtain rfl : nq = j := by omega
      have i1 : ¬ (nq : Int) < nq := by omega
      have he : q.take nq = q := List.take_of_length_le (by rw [HQN.out]; exact Nat.le_refl _)
      rw [he] at HO
      have BF := Go.Lib.hid (B1.out.trans (hB.mono B1.out.size))
      clear he hlt hj
      go_wp2_with fail
      go_ret
      exact ⟨_, _, _, rfl, own_low B1.out.size HO.out, BF.out⟩
end

end Go.Proofs.Ytppdljkfhoekpaa.PnWalk

/-
  The landed posting is as it is asked to be.
-/
namespace Go.Proofs.Ytppdljkfhoekpaa.PnWalk
open Go.RowKit Go.Maps Go.Proofs.Ytppdljkfhoekpaa.MemRow Go.Proofs.Ytppdljkfhoekpaa.Ev Go.Proofs.Ytppdljkfhoekpaa.NameMath Go.Proofs.Ytppdljkfhoekpaa.NameWalk Go.Proofs.Ytppdljkfhoekpaa.EvWalk Go.Proofs.Ytppdljkfhoekpaa.NumMem Go.Proofs.Ytppdljkfhoekpaa.SmWalk Go.Proofs.Ytppdljkfhoekpaa.NMap Go.Proofs.Ytppdljkfhoekpaa.DkWalk Go.Proofs.Ytppdljkfhoekpaa.PoWalk Go.Proofs.Ytppdljkfhoekpaa.Qu Go.Proofs.Ytppdljkfhoekpaa.QuWalk

/-- Two Lists that may share memory. -/
def LwT (g : Nat) (L : Ls) (g' : Nat) (L' : Ls) : Thing := fun w G => ∃ F D mb M hd F' D' mb' M' hd', LnR w F G g D mb M hd ∧ DOf D L ∧ LnR w F' G g' D' mb' M' hd' ∧ DOf D' L' ∧ (∀ k, F k → ¬ F' k) ∧ Apt hd hd' ∧ Apt hd' hd
theorem lwT_keeps (g : Nat) (L : Ls) (g' : Nat) (L' : Ls) : Keeps (LwT g L g' L') := ⟨fun ⟨F, D, mb, M, hd, F', D', mb', M', hd', h, d, h', d', hx⟩ hs hk => ⟨F, D, mb, M, hd, F', D', mb', M', hd', h.keep hs hk, d, h'.keep hs hk, d', hx⟩, fun ⟨_, _, _, _, _, _, _, _, _, _, h, _⟩ => h.lt⟩
theorem lwT_swap (g : Nat) (L : Ls) (g' : Nat) (L' : Ls) : Imp (LwT g L g' L') (LwT g' L' g L) := fun _ _ ⟨F, D, mb, M, hd, F', D', mb', M', hd', h, d, h', d', h1, h2, h3⟩ => ⟨F', D', mb', M', hd', F, D, mb, M, hd, h', d', h, d, fun k hk hf => h1 k hf hk, h3, h2⟩
theorem lwT_fst (g : Nat) (L : Ls) (g' : Nat) (L' : Ls) : Imp (LwT g L g' L') (LnT g L) := fun _ _ ⟨F, D, mb, M, hd, _, _, _, _, _, h, d, _⟩ => ⟨F, D, mb, M, hd, h, d⟩
section
variable {w : World} {F G GQ : Nat → Prop} {g : Nat} {D : Dt} {mb : Bool → Nat} {M : Bool → DataW Hr} {hd : HdT} {L : Ls}
theorem DOf.tles (d : DOf D L) (ok : LOk L) (b : Bool) : (D.t b).length ≤ 1000000 := by
  have := ok.len
  cases b
  · have := d.tl
    omega
  · have := d.yl
    omega
/-- Add beside another thing. -/
theorem addIn_any {base : Nat} {Q : Thing} {v : Value} {e : Ev} {p : Int} (h : LnR w F G g D mb M hd) (d : DOf D L) (hq : Q w GQ) (kq : Keeps Q) (h1 : ∀ k, G k → base ≤ k) (h3 : ∀ k, G k → ¬ GQ k) (hb : base ≤ w.heap.size) (ok : LOk L) (hl : L.length < 200)
    (hv : ∀ (w' : World) (G : Nat → Prop), Q w' G → Below base w w' → IsEv w' v e) (hok : EvOk e) (ht : e.tags.length ≤ 100) (hp : -9223372036854775808 ≤ p ∧ p ≤ 9223372036854775807) :
    Calls Try.prog 18 #[.pointer (some ⟨g, 0, none⟩), v, .int .i64 p] w fun r w' => r = .returned (.int .i64 (addL L e p).1) ∧ ∃ D1 M1 hd1, Grew w w' F G g mb hd D1 M1 hd1 ∧ DOf D1 (addL L e p).2 := by
  have hall : ∀ w', Ch F w w' → IsEv w' v e := fun w' c => hv w' GQ (kq.keep hq c.size fun k hk => c.block k (kq.lt hq k hk) fun hf => h3 k (h.fG k hf) hk) (ch_below (Below.refl _ _) (c.wide h.fG) h1 hb)
  obtain ⟨T, nT, cT, Y, nY, cY, rfl, _, _⟩ := hall w (Ch.refl _ _)
  exact add13_any h d ok hl (fun w' c => by
    obtain ⟨T2, n2, c2, Y2, m2, d2, e2, r, _⟩ := hall w' c
    injection e2 with e2
    simp only [Array.mk.injEq, List.cons.injEq, Value.slice.injEq, and_true, true_and] at e2
    obtain ⟨⟨rfl, rfl, rfl⟩, _⟩ := e2
    exact r) hok ht hp
end
theorem lsApi : LsApi LnT where
  keeps := lnT_keeps
  new := fun {base w G Q} hq kq hG hb => by
    refine (new13_any w).mono ?_
    rintro e w' ⟨g, rfl, hs, hbl⟩
    exact ⟨g, rfl, Pair.fresh hq kq hG hb hs hbl, hbl⟩
  add := fun {base w g L Q v e p} pr kq hb ok hl hv hok ht hp => by
    obtain ⟨G, GQ, ⟨F, D, mb, M, hd, h, d⟩, hq, h1, h2, h3⟩ := pr
    refine (addIn_any h d hq kq h1 h3 hb ok hl hv hok ht hp).mono ?_
    rintro e w' ⟨rfl, D1, M1, hd1, gr, d1⟩
    have hc' : Ch G w w' := gr.ch.wide h.fG
    exact ⟨rfl, Pair.left hq kq h1 h2 h3 hb ⟨_, D1, mb, M1, hd1, gr.ln, d1⟩ hc', ch_below (Below.refl _ _) hc' h1 hb⟩
  tag := fun {base w g L Q t} pr kq ok ht => by
    have pr' := pr
    obtain ⟨G, GQ, ⟨F, D, mb, M, hd, h, d⟩, hq, h1, h2, h3⟩ := pr
    refine (tag13_any h d ok ht).mono ?_
    rintro e w' ⟨B, m, c, rfl, o, b⟩
    exact ⟨B, m, c, rfl, OwnC.rd o, pr'.below (lnT_keeps _ _) kq b, b⟩
  tagN := fun {base w g L Q t} pr kq hb ok ht => by
    have pr' := pr
    obtain ⟨G, GQ, ⟨F, D, mb, M, hd, h, d⟩, hq, h1, h2, h3⟩ := pr
    refine (tag13_any h d ok ht).mono ?_
    rintro e w' ⟨B, m, c, rfl, o, b⟩
    exact ⟨B, m, c, rfl, pair_more pr' (lnT_keeps _ _) kq hb b ⟨OwnC.rd o, fun a e => OwnC.lt o a e, fun k hk => hk.2⟩, b⟩
  typ := fun {base w g L Q t} pr kq ok ht => by
    have pr' := pr
    obtain ⟨G, GQ, ⟨F, D, mb, M, hd, h, d⟩, hq, h1, h2, h3⟩ := pr
    refine (typ13_any h d ok ht).mono ?_
    rintro e w' ⟨B, m, c, rfl, o, b⟩
    exact ⟨B, m, c, rfl, OwnC.rd o, pr'.below (lnT_keeps _ _) kq b, b⟩
  find := fun {base w g L Q v q u} pr kq ok hq hqo hl hc hu => by
    have pr' := pr
    obtain ⟨G, GQ, ⟨F, D, mb, M, hd, h, d⟩, hq', h1, h2, h3⟩ := pr
    refine (find13_any h d ok hq hqo hc u).mono ?_
    rintro e w' ⟨B, m, c, rfl, o, b⟩
    exact ⟨B, m, c, rfl, OwnC.rd o, pr'.below (lnT_keeps _ _) kq b, b⟩
theorem ltApi : LtApi LnT LwT where
  toLsApi := lsApi
  tkeeps := lwT_keeps
  swap := lwT_swap
  fst := lwT_fst
  clone := fun {base w g L Q} pr kq hb ok => by
    obtain ⟨G, GQ, ⟨F, D, mb, M, hd, h, d⟩, hq, h1, h2, h3⟩ := pr
    refine (clone13_any h (d.tles ok)).mono ?_
    rintro e w' ⟨g', rfl, b, mb2, M2, t2⟩
    have t1 := (h.below b).wide (F' := F) (G' := up G w w') (fun _ hk => hk) (fun k hk => .inl hk) (fun k hk => .inl (h.fG k hk)) (fun k hk => up_lt h.lt b.size hk)
    refine ⟨g', rfl, Pair.left hq kq h1 h2 h3 hb ⟨F, D, mb, M, hd, _, D, mb2, M2, _, t1, d, t2, d, fun k hk hn => ?_, fun k k' x x' e1 e2 hsp e => ?_, fun k k' x x' e1 _ hsp _ => absurd hsp (full_room e1)⟩ (Ch.of_below b), b⟩
    · have := h.lt k (h.fG k hk)
      omega
    · have e2 : fullO (hd k') = some x' := e2
      cases hk' : hd k' with
      | none => rw [hk'] at e2; cases e2
      | some y =>
        rw [hk'] at e2
        injection e2 with e2
        subst e2
        by_cases ek : k' = k
        · subst ek
          rw [hk'] at e1
          injection e1 with e1
          subst e1
          exact Nat.le_refl _
        · exact absurd e (h.co.apart k k' x y ek e1 hk' hsp)
  tadd := fun {base w g g' L L' Q v e p} pr kq hb ok hl hv hok ht hp => by
    obtain ⟨G, GQ, ⟨F, D, mb, M, hd, F', D', mb', M', hd', h, d, h', d', hFF, a1, a2⟩, hq, h1, h2, h3⟩ := pr
    refine (addIn_any h d hq kq h1 h3 hb ok hl hv hok ht hp).mono ?_
    rintro e w' ⟨rfl, D1, M1, hd1, gr, d1⟩
    obtain ⟨y, a3, a4⟩ := gr.other h' hFF a1 a2
    have hc' : Ch G w w' := gr.ch.wide h.fG
    have y' := y.wide (F' := F') (G' := up G w w') (fun _ hk => hk) (fun k hk => .inl hk) (fun k hk => .inl (h'.fG k hk)) (fun k hk => up_lt h.lt gr.ch.size hk)
    refine ⟨rfl, Pair.left hq kq h1 h2 h3 hb ⟨_, D1, mb, M1, hd1, F', D', mb', M', hd', gr.ln, d1, y', d', fun k hk hn => ?_, a3, a4⟩ hc', ch_below (Below.refl _ _) hc' h1 hb⟩
    rcases hk with hk | hk
    · exact hFF k hk hn
    · have := h'.lt k (h'.fG k hn)
      omega
  ttag := fun {base w g g' L L' Q t} pr kq ok ht => by
    have pr' := pr
    obtain ⟨G, GQ, ⟨F, D, mb, M, hd, F', D', mb', M', hd', h, d, _⟩, hq, h1, h2, h3⟩ := pr
    refine (tag13_any h d ok ht).mono ?_
    rintro e w' ⟨B, m, c, rfl, o, b⟩
    exact ⟨B, m, c, rfl, OwnC.rd o, pr'.below (lwT_keeps _ _ _ _) kq b, b⟩
  ttyp := fun {base w g g' L L' Q t} pr kq ok ht => by
    have pr' := pr
    obtain ⟨G, GQ, ⟨F, D, mb, M, hd, F', D', mb', M', hd', h, d, _⟩, hq, h1, h2, h3⟩ := pr
    refine (typ13_any h d ok ht).mono ?_
    rintro e w' ⟨B, m, c, rfl, o, b⟩
    exact ⟨B, m, c, rfl, OwnC.rd o, pr'.below (lwT_keeps _ _ _ _) kq b, b⟩

end Go.Proofs.Ytppdljkfhoekpaa.PnWalk

