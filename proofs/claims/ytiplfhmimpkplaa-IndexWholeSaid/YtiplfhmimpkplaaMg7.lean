/-
  Contracts of the landed posting, its lists a part of an index: New, Add.
-/
import Derived.Laws.IdiomRangeMap
import Derived.Test.YtiplfhmimpkplaaMg6
namespace Go.Proofs.Ytiplfhmimpkplaa.PnWalk
open Go.RowKit Go.Maps Go.Proofs.Ytiplfhmimpkplaa.MemRow Go.Proofs.Ytiplfhmimpkplaa.Ev Go.Proofs.Ytiplfhmimpkplaa.NameMath Go.Proofs.Ytiplfhmimpkplaa.NameWalk Go.Proofs.Ytiplfhmimpkplaa.EvWalk Go.Proofs.Ytiplfhmimpkplaa.NumMem Go.Proofs.Ytiplfhmimpkplaa.SmWalk Go.Proofs.Ytiplfhmimpkplaa.NMap Go.Proofs.Ytiplfhmimpkplaa.DkWalk Go.Proofs.Ytiplfhmimpkplaa.PoWalk Go.Proofs.Ytiplfhmimpkplaa.Qu Go.Proofs.Ytiplfhmimpkplaa.QuWalk Go.Proofs.Ytiplfhmimpkplaa.InWalk

set_option maxHeartbeats 4000000 in
set_option maxRecDepth 100000 in
theorem new14p_any (w : World) : Calls Try.prog 68 #[] w fun e w' => ∃ (g : Nat) (f : Bool → Nat), e = .returned (.pointer (some ⟨g, 0, none⟩)) ∧ w'.cell? ⟨g, 0, none⟩ = some (.slice none 0 0) ∧ w'.cell? ⟨g, 1, none⟩ = some (.map (some (f false))) ∧ w'.cell? ⟨g, 2, none⟩ = some (.map (some (f true))) ∧ Below w.heap.size w w' ∧
    (∀ b, w'.ownsMap Try.prog 9 slR (f b) 0 (.map [])) ∧ (∀ b, w.heap.size ≤ f b ∧ f b < w'.heap.size) ∧ f true ≠ f false := by
  have hmm := fun W => run_makeMap (P := Try.prog) 70 W
  go_enter Try.func68, Try.ntmps68
  go_wp2_with fail
  go_ret
  have s1 : (w.alloc (.map #[] 0)).heap.size = w.heap.size + 1 := by simp
  have s2 : ((w.alloc (.map #[] 0)).alloc (.map #[] 0)).heap.size = w.heap.size + 2 := by simp
  have b1 : Below w.heap.size w (w.alloc (.map #[] 0)) := (Below.refl _ w).alloc (Nat.le_refl _) _
  have b2 := b1.alloc b1.size (.map #[] 0)
  have b3 := b2.alloc b2.size (.cells #[.slice none 0 0, .map (some w.heap.size), .map (some (w.heap.size + 1))] 72)
  have o1 := ((World.ownsMap_made w Try.prog 9 slR).alloc (.map #[] 0)).alloc (.cells #[.slice none 0 0, .map (some w.heap.size), .map (some (w.heap.size + 1))] 72)
  have o2 := (World.ownsMap_made (w.alloc (.map #[] 0)) Try.prog 9 slR).alloc (.cells #[.slice none 0 0, .map (some w.heap.size), .map (some (w.heap.size + 1))] 72)
  have bx := heap_alloc_new ((w.alloc (.map #[] 0)).alloc (.map #[] 0)) (.cells #[.slice none 0 0, .map (some w.heap.size), .map (some (w.heap.size + 1))] 72)
  have s3 : (((w.alloc (.map #[] 0)).alloc (.map #[] 0)).alloc (.cells #[.slice none 0 0, .map (some w.heap.size), .map (some (w.heap.size + 1))] 72)).heap.size = w.heap.size + 3 := by simp
  rw [s2] at bx
  rw [s1] at o2
  refine ⟨w.heap.size + 2, fun b => if b then w.heap.size + 1 else w.heap.size, rfl, by rw [cell_of_row _ _ 0 _ _ _ bx]; rfl, by rw [cell_of_row _ _ 1 _ _ _ bx]; rfl, by rw [cell_of_row _ _ 2 _ _ _ bx]; rfl, b3, fun b => ?_, fun b => ?_, by simp⟩
  · cases b
    · exact o1
    · exact o2
  · rw [s3]
    cases b <;> simp
section
variable {w : World} {F G : Nat → Prop} {g : Nat} {r m lp : Value} {D : Dt} {mb : Option (Bool → Nat)} {M : Bool → DataW Hr} {hd : HdT} {L : Ls}
set_option maxRecDepth 100000 in
/-- Maps where there were none. -/
theorem GrewC.made {f : Bool → Nat} {w5 : World} (hx : LBx w g r m lp none hd) (h : LnC w F G D none M hd) (b5 : Below w.heap.size w w5) (o : ∀ b, w5.ownsMap Try.prog 9 slR (f b) 0 (.map [])) (hf : ∀ b, w.heap.size ≤ f b ∧ f b < w5.heap.size) (hne : f true ≠ f false) :
    GrewC w (((w5.setCell ⟨g, 3, none⟩ (.slice none 0 0)).setCell ⟨g, 4, none⟩ (.map (some (f false)))).setCell ⟨g, 5, none⟩ (.map (some (f true)))) F G g r m lp hd D (some f) (fun _ => .map []) hd := by
  obtain ⟨hall, ht⟩ := h.nil
  have glt := XBx.lt hx
  have hx5 := XBx.below hx b5
  have h5 := h.below b5
  have e0 : mkL (hd none) = .slice none 0 0 := by
    rcases h.co.li none with ⟨y, _, q⟩ | ⟨e, _⟩
    · have h1 := q.len
      have h2 := q.pos
      have h3 : lstD D none = [] := hall
      rw [h3] at h1
      simp only [List.length_nil] at h1
      omega
    · rw [e]; rfl
  have X := ((XBx.set3 hx5 (.slice none 0 0)).set4 (.map (some (f false)))).set5 (.map (some (f true)))
  have s5 : (((w5.setCell ⟨g, 3, none⟩ (.slice none 0 0)).setCell ⟨g, 4, none⟩ (.map (some (f false)))).setCell ⟨g, 5, none⟩ (.map (some (f true)))).heap.size = w5.heap.size := by simp [World.setCell]
  have k5 : ∀ k, k ≠ g → (((w5.setCell ⟨g, 3, none⟩ (.slice none 0 0)).setCell ⟨g, 4, none⟩ (.map (some (f false)))).setCell ⟨g, 5, none⟩ (.map (some (f true)))).heap[k]? = w5.heap[k]? := fun k hk => ((put_other _ g 5 _ hk).trans (put_other _ g 4 _ hk)).trans (put_other _ g 3 _ hk)
  have hbs := b5.size
  have ch : Ch (fun k => F k ∨ k = g) w (((w5.setCell ⟨g, 3, none⟩ (.slice none 0 0)).setCell ⟨g, 4, none⟩ (.map (some (f false)))).setCell ⟨g, 5, none⟩ (.map (some (f true)))) := ⟨b5.os, b5.tape, b5.output, by omega, fun k hk hn => (k5 k fun e => hn (.inr e)).trans (b5.block k hk)⟩
  have c1 := ((h5.box hx5 3 (.slice none 0 0)).box (XBx.set3 hx5 _) 4 (.map (some (f false)))).box ((XBx.set3 hx5 _).set4 _) 5 (.map (some (f true)))
  refine ⟨?_, ⟨fun b => ?_, fun b => ?_, c1.co.wide (fun _ h => .inl h) (fun _ h => .inl h), fun f' e => ?_, fun e => (by cases e), fun f' e b => ?_, fun k hk => ?_, fun k hk => up_lt h.lt ch.size hk⟩, ch, ?_⟩
  · show XBx _ g r m lp (mkL (hd none)) _ _
    rw [e0]
    exact X
  · obtain ⟨es, clock, hb, ft, hn, hD⟩ := o b
    exact ⟨es, clock, (k5 (f b) (by have := hf b; omega)).trans hb, ft, hn, hD⟩
  · rw [ht b]
    exact NOf.empty _
  · injection e with e
    subst e
    intro b c hbc
    cases b <;> cases c <;> simp at hbc ⊢
    · exact hne
    · exact fun e => hne e.symm
  · injection e with e
    subst e
    exact .inr ⟨(hf b).1, by rw [s5]; exact (hf b).2⟩
  · rcases hk with hk | hk
    · exact .inl (h.fG k hk)
    · exact .inr hk
  · have hno : ∀ {a b c d e f : Value} (cs : Array Value) (T : TypeId) (fr : Nat × Nat), (Obj.cells #[a, b, c, d, e, f] 74 (0, 0)) = .cells cs T fr → T ≠ 3 := fun cs T fr e => by injection e with _ e _; subst e; decide
    intro F' G' l' hd' c hl hFF a1 a2
    exact ⟨(((c.below b5).other (put_grown w5 g 3 _) hx5 hno).other (put_grown _ g 4 _) (XBx.set3 hx5 _) hno).other (put_grown _ g 5 _) ((XBx.set3 hx5 _).set4 _) hno, a1, a2⟩
set_option maxHeartbeats 4000000 in
set_option maxRecDepth 100000 in
/-- Add's closure: the number is laid behind the list of a tag, or of a type. -/
theorem addf14_any {f : Bool → Nat} (hx : LBx w g r m lp (some f) hd) (h : LnC w F G D (some f) M hd) (b : Bool) (hl : (D.t b).length ≤ 1000000) {s : ByteArray} (hs : s.size ≤ maxLen) {p : Int} {pb : Nat} (hp : w.cell? ⟨pb, 0, none⟩ = some (.int .i64 p)) :
    Calls Try.prog 69 #[.map (some (f b)), .string s, .pointer (some ⟨pb, 0, none⟩)] w fun e w' => e = .returned (.tuple #[]) ∧ ∃ M1 hd1, GrewC w w' F G g r m lp hd ⟨D.all, setB D.t b (addK (D.t b) s p)⟩ (some f) M1 hd1 := by
  have ql : (Instr.lookup 70 (.map (some (f b))) (.string s) false).run Try.prog w = .ok (mkL (hd (some (b, s)))) w := h.look b hs
  have hlen : (lstD D (some (b, s))).length ≤ 1000000 := Nat.le_trans (allP_len (D.t b) s) hl
  have CW := Go.Lib.hid (with_any (h.co.li (some (b, s))) hlen p)
  have hkey := keyN_of hs
  have hmx : Maps.size (M b) < maxLen := by
    have := h.size b
    have := namesT_len (D.t b)
    unfold maxLen
    omega
  have H := Go.Lib.hid h
  have HX := Go.Lib.hid hx
  clear h hx hlen hl
  go_enter Try.func69, Try.ntmps69
  go_wp2_with (first
    | (refine (CW.out).mono ?_; rintro e w2 ⟨h', rfl, w1, b1, wo⟩; have H1 := Go.Lib.hid (H.out.below b1); have HX1 := Go.Lib.hid (XBx.below HX.out b1); have own2 := H1.out.with_own wo b; have WO := Go.Lib.hid wo; clear wo ql)
    | (at_mapUpdate; refine wpList_mapUpdate_own _ rfl _ _ _ 70 rfl 9 69 keyedN Try.underlying70 slR (f b) (Maps.size (M b)) (M b) rfl own2 hmx _ _ _ rfl rfl hkey _ [] (slR_some h') ?_; intro w3 ho3 hg3))
  go_end0
  exact ⟨rfl, _, _, GrewC.from b1 H.out (H1.out.put_map HX1.out b WO.out hg3 ho3)⟩
set_option maxHeartbeats 4000000 in
set_option maxRecDepth 100000 in
theorem add14p_any (hx : LBx w g r m lp mb hd) (h : LnC w F G D mb M hd) (d : DOf D L) (ok : LOk L) (hl : L.length < 400) {ev : Ev} {T Y : Option Addr} {nT cT nY cY : Nat} (hev : ∀ w', Ch (fun k => F k ∨ k = g) w w' → RdS w' T nT cT ev.tags) (hok : EvOk ev) (ht : ev.tags.length ≤ 100) {p : Int} (hp : -9223372036854775808 ≤ p ∧ p ≤ 9223372036854775807) :
    Calls Try.prog 44 #[.pointer (some ⟨g, 3, none⟩), .agg #[.string ev.s, .string ev.t, .slice T nT cT, .slice Y nY cY], .int .i64 p] w fun e w' => e = .returned (.int .i64 (addL L ev p).1) ∧
      ∃ D1 mb1 M1 hd1, GrewC w w' F G g r m lp hd D1 mb1 M1 hd1 ∧ DOf D1 (addL L ev p).2 := by
  obtain ⟨es, et, ts, fs⟩ := ev
  simp only at hev ht
  have b1 : Below w.heap.size w (w.alloc (.cells #[.string es, .string et, .slice T nT cT, .slice Y nY cY] 47)) := (Below.refl _ _).alloc (Nat.le_refl _) _
  have b2 := b1.alloc b1.size (.cells #[.int .i64 p] 3)
  have x1 := heap_alloc_new w (.cells #[.string es, .string et, .slice T nT cT, .slice Y nY cY] 47)
  have x2 := heap_alloc_new (w.alloc (.cells #[.string es, .string et, .slice T nT cT, .slice Y nY cY] 47)) (.cells #[.int .i64 p] 3)
  have s1 : (w.alloc (.cells #[.string es, .string et, .slice T nT cT, .slice Y nY cY] 47)).heap.size = w.heap.size + 1 := by simp
  rw [s1] at x2
  go_enter Try.func44, Try.ntmps44
  go_upto_region 1 with (fail)
  have x1 := (((Below.refl _ (w.alloc (.cells #[.string es, .string et, .slice T nT cT, .slice Y nY cY] 47))).alloc (Nat.le_refl _) (.cells #[.int .i64 p] 3)).block w.heap.size (by omega)).trans x1
  have s2 : ((w.alloc (.cells #[.string es, .string et, .slice T nT cT, .slice Y nY cY] 47)).alloc (.cells #[.int .i64 p] 3)).heap.size = w.heap.size + 2 := by simp
  clear b1 s1
  generalize (w.alloc (.cells #[.string es, .string et, .slice T nT cT, .slice Y nY cY] 47)).alloc (.cells #[.int .i64 p] 3) = w1 at *
  have h1 := h.below b2
  have hx1 := XBx.below hx b2
  have hglt := XBx.lt hx
  have HEV := Go.Lib.hid (fun w' (c : Ch (fun k => F k ∨ k = g) w1 w') => hev w' ((Ch.of_below b2).trans (c.wide fun k hk => .inl hk)))
  obtain ⟨A, n, c, eA, rA, _⟩ := (h1.co.li none).rd
  have k0 := XBx.c3 hx1
  have k1 := XBx.c4 hx1
  have z0 := XBx.frozen hx1 3
  rw [eA] at k0
  have hln : n = L.length := by rw [← rA.len]; exact d.len
  have hall := posP_lt (p := p) ok
  have hlast : 0 < n → (lstD D none).getD (n - 1) 0 = lastL L := fun h0 => by rw [hln]; exact d.last (by omega)
  have hlast0 : n = 0 → lastL L = 0 := fun h0 => by
    have : L = [] := List.eq_nil_of_length_eq_zero (by omega)
    rw [this]
    rfl
  have y0 : w1.cell? ⟨w.heap.size + 1, 0, none⟩ = some (.int .i64 p) := by rw [cell_of_row w1 _ 0 _ _ _ x2]; rfl
  have H := Go.Lib.hid h
  have HX := Go.Lib.hid hx
  have HX1 := Go.Lib.hid hx1
  have H1 := Go.Lib.hid h1
  have DD := Go.Lib.hid d
  have OK := Go.Lib.hid ok
  have X1 := Go.Lib.hid x1
  have X2 := Go.Lib.hid x2
  have B2 := Go.Lib.hid b2
  have HOK := Go.Lib.hid hok
  have HLN := Go.Lib.hid hln
  have hn200 : n < 400 := by omega
  clear h hx hx1 h1 d ok x1 x2 b2 hev hok hall hln
  go_upto_region 2 with (fail)
  go_cut [33] (fun v wx => v = .bool (decide (p < 1 ∨ p ≤ lastL L)) ∧ ∃ q, wx = w1.drewN q)
  case first =>
    by_cases h1 : p < 1
    · have hd1 : decide (p < 1 ∨ p ≤ lastL L) = true := decide_eq_true (.inl h1)
      have HD := Go.Lib.hid hd1
      clear hd1 rA hlast hlast0
      go_quiet (fail)
      go_wp2_with fail
      go_meet
      exact ⟨by rw [HD.out], _, rfl⟩
    · by_cases h2 : 0 < n
      · have hl1 := hlast h2
        obtain ⟨b, o, rfl, _, kc⟩ := rA.at_ h2
        have yc := kc (n - 1) (by omega)
        rw [hl1] at yc
        have n1 : IntKind.i64.wrap ((n : Int) - 1) = ((n - 1 : Nat) : Int) := by rw [IntWalk.i64_in _ (by omega)]; omega
        have i2 : (0 : Int) < n := by omega
        have g2 : decide ((n : Int) > 0) = true := decide_eq_true i2
        have g3 : decide (0 < n) = true := decide_eq_true h2
        have j2 : ((n - 1 : Nat) : Int) < n := by omega
        by_cases h3 : p ≤ lastL L
        · have hd1 : decide (p < 1 ∨ p ≤ lastL L) = true := decide_eq_true (.inr h3)
          have HD := Go.Lib.hid hd1
          clear hd1 rA kc hlast hlast0 hl1
          generalize lastL L = x at *
          generalize n - 1 = t at *
          go_quiet (fail)
          go_wp2_with fail
          go_meet
          exact ⟨by rw [HD.out], _, rfl⟩
        · have hd1 : decide (p < 1 ∨ p ≤ lastL L) = false := decide_eq_false (by omega)
          have HD := Go.Lib.hid hd1
          clear hd1 rA kc hlast hlast0 hl1
          generalize lastL L = x at *
          generalize n - 1 = t at *
          go_quiet (fail)
          go_wp2_with fail
          go_meet
          exact ⟨by rw [HD.out], _, rfl⟩
      · have hl1 := hlast0 (by omega)
        have hd1 : decide (p < 1 ∨ p ≤ lastL L) = false := decide_eq_false (by omega)
        have HD := Go.Lib.hid hd1
        have i2 : ¬ (0 : Int) < n := by omega
        have g2 : decide ((n : Int) > 0) = false := decide_eq_false i2
        have g3 : decide (0 < n) = false := decide_eq_false h2
        clear hd1 rA hlast hlast0 hl1
        go_quiet (fail)
        go_wp2_with fail
        go_meet
        exact ⟨by rw [HD.out], _, rfl⟩
  case rest =>
    obtain ⟨rfl, q, rfl⟩ := hcut
    have bq : Below w1.heap.size w1 (w1.drewN q) := bel_dn (Below.refl _ _) q
    have h2 := H1.out.below bq
    have hx2 := XBx.below HX1.out bq
    have b2 := B2.out.trans (bq.mono B2.out.size)
    have x1 := (bq.block w.heap.size (by omega)).trans X1.out
    have x2 := (bq.block (w.heap.size + 1) (by omega)).trans X2.out
    have s2 : (w1.drewN q).heap.size = w.heap.size + 2 := s2
    have HEV := Go.Lib.hid (fun w' (c : Ch (fun k => F k ∨ k = g) (w1.drewN q) w') => HEV.out w' ((Ch.of_below bq).trans (c.wide fun k hk => .inl hk)))
    have k0 : (w1.drewN q).cell? ⟨g, 3, none⟩ = some (.slice A n c) := k0
    have k1 : (w1.drewN q).cell? ⟨g, 4, none⟩ = some (.map (mapAt mb false)) := k1
    have y0 : (w1.drewN q).cell? ⟨w.heap.size + 1, 0, none⟩ = some (.int .i64 p) := y0
    clear hlast hlast0 rA bq
    generalize w1.drewN q = w2 at *
    clear H1 HX1 B2 X1 X2
    have H2 := Go.Lib.hid h2
    have HX2 := Go.Lib.hid hx2
    have B2 := Go.Lib.hid b2
    have X1 := Go.Lib.hid x1
    have X2 := Go.Lib.hid x2
    clear h2 hx2 b2 x1 x2
    by_cases hc : p < 1 ∨ p ≤ lastL L
    · rw [decide_eq_true hc]
      have HL := Go.Lib.hid (show addL L ⟨es, et, ts, fs⟩ p = (1, L) by unfold addL; rw [if_pos hc])
      clear hc
      go_wp2_with fail
      go_ret
      rw [HL.out]
      exact ⟨rfl, D, mb, M, hd, GrewC.below B2.out HX.out H.out, DD.out⟩
    · rw [decide_eq_false hc]
      have HY := Go.Lib.hid (show addL L ⟨es, et, ts, fs⟩ p = (0, L ++ [(⟨es, et, ts, fs⟩, p)]) from addL_yes (by omega) (by omega))
      have HLP := Go.Lib.hid (show lastL L < p by omega)
      clear hc
      have qm : ∀ W, (binOp .eql 70 (.map (mapAt mb false)) (.map none)).run Try.prog W = .ok (.bool (mapAt mb false).isNone) W := fun W => run_eql_map_nil W _ _ _ _ Try.underlying70
      go_upto_region 4 with (fail)
      go_upto_if 38 with (fail)
      go_cut [6] (fun _ wx => ∃ f M1, Hid (GrewC w2 wx F G g r m lp hd D (some f) M1 hd))
      case first =>
        cases mb with
        | none =>
          have NEWC := Go.Lib.hid (new14p_any w2)
          have MADE := Go.Lib.hid (fun (w5 : World) (f : Bool → Nat) (b5 : Below w2.heap.size w2 w5) (o : ∀ b, w5.ownsMap Try.prog 9 slR (f b) 0 (.map [])) (hf : ∀ b, w2.heap.size ≤ f b ∧ f b < w5.heap.size) (hne : f true ≠ f false) => GrewC.made HX2.out H2.out b5 o hf hne)
          have HC := Go.Lib.hid (fun (w5 : World) (f5 : Bool → Nat) (b5 : Below w2.heap.size w2 w5) => And.intro ((XBx.below HX2.out b5).frozen 3) (And.intro (((XBx.below HX2.out b5).set3 (.slice none 0 0)).frozen 4) ((((XBx.below HX2.out b5).set3 (.slice none 0 0)).set4 (.map (some (f5 false)))).frozen 5)))
          clear eA k0
          go_wp2_with (first | (go_at_call 68; refine (NEWC.out).mono ?_; rintro e w5 ⟨g5, f, rfl, q0, q1, q2, b5, o5, hf5, hne5⟩; have Q := Go.Lib.hid (MADE.out w5 f b5 o5 hf5 hne5); obtain ⟨z3, z4, z5⟩ := HC.out w5 f b5; have k3 := (XBx.below HX2.out b5).c3; have k4 := ((XBx.below HX2.out b5).set3 (.slice none 0 0)).c4; have k5 := (((XBx.below HX2.out b5).set3 (.slice none 0 0)).set4 (.map (some (f false)))).c5; clear b5 o5 hf5 hne5))
          go_meet
          exact ⟨_, _, Q⟩
        | some f =>
          have Q := Go.Lib.hid (GrewC.refl HX2.out H2.out)
          clear eA k0
          go_wp2_with fail
          go_meet
          exact ⟨_, _, Q⟩
      case rest =>
        obtain ⟨f, M0, G0⟩ := hcut
        obtain ⟨wv, rfl⟩ : ∃ wv, wv = wc := ⟨_, rfl⟩
        have HB := Go.Lib.hid (fun (wx : World) (c : Ch (fun k => F k ∨ k = g) w2 wx) => (⟨(c.block _ (by omega) (fun hf => by rcases hf with hf | hf; (have := H.out.lt _ (H.out.fG _ hf); omega); omega)).trans X1.out, (c.block _ (by omega) (fun hf => by rcases hf with hf | hf; (have := H.out.lt _ (H.out.fG _ hf); omega); omega)).trans X2.out⟩ : wx.heap[w.heap.size]? = some (.cells #[.string es, .string et, .slice T nT cT, .slice Y nY cY] 47 (0, 0)) ∧ wx.heap[w.heap.size + 1]? = some (.cells #[.int .i64 p] 3 (0, 0))))
        have y0 : wv.cell? ⟨w.heap.size + 1, 0, none⟩ = some (.int .i64 p) := by rw [cell_of_row wv _ 0 _ _ _ (HB.out _ G0.out.ch).2]; rfl
        have h3 := G0.out.ln
        have hx3 := G0.out.bx
        have H3 := Go.Lib.hid h3
        have HX3 := Go.Lib.hid hx3
        have k0 := XBx.c3 hx3
        have z0 := XBx.frozen hx3 3
        have k1 : wv.cell? ⟨g, 4, none⟩ = some (.map (some (f false))) := XBx.c4 hx3
        rw [eA] at k0
        have cw := fun W (b : Below wv.heap.size wv W) => with_any ((H3.out.below b).co.li none) (by show D.all.length ≤ _; rw [DD.out.len]; omega) p
        simp only [eA] at cw
        have CW := Go.Lib.hid cw
        have HEV := Go.Lib.hid (fun w' (c : Ch (fun k => F k ∨ k = g) w2 w') => HEV.out w' c)
        clear cw h3 hx3 qm
        go_upto_region 7 with (fail)
        go_cut [8] (fun v wx => v = .func (.func 69) #[] #[.pointer (some ⟨w.heap.size + 1, 0, none⟩)] ∧ ∃ hd1, Hid (GrewC wv wx (up F w2 wv) (up G w2 wv) g r m lp hd ⟨withF D.all p, D.t⟩ (some f) M0 hd1))
        case first =>
          have bd : Below wv.heap.size wv wv.drew := ⟨rfl, rfl, rfl, Nat.le_refl _, fun _ _ => rfl⟩
          have BD := Go.Lib.hid bd
          have HD := Go.Lib.hid (H3.out.below bd)
          have HXD := Go.Lib.hid (XBx.below HX3.out bd)
          clear bd
          have AFTER := Go.Lib.hid (fun (w4 w5 : World) (h' : Hr) (b4 : Below wv.drew.heap.size wv.drew w4) (wo : WOut w4 w5 (up F w2 wv) (up G w2 wv) (hd none) (lstD D none) p h') => show Hid (GrewC wv (w5.setCell ⟨g, 3, none⟩ (valL h')) (up F w2 wv) (up G w2 wv) g r m lp hd ⟨withF D.all p, D.t⟩ (some f) M0 (setK hd none (some h'))) ∧ w5.cell? ⟨g, 3, none⟩ = some (.slice A n c) ∧ w5.frozen? ⟨g, 3, none⟩ = false by
            have h4 := HD.out.below b4
            have hx4 := XBx.below HXD.out b4
            have bx5 := h4.with_box hx4 wo
            refine ⟨Go.Lib.hid (GrewC.from (BD.out.trans b4) H3.out (h4.put_all hx4 wo)), ?_, bx5.frozen 3⟩
            rw [bx5.c3, eA])
          go_region_with (first | (go_at_call 70; refine (CW.out _ BD.out).mono ?_; rintro e w5 ⟨h', rfl, w4, b4, wo⟩; obtain ⟨gr, y5, z5⟩ := AFTER.out w4 w5 h' b4 wo; clear wo b4))
          all_goals
            go_wp2_with fail
            go_meet
            exact ⟨rfl, _, gr⟩
        case rest =>
          obtain ⟨rfl, hd1, g1⟩ := hcut
          have G1 := Go.Lib.hid (G0.out.trans g1.out)
          clear g1
          have g1 := G1
          clear G1
          have e2 : wc.cell? ⟨w.heap.size, 2, none⟩ = some (.slice T nT cT) := by rw [cell_of_row wc _ 2 _ _ _ (HB.out _ g1.out.ch).1]; rfl
          have htn : ts.length = nT := (HEV.out _ g1.out.ch).len
          have HTN := Go.Lib.hid htn
          have hn100 : nT ≤ 100 := by omega
          have eg : Runs 69 := enters_of Try.func69 (by kernel_rfl) rfl
          unfold Runs at eg
          have G1 := Go.Lib.hid (show ∃ D1 M1 hd1, GrewC w2 wc F G g r m lp hd D1 (some f) M1 hd1 ∧ D1.all = withF D.all p ∧ D1.t false = addKs (D.t false) (ts.take 0) p ∧ D1.t true = D.t true from ⟨_, _, _, g1.out, rfl, rfl, rfl⟩)
          clear g1 k0 k1 y0 htn CW eA
          go_wp2_with fail
          go_loopw [57] (fun i wr => ∃ j : Nat, i = .int .i64 j ∧ j ≤ nT ∧ Hid (∃ D1 M1 hd1, GrewC w2 wr F G g r m lp hd D1 (some f) M1 hd1 ∧ D1.all = withF D.all p ∧ D1.t false = addKs (D.t false) (ts.take j) p ∧ D1.t true = D.t true)) (fun i _ => nT - (intOf i).toNat)
          case atStart => exact ⟨0, rfl, Nat.zero_le _, G1⟩
          case round =>
            obtain ⟨j, rfl, hj, HG⟩ := hrel
            clear G1 e2
            obtain ⟨D1, M1, hd2, gr, q1, q2, q3⟩ := HG.out
            have GR := Go.Lib.hid gr
            have Q1 := Go.Lib.hid q1
            have Q2 := Go.Lib.hid q2
            have Q3 := Go.Lib.hid q3
            clear HG
            by_cases hlt : j < nT
            · have rT := HEV.out _ gr.ch
              obtain ⟨bt, ot, rfl, _, kt⟩ := RdS.at_ rT (by omega)
              have yt := kt j hlt
              have yg : wr.cell? ⟨g, 4, none⟩ = some (.map (some (f false))) := XBx.c4 gr.bx
              have yp : wr.cell? ⟨w.heap.size + 1, 0, none⟩ = some (.int .i64 p) := by rw [cell_of_row wr _ 0 _ _ _ (HB.out _ gr.ch).2]; rfl
              have hsz : (ts.getD j ByteArray.empty).size ≤ maxLen := HOK.out.tags _ (mem_getD ts j (by rw [HTN.out]; exact hlt))
              have ca := Go.Lib.hid (addf14_any gr.bx gr.ln false (by
                rw [q2]
                have := addKs_len (D.t false) (ts.take j) p
                have := DD.out.tl
                rw [List.length_take] at *
                omega) hsz yp)
              have hst : addK (D1.t false) (ts.getD j ByteArray.empty) p = addKs (D.t false) (ts.take (j + 1)) p := by
                rw [q2, ← addKs_snoc, List.take_add_one]
                simp [List.getD, List.getElem?_eq_getElem (show j < ts.length by rw [HTN.out]; exact hlt)]
              have HST := Go.Lib.hid hst
              have i1 : (j : Int) < nT := by omega
              clear rT kt hst gr q1 q2 q3 yp hsz
              generalize ts.getD j ByteArray.empty = t at *
              go_wp2_with (refine (ca.out).mono ?_; rintro e w5 ⟨rfl, M5, hd5, g5⟩)
              go_roundw
              case rel => exact ⟨j + 1, by go_num, by omega, Go.Lib.hid ⟨_, _, _, GR.out.trans g5, Q1.out, by rw [← HST.out]; show setB D1.t false _ false = _; exact setB_at _ _ _, by show setB D1.t false (addK (D1.t false) t p) true = _; exact (setB_ne _ _ (by decide)).trans Q3.out⟩⟩
              case measure => simp [intOf]; omega
            · obtain rfl : nT = j := by omega
              have i1 : ¬ (nT : Int) < nT := by omega
              have bd : Below wr.heap.size wr wr.drew := ⟨rfl, rfl, rfl, Nat.le_refl _, fun _ _ => rfl⟩
              have yg : wr.cell? ⟨g, 5, none⟩ = some (.map (some (f true))) := XBx.c5 gr.bx
              have ye : wr.cell? ⟨w.heap.size, 1, none⟩ = some (.string et) := by rw [cell_of_row wr _ 1 _ _ _ (HB.out _ gr.ch).1]; rfl
              have yp : wr.drew.cell? ⟨w.heap.size + 1, 0, none⟩ = some (.int .i64 p) := by
                show wr.cell? _ = _
                rw [cell_of_row wr _ 0 _ _ _ (HB.out _ gr.ch).2]
                rfl
              have ca := Go.Lib.hid (addf14_any (XBx.below gr.bx bd) (gr.ln.below bd) true (by
                rw [q3]
                have := DD.out.yl
                omega) HOK.out.t yp)
              have BD := Go.Lib.hid bd
              clear q1 q2 q3 bd gr hlt
              go_upto_region 13 with (fail)
              go_region_with (first | (refine (ca.out).mono ?_; rintro e w5 ⟨rfl, M5, hd5, g5⟩))
              all_goals
                go_wp2_with fail
                go_ret
                rw [HY.out]
                refine ⟨rfl, _, _, _, _, GrewC.from B2.out H.out (GR.out.trans (GrewC.from BD.out GR.out.ln g5)), DD.out.add OK.out HLP.out ht Q1.out ?_ ?_⟩
                · show setB D1.t true (addK (D1.t true) et p) false = _
                  rw [setB_ne _ _ (by decide), Q2.out, List.take_of_length_le (by rw [HTN.out]; exact Nat.le_refl _)]
                · show setB D1.t true _ true = _
                  rw [setB_at, Q3.out]
                  rfl
end

end Go.Proofs.Ytiplfhmimpkplaa.PnWalk

/-
  Contracts of the landed posting: upTo, Tag, Type, ofTypes.
-/
namespace Go.Proofs.Ytiplfhmimpkplaa.PnWalk
open Go.RowKit Go.Maps Go.Proofs.Ytiplfhmimpkplaa.MemRow Go.Proofs.Ytiplfhmimpkplaa.Ev Go.Proofs.Ytiplfhmimpkplaa.NameMath Go.Proofs.Ytiplfhmimpkplaa.NameWalk Go.Proofs.Ytiplfhmimpkplaa.EvWalk Go.Proofs.Ytiplfhmimpkplaa.NumMem Go.Proofs.Ytiplfhmimpkplaa.SmWalk Go.Proofs.Ytiplfhmimpkplaa.NMap Go.Proofs.Ytiplfhmimpkplaa.DkWalk Go.Proofs.Ytiplfhmimpkplaa.PoWalk Go.Proofs.Ytiplfhmimpkplaa.Qu Go.Proofs.Ytiplfhmimpkplaa.QuWalk

set_option maxHeartbeats 4000000 in
set_option maxRecDepth 100000 in
theorem upTo_any {A : Option Addr} {n c : Nat} {l : List Int} {w : World} (rd : RdI w A n c l) (hi : Inc l) (hn : n ≤ 1000000) (u : Int) :
    Calls Try.prog 75 #[.slice A n c, .int .i64 u] w fun e w' => ∃ m, e = .returned (.slice A m c) ∧ (∀ W, RdI W A n c l → RdI W A m c (upF u l)) ∧ m ≤ n ∧ ∃ q, w' = w.drewN q := by
  have hp : l.Pairwise (· ≤ ·) := hi.imp fun h => by omega
  have hln := rd.len
  have hv := verN_le hi u
  obtain ⟨qs, rs⟩ := slice_hi (k := 1) 69 3 Try.underlying69 elem_rising (by kernel_rfl) rd (m := verN l u) (by omega)
  have rs' : ∀ W, RdI W A n c l → RdI W A (verN l u) c (upF u l) := fun W r => by
    rw [upF_take hi]
    unfold RdI
    have e2 : nums (l.take (verN l u)) = (nums l).take (verN l u * 1) := by simp [nums, List.map_take]
    rw [e2]
    exact RdC.first r (by omega)
  have RS := Go.Lib.hid rs'
  have hcp := List.countP_le_length (p := fun x : Int => decide (x < u)) (l := l)
  have HV : Hid (verN l u = l.countP (· < u) + if u ∈ l then 1 else 0) := Go.Lib.hid rfl
  have hm : verN l u ≤ n := by omega
  clear rs' hi hv rs
  generalize verN l u = V at *
  generalize upF u l = ul at *
  go_enter Try.func75, Try.ntmps75
  go_wp2_with fail
  refine (search_any A n c l u w rd hn hp).mono ?_
  rintro e w1 ⟨rfl, q, rfl⟩
  clear rd hp
  by_cases hu : u ∈ l
  · have hv := HV.out
    rw [if_pos hu] at hv
    rw [decide_eq_true hu]
    generalize l.countP (· < u) = cn at *
    subst hv
    clear HV hu
    have i1 : IntKind.i64.wrap ((cn : Int) + 1) = (cn : Int) + 1 := IntWalk.i64_in _ (by omega)
    have qs2 : ∀ W, (Instr.slice 69 (.slice A n c) none (some (.int .i64 ((cn : Int) + 1))) none).run Try.prog W = .ok (.slice A (cn + 1) c) W := qs
    clear qs
    go_wp2_with fail
    go_ret
    exact ⟨_, rfl, RS.out, hm, _, rfl⟩
  · have hv := HV.out
    rw [if_neg hu, Nat.add_zero] at hv
    rw [decide_eq_false hu]
    generalize l.countP (· < u) = cn at *
    subst hv
    clear HV hu
    go_wp2_with fail
    go_ret
    exact ⟨_, rfl, RS.out, hm, _, rfl⟩
section
variable {w : World} {F G : Nat → Prop} {g : Nat} {D : Dt} {mb : Bool → Nat} {M : Bool → DataW Hr} {hd : HdT} {L : Ls}
set_option maxRecDepth 100000 in
theorem DOf.inc (d : DOf D L) (ok : LOk L) (k : Ky) : Inc (lstD D k) := by
  match k with
  | none => show Inc D.all; rw [d.all]; exact posP_inc ok _
  | some (false, s) => show Inc (allP (D.t false) s); rw [d.tg]; exact posP_inc ok _
  | some (true, s) => show Inc (allP (D.t true) s); rw [d.ty]; exact posP_inc ok _
set_option maxRecDepth 100000 in
theorem DOf.le (d : DOf D L) (ok : LOk L) (k : Ky) : (lstD D k).length ≤ 400 := by
  have := ok.len
  match k with
  | none => show D.all.length ≤ _; rw [d.len]; exact this
  | some (false, s) => show (allP (D.t false) s).length ≤ _; rw [d.tg]; exact Nat.le_trans (posP_len _ _) this
  | some (true, s) => show (allP (D.t true) s).length ≤ _; rw [d.ty]; exact Nat.le_trans (posP_len _ _) this
set_option maxHeartbeats 4000000 in
set_option maxRecDepth 100000 in
theorem ofTypes_any (h : LnR w F G g D mb M hd) (d : DOf D L) (ok : LOk L) {T : Option Addr} {nT cT : Nat} {ts : List ByteArray} (rT : RdS w T nT cT ts) (hs : ∀ x ∈ ts, x.size ≤ maxLen) (u : Int) :
    Calls Try.prog 76 #[.pointer (some ⟨g, 0, none⟩), .slice T nT cT, .int .i64 u] w fun e w' => ∃ B m c, e = .returned (.slice B m c) ∧ OwnC 1 w' w.heap.size 3 B m c (nums (seP L u fun e => hasB ts e.t)) ∧ Below w.heap.size w w' := by
  have hnm := rT.le
  unfold maxLen at hnm
  have HTN := Go.Lib.hid rT.len
  have H := Go.Lib.hid h
  have DD := Go.Lib.hid d
  have OK := Go.Lib.hid ok
  have RT := Go.Lib.hid rT
  have HS := Go.Lib.hid hs
  have e0 : seP L u (fun e => hasB (ts.take 0) e.t) = [] := se_none L u fun _ => by simp [hasB]
  have O0 := Go.Lib.hid (show OwnC 1 w w.heap.size 3 none 0 0 (nums (seP L u fun e => hasB (ts.take 0) e.t)) by rw [e0]; exact OwnC.nil _ _)
  clear h d ok rT hs e0
  go_enter Try.func76, Try.ntmps76
  go_wp2_with fail
  go_loopw [7, 12] (fun ov i wr => ∃ (C : Option Addr) (m c j : Nat), ov = .slice C m c ∧ i = .int .i64 (j : Int) ∧ j ≤ nT ∧ Hid (OwnC 1 wr w.heap.size 3 C m c (nums (seP L u fun e => hasB (ts.take j) e.t))) ∧ Below w.heap.size w wr) (fun _ i _ => nT - (intOf i).toNat)
  case atStart => exact ⟨_, _, _, 0, rfl, rfl, Nat.zero_le _, O0, Below.refl _ _⟩
  case round =>
    obtain ⟨C, m, c, j, rfl, rfl, hj, HO, hB⟩ := hrel
    clear O0
    by_cases hlt : j < nT
    · have hr := H.out.below hB
      obtain ⟨bt, ot, rfl, _, kt⟩ := RdS.at_ (RdC.below RT.out hB) (by omega)
      have yt := kt j hlt
      have hsz : (ts.getD j ByteArray.empty).size ≤ maxLen := HS.out _ (mem_getD ts j (by rw [HTN.out]; exact hlt))
      have k2 := hr.c2
      have ql := hr.look true hsz
      obtain ⟨A, n, ca, e, rd, _⟩ := (hr.co.li (some (true, ts.getD j ByteArray.empty))).rd
      rw [e] at ql
      have hl2 := DD.out.le OK.out (some (true, ts.getD j ByteArray.empty))
      have hin := DD.out.inc OK.out (some (true, ts.getD j ByteArray.empty))
      have hnl := rd.len
      have RD := Go.Lib.hid rd
      have CU := Go.Lib.hid (upTo_any rd hin (by omega) u)
      have e2 : upF u (lstD D (some (true, ts.getD j ByteArray.empty))) = upF u (typP L (ts.getD j ByteArray.empty)) := congrArg _ (DD.out.ty _)
      rw [e2] at CU
      have hst := se_types OK.out u ts (k := j) (by rw [HTN.out]; exact hlt)
      have HST := Go.Lib.hid hst
      have hin2 : Inc (upF u (typP L (ts.getD j ByteArray.empty))) := up_inc (posP_inc OK.out _) u
      have HI2 := Go.Lib.hid hin2
      have HI1 := Go.Lib.hid (se_inc OK.out u fun e => hasB (ts.take j) e.t)
      have rO := OwnC.rd HO.out
      have hm : m ≤ 1000 := by
        have := RdI.len rO
        have := se_len L u fun e => hasB (ts.take j) e.t
        have := OK.out.len
        omega
      have hn1 : n ≤ 1000 := by omega
      have RO := Go.Lib.hid rO
      have i1 : (j : Int) < nT := by omega
      clear kt hr hsz e rd hl2 hin e2 hst hin2 rO HO hnl
      generalize ts.getD j ByteArray.empty = t at *
      generalize upF u (typP L t) = lt at *
      go_wp2_with (first
        | (go_at_call 75; refine (CU.out).mono ?_; rintro e w4 ⟨m4, rfl, r4, h4, q, rfl⟩; have bq := bel_dn (Below.refl wr.heap.size wr) q)
        | (go_at_call 47; refine (either_any (RdC.below RO.out bq) (RdC.below (r4 _ RD.out) bq) HI1.out HI2.out hm (by omega)).mono ?_; rintro e w5 ⟨C5, m5, c5, rfl, o5, b5⟩))
      rw [HST.out] at o5
      have B5 := below_chain hB (bq.trans b5)
      go_roundw
      case rel => exact ⟨C5, m5, c5, j + 1, rfl, by go_num, by omega, Go.Lib.hid (own_low hB.size o5), B5⟩
      case measure => simp [intOf]; omega
    · obtain rfl : nT = j := by omega
      have i1 : ¬ (nT : Int) < nT := by omega
      have he : ts.take nT = ts := List.take_of_length_le (by rw [HTN.out]; exact Nat.le_refl _)
      rw [he] at HO
      clear he hlt
      go_wp2_with fail
      go_ret
      exact ⟨_, _, _, rfl, HO.out, hB⟩
end

end Go.Proofs.Ytiplfhmimpkplaa.PnWalk

/-
  Contracts of the landed posting, its lists a part of an index: ofTypes.
-/
namespace Go.Proofs.Ytiplfhmimpkplaa.PnWalk
open Go.RowKit Go.Maps Go.Proofs.Ytiplfhmimpkplaa.MemRow Go.Proofs.Ytiplfhmimpkplaa.Ev Go.Proofs.Ytiplfhmimpkplaa.NameMath Go.Proofs.Ytiplfhmimpkplaa.NameWalk Go.Proofs.Ytiplfhmimpkplaa.EvWalk Go.Proofs.Ytiplfhmimpkplaa.NumMem Go.Proofs.Ytiplfhmimpkplaa.SmWalk Go.Proofs.Ytiplfhmimpkplaa.NMap Go.Proofs.Ytiplfhmimpkplaa.DkWalk Go.Proofs.Ytiplfhmimpkplaa.PoWalk Go.Proofs.Ytiplfhmimpkplaa.Qu Go.Proofs.Ytiplfhmimpkplaa.QuWalk Go.Proofs.Ytiplfhmimpkplaa.InWalk

section
variable {w : World} {F G : Nat → Prop} {g : Nat} {r m0 lp : Value} {D : Dt} {mb : Option (Bool → Nat)} {M : Bool → DataW Hr} {hd : HdT} {L : Ls}
set_option maxHeartbeats 4000000 in
set_option maxRecDepth 100000 in
theorem ofTypes14_any (hx : LBx w g r m0 lp mb hd) (h : LnC w F G D mb M hd) (d : DOf D L) (ok : LOk L) {T : Option Addr} {nT cT : Nat} {ts : List ByteArray} (rT : RdS w T nT cT ts) (hs : ∀ x ∈ ts, x.size ≤ maxLen) (u : Int) :
    Calls Try.prog 76 #[.pointer (some ⟨g, 3, none⟩), .slice T nT cT, .int .i64 u] w fun e w' => ∃ B m c, e = .returned (.slice B m c) ∧ OwnC 1 w' w.heap.size 3 B m c (nums (seP L u fun e => hasB ts e.t)) ∧ Below w.heap.size w w' := by
  have hnm := rT.le
  unfold maxLen at hnm
  have HTN := Go.Lib.hid rT.len
  have H := Go.Lib.hid h
  have HX := Go.Lib.hid hx
  have DD := Go.Lib.hid d
  have OK := Go.Lib.hid ok
  have RT := Go.Lib.hid rT
  have HS := Go.Lib.hid hs
  have e0 : seP L u (fun e => hasB (ts.take 0) e.t) = [] := se_none L u fun _ => by simp [hasB]
  have O0 := Go.Lib.hid (show OwnC 1 w w.heap.size 3 none 0 0 (nums (seP L u fun e => hasB (ts.take 0) e.t)) by rw [e0]; exact OwnC.nil _ _)
  clear h hx d ok rT hs e0
  go_enter Try.func76, Try.ntmps76
  go_wp2_with fail
  go_loopw [7, 12] (fun ov i wr => ∃ (C : Option Addr) (m c j : Nat), ov = .slice C m c ∧ i = .int .i64 (j : Int) ∧ j ≤ nT ∧ Hid (OwnC 1 wr w.heap.size 3 C m c (nums (seP L u fun e => hasB (ts.take j) e.t))) ∧ Below w.heap.size w wr) (fun _ i _ => nT - (intOf i).toNat)
  case atStart => exact ⟨_, _, _, 0, rfl, rfl, Nat.zero_le _, O0, Below.refl _ _⟩
  case round =>
    obtain ⟨C, m, c, j, rfl, rfl, hj, HO, hB⟩ := hrel
    clear O0
    by_cases hlt : j < nT
    · have hr := H.out.below hB
      obtain ⟨bt, ot, rfl, _, kt⟩ := RdS.at_ (RdC.below RT.out hB) (by omega)
      have yt := kt j hlt
      have hsz : (ts.getD j ByteArray.empty).size ≤ maxLen := HS.out _ (mem_getD ts j (by rw [HTN.out]; exact hlt))
      have k2 : wr.cell? ⟨g, 5, none⟩ = some (.map (mapAt mb true)) := XBx.c5 (XBx.below HX.out hB)
      have ql := hr.look true hsz
      obtain ⟨A, n, ca, e, rd, _⟩ := (hr.co.li (some (true, ts.getD j ByteArray.empty))).rd
      rw [e] at ql
      have hl2 := DD.out.le OK.out (some (true, ts.getD j ByteArray.empty))
      have hin := DD.out.inc OK.out (some (true, ts.getD j ByteArray.empty))
      have hnl := rd.len
      have RD := Go.Lib.hid rd
      have CU := Go.Lib.hid (upTo_any rd hin (by omega) u)
      have e2 : upF u (lstD D (some (true, ts.getD j ByteArray.empty))) = upF u (typP L (ts.getD j ByteArray.empty)) := congrArg _ (DD.out.ty _)
      rw [e2] at CU
      have hst := se_types OK.out u ts (k := j) (by rw [HTN.out]; exact hlt)
      have HST := Go.Lib.hid hst
      have hin2 : Inc (upF u (typP L (ts.getD j ByteArray.empty))) := up_inc (posP_inc OK.out _) u
      have HI2 := Go.Lib.hid hin2
      have HI1 := Go.Lib.hid (se_inc OK.out u fun e => hasB (ts.take j) e.t)
      have rO := OwnC.rd HO.out
      have hm : m ≤ 1000 := by
        have := RdI.len rO
        have := se_len L u fun e => hasB (ts.take j) e.t
        have := OK.out.len
        omega
      have hn1 : n ≤ 1000 := by omega
      have RO := Go.Lib.hid rO
      have i1 : (j : Int) < nT := by omega
      clear kt hr hsz e rd hl2 hin e2 hst hin2 rO HO hnl
      generalize ts.getD j ByteArray.empty = t at *
      generalize upF u (typP L t) = lt at *
      go_wp2_with (first
        | (go_at_call 75; refine (CU.out).mono ?_; rintro e w4 ⟨m4, rfl, r4, h4, q, rfl⟩; have bq := bel_dn (Below.refl wr.heap.size wr) q)
        | (go_at_call 47; refine (either_any (RdC.below RO.out bq) (RdC.below (r4 _ RD.out) bq) HI1.out HI2.out hm (by omega)).mono ?_; rintro e w5 ⟨C5, m5, c5, rfl, o5, b5⟩))
      rw [HST.out] at o5
      have B5 := below_chain hB (bq.trans b5)
      go_roundw
      case rel => exact ⟨C5, m5, c5, j + 1, rfl, by go_num, by omega, Go.Lib.hid (own_low hB.size o5), B5⟩
      case measure => simp [intOf]; omega
    · obtain rfl : nT = j := by omega
      have i1 : ¬ (nT : Int) < nT := by omega
      have he : ts.take nT = ts := List.take_of_length_le (by rw [HTN.out]; exact Nat.le_refl _)
      rw [he] at HO
      clear he hlt
      go_wp2_with fail
      go_ret
      exact ⟨_, _, _, rfl, HO.out, hB⟩
end

end Go.Proofs.Ytiplfhmimpkplaa.PnWalk

/-
  Contracts of the landed posting: clause.
-/
namespace Go.Proofs.Ytiplfhmimpkplaa.PnWalk
open Go.RowKit Go.Maps Go.Proofs.Ytiplfhmimpkplaa.MemRow Go.Proofs.Ytiplfhmimpkplaa.Ev Go.Proofs.Ytiplfhmimpkplaa.NameMath Go.Proofs.Ytiplfhmimpkplaa.NameWalk Go.Proofs.Ytiplfhmimpkplaa.EvWalk Go.Proofs.Ytiplfhmimpkplaa.NumMem Go.Proofs.Ytiplfhmimpkplaa.SmWalk Go.Proofs.Ytiplfhmimpkplaa.NMap Go.Proofs.Ytiplfhmimpkplaa.DkWalk Go.Proofs.Ytiplfhmimpkplaa.PoWalk Go.Proofs.Ytiplfhmimpkplaa.Qu Go.Proofs.Ytiplfhmimpkplaa.QuWalk

set_option maxRecDepth 100000 in
theorem rising_info : (Try.prog.info? 69).map (fun i => (i.zero, i.size, i.bytes)) = some (some (.slice none 0 0), 1, 24) := by kernel_rfl
set_option maxRecDepth 100000 in
theorem elem_asked : Try.prog.elem 117 = 69 := by kernel_rfl
/-- The cells cs are rows that read as xs. -/
def RsC (w : World) : List (List Int) → List Value → Prop
  | [], cs => cs = []
  | x :: xs, cs => ∃ A n c cs', cs = .slice A n c :: cs' ∧ RdI w A n c x ∧ RsC w xs cs'
set_option maxRecDepth 100000 in
theorem RsC.below {w w' : World} (hb : Below w.heap.size w w') : ∀ (xs : List (List Int)) (cs : List Value), RsC w xs cs → RsC w' xs cs
  | [], _, k => k
  | _ :: xs, _, ⟨A, n, c, cs', e, r, k⟩ => ⟨A, n, c, cs', e, RdC.below r hb, RsC.below hb xs cs' k⟩
set_option maxRecDepth 100000 in
theorem RsC.snoc {w : World} {x : List Int} {A : Option Addr} {n c : Nat} (r : RdI w A n c x) : ∀ (xs : List (List Int)) (cs : List Value), RsC w xs cs → RsC w (xs ++ [x]) (cs ++ [.slice A n c])
  | [], cs, h => by
    obtain rfl : cs = [] := h
    exact ⟨A, n, c, [], rfl, r, rfl⟩
  | y :: xs, cs, ⟨A1, n1, c1, cs', hc, r1, h⟩ => by
    subst hc
    exact ⟨A1, n1, c1, cs' ++ [.slice A n c], rfl, r1, RsC.snoc r xs cs' h⟩
set_option maxRecDepth 100000 in
theorem RsC.len {w : World} : ∀ (xs : List (List Int)) (cs : List Value), RsC w xs cs → cs.length = xs.length
  | [], cs, h => by
    obtain rfl : cs = [] := h
    rfl
  | _ :: xs, _, ⟨_, _, _, cs', e, _, k⟩ => by
    subst e
    rw [List.length_cons, List.length_cons, RsC.len xs cs' k]
set_option maxRecDepth 100000 in
theorem RsC.at_ {w : World} : ∀ (xs : List (List Int)) (cs : List Value), RsC w xs cs → ∀ i, i < xs.length → ∃ A n c, cs[i]? = some (.slice A n c) ∧ RdI w A n c (xs.getD i [])
  | [], _, _, i, hi => by simp at hi
  | x :: xs, cs, ⟨A, n, c, cs', hc, r, h⟩, i, hi => by
    subst hc
    cases i with
    | zero => exact ⟨A, n, c, rfl, r⟩
    | succ i =>
      obtain ⟨A1, n1, c1, q, r1⟩ := RsC.at_ xs cs' h i (by simpa using hi)
      exact ⟨A1, n1, c1, by simpa using q, by simpa using r1⟩
set_option maxRecDepth 100000 in
theorem RsC.one {w : World} : ∀ (xs : List (List Int)) (cs : List Value), RsC w xs cs → ∀ v ∈ cs, v.oneCell' = true
  | [], cs, h => by
    obtain rfl : cs = [] := h
    simp
  | _ :: xs, cs, ⟨A, n, c, cs', hc, _, h⟩ => by
    subst hc
    intro v hv
    rcases List.mem_cons.1 hv with rfl | hv
    · rfl
    · exact RsC.one xs cs' h v hv
/-- The rows that a clause asks for, in a row of the call's own; they read as world w0 has them. -/
def AskR (w0 wr : World) (base : Nat) (A : Option Addr) (n c : Nat) (xs : List (List Int)) : Prop := ∃ cs, OwnC 1 wr base 69 A n c cs ∧ RsC w0 xs cs
set_option maxRecDepth 100000 in
theorem AskR.len {w0 wr : World} {base : Nat} {A : Option Addr} {n c : Nat} {xs : List (List Int)} (h : AskR w0 wr base A n c xs) : xs.length = n := by
  obtain ⟨cs, o, r⟩ := h
  have := OwnC.len o
  have := r.len
  omega
set_option maxRecDepth 100000 in
theorem own_far8 {k k' : Nat} {w : World} {base base' : Nat} {t t' : TypeId} {A A' : Option Addr} {n n' cap cap' : Nat} {cs cs' : List Value} (h : OwnC k w base t A n cap cs) (h' : OwnC k' w base' t' A' n' cap' cs') (ht : t ≠ t') : ∀ a, A = some a → some a.block ≠ A'.map (·.block) := by
  rintro a rfl e
  cases A' with
  | none => cases e
  | some a' =>
    simp only [Option.map_some, Option.some.injEq] at e
    rcases h.2 with ⟨hv, _⟩ | ⟨g, c, cur, hv, _, hg, _⟩
    · cases hv
    · rcases h'.2 with ⟨hv', _⟩ | ⟨g', c', cur', hv', _, hg', _⟩
      · cases hv'
      · injection hv with e1
        injection e1 with e1
        injection hv' with e2
        injection e2 with e2
        subst e1 e2
        simp only at e
        subst e
        rw [hg] at hg'
        injection hg' with hg'
        injection hg' with _ e3
        exact ht e3
def seL (L : Ls) (u : Int) (ps : List (Ev → Bool)) : List (List Int) := ps.map fun p => seP L u p
theorem seL_len (L : Ls) (u : Int) (ps : List (Ev → Bool)) : (seL L u ps).length = ps.length := by unfold seL; rw [List.length_map]
theorem seL_snoc (L : Ls) (u : Int) (ps : List (Ev → Bool)) (p : Ev → Bool) : seL L u (ps ++ [p]) = seL L u ps ++ [seP L u p] := by unfold seL; rw [List.map_append]; rfl
def tagPs (ts : List ByteArray) : List (Ev → Bool) := ts.map fun t e => hasB e.tags t
set_option maxRecDepth 100000 in
theorem tagPs_step (ts : List ByteArray) {j : Nat} (h : j < ts.length) : tagPs (ts.take (j + 1)) = tagPs (ts.take j) ++ [fun e => hasB e.tags (ts.getD j ByteArray.empty)] := by
  have e : ts.take (j + 1) = ts.take j ++ [ts.getD j ByteArray.empty] := by
    rw [List.take_add_one]
    simp [List.getD, List.getElem?_eq_getElem h]
  unfold tagPs
  rw [e, List.map_append]
  rfl
set_option maxRecDepth 100000 in
theorem seL_get {L : Ls} {u : Int} {ps : List (Ev → Bool)} {i : Nat} (h : i < ps.length) : ∃ p, (seL L u ps).getD i [] = seP L u p ∧ ps.take (i + 1) = ps.take i ++ [p] := by
  refine ⟨ps[i], ?_, ?_⟩
  · unfold seL
    simp [List.getD, List.getElem?_eq_getElem h]
  · rw [List.take_add_one]
    simp [List.getElem?_eq_getElem h]

section
variable {w : World} {F G : Nat → Prop} {g : Nat} {D : Dt} {mb : Bool → Nat} {M : Bool → DataW Hr} {hd : HdT} {L : Ls}
set_option maxHeartbeats 4000000 in
set_option maxRecDepth 100000 in
theorem clause13_any (h : LnR w F G g D mb M hd) (d : DOf D L) (ok : LOk L) {c : Cl} {T Y : Option Addr} {nT cT nY cY : Nat} (rT : RdS w T nT cT c.tags) (rY : RdS w Y nY cY c.types) (hsT : ∀ x ∈ c.tags, x.size ≤ maxLen) (hsY : ∀ x ∈ c.types, x.size ≤ maxLen) (hnT : nT ≤ 1000) (u : Int) :
    Calls Try.prog 48 #[.pointer (some ⟨g, 0, none⟩), .agg #[.slice T nT cT, .slice Y nY cY], .int .i64 u] w fun e w' => ∃ B m k, e = .returned (.slice B m k) ∧ RdI w' B m k (seP L u (clauseB c)) ∧ Below w.heap.size w w' := by
  obtain ⟨ts, ys⟩ := c
  simp only at rT rY hsT hsY
  have b1 : Below w.heap.size w (w.alloc (.cells #[.slice T nT cT, .slice Y nY cY] 57)) := (Below.refl _ _).alloc (Nat.le_refl _) _
  have x1 := heap_alloc_new w (.cells #[.slice T nT cT, .slice Y nY cY] 57)
  have hnY := rY.le
  unfold maxLen at hnY
  have s1 : (w.alloc (.cells #[.slice T nT cT, .slice Y nY cY] 57)).heap.size = w.heap.size + 1 := by simp
  have HTN := Go.Lib.hid rT.len
  have HYN := Go.Lib.hid rY.len
  have H := Go.Lib.hid (h.below b1)
  have DD := Go.Lib.hid d
  have OK := Go.Lib.hid ok
  have RT := Go.Lib.hid (RdC.below rT b1)
  have RY := Go.Lib.hid (RdC.below rY b1)
  have HST := Go.Lib.hid hsT
  have HSY := Go.Lib.hid hsY
  clear h d ok rT rY hsT hsY
  go_enter Try.func48, Try.ntmps48
  go_upto_region 1 with (fail)
  have HX := Go.Lib.hid (fun (wx : World) (b : Below (w.alloc (.cells #[.slice T nT cT, .slice Y nY cY] 57)).heap.size (w.alloc (.cells #[.slice T nT cT, .slice Y nY cY] 57)) wx) => (b.block w.heap.size (by omega)).trans x1)
  have y0 : (w.alloc (.cells #[.slice T nT cT, .slice Y nY cY] 57)).cell? ⟨w.heap.size, 0, none⟩ = some (.slice T nT cT) := by rw [cell_of_row _ _ 0 _ _ _ x1]; rfl
  have B1 := Go.Lib.hid b1
  have S1 := Go.Lib.hid s1
  clear b1 x1 s1
  generalize w.alloc (.cells #[.slice T nT cT, .slice Y nY cY] 57) = w1 at *
  have A0 := Go.Lib.hid (show AskR w1 w1 w1.heap.size none 0 0 (seL L u (tagPs (ts.take 0))) from ⟨[], OwnC.nil _ _, rfl⟩)
  go_upto_region 2 with (fail)
  go_wp2_with fail
  go_loopw [7, 16] (fun av i wr => ∃ (A : Option Addr) (n c j : Nat), av = .slice A n c ∧ i = .int .i64 (j : Int) ∧ j ≤ nT ∧ Hid (AskR w1 wr w1.heap.size A n c (seL L u (tagPs (ts.take j)))) ∧ Below w1.heap.size w1 wr) (fun _ i _ => nT - (intOf i).toNat)
  case atStart => exact ⟨none, 0, 0, 0, rfl, rfl, Nat.zero_le _, A0, Below.refl _ _⟩
  case round =>
    obtain ⟨A, n, c, j, rfl, rfl, hj, HA, hB⟩ := hrel
    clear A0 y0
    have hn : n = j := by
      rw [← HA.out.len, seL_len]
      unfold tagPs
      rw [List.length_map, List.length_take, HTN.out]
      omega
    by_cases hlt : j < nT
    · have hr := H.out.below hB
      obtain ⟨bt, ot, rfl, _, kt⟩ := RdS.at_ (RdC.below RT.out hB) (by omega)
      have yt := kt j hlt
      have hjl : j < ts.length := by rw [HTN.out]; exact hlt
      have hsz : (ts.getD j ByteArray.empty).size ≤ maxLen := HST.out _ (mem_getD ts j hjl)
      have k2 := hr.c1
      have ql := hr.look false hsz
      obtain ⟨Al, nl, cl, e, rd1, _⟩ := (H.out.co.li (some (false, ts.getD j ByteArray.empty))).rd
      rw [e] at ql
      have rd := RdC.below rd1 hB
      have hl2 := DD.out.le OK.out (some (false, ts.getD j ByteArray.empty))
      have hin := DD.out.inc OK.out (some (false, ts.getD j ByteArray.empty))
      have hnl := rd1.len
      have CU := Go.Lib.hid (upTo_any rd hin (by omega) u)
      have RD1 := Go.Lib.hid rd1
      have e2 : upF u (lstD D (some (false, ts.getD j ByteArray.empty))) = seP L u (fun e => hasB e.tags (ts.getD j ByteArray.empty)) := congrArg _ (DD.out.tg _)
      rw [e2] at CU
      have HSL := Go.Lib.hid (show seL L u (tagPs (ts.take (j + 1))) = seL L u (tagPs (ts.take j)) ++ [seP L u (fun e => hasB e.tags (ts.getD j ByteArray.empty))] by rw [tagPs_step ts hjl, seL_snoc])
      have i1 : (j : Int) < nT := by omega
      obtain ⟨cs, oc, rc⟩ := HA.out
      have RC := Go.Lib.hid rc
      have OC := Go.Lib.hid oc
      have HN := Go.Lib.hid hn
      clear kt hr hsz e rd rd1 hl2 hin e2 hnl HA hjl oc rc hn
      generalize seP L u (fun e => hasB e.tags (ts.getD j ByteArray.empty)) = sj at *
      generalize lstD D (some (false, ts.getD j ByteArray.empty)) = lj at *
      generalize ts.getD j ByteArray.empty = t at *
      generalize seL L u (tagPs (ts.take j)) = xs at *
      go_wp2_with (first
        | (go_at_call 75; refine (CU.out).mono ?_; rintro e w4 ⟨m4, rfl, r4, h4, q, rfl⟩; have B5 := bel_dn hB q; have o5 := OC.out.below (w' := wr.drewN q) (bel_dn (Below.refl _ _) q); have R4 := Go.Lib.hid (r4 _ RD1.out); clear r4 hB k2 ql yt OC CU; generalize wr.drewN q = w5 at *; have al := (Below.refl w5.heap.size w5).alloc (Nat.le_refl _) (.cells #[.slice Al m4 cl] 69); have d1 : RdC 1 (w5.alloc (.cells #[.slice Al m4 cl] 69)) (some ⟨w5.heap.size, 0, none⟩) 1 1 [.slice Al m4 cl] := RdC.new w5 69 [.slice Al m4 cl] rfl (by decide); have o6 := o5.below al)
        | (at_builtin; refine wpList_append_cells rfl (.tmp 20) (.tmp 29) 117 rfl 69 (.slice none 0 0) 24 Try.underlying117 rising_info rfl (by decide) rfl rfl o6 d1 (fun v hv => by rw [List.mem_singleton] at hv; rw [hv]; rfl) (by have := HN.out; unfold maxLen; omega) (by have := HN.out; omega) (Nat.le_trans B5.size al.size) ?_; intro A8 c8 w8 o8 g8 _; have b8 := below_grown_own o6 (B5.trans (al.mono B5.size)) g8 (Nat.le_trans B5.size al.size)))
      go_roundw
      case rel => exact ⟨A8, n + 1, c8, j + 1, rfl, by go_num, by omega, Go.Lib.hid (by rw [HSL.out]; exact ⟨_, o8, RsC.snoc R4.out _ _ RC.out⟩), b8⟩
      case measure => simp [intOf]; omega
    · obtain rfl : nT = j := by omega
      have i1 : ¬ (nT : Int) < nT := by omega
      have he : ts.take nT = ts := List.take_of_length_le (by rw [HTN.out]; exact Nat.le_refl _)
      rw [he] at HA
      have HN := Go.Lib.hid hn
      go_upto_region 7 with (fail)
      clear he hlt hn i1 hj
      have ye : wr.cell? ⟨w.heap.size, 1, none⟩ = some (.slice Y nY cY) := by rw [cell_of_row wr _ 1 _ _ _ (HX.out _ hB)]; rfl
      go_upto_if 35 with (fail)
      go_cut [7] (fun v wx => ∃ (A : Option Addr) (n c : Nat), v = .slice A n c ∧ Hid (AskR wx wx w1.heap.size A n c (seL L u (psF ⟨ts, ys⟩))) ∧ Below w1.heap.size w1 wx)
      case first =>
        obtain ⟨cs, oc, rc⟩ := HA.out
        by_cases h0 : nY = 0
        · have hy : ys = [] := List.eq_nil_of_length_eq_zero (by rw [HYN.out]; exact h0)
          have i0 : ¬ (0 : Int) < nY := by omega
          have j0 : decide (0 < nY) = false := decide_eq_false (by omega)
          have j1 : decide ((nY : Int) > 0) = false := decide_eq_false i0
          have HQ := Go.Lib.hid (show seL L u (psF ⟨ts, ys⟩) = seL L u (tagPs ts) by subst hy; unfold psF tagPs; simp)
          have RC := Go.Lib.hid (RsC.below hB _ _ rc)
          have OC := Go.Lib.hid oc
          clear hy h0 HA oc rc
          go_wp2_with fail
          go_meet
          exact ⟨A, n, c, rfl, Go.Lib.hid (by rw [HQ.out]; exact ⟨cs, OC.out, RC.out⟩), hB⟩
        · have hy : ¬ ys = [] := fun e => h0 (by rw [← HYN.out, e]; rfl)
          have i0 : (0 : Int) < nY := by omega
          have j0 : decide (0 < nY) = true := decide_eq_true (by omega)
          have j1 : decide ((nY : Int) > 0) = true := decide_eq_true i0
          have HQ := Go.Lib.hid (show seL L u (psF ⟨ts, ys⟩) = seL L u (tagPs ts) ++ [seP L u fun e => hasB ys e.t] by unfold psF; rw [if_neg hy, seL_snoc]; rfl)
          have CO := Go.Lib.hid (ofTypes_any (H.out.below hB) DD.out OK.out (RdC.below RY.out hB) HSY.out u)
          have RC := Go.Lib.hid (fun wx (b : Below w1.heap.size w1 wx) => RsC.below b _ _ rc)
          have OC := Go.Lib.hid oc
          clear hy h0 HA oc rc
          generalize seP L u (fun e => hasB ys e.t) = sj at *
          generalize seL L u (tagPs ts) = xs at *
          go_wp2_with (first
            | (go_at_call 76; refine (CO.out).mono ?_; rintro e w5 ⟨C5, m5, c5, rfl, p5, b5⟩; have B5 := below_chain hB b5; have o5 := OC.out.below b5; clear hB b5 ye OC CO; have al := (Below.refl w5.heap.size w5).alloc (Nat.le_refl _) (.cells #[.slice C5 m5 c5] 69); have d1 : RdC 1 (w5.alloc (.cells #[.slice C5 m5 c5] 69)) (some ⟨w5.heap.size, 0, none⟩) 1 1 [.slice C5 m5 c5] := RdC.new w5 69 [.slice C5 m5 c5] rfl (by decide); have o6 := o5.below al; have P6 := Go.Lib.hid (OwnC.below p5 al))
            | (at_builtin; refine wpList_append_cells rfl (.tmp 36) (.tmp 42) 117 rfl 69 (.slice none 0 0) 24 Try.underlying117 rising_info rfl (by decide) rfl rfl o6 d1 (fun v hv => by rw [List.mem_singleton] at hv; rw [hv]; rfl) (by have := HN.out; unfold maxLen; omega) (by have := HN.out; omega) (Nat.le_trans B5.size al.size) ?_; intro A8 c8 w8 o8 g8 _; have b8 := below_grown_own o6 (B5.trans (al.mono B5.size)) g8 (Nat.le_trans B5.size al.size)))
          have p8 := P6.out.grown g8 (own_far8 P6.out o6 (by decide))
          go_meet
          exact ⟨A8, n + 1, c8, rfl, Go.Lib.hid (by rw [HQ.out]; exact ⟨_, o8, RsC.snoc (OwnC.rd p8) _ _ (RC.out _ b8)⟩), b8⟩
      case rest =>
        obtain ⟨A2, n2, c2, rfl, HA2, hB2⟩ := hcut
        have hn2 : n2 = (psF ⟨ts, ys⟩).length := by rw [← HA2.out.len, seL_len]
        have hcl : seP L u (clauseB ⟨ts, ys⟩) = seP L u (conF (psF ⟨ts, ys⟩)) := by rw [con_psF]
        have BW := Go.Lib.hid (B1.out.trans (hB2.mono B1.out.size))
        clear HA ye HN
        by_cases h0 : n2 = 0
        · have hr := H.out.below hB2
          have k0 := hr.c0
          obtain ⟨Al, nl, cl, e, rd, _⟩ := (hr.co.li none).rd
          rw [e] at k0
          have hl2 := DD.out.le OK.out none
          have hin := DD.out.inc OK.out none
          have hnl := rd.len
          have hps : psF ⟨ts, ys⟩ = [] := List.eq_nil_of_length_eq_zero (by omega)
          have e2 : upF u (lstD D none) = seP L u (clauseB ⟨ts, ys⟩) := by
            rw [hcl, hps, con_none]
            exact congrArg _ DD.out.all
          have RD := Go.Lib.hid rd
          have CU := Go.Lib.hid (upTo_any rd hin (by omega) u)
          rw [e2] at CU
          have i0 : ((n2 : Int) == 0) = true := by rw [beq_iff_eq]; omega
          clear hr e rd hl2 hin hnl hps e2 hcl hn2 HA2 hB hB2 h0
          go_wp2_with (refine (CU.out).mono ?_; rintro e w4 ⟨m4, rfl, r4, h4, q, rfl⟩)
          go_ret
          exact ⟨_, _, _, rfl, RdC.drewN (r4 _ RD.out) q, bel_dn BW.out q⟩
        · obtain ⟨cs, oc, rc⟩ := HA2.out
          have oc' := OwnC.rd oc
          obtain ⟨p0, e0, t0⟩ := seL_get (L := L) (u := u) (ps := psF ⟨ts, ys⟩) (i := 0) (by omega)
          obtain ⟨A0, m0, k0, q0, r0⟩ := RsC.at_ _ _ rc 0 (by rw [seL_len]; omega)
          rw [e0] at r0
          obtain ⟨A3, q3, d3⟩ := slice_lo (P := Try.prog) 117 69 Try.underlying117 elem_asked (by kernel_rfl) oc' (m := 1) (by omega)
          obtain ⟨b2, o2, rfl, _, kc⟩ := RdC.at_ oc' (by decide) (by omega)
          have y0 : wc.cell? ⟨b2, o2, none⟩ = some (.slice A0 m0 k0) := kc 0 _ q0
          have q3 : ∀ W, (Instr.slice 117 (.slice (some ⟨b2, o2, none⟩) n2 c2) (some (.int .i64 1)) none none).run Try.prog W = .ok (.slice A3 (n2 - 1) (c2 - 1)) W := q3
          have hst : seP L u p0 = seP L u (conF ((psF ⟨ts, ys⟩).take 1)) := by rw [t0, List.take_zero, List.nil_append]; exact con_one L u p0
          rw [hst] at r0
          have R0 := Go.Lib.hid r0
          have RC := Go.Lib.hid rc
          have D3 := Go.Lib.hid d3
          have HCL := Go.Lib.hid hcl
          have HN2 := Go.Lib.hid hn2
          have i0 : ((n2 : Int) == 0) = false := by rw [beq_eq_false_iff_ne]; omega
          have i1 : (0 : Int) < n2 := by omega
          have i2 : 0 < n2 := by omega
          have hle : n2 ≤ c2 := oc'.le_cap
          have hmx : n2 ≤ 2 ^ 63 - 1 := by have := oc'.le; unfold maxLen at this; exact this
          clear oc oc' rc kc q0 e0 t0 r0 hst d3 hcl hn2 HA2 hB hB2 h0
          go_upto_region 12 with (fail)
          go_wp2_with fail
          go_loopw [10, 59] (fun ov i wr => ∃ (C : Option Addr) (m k j : Nat), ov = .slice C m k ∧ i = .int .i64 (j : Int) ∧ j ≤ n2 - 1 ∧ Hid (RdI wr C m k (seP L u (conF ((psF ⟨ts, ys⟩).take (j + 1))))) ∧ Below wc.heap.size wc wr) (fun _ i _ => n2 - 1 - (intOf i).toNat)
          case atStart => exact ⟨A0, m0, k0, 0, rfl, rfl, Nat.zero_le _, R0, Below.refl _ _⟩
          case round =>
            obtain ⟨C, m, k, j, rfl, rfl, hj, HR, hB⟩ := hrel
            clear R0 y0 q3
            by_cases hlt : j < n2 - 1
            · obtain ⟨p1, e1, t1⟩ := seL_get (L := L) (u := u) (ps := psF ⟨ts, ys⟩) (i := j + 1) (by rw [← HN2.out]; omega)
              obtain ⟨A1, m1, k1, q1, r1⟩ := RsC.at_ _ _ RC.out (j + 1) (by rw [seL_len, ← HN2.out]; omega)
              rw [e1] at r1
              obtain ⟨b3, o3, rfl, _, kc⟩ := RdC.at_ D3.out (by decide) (by omega)
              have y3 := kc j (.slice A1 m1 k1) (by rw [List.getElem?_drop, show 1 * 1 + j = j + 1 by omega]; exact q1)
              have y3 := bcell hB y3
              have hst := con_step OK.out u ((psF ⟨ts, ys⟩).take (j + 1)) p1
              rw [← t1] at hst
              have hm : m ≤ 1000 := by
                have := RdI.len HR.out
                have := se_len L u (conF ((psF ⟨ts, ys⟩).take (j + 1)))
                have := OK.out.len
                omega
              have hm1 : m1 ≤ 1000 := by
                have := RdI.len r1
                have := se_len L u p1
                have := OK.out.len
                omega
              have CB := Go.Lib.hid (both_any HR.out (RdC.below r1 hB) (se_inc OK.out u _) (se_inc OK.out u _) hm hm1)
              rw [hst] at CB
              have i3 : (j : Int) < ((n2 - 1 : Nat) : Int) := by omega
              clear e1 t1 q1 r1 kc hst hm hm1 HR
              go_wp2_with (refine (CB.out).mono ?_; rintro e w5 ⟨C5, m5, c5, rfl, o5, b5⟩)
              go_roundw
              case rel => exact ⟨C5, m5, c5, j + 1, rfl, by go_num, by omega, Go.Lib.hid (OwnC.rd o5), below_chain hB b5⟩
              case measure => simp [intOf]; omega
            · have hjn : j + 1 = n2 := by omega
              have i3 : ¬ (j : Int) < ((n2 - 1 : Nat) : Int) := by omega
              have HF := Go.Lib.hid (show seP L u (conF ((psF ⟨ts, ys⟩).take (j + 1))) = seP L u (clauseB ⟨ts, ys⟩) by rw [HCL.out, List.take_of_length_le (by rw [← HN2.out]; omega)])
              have BF := Go.Lib.hid (below_chain BW.out hB)
              clear hlt hjn hj
              go_wp2_with fail
              go_ret
              exact ⟨C, m, k, rfl, by rw [← HF.out]; exact HR.out, BF.out⟩
end

end Go.Proofs.Ytiplfhmimpkplaa.PnWalk

/-
  Contracts of the landed posting, its lists a part of an index: clause.
-/
namespace Go.Proofs.Ytiplfhmimpkplaa.PnWalk
open Go.RowKit Go.Maps Go.Proofs.Ytiplfhmimpkplaa.MemRow Go.Proofs.Ytiplfhmimpkplaa.Ev Go.Proofs.Ytiplfhmimpkplaa.NameMath Go.Proofs.Ytiplfhmimpkplaa.NameWalk Go.Proofs.Ytiplfhmimpkplaa.EvWalk Go.Proofs.Ytiplfhmimpkplaa.NumMem Go.Proofs.Ytiplfhmimpkplaa.SmWalk Go.Proofs.Ytiplfhmimpkplaa.NMap Go.Proofs.Ytiplfhmimpkplaa.DkWalk Go.Proofs.Ytiplfhmimpkplaa.PoWalk Go.Proofs.Ytiplfhmimpkplaa.Qu Go.Proofs.Ytiplfhmimpkplaa.QuWalk Go.Proofs.Ytiplfhmimpkplaa.InWalk

section
variable {w : World} {F G : Nat → Prop} {g : Nat} {r m0 lp : Value} {D : Dt} {mb : Option (Bool → Nat)} {M : Bool → DataW Hr} {hd : HdT} {L : Ls}
set_option maxHeartbeats 4000000 in
set_option maxRecDepth 100000 in
theorem clause14_any (hx : LBx w g r m0 lp mb hd) (h : LnC w F G D mb M hd) (d : DOf D L) (ok : LOk L) {c : Cl} {T Y : Option Addr} {nT cT nY cY : Nat} (rT : RdS w T nT cT c.tags) (rY : RdS w Y nY cY c.types) (hsT : ∀ x ∈ c.tags, x.size ≤ maxLen) (hsY : ∀ x ∈ c.types, x.size ≤ maxLen) (hnT : nT ≤ 1000) (u : Int) :
    Calls Try.prog 48 #[.pointer (some ⟨g, 3, none⟩), .agg #[.slice T nT cT, .slice Y nY cY], .int .i64 u] w fun e w' => ∃ B m k, e = .returned (.slice B m k) ∧ RdI w' B m k (seP L u (clauseB c)) ∧ Below w.heap.size w w' := by
  obtain ⟨ts, ys⟩ := c
  simp only at rT rY hsT hsY
  have b1 : Below w.heap.size w (w.alloc (.cells #[.slice T nT cT, .slice Y nY cY] 57)) := (Below.refl _ _).alloc (Nat.le_refl _) _
  have x1 := heap_alloc_new w (.cells #[.slice T nT cT, .slice Y nY cY] 57)
  have hnY := rY.le
  unfold maxLen at hnY
  have s1 : (w.alloc (.cells #[.slice T nT cT, .slice Y nY cY] 57)).heap.size = w.heap.size + 1 := by simp
  have HTN := Go.Lib.hid rT.len
  have HYN := Go.Lib.hid rY.len
  have H := Go.Lib.hid (h.below b1)
  have HXB := Go.Lib.hid (XBx.below hx b1)
  have DD := Go.Lib.hid d
  have OK := Go.Lib.hid ok
  have RT := Go.Lib.hid (RdC.below rT b1)
  have RY := Go.Lib.hid (RdC.below rY b1)
  have HST := Go.Lib.hid hsT
  have HSY := Go.Lib.hid hsY
  clear h hx d ok rT rY hsT hsY
  go_enter Try.func48, Try.ntmps48
  go_upto_region 1 with (fail)
  have HX := Go.Lib.hid (fun (wx : World) (b : Below (w.alloc (.cells #[.slice T nT cT, .slice Y nY cY] 57)).heap.size (w.alloc (.cells #[.slice T nT cT, .slice Y nY cY] 57)) wx) => (b.block w.heap.size (by omega)).trans x1)
  have y0 : (w.alloc (.cells #[.slice T nT cT, .slice Y nY cY] 57)).cell? ⟨w.heap.size, 0, none⟩ = some (.slice T nT cT) := by rw [cell_of_row _ _ 0 _ _ _ x1]; rfl
  have B1 := Go.Lib.hid b1
  have S1 := Go.Lib.hid s1
  clear b1 x1 s1
  generalize w.alloc (.cells #[.slice T nT cT, .slice Y nY cY] 57) = w1 at *
  have A0 := Go.Lib.hid (show AskR w1 w1 w1.heap.size none 0 0 (seL L u (tagPs (ts.take 0))) from ⟨[], OwnC.nil _ _, rfl⟩)
  go_upto_region 2 with (fail)
  go_wp2_with fail
  go_loopw [7, 16] (fun av i wr => ∃ (A : Option Addr) (n c j : Nat), av = .slice A n c ∧ i = .int .i64 (j : Int) ∧ j ≤ nT ∧ Hid (AskR w1 wr w1.heap.size A n c (seL L u (tagPs (ts.take j)))) ∧ Below w1.heap.size w1 wr) (fun _ i _ => nT - (intOf i).toNat)
  case atStart => exact ⟨none, 0, 0, 0, rfl, rfl, Nat.zero_le _, A0, Below.refl _ _⟩
  case round =>
    obtain ⟨A, n, c, j, rfl, rfl, hj, HA, hB⟩ := hrel
    clear A0 y0
    have hn : n = j := by
      rw [← HA.out.len, seL_len]
      unfold tagPs
      rw [List.length_map, List.length_take, HTN.out]
      omega
    by_cases hlt : j < nT
    · have hr := H.out.below hB
      obtain ⟨bt, ot, rfl, _, kt⟩ := RdS.at_ (RdC.below RT.out hB) (by omega)
      have yt := kt j hlt
      have hjl : j < ts.length := by rw [HTN.out]; exact hlt
      have hsz : (ts.getD j ByteArray.empty).size ≤ maxLen := HST.out _ (mem_getD ts j hjl)
      have k2 : wr.cell? ⟨g, 4, none⟩ = some (.map (mapAt mb false)) := XBx.c4 (XBx.below HXB.out hB)
      have ql := hr.look false hsz
      obtain ⟨Al, nl, cl, e, rd1, _⟩ := (H.out.co.li (some (false, ts.getD j ByteArray.empty))).rd
      rw [e] at ql
      have rd := RdC.below rd1 hB
      have hl2 := DD.out.le OK.out (some (false, ts.getD j ByteArray.empty))
      have hin := DD.out.inc OK.out (some (false, ts.getD j ByteArray.empty))
      have hnl := rd1.len
      have CU := Go.Lib.hid (upTo_any rd hin (by omega) u)
      have RD1 := Go.Lib.hid rd1
      have e2 : upF u (lstD D (some (false, ts.getD j ByteArray.empty))) = seP L u (fun e => hasB e.tags (ts.getD j ByteArray.empty)) := congrArg _ (DD.out.tg _)
      rw [e2] at CU
      have HSL := Go.Lib.hid (show seL L u (tagPs (ts.take (j + 1))) = seL L u (tagPs (ts.take j)) ++ [seP L u (fun e => hasB e.tags (ts.getD j ByteArray.empty))] by rw [tagPs_step ts hjl, seL_snoc])
      have i1 : (j : Int) < nT := by omega
      obtain ⟨cs, oc, rc⟩ := HA.out
      have RC := Go.Lib.hid rc
      have OC := Go.Lib.hid oc
      have HN := Go.Lib.hid hn
      clear kt hr hsz e rd rd1 hl2 hin e2 hnl HA hjl oc rc hn
      generalize seP L u (fun e => hasB e.tags (ts.getD j ByteArray.empty)) = sj at *
      generalize lstD D (some (false, ts.getD j ByteArray.empty)) = lj at *
      generalize ts.getD j ByteArray.empty = t at *
      generalize seL L u (tagPs (ts.take j)) = xs at *
      go_wp2_with (first
        | (go_at_call 75; refine (CU.out).mono ?_; rintro e w4 ⟨m4, rfl, r4, h4, q, rfl⟩; have B5 := bel_dn hB q; have o5 := OC.out.below (w' := wr.drewN q) (bel_dn (Below.refl _ _) q); have R4 := Go.Lib.hid (r4 _ RD1.out); clear r4 hB k2 ql yt OC CU; generalize wr.drewN q = w5 at *; have al := (Below.refl w5.heap.size w5).alloc (Nat.le_refl _) (.cells #[.slice Al m4 cl] 69); have d1 : RdC 1 (w5.alloc (.cells #[.slice Al m4 cl] 69)) (some ⟨w5.heap.size, 0, none⟩) 1 1 [.slice Al m4 cl] := RdC.new w5 69 [.slice Al m4 cl] rfl (by decide); have o6 := o5.below al)
        | (at_builtin; refine wpList_append_cells rfl (.tmp 20) (.tmp 29) 117 rfl 69 (.slice none 0 0) 24 Try.underlying117 rising_info rfl (by decide) rfl rfl o6 d1 (fun v hv => by rw [List.mem_singleton] at hv; rw [hv]; rfl) (by have := HN.out; unfold maxLen; omega) (by have := HN.out; omega) (Nat.le_trans B5.size al.size) ?_; intro A8 c8 w8 o8 g8 _; have b8 := below_grown_own o6 (B5.trans (al.mono B5.size)) g8 (Nat.le_trans B5.size al.size)))
      go_roundw
      case rel => exact ⟨A8, n + 1, c8, j + 1, rfl, by go_num, by omega, Go.Lib.hid (by rw [HSL.out]; exact ⟨_, o8, RsC.snoc R4.out _ _ RC.out⟩), b8⟩
      case measure => simp [intOf]; omega
    · obtain rfl : nT = j := by omega
      have i1 : ¬ (nT : Int) < nT := by omega
      have he : ts.take nT = ts := List.take_of_length_le (by rw [HTN.out]; exact Nat.le_refl _)
      rw [he] at HA
      have HN := Go.Lib.hid hn
      go_upto_region 7 with (fail)
      clear he hlt hn i1 hj
      have ye : wr.cell? ⟨w.heap.size, 1, none⟩ = some (.slice Y nY cY) := by rw [cell_of_row wr _ 1 _ _ _ (HX.out _ hB)]; rfl
      go_upto_if 35 with (fail)
      go_cut [7] (fun v wx => ∃ (A : Option Addr) (n c : Nat), v = .slice A n c ∧ Hid (AskR wx wx w1.heap.size A n c (seL L u (psF ⟨ts, ys⟩))) ∧ Below w1.heap.size w1 wx)
      case first =>
        obtain ⟨cs, oc, rc⟩ := HA.out
        by_cases h0 : nY = 0
        · have hy : ys = [] := List.eq_nil_of_length_eq_zero (by rw [HYN.out]; exact h0)
          have i0 : ¬ (0 : Int) < nY := by omega
          have j0 : decide (0 < nY) = false := decide_eq_false (by omega)
          have j1 : decide ((nY : Int) > 0) = false := decide_eq_false i0
          have HQ := Go.Lib.hid (show seL L u (psF ⟨ts, ys⟩) = seL L u (tagPs ts) by subst hy; unfold psF tagPs; simp)
          have RC := Go.Lib.hid (RsC.below hB _ _ rc)
          have OC := Go.Lib.hid oc
          clear hy h0 HA oc rc
          go_wp2_with fail
          go_meet
          exact ⟨A, n, c, rfl, Go.Lib.hid (by rw [HQ.out]; exact ⟨cs, OC.out, RC.out⟩), hB⟩
        · have hy : ¬ ys = [] := fun e => h0 (by rw [← HYN.out, e]; rfl)
          have i0 : (0 : Int) < nY := by omega
          have j0 : decide (0 < nY) = true := decide_eq_true (by omega)
          have j1 : decide ((nY : Int) > 0) = true := decide_eq_true i0
          have HQ := Go.Lib.hid (show seL L u (psF ⟨ts, ys⟩) = seL L u (tagPs ts) ++ [seP L u fun e => hasB ys e.t] by unfold psF; rw [if_neg hy, seL_snoc]; rfl)
          have CO := Go.Lib.hid (ofTypes14_any (XBx.below HXB.out hB) (H.out.below hB) DD.out OK.out (RdC.below RY.out hB) HSY.out u)
          have RC := Go.Lib.hid (fun wx (b : Below w1.heap.size w1 wx) => RsC.below b _ _ rc)
          have OC := Go.Lib.hid oc
          clear hy h0 HA oc rc
          generalize seP L u (fun e => hasB ys e.t) = sj at *
          generalize seL L u (tagPs ts) = xs at *
          go_wp2_with (first
            | (go_at_call 76; refine (CO.out).mono ?_; rintro e w5 ⟨C5, m5, c5, rfl, p5, b5⟩; have B5 := below_chain hB b5; have o5 := OC.out.below b5; clear hB b5 ye OC CO; have al := (Below.refl w5.heap.size w5).alloc (Nat.le_refl _) (.cells #[.slice C5 m5 c5] 69); have d1 : RdC 1 (w5.alloc (.cells #[.slice C5 m5 c5] 69)) (some ⟨w5.heap.size, 0, none⟩) 1 1 [.slice C5 m5 c5] := RdC.new w5 69 [.slice C5 m5 c5] rfl (by decide); have o6 := o5.below al; have P6 := Go.Lib.hid (OwnC.below p5 al))
            | (at_builtin; refine wpList_append_cells rfl (.tmp 36) (.tmp 42) 117 rfl 69 (.slice none 0 0) 24 Try.underlying117 rising_info rfl (by decide) rfl rfl o6 d1 (fun v hv => by rw [List.mem_singleton] at hv; rw [hv]; rfl) (by have := HN.out; unfold maxLen; omega) (by have := HN.out; omega) (Nat.le_trans B5.size al.size) ?_; intro A8 c8 w8 o8 g8 _; have b8 := below_grown_own o6 (B5.trans (al.mono B5.size)) g8 (Nat.le_trans B5.size al.size)))
          have p8 := P6.out.grown g8 (own_far8 P6.out o6 (by decide))
          go_meet
          exact ⟨A8, n + 1, c8, rfl, Go.Lib.hid (by rw [HQ.out]; exact ⟨_, o8, RsC.snoc (OwnC.rd p8) _ _ (RC.out _ b8)⟩), b8⟩
      case rest =>
        obtain ⟨A2, n2, c2, rfl, HA2, hB2⟩ := hcut
        have hn2 : n2 = (psF ⟨ts, ys⟩).length := by rw [← HA2.out.len, seL_len]
        have hcl : seP L u (clauseB ⟨ts, ys⟩) = seP L u (conF (psF ⟨ts, ys⟩)) := by rw [con_psF]
        have BW := Go.Lib.hid (B1.out.trans (hB2.mono B1.out.size))
        clear HA ye HN
        by_cases h0 : n2 = 0
        · have hr := H.out.below hB2
          have k0 := XBx.c3 (XBx.below HXB.out hB2)
          obtain ⟨Al, nl, cl, e, rd, _⟩ := (hr.co.li none).rd
          rw [e] at k0
          have hl2 := DD.out.le OK.out none
          have hin := DD.out.inc OK.out none
          have hnl := rd.len
          have hps : psF ⟨ts, ys⟩ = [] := List.eq_nil_of_length_eq_zero (by omega)
          have e2 : upF u (lstD D none) = seP L u (clauseB ⟨ts, ys⟩) := by
            rw [hcl, hps, con_none]
            exact congrArg _ DD.out.all
          have RD := Go.Lib.hid rd
          have CU := Go.Lib.hid (upTo_any rd hin (by omega) u)
          rw [e2] at CU
          have i0 : ((n2 : Int) == 0) = true := by rw [beq_iff_eq]; omega
          clear hr e rd hl2 hin hnl hps e2 hcl hn2 HA2 hB hB2 h0
          go_wp2_with (refine (CU.out).mono ?_; rintro e w4 ⟨m4, rfl, r4, h4, q, rfl⟩)
          go_ret
          exact ⟨_, _, _, rfl, RdC.drewN (r4 _ RD.out) q, bel_dn BW.out q⟩
        · obtain ⟨cs, oc, rc⟩ := HA2.out
          have oc' := OwnC.rd oc
          obtain ⟨p0, e0, t0⟩ := seL_get (L := L) (u := u) (ps := psF ⟨ts, ys⟩) (i := 0) (by omega)
          obtain ⟨A0, m0, k0, q0, r0⟩ := RsC.at_ _ _ rc 0 (by rw [seL_len]; omega)
          rw [e0] at r0
          obtain ⟨A3, q3, d3⟩ := slice_lo (P := Try.prog) 117 69 Try.underlying117 elem_asked (by kernel_rfl) oc' (m := 1) (by omega)
          obtain ⟨b2, o2, rfl, _, kc⟩ := RdC.at_ oc' (by decide) (by omega)
          have y0 : wc.cell? ⟨b2, o2, none⟩ = some (.slice A0 m0 k0) := kc 0 _ q0
          have q3 : ∀ W, (Instr.slice 117 (.slice (some ⟨b2, o2, none⟩) n2 c2) (some (.int .i64 1)) none none).run Try.prog W = .ok (.slice A3 (n2 - 1) (c2 - 1)) W := q3
          have hst : seP L u p0 = seP L u (conF ((psF ⟨ts, ys⟩).take 1)) := by rw [t0, List.take_zero, List.nil_append]; exact con_one L u p0
          rw [hst] at r0
          have R0 := Go.Lib.hid r0
          have RC := Go.Lib.hid rc
          have D3 := Go.Lib.hid d3
          have HCL := Go.Lib.hid hcl
          have HN2 := Go.Lib.hid hn2
          have i0 : ((n2 : Int) == 0) = false := by rw [beq_eq_false_iff_ne]; omega
          have i1 : (0 : Int) < n2 := by omega
          have i2 : 0 < n2 := by omega
          have hle : n2 ≤ c2 := oc'.le_cap
          have hmx : n2 ≤ 2 ^ 63 - 1 := by have := oc'.le; unfold maxLen at this; exact this
          clear oc oc' rc kc q0 e0 t0 r0 hst d3 hcl hn2 HA2 hB hB2 h0
          go_upto_region 12 with (fail)
          go_wp2_with fail
          go_loopw [10, 59] (fun ov i wr => ∃ (C : Option Addr) (m k j : Nat), ov = .slice C m k ∧ i = .int .i64 (j : Int) ∧ j ≤ n2 - 1 ∧ Hid (RdI wr C m k (seP L u (conF ((psF ⟨ts, ys⟩).take (j + 1))))) ∧ Below wc.heap.size wc wr) (fun _ i _ => n2 - 1 - (intOf i).toNat)
          case atStart => exact ⟨A0, m0, k0, 0, rfl, rfl, Nat.zero_le _, R0, Below.refl _ _⟩
          case round =>
            obtain ⟨C, m, k, j, rfl, rfl, hj, HR, hB⟩ := hrel
            clear R0 y0 q3
            by_cases hlt : j < n2 - 1
            · obtain ⟨p1, e1, t1⟩ := seL_get (L := L) (u := u) (ps := psF ⟨ts, ys⟩) (i := j + 1) (by rw [← HN2.out]; omega)
              obtain ⟨A1, m1, k1, q1, r1⟩ := RsC.at_ _ _ RC.out (j + 1) (by rw [seL_len, ← HN2.out]; omega)
              rw [e1] at r1
              obtain ⟨b3, o3, rfl, _, kc⟩ := RdC.at_ D3.out (by decide) (by omega)
              have y3 := kc j (.slice A1 m1 k1) (by rw [List.getElem?_drop, show 1 * 1 + j = j + 1 by omega]; exact q1)
              have y3 := bcell hB y3
              have hst := con_step OK.out u ((psF ⟨ts, ys⟩).take (j + 1)) p1
              rw [← t1] at hst
              have hm : m ≤ 1000 := by
                have := RdI.len HR.out
                have := se_len L u (conF ((psF ⟨ts, ys⟩).take (j + 1)))
                have := OK.out.len
                omega
              have hm1 : m1 ≤ 1000 := by
                have := RdI.len r1
                have := se_len L u p1
                have := OK.out.len
                omega
              have CB := Go.Lib.hid (both_any HR.out (RdC.below r1 hB) (se_inc OK.out u _) (se_inc OK.out u _) hm hm1)
              rw [hst] at CB
              have i3 : (j : Int) < ((n2 - 1 : Nat) : Int) := by omega
              clear e1 t1 q1 r1 kc hst hm hm1 HR
              go_wp2_with (refine (CB.out).mono ?_; rintro e w5 ⟨C5, m5, c5, rfl, o5, b5⟩)
              go_roundw
              case rel => exact ⟨C5, m5, c5, j + 1, rfl, by go_num, by omega, Go.Lib.hid (OwnC.rd o5), below_chain hB b5⟩
              case measure => simp [intOf]; omega
            · have hjn : j + 1 = n2 := by omega
              have i3 : ¬ (j : Int) < ((n2 - 1 : Nat) : Int) := by omega
              have HF := Go.Lib.hid (show seP L u (conF ((psF ⟨ts, ys⟩).take (j + 1))) = seP L u (clauseB ⟨ts, ys⟩) by rw [HCL.out, List.take_of_length_le (by rw [← HN2.out]; omega)])
              have BF := Go.Lib.hid (below_chain BW.out hB)
              clear hlt hjn hj
              go_wp2_with fail
              go_ret
              exact ⟨C, m, k, rfl, by rw [← HF.out]; exact HR.out, BF.out⟩
end

end Go.Proofs.Ytiplfhmimpkplaa.PnWalk

/-
  Contracts of the landed posting, its lists a part of an index: Find.
-/
namespace Go.Proofs.Ytiplfhmimpkplaa.PnWalk
open Go.RowKit Go.Maps Go.Proofs.Ytiplfhmimpkplaa.MemRow Go.Proofs.Ytiplfhmimpkplaa.Ev Go.Proofs.Ytiplfhmimpkplaa.NameMath Go.Proofs.Ytiplfhmimpkplaa.NameWalk Go.Proofs.Ytiplfhmimpkplaa.EvWalk Go.Proofs.Ytiplfhmimpkplaa.NumMem Go.Proofs.Ytiplfhmimpkplaa.SmWalk Go.Proofs.Ytiplfhmimpkplaa.NMap Go.Proofs.Ytiplfhmimpkplaa.DkWalk Go.Proofs.Ytiplfhmimpkplaa.PoWalk Go.Proofs.Ytiplfhmimpkplaa.Qu Go.Proofs.Ytiplfhmimpkplaa.QuWalk Go.Proofs.Ytiplfhmimpkplaa.InWalk

section
variable {w : World} {F G : Nat → Prop} {g : Nat} {r m0 lp : Value} {D : Dt} {mb : Option (Bool → Nat)} {M : Bool → DataW Hr} {hd : HdT} {L : Ls}
set_option maxHeartbeats 4000000 in
set_option maxRecDepth 100000 in
theorem find14_any (hx : LBx w g r m0 lp mb hd) (h : LnC w F G D mb M hd) (d : DOf D L) (ok : LOk L) {v : Value} {q : List Cl} (hq : IsQ w v q) (hok : QOk q) (hc8 : ∀ c ∈ q, c.tags.length ≤ 8 ∧ c.types.length ≤ 8) (u : Int) :
    Calls Try.prog 31 #[.pointer (some ⟨g, 3, none⟩), v, .int .i64 u] w fun e w' => ∃ B m c, e = .returned (.slice B m c) ∧ OwnC 1 w' w.heap.size 3 B m c (nums (findP L q u)) ∧ Below w.heap.size w w' := by
  obtain ⟨Aq, nq, cq, rfl, rq⟩ := hq
  have b1 : Below w.heap.size w (w.alloc (.cells #[.slice Aq nq cq] 25)) := (Below.refl _ _).alloc (Nat.le_refl _) _
  have x1 := heap_alloc_new w (.cells #[.slice Aq nq cq] 25)
  have hnq := rq.le
  unfold maxLen at hnq
  have HQN := Go.Lib.hid rq.len
  have H := Go.Lib.hid (h.below b1)
  have HX := Go.Lib.hid (XBx.below hx b1)
  have DD := Go.Lib.hid d
  have OK := Go.Lib.hid ok
  have RQ := Go.Lib.hid (rq.below b1)
  have HOK := Go.Lib.hid hok
  have HC8 := Go.Lib.hid hc8
  clear h hx d ok rq hok hc8
  go_enter Try.func31, Try.ntmps31
  go_upto_region 1 with (fail)
  have y0 : (w.alloc (.cells #[.slice Aq nq cq] 25)).cell? ⟨w.heap.size, 0, none⟩ = some (.slice Aq nq cq) := by rw [cell_of_row _ _ 0 _ _ _ x1]; rfl
  have B1 := Go.Lib.hid b1
  clear b1 x1
  generalize w.alloc (.cells #[.slice Aq nq cq] 25) = w1 at *
  have O0 := Go.Lib.hid (show OwnC 1 w1 w1.heap.size 3 none 0 0 (nums (findP L (q.take 0) u)) by rw [List.take_zero, find_zero]; exact OwnC.nil _ _)
  go_upto_region 2 with (fail)
  go_wp2_with fail
  go_loopw [7, 13] (fun ov i wr => ∃ (C : Option Addr) (m c j : Nat), ov = .slice C m c ∧ i = .int .i64 (j : Int) ∧ j ≤ nq ∧ Hid (OwnC 1 wr w1.heap.size 3 C m c (nums (findP L (q.take j) u))) ∧ Below w1.heap.size w1 wr) (fun _ i _ => nq - (intOf i).toNat)
  case atStart => exact ⟨none, 0, 0, 0, rfl, rfl, Nat.zero_le _, O0, Below.refl _ _⟩
  case round =>
    obtain ⟨C, m, c, j, rfl, rfl, hj, HO, hB⟩ := hrel
    clear O0 y0
    by_cases hlt : j < nq
    · obtain ⟨ba, oa, rfl, _, ka⟩ := (RQ.out.below hB).at_ (by omega)
      obtain ⟨T, nT, cT, Y, nY, cY, x0, x1, rT, rY⟩ := ka j hlt
      have hjl : j < q.length := by rw [HQN.out]; exact hlt
      have hmem : q.getD j noCl ∈ q := cl_get hjl
      have hst := find_clause OK.out u q hjl
      have b5 : Below wr.heap.size wr (wr.alloc (.cells #[.slice T nT cT, .slice Y nY cY] 57)) := (Below.refl _ _).alloc (Nat.le_refl _) _
      have hnT : nT ≤ 1000 := by
        have := rT.len
        have := (HC8.out _ hmem).1
        omega
      have CC := Go.Lib.hid (clause14_any (XBx.below (XBx.below HX.out hB) b5) ((H.out.below hB).below b5) DD.out OK.out (RdC.below rT b5) (RdC.below rY b5) (HOK.out _ hmem).tags (HOK.out _ hmem).types hnT u)
      have B5 := below_chain hB b5
      have o5 := Go.Lib.hid (OwnC.below HO.out b5)
      have hm : m ≤ 1000 := by
        have := RdI.len (OwnC.rd HO.out)
        have := find_len L (q.take j) u
        have := OK.out.len
        omega
      have HI1 := Go.Lib.hid (find_inc OK.out (q.take j) u)
      have HI2 := Go.Lib.hid (se_inc OK.out u (clauseB (q.getD j noCl)))
      have HLN := Go.Lib.hid (show (seP L u (clauseB (q.getD j noCl))).length ≤ 1000 by have := se_len L u (clauseB (q.getD j noCl)); have := OK.out.len; omega)
      have HST := Go.Lib.hid hst
      have i1 : (j : Int) < nq := by omega
      clear ka rT rY hjl hmem hst hnT b5 HO
      generalize seP L u (clauseB (q.getD j noCl)) = sj at *
      generalize findP L (q.take j) u = fj at *
      go_wp2_with (first
        | (go_at_call 48; refine (CC.out).mono ?_; rintro e w6 ⟨C6, m6, c6, rfl, r6, b6⟩; have B6 := below_chain B5 b6; have o6 := OwnC.below o5.out b6; have h6 : m6 ≤ 1000 := by rw [← RdI.len r6]; exact HLN.out)
        | (go_at_call 47; refine (either_any (OwnC.rd o6) r6 HI1.out HI2.out hm h6).mono ?_; rintro e w7 ⟨C7, m7, c7, rfl, o7, b7⟩))
      rw [HST.out] at o7
      have B7 := below_chain B6 b7
      go_roundw
      case rel => exact ⟨C7, m7, c7, j + 1, rfl, by go_num, by omega, Go.Lib.hid (own_low B6.size o7), B7⟩
      case measure => simp [intOf]; omega
    · obtain rfl : nq = j := by omega
      have i1 : ¬ (nq : Int) < nq := by omega
      have he : q.take nq = q := List.take_of_length_le (by rw [HQN.out]; exact Nat.le_refl _)
      rw [he] at HO
      have BF := Go.Lib.hid (B1.out.trans (hB.mono B1.out.size))
      clear he hlt hj
      go_wp2_with fail
      go_ret
      exact ⟨_, _, _, rfl, own_low B1.out.size HO.out, BF.out⟩
end

end Go.Proofs.Ytiplfhmimpkplaa.PnWalk

/-
  Contracts of the landed posting: shared, sharedAll, Clone.
-/
namespace Go.Proofs.Ytiplfhmimpkplaa.PnWalk
open Go.RowKit Go.Maps Go.Proofs.Ytiplfhmimpkplaa.MemRow Go.Proofs.Ytiplfhmimpkplaa.Ev Go.Proofs.Ytiplfhmimpkplaa.NameMath Go.Proofs.Ytiplfhmimpkplaa.NameWalk Go.Proofs.Ytiplfhmimpkplaa.EvWalk Go.Proofs.Ytiplfhmimpkplaa.NumMem Go.Proofs.Ytiplfhmimpkplaa.SmWalk Go.Proofs.Ytiplfhmimpkplaa.NMap Go.Proofs.Ytiplfhmimpkplaa.DkWalk Go.Proofs.Ytiplfhmimpkplaa.PoWalk Go.Proofs.Ytiplfhmimpkplaa.Qu Go.Proofs.Ytiplfhmimpkplaa.QuWalk

/-- A list without room. -/
def fullO : Option Hr → Option Hr
  | some h => some ⟨h.b, h.n, h.n⟩
  | none => none
set_option maxRecDepth 100000 in
/-- v[:n:n] -/
theorem slice_fullR (A : Option Addr) (n c : Nat) (hc : n ≤ c) (hA : A = none → n = 0) (h0 : ∀ a, A = some a → a = ⟨a.block, 0, none⟩) (W : World) : (Instr.slice 69 (.slice A n c) none (some (.int .i64 (n : Int))) (some (.int .i64 (n : Int)))).run Try.prog W = .ok (.slice A n n) W := by
  have hu : Try.prog.underlying 69 = some (.slice (Try.prog.elem 69)) := by rw [elem_rising]; exact Try.underlying69
  rw [run_slice_hm (P := Try.prog) W 69 _ n c hu .i64 .i64 (n : Int) (n : Int) (by omega) (by omega) (by omega), elem_rising, run_size (k := 1) (by kernel_rfl)]
  simp only [Result.andThen, sliced, Int.toNat_natCast, Nat.zero_mul, Nat.sub_zero]
  cases A with
  | none => simp
  | some a =>
    have e := h0 a rfl
    rw [e]
    simp only [Option.map_some, Addr.add]
    congr 2
    split <;> rfl
set_option maxRecDepth 100000 in
theorem shared_any {w : World} {F G : Nat → Prop} {old : Option Hr} {l : List Int} (h : OldL w F G old l) (W : World) :
    Calls Try.prog 60 #[mkL old] W fun e w' => e = .returned (mkL (fullO old)) ∧ w' = W := by
  rcases h with ⟨⟨hb, hn, hc⟩, rfl, r⟩ | ⟨rfl, rfl⟩
  · have hs := slice_fullR (some ⟨hb, 0, none⟩) hn hc r.le (fun e => by cases e) (fun a e => by injection e with e; rw [← e])
    clear r
    change Calls Try.prog 60 #[.slice (some ⟨hb, 0, none⟩) hn hc] W _
    go_enter Try.func60, Try.ntmps60
    go_wp2_with fail
    go_ret
    exact ⟨rfl, rfl⟩
  · have hs := slice_fullR none 0 0 (Nat.le_refl _) (fun _ => rfl) (fun a e => by cases e)
    change Calls Try.prog 60 #[.slice none 0 0] W _
    have hs : ∀ W, (Instr.slice 69 (.slice none 0 0) none (some (.int .i64 0)) (some (.int .i64 0))).run Try.prog W = .ok (.slice none 0 0) W := hs
    go_enter Try.func60, Try.ntmps60
    go_wp2_with fail
    go_ret
    exact ⟨rfl, rfl⟩

/-- A map that is being made. -/
structure CmR (w : World) (m2 : Nat) (ns : List ByteArray) (M : DataW Hr) (f : ByteArray → Hr) : Prop where
  own : w.ownsMap Try.prog 9 slR m2 (Maps.size M) M
  nm : NOf M ns f
theorem CmR.grown {w w' : World} {m2 : Nat} {ns : List ByteArray} {M : DataW Hr} {f : ByteArray → Hr} {row : Option Nat} (h : CmR w m2 ns M f) (hg : w.grownBy w' row) (h2 : some m2 ≠ row) : CmR w' m2 ns M f := ⟨h.own.kept hg h2, h.nm⟩
set_option maxRecDepth 100000 in
theorem CmR.lt {w : World} {m2 : Nat} {ns : List ByteArray} {M : DataW Hr} {f : ByteArray → Hr} (h : CmR w m2 ns M f) : m2 < w.heap.size := by
  obtain ⟨es, clock, hb, _⟩ := h.own
  exact (Array.getElem?_eq_some_iff.1 hb).1
section
variable {w : World} {F G : Nat → Prop} {g : Nat} {D : Dt} {mb : Bool → Nat} {M : Bool → DataW Hr} {hd : HdT} {L : Ls}
set_option maxHeartbeats 8000000 in
set_option maxRecDepth 100000 in
theorem sharedAll_any (h : LnR w F G g D mb M hd) (b : Bool) (hl : (D.t b).length ≤ 1000000) :
    Calls Try.prog 61 #[.map (some (mb b))] w fun e w' => ∃ m2 M2, e = .returned (.map (some m2)) ∧ w.heap.size ≤ m2 ∧ CmR w' m2 (namesT (D.t b)) M2 (fun s => hv (fullO (hd (some (b, s))))) ∧ Below w.heap.size w w' := by
  have hsz := h.size b
  have hns := namesT_len (D.t b)
  have ql : ∀ ty, (Builtin.len_ #[70] ty #[.map (some (mb b))]).run Try.prog w = .ok (.int .i64 (Maps.size (M b) : Nat)) w := fun ty => (h.own b).len Try.underlying70 ty
  have hmm := run_makeHintN (P := Try.prog) (t := 70) Try.underlying70
  have b1 := (Below.refl w.heap.size w).alloc (Nat.le_refl _) (.map #[] 0)
  have H := Go.Lib.hid h
  have HSZ := Go.Lib.hid hsz
  have h1 := h.below b1
  have C1 := Go.Lib.hid (show CmR (w.alloc (.map #[] 0)) w.heap.size [] (.map []) (fun s => hv (fullO (hd (some (b, s))))) from ⟨World.ownsMap_made w Try.prog 9 slR, NOf.empty _⟩)
  have s1 : (w.alloc (.map #[] 0)).heap.size = w.heap.size + 1 := by simp
  clear h hsz
  go_enter Try.func61, Try.ntmps61
  go_upto_region 2 with (fail)
  generalize w.alloc (.map #[] 0) = w3 at *
  have hown := h1.own b
  have NM := h1.nm b
  have BB := Go.Lib.hid b1
  have SS := Go.Lib.hid s1
  have H1 := Go.Lib.hid h1
  clear h1 b1 s1 ql hmm
  go_wp2_with (at_range; refine wpList_range_own _ rfl _ 70 rfl 9 69 keyedN Try.underlying70 slR (mb b) (Maps.size (M b)) (M b) rfl hown ?_; intro w4 hrg4 hg4 hs4)
  go_frame
  go_loopw [4, 5] (fun _ _ wr => ∃ (left : Lit → Bool) (cnt : Nat) (Mc : DataW Hr), wr.ranges Try.prog 9 slR (mb b) w3.heap.size (Maps.size (M b)) (M b) left cnt ∧ Hid (CmR wr w.heap.size (cameN left (namesT (D.t b))) Mc (fun s => hv (fullO (hd (some (b, s)))))) ∧ Below w.heap.size w wr) (fun _ _ wr => wr.rangeLeft (mb b) w3.heap.size)
  case atStart =>
    have hb4 := grown_below hg4
    have hl : ∀ s ∈ namesT (D.t b), has (M b) (keyN s) = true := fun s hs => NM.yes hs
    refine ⟨_, _, .map [], hrg4, Go.Lib.hid ?_, below_chain BB.out hb4⟩
    rw [cameN_start hl]
    exact C1.out.grown hg4 (by simp)
  case round =>
    obtain ⟨left, cnt, Mc, hrg, HA, hb⟩ := hrel
    clear hrg4 hg4 hs4
    go_wp2_with (at_next; refine wpList_next_ns _ slR mkL mkL_inv valL slR_held rfl _ rfl NM (mb b) w3.heap.size (Maps.size (M b)) _ _ rfl hrg ?_ ?_)
    · intro hc0 hl0
      have ha := HA.out
      rw [cameN_end _ hl0] at ha
      have HR := Go.Lib.hid ha
      clear ha HA hrg
      go_wp2_with fail
      go_ret
      exact ⟨_, _, rfl, Nat.le_refl _, HR.out, hb⟩
    · intro s hs w5 cnt5 hlk hss hrg5 hlt5 hg5 hs5 hen
      have s3 := SS.out
      have h5 := HA.out.grown hg5 (by rw [s3]; simp)
      have b5 : Below w.heap.size w w5 := hb.grown hg5 hb.size (fun r e => by injection e with e; omega)
      have hcn : (cameN left (namesT (D.t b))).length ≤ (namesT (D.t b)).length := List.length_filter_le _ _
      have hmx : Maps.size Mc < maxLen := by
        rw [h5.nm.size (h5.own.canon keyedN) ((up_nodupN (namesT_up (D.t b))).sublist (List.filter_sublist (p := fun s => !left (keyN s))))]
        unfold maxLen
        omega
      have hkey := keyN_of hss
      obtain ⟨x, ex⟩ := H.out.co.has hs
      have cs := shared_any (H.out.co.li (some (b, s))) w5
      rw [ex] at cs
      have ev : valL (hv (hd (some (b, s)))) = .slice (some ⟨x.b, 0, none⟩) x.n x.c := by rw [ex]; rfl
      have fx : hv (fullO (hd (some (b, s)))) = ⟨x.b, x.n, x.n⟩ := by rw [ex]; rfl
      rw [ev] at hen ⊢
      have CS := Go.Lib.hid (show Calls Try.prog 60 #[.slice (some ⟨x.b, 0, none⟩) x.n x.c] w5 fun e w' => e = .returned (.slice (some ⟨x.b, 0, none⟩) x.n x.n) ∧ w' = w5 from cs)
      have own5 := h5.own
      have HRG := Go.Lib.hid hrg5
      have HLEFT := hrg.left_eq
      have nm5 := h5.nm.put (isMapN h5.own) (s := s) (ns' := cameN (cutN left s) (namesT (D.t b))) (h' := fun s => hv (fullO (hd (some (b, s))))) (cameN_step hs) (fun _ _ => rfl)
      simp only [fx] at nm5
      have NM5 := Go.Lib.hid nm5
      have HG := Go.Lib.hid (H.out.mlt b)
      have hsr := slR_some (⟨x.b, x.n, x.n⟩ : Hr)
      clear hcn hb HA hg5 hs5 hrg hrg5 ex fx h5 cs ev nm5 NM s3
      go_wp2_with (first
        | (go_at_call 60; refine (CS.out).mono ?_; rintro e w6 ⟨rfl, rfl⟩)
        | (at_mapUpdate; refine wpList_mapUpdate_own _ rfl _ _ _ 70 rfl 9 69 keyedN Try.underlying70 slR w.heap.size (Maps.size Mc) Mc rfl own5 hmx _ _ _ rfl rfl hkey _ [] hsr ?_; intro w8 ho8 hg8))
      have z5 := b5.size
      have hmb := HG.out
      have s3 := SS.out
      have b8 : Below w.heap.size w w8 := b5.grown hg8 b5.size (fun j e => by injection e with e; omega)
      have hrg8 := HRG.out.kept hg8 (fun e => by injection e with e; omega) (fun e => by injection e with e; omega)
      go_roundw
      case rel => exact ⟨_, _, _, _, _, _, _, _, _, _, _, ⟨_, cnt5, _, hrg8, Go.Lib.hid ⟨tightN ho8, NM5.out⟩, b8⟩, rfl⟩
      case measure => rw [hrg8.left_eq, HLEFT]; exact hlt5
set_option maxRecDepth 100000 in
theorem LiR.full {w' : World} {F' G' : Nat → Prop} {h : Hr} {l : List Int} (r : LiR w F G h l) (hk : w'.heap[h.b]? = w.heap[h.b]?) (hG : G' h.b) : LiR w' F' G' ⟨h.b, h.n, h.n⟩ l := by
  obtain ⟨cur, e1, e2, e3⟩ := r.ex
  have := r.le
  have := r.cap
  exact ⟨⟨cur, hk.trans e1, by simp only; omega, e3⟩, r.len, r.pos, Nat.le_refl _, by simp only; omega, fun hx => absurd hx (Nat.lt_irrefl _), hG⟩
set_option maxRecDepth 100000 in
theorem OldL.full {old : Option Hr} {l : List Int} (h : OldL w F G old l) : ∃ A n c, mkL old = .slice A n c ∧ mkL (fullO old) = .slice A n n := by
  rcases h with ⟨y, rfl, r⟩ | ⟨rfl, rfl⟩
  · exact ⟨_, _, _, rfl, rfl⟩
  · exact ⟨none, 0, 0, rfl, rfl⟩
set_option maxRecDepth 100000 in
theorem full_room {old : Option Hr} {h : Hr} (e : fullO old = some h) : ¬ h.n < h.c := by
  cases old with
  | none => cases e
  | some x =>
    injection e with e
    subst e
    exact Nat.lt_irrefl _
set_option maxHeartbeats 8000000 in
set_option maxRecDepth 100000 in
theorem clone13_any (h : LnR w F G g D mb M hd) (hl : ∀ b, (D.t b).length ≤ 1000000) :
    Calls Try.prog 41 #[.pointer (some ⟨g, 0, none⟩)] w fun e w' => ∃ g', e = .returned (.pointer (some ⟨g', 0, none⟩)) ∧ Below w.heap.size w w' ∧
      ∃ mb2 M2, LnR w' (fun k => w.heap.size ≤ k ∧ k < w'.heap.size) (up G w w') g' D mb2 M2 (fun k => fullO (hd k)) := by
  have bd : Below w.heap.size w w.drew := ⟨rfl, rfl, rfl, Nat.le_refl _, fun _ _ => rfl⟩
  have k0 : w.drew.cell? ⟨g, 0, none⟩ = some (mkL (hd none)) := h.c0
  have k1 : w.drew.cell? ⟨g, 1, none⟩ = some (.map (some (mb false))) := h.c1
  have k2 : w.drew.cell? ⟨g, 2, none⟩ = some (.map (some (mb true))) := h.c2
  obtain ⟨A, n, c, eA, eF⟩ := (h.co.li none).full
  have cs := shared_any (h.co.li none)
  rw [eA, eF] at cs
  rw [eA] at k0
  have CS := Go.Lib.hid cs
  have CM1 := Go.Lib.hid (fun W (b : Below w.heap.size w W) => sharedAll_any (h.below b) false (hl false))
  have CM2 := Go.Lib.hid (fun W (b : Below w.heap.size w W) => sharedAll_any (h.below b) true (hl true))
  have H := Go.Lib.hid h
  have HL := Go.Lib.hid hl
  have BD := Go.Lib.hid bd
  have EF := Go.Lib.hid eF
  clear h hl bd cs eA eF
  generalize mb false = m1 at k1 CM1
  generalize mb true = m2 at k2 CM2
  go_enter Try.func41, Try.ntmps41
  go_upto_region 1 with (fail)
  go_region_held (fun w' => w'.cell? ⟨g, 0, none⟩ = some (.slice A n c) ∧ w'.cell? ⟨g, 1, none⟩ = some (.map (some m1)) ∧ w'.cell? ⟨g, 2, none⟩ = some (.map (some m2)))
    (first | exact ⟨k0, k1, k2⟩ | exact ⟨y0, y1, y2⟩ | exact ⟨q0, q1, q2⟩ | exact ⟨z0, z1, z2⟩)
    (first
      | (go_at_call 60; refine (CS.out _).mono ?_; rintro e w3 ⟨rfl, rfl⟩)
      | (go_at_call 61; refine (CM2.out _ (below_chain BD.out b4)).mono ?_; rintro e w5 ⟨m5, M5, rfl, l5, c5, b5⟩; have z0 := bcell b5 y0; have z1 := bcell b5 y1; have z2 := bcell b5 y2; have al := (Below.refl w5.heap.size w5).alloc (Nat.le_refl _) (.cells #[.slice A n n, .map (some m4), .map (some m5)] 72); have q0 := bcell al z0; have q1 := bcell al z1; have q2 := bcell al z2; have AL := Go.Lib.hid al; clear al; have HM5 := Go.Lib.hid (And.intro l5 c5); clear l5 c5)
      | (go_at_call 61; refine (CM1.out _ BD.out).mono ?_; rintro e w4 ⟨m4, M4, rfl, l4, c4, b4⟩; have y0 := bcell b4 k0; have y1 := bcell b4 k1; have y2 := bcell b4 k2; have HM4 := Go.Lib.hid (And.intro l4 c4); clear l4 c4))
  go_wp2_with fail
  go_ret
  obtain ⟨l4, c4⟩ := HM4.out
  obtain ⟨l5, c5⟩ := HM5.out
  have l4 : w.heap.size ≤ m4 := l4
  have bx := heap_alloc_new w5 (.cells #[.slice A n n, .map (some m4), .map (some m5)] 72)
  have s6 : (w5.alloc (.cells #[.slice A n n, .map (some m4), .map (some m5)] 72)).heap.size = w5.heap.size + 1 := by simp
  have B6 := below_chain (below_chain (below_chain BD.out b4) b5) AL.out
  have z4 : w.heap.size ≤ w4.heap.size := b4.size
  have z5 := b5.size
  have t4 := c4.lt
  have t5 := c5.lt
  have gr : ∀ {u v : World}, Below u.heap.size u v → u.grownBy v none := fun b => ⟨b.os, b.tape, b.output, b.size, fun j hj _ => b.block j hj⟩
  have d4 := (c4.grown (gr b5) (by simp)).grown (gr AL.out) (by simp)
  have d5 := c5.grown (gr AL.out) (by simp)
  have h6 := H.out.below B6
  generalize w5.alloc (.cells #[.slice A n n, .map (some m4), .map (some m5)] 72) = w6 at *
  refine ⟨w5.heap.size, rfl, B6, fun b => if b then m5 else m4, fun b => if b then M5 else M4, ⟨?_, fun b => ?_, fun b => ?_, ⟨fun k => ?_, fun k k' h h' _ e _ hsp => absurd hsp (full_room e)⟩, fun b c e => ?_, ⟨by omega, by omega⟩, fun b => ?_, fun k hk => .inr hk, fun k hk => up_lt H.out.lt B6.size hk⟩⟩
  · rw [EF.out]
    exact bx
  · cases b
    · exact d4.own
    · exact d5.own
  · cases b
    · exact d4.nm
    · exact d5.nm
  · rcases h6.co.li k with ⟨y, e, r⟩ | ⟨e, hn⟩
    · exact .inl ⟨⟨y.b, y.n, y.n⟩, by rw [e]; rfl, r.full rfl (.inl r.gb)⟩
    · exact .inr ⟨by rw [e]; rfl, hn⟩
  · cases b <;> cases c <;> simp at e ⊢ <;> omega
  · cases b <;> simp <;> omega
end

end Go.Proofs.Ytiplfhmimpkplaa.PnWalk

/-
  Contracts of the landed posting, its lists a part of an index: sharedAll, Clone.
-/
namespace Go.Proofs.Ytiplfhmimpkplaa.PnWalk
open Go.RowKit Go.Maps Go.Proofs.Ytiplfhmimpkplaa.MemRow Go.Proofs.Ytiplfhmimpkplaa.Ev Go.Proofs.Ytiplfhmimpkplaa.NameMath Go.Proofs.Ytiplfhmimpkplaa.NameWalk Go.Proofs.Ytiplfhmimpkplaa.EvWalk Go.Proofs.Ytiplfhmimpkplaa.NumMem Go.Proofs.Ytiplfhmimpkplaa.SmWalk Go.Proofs.Ytiplfhmimpkplaa.NMap Go.Proofs.Ytiplfhmimpkplaa.DkWalk Go.Proofs.Ytiplfhmimpkplaa.PoWalk Go.Proofs.Ytiplfhmimpkplaa.Qu Go.Proofs.Ytiplfhmimpkplaa.QuWalk Go.Proofs.Ytiplfhmimpkplaa.InWalk

section
variable {w : World} {F G : Nat → Prop} {g : Nat} {r m0 lp : Value} {D : Dt} {mb : Option (Bool → Nat)} {M : Bool → DataW Hr} {hd : HdT} {L : Ls}
set_option maxHeartbeats 8000000 in
set_option maxRecDepth 100000 in
theorem sharedAll14S_any {f : Bool → Nat} (h : LnC w F G D (some f) M hd) (b : Bool) (hl : (D.t b).length ≤ 1000000) :
    Calls Try.prog 61 #[.map (some (f b))] w fun e w' => ∃ m2 M2, e = .returned (.map (some m2)) ∧ w.heap.size ≤ m2 ∧ CmR w' m2 (namesT (D.t b)) M2 (fun s => hv (fullO (hd (some (b, s))))) ∧ Below w.heap.size w w' := by
  have hsz := h.size b
  have hns := namesT_len (D.t b)
  have ql : ∀ ty, (Builtin.len_ #[70] ty #[.map (some (f b))]).run Try.prog w = .ok (.int .i64 (Maps.size (M b) : Nat)) w := fun ty => World.ownsMap.len (h.own b : w.ownsMap Try.prog 9 slR (f b) (Maps.size (M b)) (M b)) Try.underlying70 ty
  have hmm := run_makeHintN (P := Try.prog) (t := 70) Try.underlying70
  have b1 := (Below.refl w.heap.size w).alloc (Nat.le_refl _) (.map #[] 0)
  have H := Go.Lib.hid h
  have HSZ := Go.Lib.hid hsz
  have h1 := h.below b1
  have C1 := Go.Lib.hid (show CmR (w.alloc (.map #[] 0)) w.heap.size [] (.map []) (fun s => hv (fullO (hd (some (b, s))))) from ⟨World.ownsMap_made w Try.prog 9 slR, NOf.empty _⟩)
  have s1 : (w.alloc (.map #[] 0)).heap.size = w.heap.size + 1 := by simp
  clear h hsz
  go_enter Try.func61, Try.ntmps61
  go_upto_region 2 with (fail)
  generalize w.alloc (.map #[] 0) = w3 at *
  have hown : w3.ownsMap Try.prog 9 slR (f b) (Maps.size (M b)) (M b) := h1.own b
  have NM := h1.nm b
  have BB := Go.Lib.hid b1
  have SS := Go.Lib.hid s1
  have H1 := Go.Lib.hid h1
  clear h1 b1 s1 ql hmm
  go_wp2_with (at_range; refine wpList_range_own _ rfl _ 70 rfl 9 69 keyedN Try.underlying70 slR (f b) (Maps.size (M b)) (M b) rfl hown ?_; intro w4 hrg4 hg4 hs4)
  go_frame
  go_loopw [4, 5] (fun _ _ wr => ∃ (left : Lit → Bool) (cnt : Nat) (Mc : DataW Hr), wr.ranges Try.prog 9 slR (f b) w3.heap.size (Maps.size (M b)) (M b) left cnt ∧ Hid (CmR wr w.heap.size (cameN left (namesT (D.t b))) Mc (fun s => hv (fullO (hd (some (b, s)))))) ∧ Below w.heap.size w wr) (fun _ _ wr => wr.rangeLeft (f b) w3.heap.size)
  case atStart =>
    have hb4 := grown_below hg4
    have hl : ∀ s ∈ namesT (D.t b), has (M b) (keyN s) = true := fun s hs => NM.yes hs
    refine ⟨_, _, .map [], hrg4, Go.Lib.hid ?_, below_chain BB.out hb4⟩
    rw [cameN_start hl]
    exact C1.out.grown hg4 (by simp)
  case round =>
    obtain ⟨left, cnt, Mc, hrg, HA, hb⟩ := hrel
    clear hrg4 hg4 hs4
    go_wp2_with (at_next; refine wpList_next_ns _ slR mkL mkL_inv valL slR_held rfl _ rfl NM (f b) w3.heap.size (Maps.size (M b)) _ _ rfl hrg ?_ ?_)
    · intro hc0 hl0
      have ha := HA.out
      rw [cameN_end _ hl0] at ha
      have HR := Go.Lib.hid ha
      clear ha HA hrg
      go_wp2_with fail
      go_ret
      exact ⟨_, _, rfl, Nat.le_refl _, HR.out, hb⟩
    · intro s hs w5 cnt5 hlk hss hrg5 hlt5 hg5 hs5 hen
      have s3 := SS.out
      have h5 := HA.out.grown hg5 (by rw [s3]; simp)
      have b5 : Below w.heap.size w w5 := hb.grown hg5 hb.size (fun r e => by injection e with e; omega)
      have hcn : (cameN left (namesT (D.t b))).length ≤ (namesT (D.t b)).length := List.length_filter_le _ _
      have hmx : Maps.size Mc < maxLen := by
        rw [h5.nm.size (h5.own.canon keyedN) ((up_nodupN (namesT_up (D.t b))).sublist (List.filter_sublist (p := fun s => !left (keyN s))))]
        unfold maxLen
        omega
      have hkey := keyN_of hss
      obtain ⟨x, ex⟩ := H.out.co.has hs
      have cs := shared_any (H.out.co.li (some (b, s))) w5
      rw [ex] at cs
      have ev : valL (hv (hd (some (b, s)))) = .slice (some ⟨x.b, 0, none⟩) x.n x.c := by rw [ex]; rfl
      have fx : hv (fullO (hd (some (b, s)))) = ⟨x.b, x.n, x.n⟩ := by rw [ex]; rfl
      rw [ev] at hen ⊢
      have CS := Go.Lib.hid (show Calls Try.prog 60 #[.slice (some ⟨x.b, 0, none⟩) x.n x.c] w5 fun e w' => e = .returned (.slice (some ⟨x.b, 0, none⟩) x.n x.n) ∧ w' = w5 from cs)
      have own5 := h5.own
      have HRG := Go.Lib.hid hrg5
      have HLEFT := hrg.left_eq
      have nm5 := h5.nm.put (isMapN h5.own) (s := s) (ns' := cameN (cutN left s) (namesT (D.t b))) (h' := fun s => hv (fullO (hd (some (b, s))))) (cameN_step hs) (fun _ _ => rfl)
      simp only [fx] at nm5
      have NM5 := Go.Lib.hid nm5
      have HG := Go.Lib.hid (H.out.lt _ (H.out.fG _ (H.out.fm f rfl b)))
      have hsr := slR_some (⟨x.b, x.n, x.n⟩ : Hr)
      clear hcn hb HA hg5 hs5 hrg hrg5 ex fx h5 cs ev nm5 NM s3
      go_wp2_with (first
        | (go_at_call 60; refine (CS.out).mono ?_; rintro e w6 ⟨rfl, rfl⟩)
        | (at_mapUpdate; refine wpList_mapUpdate_own _ rfl _ _ _ 70 rfl 9 69 keyedN Try.underlying70 slR w.heap.size (Maps.size Mc) Mc rfl own5 hmx _ _ _ rfl rfl hkey _ [] hsr ?_; intro w8 ho8 hg8))
      have z5 := b5.size
      have hmb := HG.out
      have s3 := SS.out
      have b8 : Below w.heap.size w w8 := b5.grown hg8 b5.size (fun j e => by injection e with e; omega)
      have hrg8 := HRG.out.kept hg8 (fun e => by injection e with e; omega) (fun e => by injection e with e; omega)
      go_roundw
      case rel => exact ⟨_, _, _, _, _, _, _, _, _, _, _, ⟨_, cnt5, _, hrg8, Go.Lib.hid ⟨tightN ho8, NM5.out⟩, b8⟩, rfl⟩
      case measure => rw [hrg8.left_eq, HLEFT]; exact hlt5
set_option maxHeartbeats 8000000 in
set_option maxRecDepth 100000 in
theorem sharedAll14N_any (h : LnC w F G D none M hd) (b : Bool) :
    Calls Try.prog 61 #[.map none] w fun e w' => ∃ m2 M2, e = .returned (.map (some m2)) ∧ w.heap.size ≤ m2 ∧ CmR w' m2 (namesT (D.t b)) M2 (fun s => hv (fullO (hd (some (b, s))))) ∧ Below w.heap.size w w' := by
  have ql : ∀ ty W, (Builtin.len_ #[70] ty #[.map none]).run Try.prog W = .ok (.int .i64 0) W := fun ty W => Maps.len_nil Try.underlying70 ty
  have hmm := run_makeHintN (P := Try.prog) (t := 70) Try.underlying70
  have b1 : Below w.heap.size w (w.alloc (.map #[] 0)) := (Below.refl _ w).alloc (Nat.le_refl _) _
  have C1 : CmR (w.alloc (.map #[] 0)) w.heap.size [] (.map []) (fun s => hv (fullO (hd (some (b, s))))) := ⟨World.ownsMap_made w Try.prog 9 slR, NOf.empty _⟩
  have hT := h.nil.2 b
  rw [hT]
  clear h hT
  go_enter Try.func61, Try.ntmps61
  go_upto_region 2 with (fail)
  generalize w.alloc (.map #[] 0) = w3 at *
  have hrg := run_range_nilMap (P := Try.prog) w3 70 9 69 Try.underlying70
  have hnx : ∀ ty, (Instr.next (.pointer (some ⟨w3.heap.size, 0, none⟩)) false ty).run Try.prog (w3.alloc (.mapIter none 0 #[] 0)) = _ := fun ty => run_next_nilMap _ ty 0 0 #[]
  have al : Below w3.heap.size w3 (w3.alloc (.mapIter none 0 #[] 0)) := (Below.refl _ _).alloc (Nat.le_refl _) _
  have B4 := Go.Lib.hid (below_chain b1 al)
  have C4 := Go.Lib.hid (C1.grown (World.grownBy_alloc w3 (.mapIter none 0 #[] 0) none) (by simp))
  clear b1 C1 al ql hmm
  go_wp2_with fail
  go_loopw [4, 5] (fun _ _ wr => wr = w3.alloc (.mapIter none 0 #[] 0)) (fun _ _ _ => 0)
  case atStart => rfl
  case round =>
    obtain rfl := hrel
    go_wp2_with fail
    go_ret
    exact ⟨_, _, rfl, Nat.le_refl _, C4.out, B4.out⟩
theorem sharedAll14_any (h : LnC w F G D mb M hd) (b : Bool) (hl : (D.t b).length ≤ 1000000) :
    Calls Try.prog 61 #[.map (mapAt mb b)] w fun e w' => ∃ m2 M2, e = .returned (.map (some m2)) ∧ w.heap.size ≤ m2 ∧ CmR w' m2 (namesT (D.t b)) M2 (fun s => hv (fullO (hd (some (b, s))))) ∧ Below w.heap.size w w' := by
  cases mb with
  | none => exact sharedAll14N_any h b
  | some f => exact sharedAll14S_any h b hl
set_option maxHeartbeats 8000000 in
set_option maxRecDepth 100000 in
theorem clone14p_any (hx : LBx w g r m0 lp mb hd) (h : LnC w F G D mb M hd) (hl : ∀ b, (D.t b).length ≤ 1000000) :
    Calls Try.prog 41 #[.pointer (some ⟨g, 3, none⟩)] w fun e w' => ∃ g', e = .returned (.pointer (some ⟨g', 0, none⟩)) ∧ Below w.heap.size w w' ∧
      ∃ (f2 : Bool → Nat) (M2 : Bool → DataW Hr), w'.heap[g']? = some (.cells #[mkL (fullO (hd none)), .map (some (f2 false)), .map (some (f2 true))] 72 (0, 0)) ∧ LnC w' (fun k => w.heap.size ≤ k ∧ k < w'.heap.size) (up G w w') D (some f2) M2 (fun k => fullO (hd k)) := by
  have bd : Below w.heap.size w w.drew := ⟨rfl, rfl, rfl, Nat.le_refl _, fun _ _ => rfl⟩
  have k0 : w.drew.cell? ⟨g, 3, none⟩ = some (mkL (hd none)) := hx.c3
  have k1 : w.drew.cell? ⟨g, 4, none⟩ = some (.map (mapAt mb false)) := hx.c4
  have k2 : w.drew.cell? ⟨g, 5, none⟩ = some (.map (mapAt mb true)) := hx.c5
  obtain ⟨A, n, c, eA, eF⟩ := (h.co.li none).full
  have cs := shared_any (h.co.li none)
  rw [eA, eF] at cs
  rw [eA] at k0
  have CS := Go.Lib.hid cs
  have CM1 := Go.Lib.hid (fun W (b : Below w.heap.size w W) => sharedAll14_any (h.below b) false (hl false))
  have CM2 := Go.Lib.hid (fun W (b : Below w.heap.size w W) => sharedAll14_any (h.below b) true (hl true))
  have H := Go.Lib.hid h
  have HL := Go.Lib.hid hl
  have BD := Go.Lib.hid bd
  have EF := Go.Lib.hid eF
  clear h hx hl bd cs eA eF
  generalize mapAt mb false = m1 at k1 CM1
  generalize mapAt mb true = m2 at k2 CM2
  go_enter Try.func41, Try.ntmps41
  go_upto_region 1 with (fail)
  go_region_held (fun w' => w'.cell? ⟨g, 3, none⟩ = some (.slice A n c) ∧ w'.cell? ⟨g, 4, none⟩ = some (.map m1) ∧ w'.cell? ⟨g, 5, none⟩ = some (.map m2))
    (first | exact ⟨k0, k1, k2⟩ | exact ⟨y0, y1, y2⟩ | exact ⟨q0, q1, q2⟩ | exact ⟨z0, z1, z2⟩)
    (first
      | (go_at_call 60; refine (CS.out _).mono ?_; rintro e w3 ⟨rfl, rfl⟩)
      | (go_at_call 61; refine (CM2.out _ (below_chain BD.out b4)).mono ?_; rintro e w5 ⟨m5, M5, rfl, l5, c5, b5⟩; have z0 := bcell b5 y0; have z1 := bcell b5 y1; have z2 := bcell b5 y2; have al := (Below.refl w5.heap.size w5).alloc (Nat.le_refl _) (.cells #[.slice A n n, .map (some m4), .map (some m5)] 72); have q0 := bcell al z0; have q1 := bcell al z1; have q2 := bcell al z2; have AL := Go.Lib.hid al; clear al; have HM5 := Go.Lib.hid (And.intro l5 c5); clear l5 c5)
      | (go_at_call 61; refine (CM1.out _ BD.out).mono ?_; rintro e w4 ⟨m4, M4, rfl, l4, c4, b4⟩; have y0 := bcell b4 k0; have y1 := bcell b4 k1; have y2 := bcell b4 k2; have HM4 := Go.Lib.hid (And.intro l4 c4); clear l4 c4))
  go_wp2_with fail
  go_ret
  obtain ⟨l4, c4⟩ := HM4.out
  obtain ⟨l5, c5⟩ := HM5.out
  have l4 : w.heap.size ≤ m4 := l4
  have bx := heap_alloc_new w5 (.cells #[.slice A n n, .map (some m4), .map (some m5)] 72)
  have s6 : (w5.alloc (.cells #[.slice A n n, .map (some m4), .map (some m5)] 72)).heap.size = w5.heap.size + 1 := by simp
  have B6 := below_chain (below_chain (below_chain BD.out b4) b5) AL.out
  have z4 : w.heap.size ≤ w4.heap.size := b4.size
  have z5 := b5.size
  have t4 := c4.lt
  have t5 := c5.lt
  have gr : ∀ {u v : World}, Below u.heap.size u v → u.grownBy v none := fun b => ⟨b.os, b.tape, b.output, b.size, fun j hj _ => b.block j hj⟩
  have d4 := (c4.grown (gr b5) (by simp)).grown (gr AL.out) (by simp)
  have d5 := c5.grown (gr AL.out) (by simp)
  have h6 := H.out.below B6
  generalize w5.alloc (.cells #[.slice A n n, .map (some m4), .map (some m5)] 72) = w6 at *
  refine ⟨w5.heap.size, rfl, B6, fun b => if b then m5 else m4, fun b => if b then M5 else M4, ?_, ⟨fun b => ?_, fun b => ?_, ⟨fun k => ?_, fun k k' h h' _ e _ hsp => absurd hsp (full_room e)⟩, fun f e => ?_, fun e => (by cases e), fun f e b => ?_, fun k hk => .inr hk, fun k hk => up_lt H.out.lt B6.size hk⟩⟩
  · rw [EF.out]
    exact bx
  · cases b
    · exact d4.own
    · exact d5.own
  · cases b
    · exact d4.nm
    · exact d5.nm
  · rcases h6.co.li k with ⟨y, e, r⟩ | ⟨e, hn⟩
    · exact .inl ⟨⟨y.b, y.n, y.n⟩, by rw [e]; rfl, r.full rfl (.inl r.gb)⟩
    · exact .inr ⟨by rw [e]; rfl, hn⟩
  · injection e with e
    subst e
    intro b c e
    cases b <;> cases c <;> simp at e ⊢ <;> omega
  · injection e with e
    subst e
    cases b <;> simp <;> omega
end

end Go.Proofs.Ytiplfhmimpkplaa.PnWalk

/-
  The landed index in memory: all its parts; what adding an event makes of it, and of another index that shares its lists.
-/
namespace Go.Proofs.Ytiplfhmimpkplaa.IxWalk
open Go.RowKit Go.Maps Go.Proofs.Ytiplfhmimpkplaa.MemRow Go.Proofs.Ytiplfhmimpkplaa.Ev Go.Proofs.Ytiplfhmimpkplaa.NameMath Go.Proofs.Ytiplfhmimpkplaa.NameWalk Go.Proofs.Ytiplfhmimpkplaa.EvWalk Go.Proofs.Ytiplfhmimpkplaa.NumMem Go.Proofs.Ytiplfhmimpkplaa.Qu Go.Proofs.Ytiplfhmimpkplaa.QuWalk Go.Proofs.Ytiplfhmimpkplaa.BtWalk Go.Proofs.Ytiplfhmimpkplaa.DkWalk Go.Proofs.Ytiplfhmimpkplaa.InWalk
open Go.Proofs.Ytiplfhmimpkplaa.SmWalk (Tb seqT TOk addF lastP seq_last)
open Go.Proofs.Ytiplfhmimpkplaa.PnWalk (Dt DOf HdT KinC LnC GrewC mapAt LBx find14_any add14p_any clone14p_any)

/-- The blocks of an index: those that are its own to write (F), and those that it reads (G), of its table, its lists, its records; the records' rows (W). -/
structure Sets where
  Fs : Nat → Prop
  Gs : Nat → Prop
  Fp : Nat → Prop
  Gp : Nat → Prop
  Fr : Nat → Prop
  Gr : Nat → Prop
  W : Nat → Prop
structure Dat where
  mb : Option Nat
  M : DataW SmWalk.Hr
  hd : ByteArray → SmWalk.Hr
  D : Dt
  mp : Option (Bool → Nat)
  Mp : Bool → DataW PnWalk.Hr
  hp : HdT
  old : Option Hx
def Sets.all (S : Sets) (g : Nat) (k : Nat) : Prop := k = g ∨ S.Gs k ∨ S.Gp k ∨ S.Gr k ∨ S.W k
def Sets.wr (S : Sets) (g : Nat) (k : Nat) : Prop := k = g ∨ S.Fs k ∨ S.Fp k ∨ S.Fr k
structure IdR (w : World) (g : Nat) (S : Sets) (d : Dat) (es : List Ev) : Prop where
  bx : XBx w g (mkX d.old) (.map d.mb) (.int .i64 (es.length : Nat)) (PnWalk.mkL (d.hp none)) (.map (mapAt d.mp false)) (.map (mapAt d.mp true))
  st : TbC w S.Fs S.Gs (seqT (strs es)) d.mb d.M d.hd
  ln : LnC w S.Fp S.Gp d.D d.mp d.Mp d.hp
  dof : DOf d.D (logL es)
  rl : OldR w S.Fr S.Gr S.W d.old (recF es)
  frg : ∀ k, S.Fr k → S.Gr k
  ltr : ∀ k, S.Gr k → k < w.heap.size
  ltw : ∀ k, S.W k → k < w.heap.size
  sp : ∀ k, S.Gs k → ¬ S.Gp k
  sr : ∀ k, S.Gs k → ¬ S.Gr k
  sw : ∀ k, S.Gs k → ¬ S.W k
  pr : ∀ k, S.Gp k → ¬ S.Gr k
  pw : ∀ k, S.Gp k → ¬ S.W k
  rw_ : ∀ k, S.Gr k → ¬ S.W k
  ns : ¬ S.Gs g
  np : ¬ S.Gp g
  nr : ¬ S.Gr g
  nw : ¬ S.W g
section
variable {w w' w1 w2 : World} {g g' : Nat} {S S1 S2 S' : Sets} {d d1 d2 d' : Dat} {es es1 es2 es' : List Ev}
set_option maxRecDepth 100000 in
theorem IdR.last (h : IdR w g S d es) : XBx w g (mkX d.old) (.map d.mb) (.int .i64 (lastP (seqT (strs es)))) (PnWalk.mkL (d.hp none)) (.map (mapAt d.mp false)) (.map (mapAt d.mp true)) := by
  have e : lastP (seqT (strs es)) = (es.length : Int) := by rw [seq_last, List.length_map]
  rw [e]
  exact h.bx
set_option maxRecDepth 100000 in
theorem IdR.lt (h : IdR w g S d es) : ∀ k, S.all g k → k < w.heap.size := fun k hk => by
  rcases hk with rfl | hk | hk | hk | hk
  · exact h.bx.lt
  · exact h.st.lt k hk
  · exact h.ln.lt k hk
  · exact h.ltr k hk
  · exact h.ltw k hk
set_option maxRecDepth 100000 in
theorem IdR.wra (h : IdR w g S d es) : ∀ k, S.wr g k → S.all g k := fun k hk => by
  rcases hk with rfl | hk | hk | hk
  · exact .inl rfl
  · exact .inr (.inl (h.st.fG k hk))
  · exact .inr (.inr (.inl (h.ln.fG k hk)))
  · exact .inr (.inr (.inr (.inl (h.frg k hk))))
set_option maxRecDepth 100000 in
theorem IdR.keep (h : IdR w g S d es) (hs : w.heap.size ≤ w'.heap.size) (hk : ∀ k, S.all g k → w'.heap[k]? = w.heap[k]?) : IdR w' g S d es :=
  ⟨h.bx.at_ (hk g (.inl rfl)), h.st.keep hs fun k h => hk k (.inr (.inl h)), h.ln.keep hs fun k h => hk k (.inr (.inr (.inl h))), h.dof, h.rl.kept (fun k h => hk k (.inr (.inr (.inr (.inl h))))) (fun k h => hk k (.inr (.inr (.inr (.inr h))))), h.frg, fun k hk => Nat.lt_of_lt_of_le (h.ltr k hk) hs, fun k hk => Nat.lt_of_lt_of_le (h.ltw k hk) hs, h.sp, h.sr, h.sw, h.pr, h.pw, h.rw_, h.ns, h.np, h.nr, h.nw⟩
theorem IdR.below (h : IdR w g S d es) (hb : Below w.heap.size w w') : IdR w' g S d es := h.keep hb.size fun k hk => hb.block k (h.lt k hk)

/-! ### Another one that shares lists -/
def AptX (o o' : Option Hx) : Prop := ∀ h h', o = some h → o' = some h' → h.n < h.c → h'.b = h.b → h'.n ≤ h.n
structure Rel (S : Sets) (d : Dat) (es : List Ev) (S' : Sets) (d' : Dat) (es' : List Ev) : Prop where
  gs : S'.Gs = S.Gs
  gp : S'.Gp = S.Gp
  gr : S'.Gr = S.Gr
  gw : S'.W = S.W
  fs : ∀ k, S.Fs k → ¬ S'.Fs k
  fp : ∀ k, S.Fp k → ¬ S'.Fp k
  fr : ∀ k, S.Fr k → ¬ S'.Fr k
  as_ : SmWalk.Apt (seqT (strs es)) d.hd (seqT (strs es')) d'.hd
  as' : SmWalk.Apt (seqT (strs es')) d'.hd (seqT (strs es)) d.hd
  ap : PnWalk.Apt d.hp d'.hp
  ap' : PnWalk.Apt d'.hp d.hp
  ar : AptX d.old d'.old
  ar' : AptX d'.old d.old
set_option maxRecDepth 100000 in
theorem Rel.swap (h : Rel S d es S' d' es') : Rel S' d' es' S d es :=
  ⟨h.gs.symm, h.gp.symm, h.gr.symm, h.gw.symm, fun k hk hf => h.fs k hf hk, fun k hk hf => h.fp k hf hk, fun k hk hf => h.fr k hf hk, h.as', h.as_, h.ap', h.ap, h.ar', h.ar⟩
/-- The one's own blocks, and what another one reads. -/
def Sets.grow (S' S1 : Sets) : Sets := ⟨S'.Fs, S1.Gs, S'.Fp, S1.Gp, S'.Fr, S1.Gr, S1.W⟩
structure Step (w w' : World) (g : Nat) (S : Sets) (d : Dat) (es : List Ev) (S1 : Sets) (d1 : Dat) (es1 : List Ev) : Prop where
  id : IdR w' g S1 d1 es1
  ch : Ch (S.wr g) w w'
  gr : ∀ k, S1.all g k → up (S.all g) w w' k
  fw : ∀ k, S1.wr g k → up (S.wr g) w w' k
  kin : ∀ (g' : Nat) (S' : Sets) (d' : Dat) (es' : List Ev), IdR w g' S' d' es' → g' ≠ g → Rel S d es S' d' es' → IdR w' g' (S'.grow S1) d' es' ∧ Rel S1 d1 es1 (S'.grow S1) d' es'
set_option maxRecDepth 100000 in
theorem Step.below (h : IdR w g S d es) (hb : Below w.heap.size w w') : Step w w' g S d es S d es :=
  ⟨h.below hb, Ch.of_below hb, fun _ hk => .inl hk, fun _ hk => .inl hk, fun g' S' d' es' h' _ r => by
    have e : S'.grow S = S' := by
      unfold Sets.grow
      rw [← r.gs, ← r.gp, ← r.gr, ← r.gw]
    rw [e]
    exact ⟨h'.below hb, r⟩⟩
set_option maxRecDepth 100000 in
theorem Step.trans (h1 : Step w w1 g S d es S1 d1 es1) (h2 : Step w1 w2 g S1 d1 es1 S2 d2 es2) : Step w w2 g S d es S2 d2 es2 := by
  have s1 := h1.ch.size
  have s2 := h2.ch.size
  refine ⟨h2.id, h1.ch.trans (h2.ch.wide fun k hk => h1.fw k hk), fun k hk => ?_, fun k hk => ?_, fun g' S' d' es' h' hne r => ?_⟩
  · rcases h2.gr k hk with hk | hk
    · exact up_mono s2 (h1.gr k hk)
    · exact .inr ⟨by omega, hk.2⟩
  · rcases h2.fw k hk with hk | hk
    · exact up_mono s2 (h1.fw k hk)
    · exact .inr ⟨by omega, hk.2⟩
  · obtain ⟨a, b⟩ := h1.kin g' S' d' es' h' hne r
    exact h2.kin g' (S'.grow S1) d' es' a hne b
set_option maxRecDepth 100000 in
theorem up_apart {A B : Nat → Prop} {n : Nat} {a a1 b b1 : World} (hA : ∀ k, A k → k < n) (hB : ∀ k, B k → k < n) (hAB : ∀ k, A k → ¬ B k) (h1 : n ≤ a.heap.size) (h2 : n ≤ b.heap.size) (h3 : a1.heap.size ≤ b.heap.size) : ∀ k, up A a a1 k → ¬ up B b b1 k := fun k hk hk2 => by
  rcases hk with hk | hk <;> rcases hk2 with hk2 | hk2
  · exact hAB k hk hk2
  · have := hA k hk; omega
  · have := hB k hk2; omega
  · omega
end

/-! ### An event is added -/
section
variable {w w1 w2 w3 w4 w5 : World} {g : Nat} {S : Sets} {d : Dat} {es : List Ev} {e : Ev} {mb1 : Option Nat} {M1 : DataW SmWalk.Hr} {hd1 : ByteArray → SmWalk.Hr} {D1 : Dt} {mp1 : Option (Bool → Nat)} {Mp1 : Bool → DataW PnWalk.Hr} {hp1 : HdT} {h' : Hx}
set_option maxRecDepth 100000 in
set_option maxHeartbeats 2000000 in
theorem Step.of (h : IdR w g S d es)
    (bx1 : XBx w1 g (mkX d.old) (.map mb1) (.int .i64 (lastP (seqT (strs (es ++ [e]))))) (PnWalk.mkL (d.hp none)) (.map (mapAt d.mp false)) (.map (mapAt d.mp true)))
    (st1 : TbC w1 (up S.Fs w w1) (up S.Gs w w1) (seqT (strs (es ++ [e]))) mb1 M1 hd1) (ch1 : Ch (fun k => S.Fs k ∨ k = g) w w1) (kin1 : KinS w w1 S.Fs (seqT (strs es)) d.hd (seqT (strs (es ++ [e]))) hd1)
    (g2 : GrewC w1 w2 S.Fp S.Gp g (mkX d.old) (.map mb1) (.int .i64 (lastP (seqT (strs (es ++ [e]))))) d.hp D1 mp1 Mp1 hp1) (dof1 : DOf D1 (logL (es ++ [e])))
    (b3 : Below w2.heap.size w2 w3) (b4 : Below w3.heap.size w3 w4)
    (rp : RapOut w4 w5 S.Fr S.Gr (up S.W w2 w3) d.old (recF es) ⟨(es.length : Int) + 1, (SmWalk.cnt (strs es) e.s : Int) + 1, e⟩ h') :
    Step w (w5.setCell ⟨g, 0, none⟩ (valX h')) g S d es ⟨up S.Fs w w1, up S.Gs w w1, up S.Fp w1 w2, up S.Gp w1 w2, up S.Fr w4 w5, up S.Gr w4 w5, up S.W w2 w3⟩ ⟨mb1, M1, hd1, D1, mp1, Mp1, hp1, some h'⟩ (es ++ [e]) := by
  have z1 := ch1.size
  have z2 := g2.ch.size
  have z3 := b3.size
  have z4 := b4.size
  have z5 := rp.size
  have z6 : (w5.setCell ⟨g, 0, none⟩ (valX h')).heap.size = w5.heap.size := by simp [World.setCell]
  have glt := h.bx.lt
  have lts := h.st.lt
  have ltp := h.ln.lt
  have ltr := h.ltr
  have ltw := h.ltw
  have ltfs : ∀ k, S.Fs k → k < w.heap.size := fun k hk => lts k (h.st.fG k hk)
  have ltfp : ∀ k, S.Fp k → k < w.heap.size := fun k hk => ltp k (h.ln.fG k hk)
  have ltfr : ∀ k, S.Fr k → k < w.heap.size := fun k hk => ltr k (h.frg k hk)
  -- blocks that each call leaves
  have K1 : ∀ k, k < w.heap.size → ¬ S.Fs k → k ≠ g → w1.heap[k]? = w.heap[k]? := fun k hk h1 h2 => ch1.block k hk fun hf => hf.elim h1 h2
  have K2 : ∀ k, k < w1.heap.size → ¬ S.Fp k → k ≠ g → w2.heap[k]? = w1.heap[k]? := fun k hk h1 h2 => g2.ch.block k hk fun hf => hf.elim h1 h2
  have b34 := below_chain b3 b4
  have K4 : ∀ k, k < w2.heap.size → w4.heap[k]? = w2.heap[k]? := fun k hk => b34.block k hk
  have K5 : ∀ k, k < w4.heap.size → ¬ S.Fr k → w5.heap[k]? = w4.heap[k]? := fun k hk h1 => rp.ch.block k hk h1
  have K6 : ∀ k, k ≠ g → (w5.setCell ⟨g, 0, none⟩ (valX h')).heap[k]? = w5.heap[k]? := fun k hk => put_other w5 g 0 _ hk
  have nfs : ∀ k, S.Gp k ∨ S.Gr k ∨ S.W k → ¬ S.Fs k := fun k hk hf => by
    have := h.st.fG k hf
    rcases hk with hk | hk | hk
    · exact h.sp k this hk
    · exact h.sr k this hk
    · exact h.sw k this hk
  have nfp : ∀ k, S.Gs k ∨ S.Gr k ∨ S.W k → ¬ S.Fp k := fun k hk hf => by
    have := h.ln.fG k hf
    rcases hk with hk | hk | hk
    · exact h.sp k hk this
    · exact h.pr k this hk
    · exact h.pw k this hk
  have nfr : ∀ k, S.Gs k ∨ S.Gp k ∨ S.W k → ¬ S.Fr k := fun k hk hf => by
    have := h.frg k hf
    rcases hk with hk | hk | hk
    · exact h.sr k hk this
    · exact h.pr k hk this
    · exact h.rw_ k this hk
  have neg : ∀ k, S.Gs k ∨ S.Gp k ∨ S.Gr k ∨ S.W k → k ≠ g := fun k hk e => by
    subst e
    rcases hk with hk | hk | hk | hk
    · exact h.ns hk
    · exact h.np hk
    · exact h.nr hk
    · exact h.nw hk
  -- from behind the first call on, and from behind the second
  have T1 : ∀ k, up S.Gs w w1 k → (w5.setCell ⟨g, 0, none⟩ (valX h')).heap[k]? = w1.heap[k]? := fun k hk => by
    have hlt := up_lt lts z1 hk
    have hn : k ≠ g := by rcases hk with hk | hk; exact neg k (.inl hk); omega
    have hp : ¬ S.Fp k := by rcases hk with hk | hk; exact nfp k (.inl hk); exact fun hf => by have := ltfp k hf; omega
    have hr : ¬ S.Fr k := by rcases hk with hk | hk; exact nfr k (.inl hk); exact fun hf => by have := ltfr k hf; omega
    exact (((K6 k hn).trans (K5 k (by omega) hr)).trans (K4 k (by omega))).trans (K2 k hlt hp hn)
  have T2 : ∀ k, up S.Gp w1 w2 k → (w5.setCell ⟨g, 0, none⟩ (valX h')).heap[k]? = w2.heap[k]? := fun k hk => by
    have hlt : k < w2.heap.size := by rcases hk with hk | hk; (have := ltp k hk; omega); exact hk.2
    have hn : k ≠ g := by rcases hk with hk | hk; exact neg k (.inr (.inl hk)); omega
    have hr : ¬ S.Fr k := by rcases hk with hk | hk; exact nfr k (.inr (.inl hk)); exact fun hf => by have := ltfr k hf; omega
    exact ((K6 k hn).trans (K5 k (by omega) hr)).trans (K4 k hlt)
  have P0 : ∀ k, S.Gp k → w1.heap[k]? = w.heap[k]? := fun k hk => K1 k (ltp k hk) (nfs k (.inl hk)) (neg k (.inr (.inl hk)))
  have R4 : ∀ k, S.Gr k ∨ S.W k → w4.heap[k]? = w.heap[k]? := fun k hk => by
    have hlt : k < w.heap.size := by rcases hk with hk | hk; exact ltr k hk; exact ltw k hk
    have hn : k ≠ g := by rcases hk with hk | hk; exact neg k (.inr (.inr (.inl hk))); exact neg k (.inr (.inr (.inr hk)))
    have hs : ¬ S.Fs k := by rcases hk with hk | hk; exact nfs k (.inr (.inl hk)); exact nfs k (.inr (.inr hk))
    have hp : ¬ S.Fp k := by rcases hk with hk | hk; exact nfp k (.inr (.inl hk)); exact nfp k (.inr (.inr hk))
    exact ((K4 k (by omega)).trans (K2 k (by omega) hp hn)).trans (K1 k hlt hs hn)
  have gr1 : ∀ k, up S.Gr w4 w5 k → k < w5.heap.size := fun k hk => by rcases hk with hk | hk; (have := ltr k hk; omega); exact hk.2
  have gw1 : ∀ k, up S.W w2 w3 k → k < w3.heap.size := fun k hk => by rcases hk with hk | hk; (have := ltw k hk; omega); exact hk.2
  have hlw : (lastP (seqT (strs (es ++ [e])))) = ((es ++ [e]).length : Int) := by rw [seq_last, List.length_map]
  have CH : Ch (S.wr g) w (w5.setCell ⟨g, 0, none⟩ (valX h')) := by
    refine ⟨?_, ?_, ?_, by omega, fun k hk hn => ?_⟩
    · exact (rp.ch.os.trans (b34.os.trans (g2.ch.os.trans ch1.os)))
    · exact (rp.ch.tape.trans (b34.tape.trans (g2.ch.tape.trans ch1.tape)))
    · exact (rp.ch.output.trans (b34.output.trans (g2.ch.output.trans ch1.output)))
    · have h1 : k ≠ g := fun e => hn (.inl e)
      have h2 : ¬ S.Fs k := fun e => hn (.inr (.inl e))
      have h3 : ¬ S.Fp k := fun e => hn (.inr (.inr (.inl e)))
      have h4 : ¬ S.Fr k := fun e => hn (.inr (.inr (.inr e)))
      exact ((((K6 k h1).trans (K5 k (by omega) h4)).trans (K4 k (by omega))).trans (K2 k (by omega) h3 h1)).trans (K1 k hk h2 h1)
  have bx5 : XBx w5 g (mkX d.old) (.map mb1) (.int .i64 (lastP (seqT (strs (es ++ [e]))))) (PnWalk.mkL (hp1 none)) (.map (mapAt mp1 false)) (.map (mapAt mp1 true)) := XBx.at_ g2.bx ((K5 g (by omega) fun hf => h.nr (h.frg g hf)).trans (K4 g (by omega)))
  refine ⟨⟨?_, st1.keep (by omega) T1, g2.ln.keep (by omega) T2, dof1, ?_, fun k hk => ?_, fun k hk => by have := gr1 k hk; omega, fun k hk => by have := gw1 k hk; omega, ?_, ?_, ?_, ?_, ?_, ?_, ?_, ?_, ?_, ?_⟩, CH, fun k hk => ?_, fun k hk => ?_, fun g' S' d' es' h0 hne r => ?_⟩
  · have := bx5.set0 (valX h')
    rw [hlw] at this
    exact this
  · refine .inl ⟨h', rfl, ?_⟩
    rw [rec_snoc]
    refine rp.li.kept (K6 _ ?_) fun k hk => K6 k ?_
    · rcases rp.li.gb with hk | hk
      · exact neg _ (.inr (.inr (.inl hk)))
      · omega
    · rcases hk with hk | hk
      · exact neg k (.inr (.inr (.inr hk)))
      · omega
  · rcases hk with hk | hk
    · exact .inl (h.frg k hk)
    · exact .inr hk
  · exact up_apart lts ltp h.sp (Nat.le_refl _) (by omega) (Nat.le_refl _)
  · exact up_apart lts ltr h.sr (Nat.le_refl _) (by omega) (by omega)
  · exact up_apart lts ltw h.sw (Nat.le_refl _) (by omega) (by omega)
  · exact up_apart ltp ltr h.pr (by omega) (by omega) (by omega)
  · exact up_apart ltp ltw h.pw (by omega) (by omega) (by omega)
  · exact fun k h1 h2 => up_apart ltw ltr (fun k h1 h2 => h.rw_ k h2 h1) (by omega) (by omega) (by omega) k h2 h1
  · exact fun hk => by rcases hk with hk | hk; exact h.ns hk; omega
  · exact fun hk => by rcases hk with hk | hk; exact h.np hk; omega
  · exact fun hk => by rcases hk with hk | hk; exact h.nr hk; omega
  · exact fun hk => by rcases hk with hk | hk; exact h.nw hk; omega
  · rcases hk with hk | hk | hk | hk | hk
    · exact .inl (.inl hk)
    · rcases hk with hk | hk
      · exact .inl (.inr (.inl hk))
      · exact .inr ⟨hk.1, by omega⟩
    · rcases hk with hk | hk
      · exact .inl (.inr (.inr (.inl hk)))
      · exact .inr ⟨by omega, by omega⟩
    · rcases hk with hk | hk
      · exact .inl (.inr (.inr (.inr (.inl hk))))
      · exact .inr ⟨by omega, by omega⟩
    · rcases hk with hk | hk
      · exact .inl (.inr (.inr (.inr (.inr hk))))
      · exact .inr ⟨by omega, by omega⟩
  · rcases hk with hk | hk | hk | hk
    · exact .inl (.inl hk)
    · rcases hk with hk | hk
      · exact .inl (.inr (.inl hk))
      · exact .inr ⟨hk.1, by omega⟩
    · rcases hk with hk | hk
      · exact .inl (.inr (.inr (.inl hk)))
      · exact .inr ⟨by omega, by omega⟩
    · rcases hk with hk | hk
      · exact .inl (.inr (.inr (.inr hk)))
      · exact .inr ⟨by omega, by omega⟩
  · -- another one
    obtain ⟨t1, a1, a2⟩ := kin1 _ _ _ _ _ _ h0.st r.fs r.as_ r.as'
    have q1 : LnC w1 S'.Fp S'.Gp d'.D d'.mp d'.Mp d'.hp := h0.ln.keep z1 fun k hk => P0 k (by rw [← r.gp]; exact hk)
    obtain ⟨q2, a3, a4⟩ := LnC.other g2.kin g2.ch bx1 q1 r.fp r.ap r.ap'
    have lt0 := h0.lt
    have gl' := lt0 g' (.inl rfl)
    have lf1 : ∀ k, S'.Fs k → k < w.heap.size := fun k hk => lt0 k (h0.wra k (.inr (.inl hk)))
    have lf2 : ∀ k, S'.Fp k → k < w.heap.size := fun k hk => lt0 k (h0.wra k (.inr (.inr (.inl hk))))
    have lf3 : ∀ k, S'.Fr k → k < w.heap.size := fun k hk => lt0 k (h0.wra k (.inr (.inr (.inr hk))))
    have n1 : ¬ S.Gs g' := by rw [← r.gs]; exact h0.ns
    have n2 : ¬ S.Gp g' := by rw [← r.gp]; exact h0.np
    have n3 : ¬ S.Gr g' := by rw [← r.gr]; exact h0.nr
    have n4 : ¬ S.W g' := by rw [← r.gw]; exact h0.nw
    have eqb : (w5.setCell ⟨g, 0, none⟩ (valX h')).heap[g']? = w.heap[g']? := CH.block g' gl' fun hf => by
      rcases hf with hf | hf | hf | hf
      · exact hne hf
      · exact n1 (h.st.fG _ hf)
      · exact n2 (h.ln.fG _ hf)
      · exact n3 (h.frg _ hf)
    have ow4 : OldR w4 S'.Fr S.Gr S.W d'.old (recF es') := by
      have := h0.rl
      rw [r.gr, r.gw] at this
      exact this.kept (fun k hk => R4 k (.inl hk)) (fun k hk => R4 k (.inr hk))
    have ow6 : OldR (w5.setCell ⟨g, 0, none⟩ (valX h')) S'.Fr S.Gr S.W d'.old (recF es') := by
      rcases ow4 with ⟨hx, ex, rl⟩ | o
      · refine .inl ⟨hx, ex, RlR.kept (w := w5) ?_ (K6 _ (neg _ (.inr (.inr (.inl rl.gb))))) fun k hk => K6 k (neg k (.inr (.inr (.inr hk))))⟩
        rcases rp.how with ⟨ho, cur, cs, e1, e2, _, _, e5, e6, _, rfl⟩ | ⟨hb, _⟩
        · refine rl.put cs e5 e6 fun eb => ?_
          have := r.ar ho hx e1 ex e2 eb.symm
          omega
        · exact rl.kept (hb.block _ rl.blt) fun k hk => hb.block k (by have := ltw k hk; omega)
      · exact .inr o
    have lrd : ∀ hx, d'.old = some hx → hx.b < w4.heap.size ∧ (hx.n < hx.c → S'.Fr hx.b) := fun hx ex => by
      rcases ow4 with ⟨h2, e2, rl⟩ | ⟨e2, _⟩
      · rw [ex] at e2
        injection e2 with e2
        subst e2
        exact ⟨rl.blt, rl.own⟩
      · rw [ex] at e2
        cases e2
    refine ⟨⟨h0.bx.at_ eqb, (t1.keep (by omega) fun k hk => T1 k (.inl (by rw [← r.gs]; exact hk))).wide (fun _ hk => hk) (fun k hk => .inl (by rw [← r.gs]; exact hk)) (fun k hk => .inl (by rw [← r.gs]; exact h0.st.fG k hk)) (fun k hk => by have := up_lt lts z1 hk; omega),
      (q2.keep (by omega) fun k hk => T2 k (.inl (by rw [← r.gp]; exact hk))).wide (fun _ hk => hk) (fun k hk => .inl (by rw [← r.gp]; exact hk)) (fun k hk => .inl (by rw [← r.gp]; exact h0.ln.fG k hk)) (fun k hk => by rcases hk with hk | hk; (have := ltp k hk; omega); (have := hk.2; omega)), h0.dof,
      ow6.wide (fun _ hk => hk) (fun _ hk => .inl hk) (fun _ hk => .inl hk), fun k hk => .inl (by rw [← r.gr]; exact h0.frg k hk), fun k hk => by have := gr1 k hk; omega, fun k hk => by have := gw1 k hk; omega, ?_, ?_, ?_, ?_, ?_, ?_, ?_, ?_, ?_, ?_⟩,
      ⟨rfl, rfl, rfl, rfl, fun k hk hf => ?_, fun k hk hf => ?_, fun k hk hf => ?_, a1, a2, a3, a4, fun x x' e1 e2 hsp eb => ?_, fun x' x e2 e1 hsp eb => ?_⟩⟩
    · exact up_apart lts ltp h.sp (Nat.le_refl _) (by omega) (Nat.le_refl _)
    · exact up_apart lts ltr h.sr (Nat.le_refl _) (by omega) (by omega)
    · exact up_apart lts ltw h.sw (Nat.le_refl _) (by omega) (by omega)
    · exact up_apart ltp ltr h.pr (by omega) (by omega) (by omega)
    · exact up_apart ltp ltw h.pw (by omega) (by omega) (by omega)
    · exact fun k h1 h2 => up_apart ltw ltr (fun k h1 h2 => h.rw_ k h2 h1) (by omega) (by omega) (by omega) k h2 h1
    · exact fun hk => by rcases hk with hk | hk; exact n1 hk; omega
    · exact fun hk => by rcases hk with hk | hk; exact n2 hk; omega
    · exact fun hk => by rcases hk with hk | hk; exact n3 hk; omega
    · exact fun hk => by rcases hk with hk | hk; exact n4 hk; omega
    · rcases hk with hk | hk
      · exact r.fs k hk hf
      · have := lf1 k hf; omega
    · rcases hk with hk | hk
      · exact r.fp k hk hf
      · have := lf2 k hf; omega
    · rcases hk with hk | hk
      · exact r.fr k hk hf
      · have := lf3 k hf; omega
    · injection e1 with e1
      subst e1
      have hl := lrd x' e2
      rcases rp.how with ⟨ho, cur, cs, e3, e4, _, _, _, _, e7, _⟩ | ⟨_, hb⟩
      · rw [e7] at eb ⊢
        have := r.ar ho x' e3 e2 e4 eb
        simp only
        omega
      · omega
    · injection e1 with e1
      subst e1
      have hl := lrd x' e2
      rcases rp.how with ⟨ho, cur, cs, e3, e4, e5, _, _, _, e7, _⟩ | ⟨_, hb⟩
      · rw [e7] at eb
        exact absurd (hl.2 hsp) (by rw [← eb]; exact r.fr _ e5)
      · omega
end

end Go.Proofs.Ytiplfhmimpkplaa.IxWalk

/-
  Contracts of the landed index: add, which appends one event.
-/
namespace Go.Proofs.Ytiplfhmimpkplaa.IxWalk
open Go.RowKit Go.Maps Go.Proofs.Ytiplfhmimpkplaa.MemRow Go.Proofs.Ytiplfhmimpkplaa.Ev Go.Proofs.Ytiplfhmimpkplaa.NameMath Go.Proofs.Ytiplfhmimpkplaa.NameWalk Go.Proofs.Ytiplfhmimpkplaa.EvWalk Go.Proofs.Ytiplfhmimpkplaa.NumMem Go.Proofs.Ytiplfhmimpkplaa.Qu Go.Proofs.Ytiplfhmimpkplaa.QuWalk Go.Proofs.Ytiplfhmimpkplaa.BtWalk Go.Proofs.Ytiplfhmimpkplaa.DkWalk Go.Proofs.Ytiplfhmimpkplaa.InWalk Go.Proofs.Ytiplfhmimpkplaa.HeldAt
open Go.Proofs.Ytiplfhmimpkplaa.SmWalk (Tb seqT TOk addF lastP seq_last)
open Go.Proofs.Ytiplfhmimpkplaa.PnWalk (Dt DOf HdT KinC LnC GrewC mapAt LBx find14_any add14p_any clone14p_any)

set_option maxRecDepth 100000 in
theorem app_ready {wd w3 : World} {F G W : Nat → Prop} {old : Option Hx} {rs : List Rc} {r : Rc} {T3 Y3 : Option Addr} {n3 c3 m3 d3 : Nat} (ho : OldR wd F G W old rs) (hG : ∀ k, G k → k < wd.heap.size) (hW : ∀ k, W k → k < wd.heap.size) (b3 : Below wd.heap.size wd w3) (oT : OwnC 1 w3 wd.heap.size 9 T3 n3 c3 (MemRow.strs r.e.tags)) (oY : OwnC 2 w3 wd.heap.size 86 Y3 m3 d3 (flds r.e.fs)) :
    OldR (w3.alloc (.cells (rcV r T3 n3 c3 Y3 m3 d3).toArray 49)) F G (up W wd w3) old rs ∧
    (∀ j v, (rcV r T3 n3 c3 Y3 m3 d3)[j]? = some v → (w3.alloc (.cells (rcV r T3 n3 c3 Y3 m3 d3).toArray 49)).cell? ((⟨w3.heap.size, 0, none⟩ : Addr).add j) = some v) ∧
    RdS (w3.alloc (.cells (rcV r T3 n3 c3 Y3 m3 d3).toArray 49)) T3 n3 c3 r.e.tags ∧ RdF (w3.alloc (.cells (rcV r T3 n3 c3 Y3 m3 d3).toArray 49)) Y3 m3 d3 r.e.fs ∧
    Wr (w3.alloc (.cells (rcV r T3 n3 c3 Y3 m3 d3).toArray 49)) (up W wd w3) T3 n3 1 9 ∧ Wr (w3.alloc (.cells (rcV r T3 n3 c3 Y3 m3 d3).toArray 49)) (up W wd w3) Y3 m3 2 86 ∧
    (∀ k, up W wd w3 k → k < (w3.alloc (.cells (rcV r T3 n3 c3 Y3 m3 d3).toArray 49)).heap.size) := by
  have al : Below w3.heap.size w3 (w3.alloc (.cells (rcV r T3 n3 c3 Y3 m3 d3).toArray 49)) := (Below.refl _ _).alloc (Nat.le_refl _) _
  have b4 := below_chain b3 al
  have z3 := b3.size
  have z4 := al.size
  have hWk : ∀ k, up W wd w3 k → k < w3.heap.size := fun k hk => up_lt hW z3 hk
  refine ⟨(ho.kept (fun k hk => b4.block k (hG k hk)) (fun k hk => b4.block k (hW k hk))).wide (fun _ h => h) (fun _ h => h) (fun _ h => .inl h), fun j v hj => ?_, RdC.below (OwnC.rd oT) al, RdC.below (OwnC.rd oY) al,
    wr_ownX (OwnC.below oT al) fun a ha => .inr (OwnC.lt oT a ha), wr_ownX (OwnC.below oY al) fun a ha => .inr (OwnC.lt oY a ha), fun k hk => Nat.lt_of_lt_of_le (hWk k hk) z4⟩
  rw [add_plain, Nat.zero_add, cell_of_row _ w3.heap.size j _ _ _ (heap_alloc_new w3 _)]
  simpa using hj

set_option maxRecDepth 100000 in
theorem step_rapp {w : World} {F G W : Nat → Prop} {old : Option Hx} {rs : List Rc} {r : Rc} {T Y : Option Addr} {nT cT nY cY : Nat} {ops : Array Oper} {o : Oper} {ac : Act} {K : Act → World → Prop} {Q : Exit → Act → World → Prop} {E : Prop} (hw : Region.wanted o (yielded ops ac.tmps) = true) (s x : Operand)
    (ho : o.op = .call { callee := .builtin .append, args := #[s, x], argTypes := #[36, 36] })
    {sv : Value} (hs : ac.eval s = sv) (hsv : sv = mkX old) {a : Addr} {c : Nat} (hx : ac.eval x = .slice (some a) 1 c) (hold : OldR w F G W old rs) (hlen : rs.length ≤ 1000000) (hl : ∀ j v, (rcV r T nT cT Y nY cY)[j]? = some v → w.cell? (a.add j) = some v)
    (h6 : RdS w T nT cT r.e.tags) (h7 : RdF w Y nY cY r.e.fs) (h8 : Wr w W T nT 1 9) (h9 : Wr w W Y nY 2 86) (hWlt : ∀ k, W k → k < w.heap.size)
    (h : ∀ h' w', RapOut w w' F G W old rs r h' → K (ac.put o.dst (.slice (some ⟨h'.b, 0, none⟩) h'.n h'.c)) w') : if Region.wanted o (yielded ops ac.tmps) = true then Oper.wp Try.prog o ac w K Q else E := by
  rw [if_pos hw]
  obtain ⟨h', w', hrun, out⟩ := rapp_any hold hlen hl h6 h7 h8 h9 hWlt o.type
  unfold Oper.wp execOp
  simp only [ho, resolve, invoke, builtin, Sem.run_bind, Sem.run_pure, Result.andThen_ok, List.map_toArray, List.map_cons, List.map_nil, hs, hsv, hx]
  rw [hrun]
  exact h h' w' out
set_option maxRecDepth 100000 in
/-- Ahead of the store: the cell of the index, and what stands in a box. -/
theorem add_store {w4 w6 w7 : World} {F G W : Nat → Prop} {old : Option Hx} {rs : List Rc} {r : Rc} {h7 : Hx} {g b : Nat} {m lp a t y : Value} {cs : Array Value} (bx : XBx w4 g (mkX old) m lp a t y) (hb : w4.heap[b]? = some (.cells cs 47 (0, 0))) (b6 : Below w4.heap.size w4 w6) (rp : RapOut w6 w7 F G W old rs r h7) (nb : ¬ F b) (ng : ¬ F g) :
    w7.cell? ⟨g, 0, none⟩ = some (mkX old) ∧ w7.frozen? ⟨g, 0, none⟩ = false ∧ (∀ j v, cs[j]? = some v → w7.cell? ⟨b, j, none⟩ = some v) := by
  have x6 := bx.below b6
  have x7 : XBx w7 g (mkX old) m lp a t y := x6.at_ (rp.ch.block g x6.lt ng)
  have hb6 := (b6.block b (Array.getElem?_eq_some_iff.1 hb).1).trans hb
  have hb7 := (rp.ch.block b (Array.getElem?_eq_some_iff.1 hb6).1 nb).trans hb6
  exact ⟨x7.c0, x7.frozen 0, fun j v hj => by rw [cell_of_row w7 b j _ _ _ hb7]; exact hj⟩
section
variable {w w1 w2 : World} {g : Nat} {S : Sets} {d : Dat} {es : List Ev}
set_option maxRecDepth 100000 in
theorem IdR.ln1 (h : IdR w g S d es) (c : Ch (fun k => S.Fs k ∨ k = g) w w1) : LnC w1 S.Fp S.Gp d.D d.mp d.Mp d.hp :=
  h.ln.keep c.size fun k hk => c.block k (h.ln.lt k hk) fun hf => by
    rcases hf with hf | rfl
    · exact h.sp k (h.st.fG k hf) hk
    · exact h.np hk
set_option maxRecDepth 100000 in
theorem IdR.rl2 (h : IdR w g S d es) (c1 : Ch (fun k => S.Fs k ∨ k = g) w w1) (c2 : Ch (fun k => S.Fp k ∨ k = g) w1 w2) : OldR w2 S.Fr S.Gr S.W d.old (recF es) := by
  have z1 := c1.size
  refine h.rl.kept (fun k hk => (c2.block k (by have := h.ltr k hk; omega) fun hf => ?_).trans (c1.block k (h.ltr k hk) fun hf => ?_)) (fun k hk => (c2.block k (by have := h.ltw k hk; omega) fun hf => ?_).trans (c1.block k (h.ltw k hk) fun hf => ?_))
  all_goals rcases hf with hf | rfl
  · exact h.pr k (h.ln.fG k hf) hk
  · exact h.nr hk
  · exact h.sr k (h.st.fG k hf) hk
  · exact h.nr hk
  · exact h.pw k (h.ln.fG k hf) hk
  · exact h.nw hk
  · exact h.sw k (h.st.fG k hf) hk
  · exact h.nw hk
end
section
variable {w : World} {g : Nat} {S : Sets} {d : Dat} {es : List Ev}
set_option maxHeartbeats 8000000 in
set_option maxRecDepth 100000 in
theorem add1_any (h : IdR w g S d es) (hes : es.length < 400) (hsz : ∀ x ∈ es, x.s.size ≤ maxLen) {e : Ev} {T Y : Option Addr} {nT cT nY cY : Nat} (hev : ∀ w', Ch (S.wr g) w w' → RdS w' T nT cT e.tags ∧ RdF w' Y nY cY e.fs) (hok : EvOk e) (ht : e.tags.length ≤ 100) (hf : e.fs.length ≤ 100) :
    Calls Try.prog 27 #[.pointer (some ⟨g, 0, none⟩), .agg #[.string e.s, .string e.t, .slice T nT cT, .slice Y nY cY]] w fun r w' => r = .returned (.tuple #[]) ∧ ∃ S1 d1, Step w w' g S d es S1 d1 (es ++ [e]) := by
  have b1 : Below w.heap.size w (w.alloc (.cells #[.string e.s, .string e.t, .slice T nT cT, .slice Y nY cY] 47)) := (Below.refl _ _).alloc (Nat.le_refl _) _
  have x1 := heap_alloc_new w (.cells #[.string e.s, .string e.t, .slice T nT cT, .slice Y nY cY] 47)
  have hnT : nT ≤ 1000000 := by have := (hev w (Ch.refl _ _)).1.len; omega
  have hnY : nY ≤ 1000000 := by have := RdF.len (hev w (Ch.refl _ _)).2; omega
  have h1 := h.below b1
  have H := Go.Lib.hid h
  have HEV := Go.Lib.hid hev
  have HOK := Go.Lib.hid hok
  have HSZ := Go.Lib.hid hsz
  have LST := Go.Lib.hid (last14_any h1.bx h1.rl)
  have n1 : IntKind.i64.wrap ((es.length : Int) + 1) = (es.length : Int) + 1 := IntWalk.i64_in _ (by omega)
  clear h hev hok hsz
  go_enter Try.func27, Try.ntmps27
  go_upto_region 1 with (fail)
  generalize w.alloc (.cells #[.string e.s, .string e.t, .slice T nT cT, .slice Y nY cY] 47) = w1 at *
  have H1 := Go.Lib.hid h1
  have B1 := Go.Lib.hid b1
  have X1 := Go.Lib.hid x1
  clear h1 b1 x1
  go_upto_region 2 with (first | (go_at_call 11; refine (LST.out).mono ?_; rintro r w2 ⟨rfl, rfl⟩))
  have k0 : w2.cell? ⟨w.heap.size, 0, none⟩ = some (.string e.s) := by rw [cell_of_row w2 _ 0 _ _ _ X1.out]; rfl
  have CS := Go.Lib.hid (fun W (b : Below w2.heap.size w2 W) => add14s_any ((H1.out.below b).last) (H1.out.below b).st (tab_ok (by omega) HSZ.out) (by rw [SmWalk.seq_len, List.length_map]; exact hes) HOK.out.s (p := (es.length : Int) + 1) (by omega))
  rw [tab_add es e] at CS
  have bd : Below w2.heap.size w2 w2.drew := ⟨rfl, rfl, rfl, Nat.le_refl _, fun _ _ => rfl⟩
  have BD := Go.Lib.hid bd
  have hglt := H1.out.bx.lt
  have hgw : w.heap.size ≠ g := by have := H.out.bx.lt; omega
  have hbs : ∀ k, (S.wr g) k → k < w.heap.size := fun k hk => H.out.lt k (H.out.wra k hk)
  have HBS := Go.Lib.hid hbs
  have KEEP0 := Go.Lib.hid (fun (w3 : World) (c : Ch (fun k => S.Fs k ∨ k = g) w2.drew w3) => show w3.cell? ⟨w.heap.size, 0, none⟩ = some (.string e.s) from (World.cell?_of_block (w := w2) (a := ⟨w.heap.size, 0, none⟩) (c.block w.heap.size (Array.getElem?_eq_some_iff.1 X1.out).1 (fun hf => by rcases hf with hf | hf; (have := hbs _ (.inr (.inl hf)); omega); omega))).trans k0)
  clear LST bd hbs
  generalize hn : es.length = n at *
  have HN := Go.Lib.hid hn
  generalize hcv : SmWalk.cnt (strs es) e.s = cv at *
  have HCV := Go.Lib.hid hcv
  clear hn hcv
  refine wp_region_held_drew (S := (fun w' => w'.cell? ⟨w.heap.size, 0, none⟩ = some (.string e.s))) (by kernel_rfl) ?_ (fun hHeld => ?_)
  · exact k0
  refine take_at (i := 0) (d := 11) (v := ?_) rfl rfl (by kernel_rfl) (by kernel_rfl) (by kernel_rfl) (fun _ _ _ h => h) (Or.inl ⟨by rfl, ?hy⟩) (by assumption) ?_
  case hy => (intro wS hSw; (try dsimp only at hSw); first | (go_simp; done) | (go_simp; with_reducible rfl))
  simp only [Act.put, List.setIfInBounds_toArray, List.set_cons_zero, List.set_cons_succ]
  refine take_at (i := 1) (d := 12) (v := ?_) rfl rfl (by kernel_rfl) (by kernel_rfl) (by kernel_rfl) (fun _ _ _ h => h) (Or.inl ⟨by rfl, ?hy⟩) (by assumption) ?_
  case hy => (intro wS hSw; (try dsimp only at hSw); first | (go_simp; done) | (go_simp; with_reducible rfl))
  simp only [Act.put, List.setIfInBounds_toArray, List.set_cons_zero, List.set_cons_succ]
  refine take_at (i := 2) (d := 13) (v := ?_) rfl rfl (by kernel_rfl) (by kernel_rfl) (by kernel_rfl) (fun _ _ _ h => h) (Or.inl ⟨by rfl, ?hy⟩) (by assumption) ?_
  case hy => (intro wS hSw; (try dsimp only at hSw); first | (go_simp; done) | (go_simp; with_reducible rfl))
  simp only [Act.put, List.setIfInBounds_toArray, List.set_cons_zero, List.set_cons_succ]
  refine take_at (i := 3) (d := 14) (v := ?_) rfl rfl (by kernel_rfl) (by kernel_rfl) (by kernel_rfl) (fun _ _ _ h => h) (Or.inl ⟨by rfl, ?hy⟩) (by assumption) ?_
  case hy => (intro wS hSw; (try dsimp only at hSw); first | (go_simp; done) | (go_simp; with_reducible rfl))
  simp only [Act.put, List.setIfInBounds_toArray, List.set_cons_zero, List.set_cons_succ]
  refine take_at (i := 4) (d := 15) (v := ?_) rfl rfl (by kernel_rfl) (by kernel_rfl) (by kernel_rfl) (fun _ _ _ h => h) (Or.inl ⟨by rfl, ?hy⟩) (by assumption) ?_
  case hy => (intro wS hSw; (try dsimp only at hSw); first | (go_simp; done) | (go_simp; with_reducible rfl))
  simp only [Act.put, List.setIfInBounds_toArray, List.set_cons_zero, List.set_cons_succ]
  refine take_at (i := 5) (d := 16) (v := ?_) rfl rfl (by kernel_rfl) (by kernel_rfl) (by kernel_rfl) (fun _ _ _ h => h) (Or.inl ⟨by rfl, ?hy⟩) (by assumption) ?_
  case hy => (intro wS hSw; (try dsimp only at hSw); first | (go_simp; done) | (go_simp; with_reducible rfl))
  simp only [Act.put, List.setIfInBounds_toArray, List.set_cons_zero, List.set_cons_succ]
  refine wpAnyH_ready (rs := [6]) (by kernel_rfl) (by simp) ?_
  refine AllReadyH.cons rfl (fun K6 hK6 => ?_) AllReadyH.nil
  go_simp
  go_wp2_with (go_at_call 43; refine (CS.out _ BD.out).mono ?_; rintro r w3 ⟨rfl, mb1, M1, hd1, hx3, st3, ch3, kin3⟩; have q0 : w3.cell? ⟨w.heap.size, 0, none⟩ = some (.string e.s) := KEEP0.out w3 ch3; have HX3 := Go.Lib.hid (And.intro hx3 (And.intro st3 (And.intro ch3 kin3))); clear hx3 st3 ch3 kin3)
  refine hK6.out _ _ ?_ (fun hH6 => ?_)
  · exact q0
  clear hK6 K6 hHeld
  refine take_at (i := 7) (d := 10) (v := ?_) rfl rfl (by kernel_rfl) (by kernel_rfl) (by kernel_rfl) (fun _ _ _ h => h) (Or.inl ⟨by rfl, ?hy⟩) (by assumption) ?_
  case hy => (intro wS hSw; (try dsimp only at hSw); first | (go_simp; done) | (go_simp; with_reducible rfl))
  simp only [Act.put, List.setIfInBounds_toArray, List.set_cons_zero, List.set_cons_succ]
  refine take_at (i := 8) (d := 18) (v := ?_) rfl rfl (by kernel_rfl) (by kernel_rfl) (by kernel_rfl) (fun _ _ _ h => h) (Or.inl ⟨by rfl, ?hy⟩) (by assumption) ?_
  case hy => (intro wS hSw; (try dsimp only at hSw); first | (go_simp; done) | (go_simp; with_reducible rfl))
  simp only [Act.put, List.setIfInBounds_toArray, List.set_cons_zero, List.set_cons_succ]
  refine take_at (i := 9) (d := 19) (v := ?_) rfl rfl (by kernel_rfl) (by kernel_rfl) (by kernel_rfl) (fun _ _ _ h => h) (Or.inl ⟨by rfl, ?hy⟩) (by assumption) ?_
  case hy => (intro wS hSw; (try dsimp only at hSw); first | (go_simp; done) | (go_simp; with_reducible rfl))
  simp only [Act.put, List.setIfInBounds_toArray, List.set_cons_zero, List.set_cons_succ]
  refine take_at (i := 10) (d := 5) (v := ?_) rfl rfl (by kernel_rfl) (by kernel_rfl) (by kernel_rfl) (fun _ _ _ h => h) (Or.inl ⟨by rfl, ?hy⟩) (by assumption) ?_
  case hy => (intro wS hSw; (try dsimp only at hSw); first | (go_simp; done) | (go_simp; with_reducible rfl))
  simp only [Act.put, List.setIfInBounds_toArray, List.set_cons_zero, List.set_cons_succ]
  refine take_at (i := 11) (d := 6) (v := ?_) rfl rfl (by kernel_rfl) (by kernel_rfl) (by kernel_rfl) (fun _ _ _ h => h) (Or.inl ⟨by rfl, ?hy⟩) (by assumption) ?_
  case hy => (intro wS hSw; (try dsimp only at hSw); first | (go_simp; done) | (go_simp; with_reducible rfl))
  simp only [Act.put, List.setIfInBounds_toArray, List.set_cons_zero, List.set_cons_succ]
  refine wpAnyH_done (by kernel_rfl) ?_ _
  go_upto_region 3 with (fail)
  clear KEEP0 CS k0 q0
  have H2 := Go.Lib.hid (H1.out.below BD.out)
  have C3 := Go.Lib.hid (show Ch (S.wr g) w w3 from (Ch.of_below (B1.out.trans (BD.out.mono B1.out.size))).trans (HX3.out.2.2.1.wide fun k hk => .inl (by rcases hk with hk | hk; exact .inr (.inl hk); exact .inl hk)))
  have XE := Go.Lib.hid (fun (w4 : World) (c : Ch (S.wr g) w w4) (hs : w2.heap.size ≤ w4.heap.size) (hk : w4.heap[w.heap.size]? = w2.heap[w.heap.size]?) => show w4.heap[w.heap.size]? = some (.cells #[.string e.s, .string e.t, .slice T nT cT, .slice Y nY cY] 47 (0, 0)) from hk.trans X1.out)
  have x3 : w3.heap[w.heap.size]? = some (.cells #[.string e.s, .string e.t, .slice T nT cT, .slice Y nY cY] 47 (0, 0)) := ((HX3.out.2.2.1.block w.heap.size (Array.getElem?_eq_some_iff.1 X1.out).1 (fun hf => by rcases hf with hf | hf; (have := HBS.out _ (.inr (.inl hf)); omega); omega))).trans X1.out
  clear XE
  have X3 := Go.Lib.hid x3
  have bd3 : Below w3.heap.size w3 w3.drew := ⟨rfl, rfl, rfl, Nat.le_refl _, fun _ _ => rfl⟩
  have BD3 := Go.Lib.hid bd3
  have k0 : w3.drew.cell? ⟨w.heap.size, 0, none⟩ = some (.string e.s) := by show w3.cell? _ = _; rw [cell_of_row w3 _ 0 _ _ _ x3]; rfl
  have k1 : w3.drew.cell? ⟨w.heap.size, 1, none⟩ = some (.string e.t) := by show w3.cell? _ = _; rw [cell_of_row w3 _ 1 _ _ _ x3]; rfl
  have k2 : w3.drew.cell? ⟨w.heap.size, 2, none⟩ = some (.slice T nT cT) := by show w3.cell? _ = _; rw [cell_of_row w3 _ 2 _ _ _ x3]; rfl
  have k3 : w3.drew.cell? ⟨w.heap.size, 3, none⟩ = some (.slice Y nY cY) := by show w3.cell? _ = _; rw [cell_of_row w3 _ 3 _ _ _ x3]; rfl
  have CP := Go.Lib.hid (add14p_any (w := w3.drew) (L := logL es) (ev := e) (T := T) (nT := nT) (cT := cT) (Y := Y) (nY := nY) (cY := cY) (p := (n : Int) + 1) (HX3.out.1.below bd3) ((H2.out.ln1 HX3.out.2.2.1).below bd3) H2.out.dof (logL_ok (by rw [HN.out]; omega)) (by rw [logL_len, HN.out]; omega)
    (fun w' c => (HEV.out w' (C3.out.trans ((Ch.of_below bd3).trans (c.wide fun k hk => .inl (.inl (by rcases hk with hk | hk; exact .inr (.inr (.inl hk)); exact .inl hk)))))).1) HOK.out ht (by omega))
  rw [← HN.out, logL_add es e, HN.out] at CP
  have KEEP3 := Go.Lib.hid (fun (w4 : World) (c : Ch (fun k => S.Fp k ∨ k = g) w3.drew w4) => show w4.heap[w.heap.size]? = some (.cells #[.string e.s, .string e.t, .slice T nT cT, .slice Y nY cY] 47 (0, 0)) from (c.block w.heap.size (Array.getElem?_eq_some_iff.1 x3).1 (fun hf => by rcases hf with hf | hf; (have := HBS.out _ (.inr (.inr (.inl hf))); omega); omega)).trans x3)
  clear bd3 x3
  refine wp_region_held_drew (S := (fun w' => w'.cell? ⟨w.heap.size, 0, none⟩ = some (.string e.s) ∧ w'.cell? ⟨w.heap.size, 1, none⟩ = some (.string e.t) ∧ w'.cell? ⟨w.heap.size, 2, none⟩ = some (.slice T nT cT) ∧ w'.cell? ⟨w.heap.size, 3, none⟩ = some (.slice Y nY cY))) (by kernel_rfl) ?_ (fun hHeld => ?_)
  · exact ⟨k0, k1, k2, k3⟩
  refine take_at (i := 0) (d := 20) (v := ?_) rfl rfl (by kernel_rfl) (by kernel_rfl) (by kernel_rfl) (fun _ _ _ h => h) (Or.inl ⟨by rfl, ?hy⟩) (by assumption) ?_
  case hy => (intro wS hSw; (try dsimp only at hSw); first | (go_simp; done) | (go_simp; with_reducible rfl))
  simp only [Act.put, List.setIfInBounds_toArray, List.set_cons_zero, List.set_cons_succ]
  refine take_at (i := 1) (d := 21) (v := ?_) rfl rfl (by kernel_rfl) (by kernel_rfl) (by kernel_rfl) (fun _ _ _ h => h) (Or.inl ⟨by rfl, ?hy⟩) (by assumption) ?_
  case hy => (intro wS hSw; (try dsimp only at hSw); first | (go_simp; done) | (go_simp; with_reducible rfl))
  simp only [Act.put, List.setIfInBounds_toArray, List.set_cons_zero, List.set_cons_succ]
  refine take_at (i := 2) (d := 22) (v := ?_) rfl rfl (by kernel_rfl) (by kernel_rfl) (by kernel_rfl) (fun _ _ _ h => h) (Or.inl ⟨by rfl, ?hy⟩) (by assumption) ?_
  case hy => (intro wS hSw; (try dsimp only at hSw); first | (go_simp; done) | (go_simp; with_reducible rfl))
  simp only [Act.put, List.setIfInBounds_toArray, List.set_cons_zero, List.set_cons_succ]
  refine take_at (i := 3) (d := 23) (v := ?_) rfl rfl (by kernel_rfl) (by kernel_rfl) (by kernel_rfl) (fun _ _ _ h => h) (Or.inl ⟨by rfl, ?hy⟩) (by assumption) ?_
  case hy => (intro wS hSw; (try dsimp only at hSw); first | (go_simp; done) | (go_simp; with_reducible rfl))
  simp only [Act.put, List.setIfInBounds_toArray, List.set_cons_zero, List.set_cons_succ]
  refine take_at (i := 4) (d := 24) (v := ?_) rfl rfl (by kernel_rfl) (by kernel_rfl) (by kernel_rfl) (fun _ _ _ h => h) (Or.inl ⟨by rfl, ?hy⟩) (by assumption) ?_
  case hy => (intro wS hSw; (try dsimp only at hSw); first | (go_simp; done) | (go_simp; with_reducible rfl))
  simp only [Act.put, List.setIfInBounds_toArray, List.set_cons_zero, List.set_cons_succ]
  refine wpAnyH_ready (rs := [5]) (by kernel_rfl) (by simp) ?_
  refine AllReadyH.cons rfl (fun K5 hK5 => ?_) AllReadyH.nil
  go_simp
  go_wp2_with (go_at_call 44; refine (CP.out).mono ?_; rintro r w4 ⟨rfl, D1, mp1, Mp1, hp1, gr4, dof4⟩; have x4 := KEEP3.out w4 gr4.ch; have y0 : w4.cell? ⟨w.heap.size, 0, none⟩ = some (.string e.s) := (by rw [cell_of_row w4 _ 0 _ _ _ x4]; rfl); have y1 : w4.cell? ⟨w.heap.size, 1, none⟩ = some (.string e.t) := (by rw [cell_of_row w4 _ 1 _ _ _ x4]; rfl); have y2 : w4.cell? ⟨w.heap.size, 2, none⟩ = some (.slice T nT cT) := (by rw [cell_of_row w4 _ 2 _ _ _ x4]; rfl); have y3 : w4.cell? ⟨w.heap.size, 3, none⟩ = some (.slice Y nY cY) := (by rw [cell_of_row w4 _ 3 _ _ _ x4]; rfl); have GR4 := Go.Lib.hid (And.intro gr4 dof4); have X4 := Go.Lib.hid x4; clear gr4 dof4 x4)
  refine hK5.out _ _ ?_ (fun hH5 => ?_)
  · exact ⟨y0, y1, y2, y3⟩
  clear hK5 K5 hHeld
  refine wpAnyH_done (by kernel_rfl) ?_ _
  go_upto_region 4 with (fail)
  clear CP KEEP3 k0 k1 k2 k3
  have bd4 : Below w4.heap.size w4 w4.drew := ⟨rfl, rfl, rfl, Nat.le_refl _, fun _ _ => rfl⟩
  have C4 := Go.Lib.hid (show Ch (S.wr g) w w4 from C3.out.trans ((Ch.of_below BD3.out).trans (GR4.out.1.ch.wide fun k hk => .inl (.inl (by rcases hk with hk | hk; exact .inr (.inr (.inl hk)); exact .inl hk)))))
  have ow4 : OldR w4 S.Fr S.Gr S.W d.old (recF es) := H2.out.rl2 HX3.out.2.2.1 ((Ch.of_below BD3.out).trans (GR4.out.1.ch.wide fun k hk => .inl hk))
  have hev4 := HEV.out w4 C4.out
  have cc := copyOf_any ⟨(n : Int) + 1, (cv : Int) + 1, e⟩ T Y nT cT nY cY w4.drew hev4.1 hev4.2 hnT hnY
  have CC := Go.Lib.hid (Calls.mono cc (R' := fun r5 w5 => ∃ T3 n3 c3 Y3 m3 d3, r5 = .returned (.agg #[.int .i64 ((n : Int) + 1), .int .i64 ((cv : Int) + 1), .string e.s, .string e.t, .slice T3 n3 c3, .slice Y3 m3 d3]) ∧ OwnC 1 w5 w4.heap.size 9 T3 n3 c3 (MemRow.strs e.tags) ∧ OwnC 2 w5 w4.heap.size 86 Y3 m3 d3 (flds e.fs) ∧ Below w4.heap.size w4 w5) (fun r5 w5 h5 => by
    obtain ⟨T3, n3, c3, Y3, m3, d3, e5, oT, oY, b5⟩ := h5
    exact ⟨T3, n3, c3, Y3, m3, d3, e5, oT, oY, bd4.trans b5⟩))
  have ltr4 : ∀ k, S.Gr k → k < w4.heap.size := fun k hk => by have := H.out.ltr k hk; have := C4.out.size; omega
  have ltw4 : ∀ k, S.W k → k < w4.heap.size := fun k hk => by have := H.out.ltw k hk; have := C4.out.size; omega
  have READY := Go.Lib.hid (fun (w5 : World) (T3 : Option Addr) (n3 c3 : Nat) (Y3 : Option Addr) (m3 d3 : Nat) (oT : OwnC 1 w5 w4.heap.size 9 T3 n3 c3 (MemRow.strs e.tags)) (oY : OwnC 2 w5 w4.heap.size 86 Y3 m3 d3 (flds e.fs)) (b5 : Below w4.heap.size w4 w5) => app_ready (r := ⟨(n : Int) + 1, (cv : Int) + 1, e⟩) ow4 ltr4 ltw4 b5 oT oY)
  have STORE := Go.Lib.hid (fun (w5 w6 w7 : World) (h7 : Hx) (b5 : Below w4.heap.size w4 w5) (b6 : Below w5.heap.size w5 w6) (rp : RapOut w6 w7 S.Fr S.Gr (up S.W w4 w5) d.old (recF es) ⟨(n : Int) + 1, (cv : Int) + 1, e⟩ h7) => add_store (cs := #[.string e.s, .string e.t, .slice T nT cT, .slice Y nY cY]) GR4.out.1.bx X4.out (below_chain b5 b6) rp (fun hf => by have := HBS.out _ (.inr (.inr (.inr hf))); omega) (fun hf => H.out.nr (H.out.frg _ hf)))
  have FIN := Go.Lib.hid (fun (w5 w6 w7 : World) (h7 : Hx) (b5 : Below w4.heap.size w4 w5) (b6 : Below w5.heap.size w5 w6) (rp : RapOut w6 w7 S.Fr S.Gr (up S.W w4 w5) d.old (recF es) ⟨(n : Int) + 1, (cv : Int) + 1, e⟩ h7) => show ∃ S1 d1, Step w (w7.setCell ⟨g, 0, none⟩ (valX h7)) g S d es S1 d1 (es ++ [e]) by
    have rp' : RapOut w6 w7 S.Fr S.Gr (up S.W w4 w5) d.old (recF es) ⟨(es.length : Int) + 1, (SmWalk.cnt (strs es) e.s : Int) + 1, e⟩ h7 := by rw [HN.out, HCV.out]; exact rp
    exact ⟨_, _, (Step.below H.out (B1.out.trans (BD.out.mono B1.out.size))).trans (Step.of H2.out HX3.out.1 HX3.out.2.1 HX3.out.2.2.1 HX3.out.2.2.2 (GrewC.from BD3.out (H2.out.ln1 HX3.out.2.2.1) GR4.out.1) GR4.out.2 b5 b6 rp')⟩)
  have kE : w4.cell? ⟨g, 0, none⟩ = some (mkX d.old) := XBx.c0 GR4.out.1.bx
  clear hev4 cc ow4 ltr4 ltw4 bd4
  refine wp_region_held_drew (S := (fun w' => w'.cell? ⟨w.heap.size, 0, none⟩ = some (.string e.s) ∧ w'.cell? ⟨w.heap.size, 1, none⟩ = some (.string e.t) ∧ w'.cell? ⟨w.heap.size, 2, none⟩ = some (.slice T nT cT) ∧ w'.cell? ⟨w.heap.size, 3, none⟩ = some (.slice Y nY cY))) (by kernel_rfl) ?_ (fun hHeld => ?_)
  · exact ⟨y0, y1, y2, y3⟩
  refine take_at (i := 0) (d := 26) (v := ?_) rfl rfl (by kernel_rfl) (by kernel_rfl) (by kernel_rfl) (fun _ _ _ h => h) (Or.inl ⟨by rfl, ?hy⟩) (by assumption) ?_
  case hy => (intro wS hSw; (try dsimp only at hSw); first | (go_simp; done) | (go_simp; with_reducible rfl))
  simp only [Act.put, List.setIfInBounds_toArray, List.set_cons_zero, List.set_cons_succ]
  refine take_at (i := 1) (d := 27) (v := ?_) rfl rfl (by kernel_rfl) (by kernel_rfl) (by kernel_rfl) (fun _ _ _ h => h) (Or.inl ⟨by rfl, ?hy⟩) (by assumption) ?_
  case hy => (intro wS hSw; (try dsimp only at hSw); first | (go_simp; done) | (go_simp; with_reducible rfl))
  simp only [Act.put, List.setIfInBounds_toArray, List.set_cons_zero, List.set_cons_succ]
  refine take_at (i := 2) (d := 28) (v := ?_) rfl rfl (by kernel_rfl) (by kernel_rfl) (by kernel_rfl) (fun _ _ _ h => h) (Or.inl ⟨by rfl, ?hy⟩) (by assumption) ?_
  case hy => (intro wS hSw; (try dsimp only at hSw); first | (go_simp; done) | (go_simp; with_reducible rfl))
  simp only [Act.put, List.setIfInBounds_toArray, List.set_cons_zero, List.set_cons_succ]
  refine take_at (i := 3) (d := 29) (v := ?_) rfl rfl (by kernel_rfl) (by kernel_rfl) (by kernel_rfl) (fun _ _ _ h => h) (Or.inl ⟨by rfl, ?hy⟩) (by assumption) ?_
  case hy => (intro wS hSw; (try dsimp only at hSw); first | (go_simp; done) | (go_simp; with_reducible rfl))
  simp only [Act.put, List.setIfInBounds_toArray, List.set_cons_zero, List.set_cons_succ]
  refine take_at (i := 5) (d := 31) (v := ?_) rfl rfl (by kernel_rfl) (by kernel_rfl) (by kernel_rfl) (fun _ _ _ h => h) (Or.inl ⟨by rfl, ?hy⟩) (by assumption) ?_
  case hy => (intro wS hSw; (try dsimp only at hSw); first | (go_simp; done) | (go_simp; with_reducible rfl))
  simp only [Act.put, List.setIfInBounds_toArray, List.set_cons_zero, List.set_cons_succ]
  refine take_at (i := 6) (d := 32) (v := ?_) rfl rfl (by kernel_rfl) (by kernel_rfl) (by kernel_rfl) (fun _ _ _ h => h) (Or.inl ⟨by rfl, ?hy⟩) (by assumption) ?_
  case hy => (intro wS hSw; (try dsimp only at hSw); first | (go_simp; done) | (go_simp; with_reducible rfl))
  simp only [Act.put, List.setIfInBounds_toArray, List.set_cons_zero, List.set_cons_succ]
  refine take_at (i := 7) (d := 33) (v := ?_) rfl rfl (by kernel_rfl) (by kernel_rfl) (by kernel_rfl) (fun _ _ _ h => h) (Or.inl ⟨by rfl, ?hy⟩) (by assumption) ?_
  case hy => (intro wS hSw; (try dsimp only at hSw); first | (go_simp; done) | (go_simp; with_reducible rfl))
  simp only [Act.put, List.setIfInBounds_toArray, List.set_cons_zero, List.set_cons_succ]
  refine take_at (i := 8) (d := 34) (v := ?_) rfl rfl (by kernel_rfl) (by kernel_rfl) (by kernel_rfl) (fun _ _ _ h => h) (Or.inl ⟨by rfl, ?hy⟩) (by assumption) ?_
  case hy => (intro wS hSw; (try dsimp only at hSw); first | (go_simp; done) | (go_simp; with_reducible rfl))
  simp only [Act.put, List.setIfInBounds_toArray, List.set_cons_zero, List.set_cons_succ]
  -- THE WAYS
  refine wpAnyH_ready (rs := [4, 9]) (by kernel_rfl) (by simp) ?_
  refine AllReadyH.cons rfl (fun K0 hK0 => ?_) ?_
  · skip
    have kl := kE
    go_simp
    refine hK0.out _ _ ?_ (fun hH0 => ?_)
    · exact ⟨y0, y1, y2, y3⟩
    clear hK0 K0
    refine wpAnyH_ready (rs := [9]) (by kernel_rfl) (by simp) ?_
    refine AllReadyH.cons rfl (fun K1 hK1 => ?_) AllReadyH.nil
    go_simp
    go_wp2_with (first | (go_at_call 45; refine (CC.out).mono ?_; rintro r5 w5 ⟨T3, n3, c3, Y3, m3, d3, rfl, oT, oY, b5⟩))
    have yc0 := bcell b5 y0
    have yc1 := bcell b5 y1
    have yc2 := bcell b5 y2
    have yc3 := bcell b5 y3
    refine hK1.out _ _ ?_ (fun hH1 => ?_)
    · exact ⟨yc0, yc1, yc2, yc3⟩
    clear hK1 K1
    refine wpAnyH_ready (rs := [10]) (by kernel_rfl) (by simp) ?_
    refine AllReadyH.cons rfl (fun K2 hK2 => ?_) AllReadyH.nil
    have al := (Below.refl w5.heap.size w5).alloc (Nat.le_refl _) (.cells #[.int .i64 ((n : Int) + 1), .int .i64 ((cv : Int) + 1), .string e.s, .string e.t, .slice T3 n3 c3, .slice Y3 m3 d3] 49)
    have b6 := below_chain b5 al
    have rdy := READY.out w5 T3 n3 c3 Y3 m3 d3 oT oY b5
    have yd0 := bcell b6 y0
    have yd1 := bcell b6 y1
    have yd2 := bcell b6 y2
    have yd3 := bcell b6 y3
    go_simp
    refine hK2.out _ _ ?_ (fun hH2 => ?_)
    · exact ⟨yd0, yd1, yd2, yd3⟩
    clear hK2 K2
    refine wpAnyH_ready (rs := [11]) (by kernel_rfl) (by simp) ?_
    refine AllReadyH.cons rfl (fun K3 hK3 => ?_) AllReadyH.nil
    obtain ⟨q1, q2, q3, q4, q5, q6, q7⟩ := rdy
    refine step_rapp (by rfl) (.tmp 30) (.tmp 36) rfl rfl rfl rfl q1 (by rw [rec_len, HN.out]; omega) q2 q3 q4 q5 q6 q7 ?_
    intro h7 w7 rp
    obtain ⟨kx, fx, yes⟩ := STORE.out w5 _ w7 h7 b5 al rp
    have ye0 := yes 0 _ rfl
    have ye1 := yes 1 _ rfl
    have ye2 := yes 2 _ rfl
    have ye3 := yes 3 _ rfl
    clear yes
    (try go_simp)
    refine hK3.out _ _ ?_ (fun hH3 => ?_)
    · exact ⟨ye0, ye1, ye2, ye3⟩
    clear hK3 K3
    refine take_at (i := 12) (d := 38) (v := ?_) rfl rfl (by kernel_rfl) (by kernel_rfl) (by kernel_rfl) (fun _ _ _ h => h) (Or.inl ⟨by rfl, ?hy⟩) (by assumption) ?_
    case hy => (intro wS hSw; (try dsimp only at hSw); first | (go_simp; done) | (go_simp; with_reducible rfl))
    simp only [Act.put, List.setIfInBounds_toArray, List.set_cons_zero, List.set_cons_succ]
    refine take_at (i := 13) (d := 39) (v := ?_) rfl rfl (by kernel_rfl) (by kernel_rfl) (by kernel_rfl) (fun _ _ _ h => h) (Or.inl ⟨by rfl, ?hy⟩) (by assumption) ?_
    case hy => (intro wS hSw; (try dsimp only at hSw); first | (go_simp; done) | (go_simp; with_reducible rfl))
    simp only [Act.put, List.setIfInBounds_toArray, List.set_cons_zero, List.set_cons_succ]
    refine wpAnyH_ready (rs := [14]) (by kernel_rfl) (by simp) ?_
    refine AllReadyH.cons rfl (fun K4 hK4 => ?_) AllReadyH.nil
    go_simp
    refine hK4.out _ _ ?_ (fun hH4 => ?_)
    · exact ⟨(World.cell?_setCell_far _ _ _ _ hgw.symm).trans ye0, (World.cell?_setCell_far _ _ _ _ hgw.symm).trans ye1, (World.cell?_setCell_far _ _ _ _ hgw.symm).trans ye2, (World.cell?_setCell_far _ _ _ _ hgw.symm).trans ye3⟩
    clear hK4 K4
    refine wpAnyH_done (by kernel_rfl) ?_ _
    go_wp2_with fail
    go_end0
    exact ⟨rfl, FIN.out w5 _ w7 h7 b5 al rp⟩
  refine AllReadyH.cons rfl (fun K5 hK5 => ?_) AllReadyH.nil
  go_simp
  go_wp2_with (first | (go_at_call 45; refine (CC.out).mono ?_; rintro r5 w5 ⟨T3, n3, c3, Y3, m3, d3, rfl, oT, oY, b5⟩))
  have yc0 := bcell b5 y0
  have yc1 := bcell b5 y1
  have yc2 := bcell b5 y2
  have yc3 := bcell b5 y3
  refine hK5.out _ _ ?_ (fun hH5 => ?_)
  · exact ⟨yc0, yc1, yc2, yc3⟩
  clear hK5 K5
  refine wpAnyH_ready (rs := [4, 10]) (by kernel_rfl) (by simp) ?_
  refine AllReadyH.cons rfl (fun K6 hK6 => ?_) ?_
  · skip
    have kl := bcell b5 kE
    go_simp
    refine hK6.out _ _ ?_ (fun hH6 => ?_)
    · exact ⟨yc0, yc1, yc2, yc3⟩
    clear hK6 K6
    refine wpAnyH_ready (rs := [10]) (by kernel_rfl) (by simp) ?_
    refine AllReadyH.cons rfl (fun K7 hK7 => ?_) AllReadyH.nil
    have al := (Below.refl w5.heap.size w5).alloc (Nat.le_refl _) (.cells #[.int .i64 ((n : Int) + 1), .int .i64 ((cv : Int) + 1), .string e.s, .string e.t, .slice T3 n3 c3, .slice Y3 m3 d3] 49)
    have b6 := below_chain b5 al
    have rdy := READY.out w5 T3 n3 c3 Y3 m3 d3 oT oY b5
    have yd0 := bcell b6 y0
    have yd1 := bcell b6 y1
    have yd2 := bcell b6 y2
    have yd3 := bcell b6 y3
    go_simp
    refine hK7.out _ _ ?_ (fun hH7 => ?_)
    · exact ⟨yd0, yd1, yd2, yd3⟩
    clear hK7 K7
    refine wpAnyH_ready (rs := [11]) (by kernel_rfl) (by simp) ?_
    refine AllReadyH.cons rfl (fun K8 hK8 => ?_) AllReadyH.nil
    obtain ⟨q1, q2, q3, q4, q5, q6, q7⟩ := rdy
    refine step_rapp (by rfl) (.tmp 30) (.tmp 36) rfl rfl rfl rfl q1 (by rw [rec_len, HN.out]; omega) q2 q3 q4 q5 q6 q7 ?_
    intro h7 w7 rp
    obtain ⟨kx, fx, yes⟩ := STORE.out w5 _ w7 h7 b5 al rp
    have ye0 := yes 0 _ rfl
    have ye1 := yes 1 _ rfl
    have ye2 := yes 2 _ rfl
    have ye3 := yes 3 _ rfl
    clear yes
    (try go_simp)
    refine hK8.out _ _ ?_ (fun hH8 => ?_)
    · exact ⟨ye0, ye1, ye2, ye3⟩
    clear hK8 K8
    refine take_at (i := 12) (d := 38) (v := ?_) rfl rfl (by kernel_rfl) (by kernel_rfl) (by kernel_rfl) (fun _ _ _ h => h) (Or.inl ⟨by rfl, ?hy⟩) (by assumption) ?_
    case hy => (intro wS hSw; (try dsimp only at hSw); first | (go_simp; done) | (go_simp; with_reducible rfl))
    simp only [Act.put, List.setIfInBounds_toArray, List.set_cons_zero, List.set_cons_succ]
    refine take_at (i := 13) (d := 39) (v := ?_) rfl rfl (by kernel_rfl) (by kernel_rfl) (by kernel_rfl) (fun _ _ _ h => h) (Or.inl ⟨by rfl, ?hy⟩) (by assumption) ?_
    case hy => (intro wS hSw; (try dsimp only at hSw); first | (go_simp; done) | (go_simp; with_reducible rfl))
    simp only [Act.put, List.setIfInBounds_toArray, List.set_cons_zero, List.set_cons_succ]
    refine wpAnyH_ready (rs := [14]) (by kernel_rfl) (by simp) ?_
    refine AllReadyH.cons rfl (fun K9 hK9 => ?_) AllReadyH.nil
    go_simp
    refine hK9.out _ _ ?_ (fun hH9 => ?_)
    · exact ⟨(World.cell?_setCell_far _ _ _ _ hgw.symm).trans ye0, (World.cell?_setCell_far _ _ _ _ hgw.symm).trans ye1, (World.cell?_setCell_far _ _ _ _ hgw.symm).trans ye2, (World.cell?_setCell_far _ _ _ _ hgw.symm).trans ye3⟩
    clear hK9 K9
    refine wpAnyH_done (by kernel_rfl) ?_ _
    go_wp2_with fail
    go_end0
    exact ⟨rfl, FIN.out w5 _ w7 h7 b5 al rp⟩
  refine AllReadyH.cons rfl (fun K10 hK10 => ?_) AllReadyH.nil
  have al := (Below.refl w5.heap.size w5).alloc (Nat.le_refl _) (.cells #[.int .i64 ((n : Int) + 1), .int .i64 ((cv : Int) + 1), .string e.s, .string e.t, .slice T3 n3 c3, .slice Y3 m3 d3] 49)
  have b6 := below_chain b5 al
  have rdy := READY.out w5 T3 n3 c3 Y3 m3 d3 oT oY b5
  have yd0 := bcell b6 y0
  have yd1 := bcell b6 y1
  have yd2 := bcell b6 y2
  have yd3 := bcell b6 y3
  go_simp
  refine hK10.out _ _ ?_ (fun hH10 => ?_)
  · exact ⟨yd0, yd1, yd2, yd3⟩
  clear hK10 K10
  refine wpAnyH_ready (rs := [4]) (by kernel_rfl) (by simp) ?_
  refine AllReadyH.cons rfl (fun K11 hK11 => ?_) AllReadyH.nil
  have kl := bcell b6 kE
  go_simp
  refine hK11.out _ _ ?_ (fun hH11 => ?_)
  · exact ⟨yd0, yd1, yd2, yd3⟩
  clear hK11 K11
  refine wpAnyH_ready (rs := [11]) (by kernel_rfl) (by simp) ?_
  refine AllReadyH.cons rfl (fun K12 hK12 => ?_) AllReadyH.nil
  obtain ⟨q1, q2, q3, q4, q5, q6, q7⟩ := rdy
  refine step_rapp (by rfl) (.tmp 30) (.tmp 36) rfl rfl rfl rfl q1 (by rw [rec_len, HN.out]; omega) q2 q3 q4 q5 q6 q7 ?_
  intro h7 w7 rp
  obtain ⟨kx, fx, yes⟩ := STORE.out w5 _ w7 h7 b5 al rp
  have ye0 := yes 0 _ rfl
  have ye1 := yes 1 _ rfl
  have ye2 := yes 2 _ rfl
  have ye3 := yes 3 _ rfl
  clear yes
  (try go_simp)
  refine hK12.out _ _ ?_ (fun hH12 => ?_)
  · exact ⟨ye0, ye1, ye2, ye3⟩
  clear hK12 K12
  refine take_at (i := 12) (d := 38) (v := ?_) rfl rfl (by kernel_rfl) (by kernel_rfl) (by kernel_rfl) (fun _ _ _ h => h) (Or.inl ⟨by rfl, ?hy⟩) (by assumption) ?_
  case hy => (intro wS hSw; (try dsimp only at hSw); first | (go_simp; done) | (go_simp; with_reducible rfl))
  simp only [Act.put, List.setIfInBounds_toArray, List.set_cons_zero, List.set_cons_succ]
  refine take_at (i := 13) (d := 39) (v := ?_) rfl rfl (by kernel_rfl) (by kernel_rfl) (by kernel_rfl) (fun _ _ _ h => h) (Or.inl ⟨by rfl, ?hy⟩) (by assumption) ?_
  case hy => (intro wS hSw; (try dsimp only at hSw); first | (go_simp; done) | (go_simp; with_reducible rfl))
  simp only [Act.put, List.setIfInBounds_toArray, List.set_cons_zero, List.set_cons_succ]
  refine wpAnyH_ready (rs := [14]) (by kernel_rfl) (by simp) ?_
  refine AllReadyH.cons rfl (fun K13 hK13 => ?_) AllReadyH.nil
  go_simp
  refine hK13.out _ _ ?_ (fun hH13 => ?_)
  · exact ⟨(World.cell?_setCell_far _ _ _ _ hgw.symm).trans ye0, (World.cell?_setCell_far _ _ _ _ hgw.symm).trans ye1, (World.cell?_setCell_far _ _ _ _ hgw.symm).trans ye2, (World.cell?_setCell_far _ _ _ _ hgw.symm).trans ye3⟩
  clear hK13 K13
  refine wpAnyH_done (by kernel_rfl) ?_ _
  go_wp2_with fail
  go_end0
  exact ⟨rfl, FIN.out w5 _ w7 h7 b5 al rp⟩
end

end Go.Proofs.Ytiplfhmimpkplaa.IxWalk

/-
  Contract of layer 3: MayTag.
-/
namespace Go.Proofs.Ytiplfhmimpkplaa.NameWalk
open Go.RowKit Go.Proofs.Ytiplfhmimpkplaa.NameMath

set_option maxRecDepth 100000 in
theorem mayTag_any (s : ByteArray) (w : World) (hs : s.size ≤ 9223372036854775807) :
    Calls Try.prog 90 #[.string s] w fun e w' => e = .returned (.bool (parts s.data.toList).2.2) ∧ Below w.heap.size w w' := by
  have hc := parts_any s w hs
  generalize parts s.data.toList = p at *
  go_enter Try.func90, Try.ntmps90
  go_wp2_with (go_at_call 107; refine hc.mono ?_; rintro e w' ⟨rfl, b1⟩)
  go_ret
  exact ⟨rfl, b1⟩

end Go.Proofs.Ytiplfhmimpkplaa.NameWalk

