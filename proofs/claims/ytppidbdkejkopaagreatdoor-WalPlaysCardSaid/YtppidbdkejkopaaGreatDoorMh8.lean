/-
  Joined texts: EdTake, BtTake, WgTakeB, WgThing, WgOpA, WgOpen, WgTgt, WgApp, WlOpen, WlWhole, WlApp, WlCount, WlOps.
-/
import Derived.RangeFuncLeaves
import Derived.Deep.DeepCutAuto
import Derived.Deep.CutBlock
import Derived.Test.YtppidbdkejkopaaGreatDoorMh7
namespace Go.Proofs.YtppidbdkejkopaaGreatDoor.EdWalk
open Go.RowKit MemRow Ev NameMath NameWalk EvWalk NumMath NumMem NumWalk EcWalk
structure TkAt (wr w : World) (g : Nat) (l : List UInt8) (b : Bool) (A : Option Addr) (n cap : Nat) (l0 : List UInt8) : Prop where
  rd : Rdr wr 161 g l b
  res : EvAt wr w.heap.size (.string ⟨#[]⟩) (.string ⟨#[]⟩) (.slice none 0 0) (.slice none 0 0)
  wb : wr.heap[w.heap.size + 1]? = some (.cells #[.slice A n cap, .bool false] 161 (0, 0))
  rb : Rd wr A n cap l0
  old : Old A g
  gg : w.grownBy wr (some g)
  gw : g < w.heap.size
section
variable {wr w w' : World} {g n cap : Nat} {l l' l0 : List UInt8} {b b' : Bool} {A : Option Addr}
theorem TkAt.below (h : TkAt wr w g l b A n cap l0) (hb : Below wr.heap.size wr w') : TkAt w' w g l b A n cap l0 :=
  ⟨h.rd.below hb, h.res.below hb h.res.lt, (hb.block _ (lt_of_block h.wb)).trans h.wb, h.rb.below hb, h.old, gr_step h.gg (row := none) ⟨hb.os, hb.tape, hb.output, hb.size, fun k hk _ => hb.block k hk⟩ (fun r e => by cases e), h.gw⟩
theorem TkAt.read (h : TkAt wr w g l b A n cap l0) (hr : Rdr w' 161 g l' b') (hg : wr.grownBy w' (some g)) : TkAt w' w g l' b' A n cap l0 := by
  have gw := h.gw
  exact ⟨hr, h.res.grown hg (by simp; omega), (hg.block _ (lt_of_block h.wb) (by simp; omega)).trans h.wb, h.rb.grown hg h.rd.no_byte, h.old, gr_step' h.gg hg, gw⟩
theorem TkAt.restore (h : TkAt wr w g l b A n cap l0) : TkAt ((wr.setCell ⟨g, 0, none⟩ (.slice A n cap)).setCell ⟨g, 1, none⟩ (.bool false)) w g l0 false A n cap l0 := by
  have hno := h.rd.no_byte
  obtain ⟨A1, n1, c1, hh, _, _⟩ := h.rd
  have s0 := grown_set wr g 0 (.slice A n cap)
  have s1 := grown_set (wr.setCell ⟨g, 0, none⟩ (.slice A n cap)) g 1 (.bool false)
  have r1 := (h.rb.grown s0 hno).grown s1 (two_no_byte (two_set0 hh) (by simp) (by simp))
  have hr : Rdr ((wr.setCell ⟨g, 0, none⟩ (.slice A n cap)).setCell ⟨g, 1, none⟩ (.bool false)) 161 g l0 false := ⟨A, n, cap, two_set1 (two_set0 hh), r1, h.old⟩
  exact h.read hr (gr_step' s0 s1)
theorem TkAt.fin (h : TkAt wr w g l b A n cap l0) (x0 x1 x2 x3 : Value) (w9 : World) (h9 : w9 = (((wr.setCell ⟨w.heap.size, 0, none⟩ x0).setCell ⟨w.heap.size, 1, none⟩ x1).setCell ⟨w.heap.size, 2, none⟩ x2).setCell ⟨w.heap.size, 3, none⟩ x3) :
    EvAt w9 w.heap.size x0 x1 x2 x3 ∧ Rdr w9 161 g l b ∧ w.grownBy w9 (some g) := by
  subst h9
  have gw := h.gw
  have e := h.res.all x0 x1 x2 x3
  refine ⟨e, ?_, ?_⟩
  · exact rdr_apart (rdr_apart (rdr_apart (rdr_apart h.rd (grown_set _ _ _ _) (fun r e => by injection e; omega)) (grown_set _ _ _ _) (fun r e => by injection e; omega)) (grown_set _ _ _ _) (fun r e => by injection e; omega)) (grown_set _ _ _ _) (fun r e => by injection e; omega)
  · exact gr_step (gr_step (gr_step (gr_step h.gg (grown_set _ _ _ _) (fun r e => by injection e; omega)) (grown_set _ _ _ _) (fun r e => by injection e; omega)) (grown_set _ _ _ _) (fun r e => by injection e; omega)) (grown_set _ _ _ _) (fun r e => by injection e; omega)
end
def TakeN (l : List UInt8) (g : Nat) (w : World) (e : Ending) (w' : World) : Prop :=
  w.grownBy w' (some g) ∧ ((∃ ev l', takeE l false = some (ev, l') ∧ ∃ v, e = .returned (.tuple #[v, .int .i64 0]) ∧ OwnIs w' w.heap.size v ev ∧ EvOk ev ∧ Rdr w' 161 g l' false) ∨
    (takeE l false = none ∧ NoneE e ∧ ∃ l' b', Rdr w' 161 g l' b'))
set_option maxHeartbeats 4000000 in
set_option maxRecDepth 100000 in
theorem take5_any (g : Nat) (l : List UInt8) (w : World) (h : Rdr w 161 g l false) :
    Calls Tryz.prog 131 #[.pointer (some ⟨g, 0, none⟩)] w fun e w' => TakeN l g w e w' := by
  have gw := h.lt
  have hd := takeE_decC l
  have HD := Go.Lib.hid hd
  clear hd
  have e1 := EvAt.new w (.string ⟨#[]⟩) (.string ⟨#[]⟩) (.slice none 0 0) (.slice none 0 0)
  have b1 : Below w.heap.size w (w.alloc (.cells #[.string ⟨#[]⟩, .string ⟨#[]⟩, .slice none 0 0, .slice none 0 0] 69)) := (Below.refl _ _).alloc (Nat.le_refl _) _
  have s1 : (w.alloc (.cells #[.string ⟨#[]⟩, .string ⟨#[]⟩, .slice none 0 0, .slice none 0 0] 69)).heap.size = w.heap.size + 1 := by simp
  have h1 := h.below b1
  go_enter Tryz.func131, Tryz.ntmps131
  go_upto_region 1 with (fail)
  generalize w.alloc (.cells #[.string ⟨#[]⟩, .string ⟨#[]⟩, .slice none 0 0, .slice none 0 0] 69) = w1 at *
  have h1' := h1
  obtain ⟨A, n, cap, hh, hr, ho⟩ := h1'
  obtain ⟨k0, k1, _⟩ := two_cell hh
  clear hh h
  go_upto_region 4 with (fail)
  have b2 : Below w1.heap.size w1 (w1.alloc (.cells #[.slice A n cap, .bool false] 161)) := (Below.refl _ _).alloc (Nat.le_refl _) _
  have t2 : TkAt (w1.alloc (.cells #[.slice A n cap, .bool false] 161)) w g l false A n cap l :=
    ⟨h1.below b2, e1.below b2 e1.lt, by rw [← s1]; exact heap_alloc_new w1 _, hr.below b2, ho, gr_step ⟨b1.os, b1.tape, b1.output, b1.size, fun k hk _ => b1.block k hk⟩ (row := none) ⟨b2.os, b2.tape, b2.output, b2.size, fun k hk _ => b2.block k hk⟩ (fun r e => by cases e), gw⟩
  have s2 : (w1.alloc (.cells #[.slice A n cap, .bool false] 161)).heap.size = w.heap.size + 1 + 1 := by simp [s1]
  generalize w1.alloc (.cells #[.slice A n cap, .bool false] 161) = w2 at *
  clear b1 b2 h1 hr ho e1 k0 k1 s1
  go_wp2_with fail
  refine (decode5_any g l w2 t2.rd).mono ?_
  rintro e w3 ⟨gg, s, t, T, nT, cT, F, nF, cF, ok, l', b', rfl, r3, HNO, HYES⟩
  have t3 := t2.read r3 gg
  have s23 := gg.size
  have al : Below w3.heap.size w3 (w3.alloc (.cells #[.string s, .string t, .slice T nT cT, .slice F nF cF] 69)) := (Below.refl _ _).alloc (Nat.le_refl _) _
  have e4 := EvAt.new w3 (.string s) (.string t) (.slice T nT cT) (.slice F nF cF)
  have t4 := t3.below al
  clear t2 r3 gg t3
  go_upto_region 5 with (fail)
  generalize hw4 : w3.alloc (.cells #[.string s, .string t, .slice T nT cT, .slice F nF cF] 69) = w4 at *
  clear hw4
  cases ok with
  | false =>
    have hno : takeE l false = none := by
      rw [HD.out, HNO.out rfl]
      rfl
    have HN := Go.Lib.hid hno
    clear hno HYES HNO
    cases b' with
    | true =>
      go_wp2_with fail
      refine (bad_any g _ _ w4 t4.rd).mono ?_
      rintro e w' ⟨rfl, rfl⟩
      have r0 := t4.res.c0
      have r1 := t4.res.c1
      have r2 := t4.res.c2
      have r3 := t4.res.c3
      have z0 := t4.res.frozen 0
      have z1 := t4.res.frozen 1
      have z2 := t4.res.frozen 2
      have z3 := t4.res.frozen 3
      have hfin := t4.fin (.string ⟨#[]⟩) (.string ⟨#[]⟩) (.slice none 0 0) (.slice none 0 0) _ rfl
      have HFIN := Go.Lib.hid hfin
      clear hfin
      go_wp2_with fail
      rcases HFIN.out with ⟨E9, R9, G9⟩
      generalize ((((w4.setCell ⟨w.heap.size, 0, none⟩ (.string ⟨#[]⟩)).setCell ⟨w.heap.size, 1, none⟩ (.string ⟨#[]⟩)).setCell ⟨w.heap.size, 2, none⟩ (.slice none 0 0)).setCell ⟨w.heap.size, 3, none⟩ (.slice none 0 0)) = w9 at *
      have q0 := E9.c0
      have q1 := E9.c1
      have q2 := E9.c2
      have q3 := E9.c3
      exact bodyPost_ret (v := .tuple #[.agg #[.string ⟨#[]⟩, .string ⟨#[]⟩, .slice none 0 0, .slice none 0 0], .int .i64 2]) (by simp [results, Tryz.results131, go_sem, q0, q1, q2, q3]) rfl ⟨G9, .inr ⟨HN.out, rfl, _, _, R9⟩⟩
    | false =>
      go_wp2_with fail
      refine (bad_any g _ _ w4 t4.rd).mono ?_
      rintro e w' ⟨rfl, rfl⟩
      obtain ⟨A1, n1, c1, hh, _, _⟩ := t4.rd
      obtain ⟨x0, x1, xf⟩ := two_cell hh
      obtain ⟨y0, y1, _⟩ := two_cell t4.wb
      have f0 := xf 0
      have f1 := xf 1
      have tr := t4.restore
      clear hh xf
      go_upto_region 9 with (fail)
      generalize (w4.setCell ⟨g, 0, none⟩ (.slice A n cap)).setCell ⟨g, 1, none⟩ (.bool false) = wr at *
      clear x0 x1 y0 y1 f0 f1
      have r0 := tr.res.c0
      have r1 := tr.res.c1
      have r2 := tr.res.c2
      have r3 := tr.res.c3
      have z0 := tr.res.frozen 0
      have z1 := tr.res.frozen 1
      have z2 := tr.res.frozen 2
      have z3 := tr.res.frozen 3
      have hfin := tr.fin (.string ⟨#[]⟩) (.string ⟨#[]⟩) (.slice none 0 0) (.slice none 0 0) _ rfl
      have HFIN := Go.Lib.hid hfin
      clear hfin
      go_wp2_with fail
      rcases HFIN.out with ⟨E9, R9, G9⟩
      generalize ((((wr.setCell ⟨w.heap.size, 0, none⟩ (.string ⟨#[]⟩)).setCell ⟨w.heap.size, 1, none⟩ (.string ⟨#[]⟩)).setCell ⟨w.heap.size, 2, none⟩ (.slice none 0 0)).setCell ⟨w.heap.size, 3, none⟩ (.slice none 0 0)) = w9 at *
      have q0 := E9.c0
      have q1 := E9.c1
      have q2 := E9.c2
      have q3 := E9.c3
      exact bodyPost_ret (v := .tuple #[.agg #[.string ⟨#[]⟩, .string ⟨#[]⟩, .slice none 0 0, .slice none 0 0], .int .i64 2]) (by simp [results, Tryz.results131, go_sem, q0, q1, q2, q3]) rfl ⟨G9, .inr ⟨HN.out, rfl, _, _, R9⟩⟩
  | true =>
    obtain ⟨rfl, ts, fs, hdec, o1, o2, hok⟩ := HYES.out rfl
    have o1' := own_lower (OwnC.below o1 al) (base' := w.heap.size + 1) (by omega)
    have o2' := own_lower (OwnC.below o2 al) (base' := w.heap.size + 1) (by omega)
    have iv : IsEv w4 (.agg #[.string s, .string t, .slice T nT cT, .slice F nF cF]) ⟨s, t, ts, fs⟩ := ⟨_, _, _, _, _, _, rfl, OwnC.rd o1', OwnC.rd o2'⟩
    have htk : takeE l false = if mayE ⟨s, t, ts, fs⟩ = 0 then some (⟨s, t, ts, fs⟩, l') else none := by
      rw [HD.out, hdec]
      rfl
    have HTK := Go.Lib.hid htk
    clear hdec o1 o2 htk HNO HYES
    have k0 := e4.c0
    have k1 := e4.c1
    have k2 := e4.c2
    have k3 := e4.c3
    go_wp2_with fail
    refine (evMay_any _ ⟨s, t, ts, fs⟩ w4 iv hok).mono ?_
    rintro e w5 ⟨rfl, b5⟩
    have t5 := t4.below b5
    have e5 := e4.below b5 e4.lt
    have p1 := OwnC.below o1' b5
    have p2 := OwnC.below o2' b5
    clear t4 e4 o1' o2' iv k0 k1 k2 k3 b5 al
    by_cases h0 : mayE ⟨s, t, ts, fs⟩ = 0
    · rw [h0]
      have hyes : takeE l false = some (⟨s, t, ts, fs⟩, l') := by rw [HTK.out, if_pos h0]
      have HY := Go.Lib.hid hyes
      have HOK := Go.Lib.hid hok
      clear hyes h0 hok
      have k0 := e5.c0
      have k1 := e5.c1
      have k2 := e5.c2
      have k3 := e5.c3
      have r0 := t5.res.c0
      have r1 := t5.res.c1
      have r2 := t5.res.c2
      have r3 := t5.res.c3
      have z0 := t5.res.frozen 0
      have z1 := t5.res.frozen 1
      have z2 := t5.res.frozen 2
      have z3 := t5.res.frozen 3
      have hfin := t5.fin (.string s) (.string t) (.slice T nT cT) (.slice F nF cF) _ rfl
      have p1' := own_away (own_away (own_away (own_away p1 (g := w.heap.size) (i := 0) (Nat.lt_succ_self _) (.string s)) (g := w.heap.size) (i := 1) (Nat.lt_succ_self _) (.string t)) (g := w.heap.size) (i := 2) (Nat.lt_succ_self _) (.slice T nT cT)) (g := w.heap.size) (i := 3) (Nat.lt_succ_self _) (.slice F nF cF)
      have p2' := own_away (own_away (own_away (own_away p2 (g := w.heap.size) (i := 0) (Nat.lt_succ_self _) (.string s)) (g := w.heap.size) (i := 1) (Nat.lt_succ_self _) (.string t)) (g := w.heap.size) (i := 2) (Nat.lt_succ_self _) (.slice T nT cT)) (g := w.heap.size) (i := 3) (Nat.lt_succ_self _) (.slice F nF cF)
      have HFIN := Go.Lib.hid hfin
      have P1 := Go.Lib.hid p1'
      have P2 := Go.Lib.hid p2'
      clear hfin p1 p2 p1' p2' t5 e5
      go_wp2_with fail
      rcases HFIN.out with ⟨E9, R9, G9⟩
      have p1 := P1.out
      have p2 := P2.out
      generalize ((((w5.setCell ⟨w.heap.size, 0, none⟩ (.string s)).setCell ⟨w.heap.size, 1, none⟩ (.string t)).setCell ⟨w.heap.size, 2, none⟩ (.slice T nT cT)).setCell ⟨w.heap.size, 3, none⟩ (.slice F nF cF)) = w9 at *
      have q0 := E9.c0
      have q1 := E9.c1
      have q2 := E9.c2
      have q3 := E9.c3
      exact bodyPost_ret (v := .tuple #[.agg #[.string s, .string t, .slice T nT cT, .slice F nF cF], .int .i64 0]) (by simp [results, Tryz.results131, go_sem, q0, q1, q2, q3]) rfl ⟨G9, .inl ⟨_, _, HY.out, _, rfl, ⟨_, _, _, _, _, _, rfl, own_lower p1 (Nat.le_succ _), own_lower p2 (Nat.le_succ _)⟩, HOK.out, R9⟩⟩
    · have hm0 : (mayE ⟨s, t, ts, fs⟩ == 0) = false := by rw [beq_eq_false_iff_ne]; exact h0
      have hno : takeE l false = none := by rw [HTK.out, if_neg h0]
      have HN := Go.Lib.hid hno
      clear hno h0 p1 p2 hok
      generalize mayE ⟨s, t, ts, fs⟩ = MM at *
      go_wp2_with fail
      refine (bad_any g _ _ w5 t5.rd).mono ?_
      rintro e w' ⟨rfl, rfl⟩
      obtain ⟨A1, n1, c1, hh, _, _⟩ := t5.rd
      obtain ⟨x0, x1, xf⟩ := two_cell hh
      obtain ⟨y0, y1, _⟩ := two_cell t5.wb
      have f0 := xf 0
      have f1 := xf 1
      have tr := t5.restore
      clear hh xf
      go_upto_region 9 with (fail)
      generalize (w5.setCell ⟨g, 0, none⟩ (.slice A n cap)).setCell ⟨g, 1, none⟩ (.bool false) = wr at *
      clear x0 x1 y0 y1 f0 f1
      have r0 := tr.res.c0
      have r1 := tr.res.c1
      have r2 := tr.res.c2
      have r3 := tr.res.c3
      have z0 := tr.res.frozen 0
      have z1 := tr.res.frozen 1
      have z2 := tr.res.frozen 2
      have z3 := tr.res.frozen 3
      have hfin := tr.fin (.string ⟨#[]⟩) (.string ⟨#[]⟩) (.slice none 0 0) (.slice none 0 0) _ rfl
      have HFIN := Go.Lib.hid hfin
      clear hfin
      go_wp2_with fail
      rcases HFIN.out with ⟨E9, R9, G9⟩
      generalize ((((wr.setCell ⟨w.heap.size, 0, none⟩ (.string ⟨#[]⟩)).setCell ⟨w.heap.size, 1, none⟩ (.string ⟨#[]⟩)).setCell ⟨w.heap.size, 2, none⟩ (.slice none 0 0)).setCell ⟨w.heap.size, 3, none⟩ (.slice none 0 0)) = w9 at *
      have q0 := E9.c0
      have q1 := E9.c1
      have q2 := E9.c2
      have q3 := E9.c3
      exact bodyPost_ret (v := .tuple #[.agg #[.string ⟨#[]⟩, .string ⟨#[]⟩, .slice none 0 0, .slice none 0 0], .int .i64 2]) (by simp [results, Tryz.results131, go_sem, q0, q1, q2, q3]) rfl ⟨G9, .inr ⟨HN.out, rfl, _, _, R9⟩⟩
end Go.Proofs.YtppidbdkejkopaaGreatDoor.EdWalk
namespace Go.Proofs.YtppidbdkejkopaaGreatDoor.BtWalk
open Go.RowKit MemRow Ev NameMath NameWalk EvWalk NumMath NumMem NumWalk EcWalk EdWalk EeLaw
theorem take_find {l : List UInt8} {x : Bat} (h : takeX l = some x) : ((min (numV (numL l)) 16).toNat : Int) = numV (numL l) ∧ takeEs (min (numV (numL l)) 16).toNat (numL (numL l)) (numB (numL l) (numB l false)) = some (x.es, []) ∧ mayX ⟨numV l, x.es⟩ = 0 := by
  obtain ⟨a1, a2, a3, a4, a5, a6⟩ := takeX_read h
  have hz := (mayX_zero x).1 a6
  have hk : (min (numV (numL l)) 16).toNat = x.es.length := by rw [a3]; omega
  refine ⟨by rw [hk, a3], by rw [hk, a2, a4, a5], ?_⟩
  have e : (⟨numV l, x.es⟩ : Bat) = x := by rw [a1]
  rw [e]
  exact a6
set_option maxHeartbeats 8000000 in
set_option maxRecDepth 100000 in
theorem takeEs10_any (g : Nat) (l : List UInt8) (b : Bool) (n : Int) (K : Nat) (w : World) (h : Rdr w 161 g l b) (hK : (min n 16).toNat = K) (hb : b = true → K = 0) :
    Calls Tryz.prog 102 #[.pointer (some ⟨g, 0, none⟩), .int .i64 n] w fun e w' => ∃ (A : Option Addr) (m c : Nat) (es : List Ev) (l' : List UInt8) (b' : Bool), e = .returned (.slice A m c) ∧ OwnE w' w.heap.size A m c es ∧ Rdr w' 161 g l' b' ∧ w.grownBy w' (some g) ∧ Hid ((takeEs K l b = some (es, l') ∧ m = K) ∨ (takeEs K l b = none ∧ m < K)) := by
  have gw := h.lt
  have HB := Go.Lib.hid hb
  have HKK := Go.Lib.hid hK
  have h16 : K ≤ 16 := by omega
  have hmin : ∃ M : Int, min n 16 = M ∧ M.toNat = K := ⟨_, rfl, hK⟩
  obtain ⟨M, hM, hMK⟩ := hmin
  clear hb hK
  go_enter Tryz.func102, Tryz.ntmps102
  go_wp2_with fail
  go_step3
  go_wp2_with fail
  go_step3
  go_wp2_with fail
  have gr0 : w.grownBy w (some g) := ⟨rfl, rfl, rfl, Nat.le_refl _, fun _ _ _ => rfl⟩
  go_loopw [5, 6, 7, 10] (fun lv _ _ i wr => ∃ (j : Nat) (A : Option Addr) (c : Nat) (es : List Ev) (l' : List UInt8) (b' : Bool), j ≤ K ∧ i = .int .i64 j ∧ lv = .slice A j c ∧ Hid (takeEs K l b = (takeEs (K - j) l' b').map fun q => (es ++ q.1, q.2)) ∧ Hid (b' = true → K = 0) ∧ OwnE wr w.heap.size A j c es ∧ Rdr wr 161 g l' b' ∧ w.grownBy wr (some g)) (fun _ _ _ i _ => K - (intOf i).toNat)
  case atStart => exact ⟨0, none, 0, [], l, b, Nat.zero_le _, rfl, rfl, Go.Lib.hid (by simp), HB, OwnE.nil _ _, h, gr0⟩
  case round =>
    obtain ⟨j, A, c, es, l', b', hj, rfl, rfl, HQ, HBB, oe, rd, gr⟩ := hrel
    clear h gr0
    by_cases hlt : j < K
    · have i1 : (j : Int) < M := by omega
      obtain rfl : b' = false := by
        cases b' with
        | false => rfl
        | true => have := HBB.out rfl; omega
      obtain ⟨k, hk⟩ : ∃ k, K - j = k + 1 := ⟨K - j - 1, by omega⟩
      have hk' : K - (j + 1) = k := by omega
      rw [hk] at HQ
      have HK := Go.Lib.hid hk'
      clear hk hk'
      go_wp2_with fail
      refine (take5_any g l' wr rd).mono ?_
      rintro e w2 ⟨gg, hT⟩
      have gr2 := gr_step' gr gg
      have oe2 := oe.off gg gw
      have gwr := gr.size
      rcases hT with ⟨ev, l'', htk, v, rfl, hv, hok, r2⟩ | ⟨htk, hno, l'', b'', r2⟩
      · obtain ⟨T, nT, cT, F, nF, cF, rfl, o1, o2⟩ := hv
        have hq : takeEs K l b = (takeEs (K - (j + 1)) l'' false).map fun q => ((es ++ [ev]) ++ q.1, q.2) := by
          rw [HQ.out, takeEs_go htk, HK.out]
          simp [Option.map_map, Function.comp_def]
        have HQ2 := Go.Lib.hid hq
        have al : Below w2.heap.size w2 (w2.alloc (.cells #[.string ev.s, .string ev.t, .slice T nT cT, .slice F nF cF] 69)) := (Below.refl _ _).alloc (Nat.le_refl _) _
        have e3 := EvAt.new w2 (.string ev.s) (.string ev.t) (.slice T nT cT) (.slice F nF cF)
        have oe3 := oe2.below al
        have r3 := r2.below al
        have o1' := own_lower (OwnC.below o1 al) (base' := w.heap.size) gwr
        have o2' := own_lower (OwnC.below o2 al) (base' := w.heap.size) gwr
        have gr3 := gr_step gr2 (row := none) ⟨al.os, al.tape, al.output, al.size, fun k hk _ => al.block k hk⟩ (fun r e => by cases e)
        clear hq htk HQ oe rd gg gr2 oe2 r2 o1 o2 al gr
        go_upto_region 5 with (fail)
        generalize w2.alloc (.cells #[.string ev.s, .string ev.t, .slice T nT cT, .slice F nF cF] 69) = w3 at *
        have k0 := e3.c0
        have k1 := e3.c1
        have k2 := e3.c2
        have k3 := e3.c3
        have al4 : Below w3.heap.size w3 (w3.alloc (.cells #[.string ev.s, .string ev.t, .slice T nT cT, .slice F nF cF] 69)) := (Below.refl _ _).alloc (Nat.le_refl _) _
        have r4 := r3.below al4
        have gr4 := gr_step gr3 (row := none) ⟨al4.os, al4.tape, al4.output, al4.size, fun k hk _ => al4.block k hk⟩ (fun r e => by cases e)
        obtain ⟨cs, oc, hlen, hc⟩ := oe3.below al4
        have p1 := OwnC.below o1' al4
        have p2 := OwnC.below o2' al4
        have big : w.heap.size ≤ (w3.alloc (.cells #[.string ev.s, .string ev.t, .slice T nT cT, .slice F nF cF] 69)).heap.size := gr4.size
        have d4 : RdC 4 (w3.alloc (.cells #[.string ev.s, .string ev.t, .slice T nT cT, .slice F nF cF] 69)) (some ⟨w3.heap.size, 0, none⟩) 1 1 [.string ev.s, .string ev.t, .slice T nT cT, .slice F nF cF] := RdC.new w3 69 [.string ev.s, .string ev.t, .slice T nT cT, .slice F nF cF] rfl (by decide)
        have h63 : j + 1 ≤ maxLen := by unfold maxLen; omega
        have hsz : (j + 1) * 80 ≤ 140737488355328 := by omega
        clear oe3 r3 gr3 o1' o2' al4 e3 gwr
        go_wp2_with (at_builtin; refine wpList_append_cells rfl (.tmp 20) (.tmp 22) 37 rfl 69 (.agg #[.string ⟨#[]⟩, .string ⟨#[]⟩, .slice none 0 0, .slice none 0 0]) 80 Tryz.underlying37 event_info rfl (by decide) rfl rfl oc d4 (ev_one ev _ _ _ _ _ _) h63 hsz big ?_; intro A8 c8 w8 o8 g8 _)
        go_roundw
        case rel =>
          have low := fun r e => row_low oc (r := r) e
          exact ⟨j + 1, A8, c8, es ++ [ev], l'', false, by omega, by go_num, rfl, HQ2, Go.Lib.hid (fun h => by cases h), OwnE.more oc hlen hc p1 p2 o8 g8, rdr_apart r4 g8 (fun r e => by have := low r e; omega), gr_step gr4 g8 (fun r e => low r e)⟩
        case measure => simp [intOf]; omega
      · obtain rfl := hno
        have hnone : takeEs K l b = none := by rw [HQ.out, takeEs_none htk]; rfl
        have HN := Go.Lib.hid hnone
        have al : Below w2.heap.size w2 (w2.alloc (.cells #[.string ⟨#[]⟩, .string ⟨#[]⟩, .slice none 0 0, .slice none 0 0] 69)) := (Below.refl _ _).alloc (Nat.le_refl _) _
        have oe3 := oe2.below al
        have r3 := r2.below al
        have gr3 := gr_step gr2 (row := none) ⟨al.os, al.tape, al.output, al.size, fun k hk _ => al.block k hk⟩ (fun r e => by cases e)
        clear htk HQ oe rd gg gr2 oe2 r2 al gr hnone
        go_upto_region 5 with (fail)
        generalize w2.alloc (.cells #[.string ⟨#[]⟩, .string ⟨#[]⟩, .slice none 0 0, .slice none 0 0] 69) = w3 at *
        go_wp2_with fail
        try rw [Exit.noGoto_ret]
        go_ret
        exact ⟨A, j, c, es, l'', b'', rfl, oe3, r3, gr3, Go.Lib.hid (.inr ⟨HN.out, hlt⟩)⟩
    · obtain rfl : K = j := by omega
      have hq : takeEs K l b = some (es, l') := by
        rw [HQ.out, Nat.sub_self]
        simp [takeEs]
      have i1 : ¬ (K : Int) < M := by omega
      have HQ2 := Go.Lib.hid hq
      clear hq HQ
      go_wp2_with fail
      try rw [Exit.noGoto_ret]
      go_ret
      exact ⟨A, K, c, es, l', b', rfl, oe, rd, gr, Go.Lib.hid (.inl ⟨HQ2.out, rfl⟩)⟩
set_option maxHeartbeats 8000000 in
set_option maxRecDepth 100000 in
theorem take10_any (A0 : Option Addr) (n0 cap0 : Nat) (l : List UInt8) (w : World) (h : Rd w A0 n0 cap0 l) (hl : l.length ≤ 1000000) :
    Calls Tryz.prog 69 #[.slice A0 n0 cap0] w (TakeXOut l w) := by
  have HL := Go.Lib.hid h.len
  have hn0 : n0 ≤ 1000000 := by rw [← HL.out]; exact hl
  have e1 := BxAt.new w (.int .i64 0) (.slice none 0 0)
  have b1 := batch_bel w (.int .i64 0) (.slice none 0 0)
  have s1 : (w.alloc (.cells #[.int .i64 0, .slice none 0 0] 39)).heap.size = w.heap.size + 1 := by simp
  go_enter Tryz.func69, Tryz.ntmps69
  go_upto_region 1 with (fail)
  generalize w.alloc (.cells #[.int .i64 0, .slice none 0 0] 39) = w1 at *
  have h1 := h.below b1
  have S1 := Go.Lib.hid s1
  clear s1
  go_wp2_with fail
  refine (newReader_any A0 n0 cap0 l w1 h1 (by omega)).mono ?_
  rintro e w10 ⟨g, rfl, hg, hy, b10⟩
  have hwg : w.heap.size < g := by have := S1.out; omega
  have e10 := e1.below b10
  have B10 := below_chain b1 b10
  have s10 := hy.lt
  clear h1 e1 b1 S1 b10 hg
  go_wp2_with fail
  refine (num_any g l false w10 hy).mono ?_
  rintro e w11 ⟨rfl, r11, g11⟩
  have e11 := e10.grown g11 (by simp; omega)
  have B11 := B10.grown g11 B10.size (by rintro q ⟨rfl⟩; omega)
  have s11 : g < w11.heap.size := Nat.lt_of_lt_of_le s10 g11.size
  clear hy e10 B10 g11 s10
  have bx := batch_bel w11 (.int .i64 (numV l)) (.slice none 0 0)
  have t12 : RtAt 161 (w11.alloc (.cells #[.int .i64 (numV l), .slice none 0 0] 39)) w g (numL l) (numB l false) w11.heap.size (numV l) none 0 0 [] :=
    ⟨r11.below bx, e11.below bx, BxAt.new w11 _ _, OwnE.nil _ _, below_chain B11 bx, hwg, s11⟩
  clear bx r11 e11 B11
  have hA0 := numV_range l
  go_upto_region 3 with (fail)
  generalize w11.alloc (.cells #[.int .i64 (numV l), .slice none 0 0] 39) = w12 at *
  generalize w11.heap.size = gx at *
  go_wp2_with fail
  refine (num_any g (numL l) (numB l false) w12 t12.rd).mono ?_
  rintro e w13 ⟨rfl, r13, g13⟩
  have t13 := t12.read r13 g13
  clear t12 r13 g13
  have hN := numV_range (numL l)
  have HF : Hid (∀ x, takeX l = some x → ((min (numV (numL l)) 16).toNat : Int) = numV (numL l) ∧ takeEs (min (numV (numL l)) 16).toNat (numL (numL l)) (numB (numL l) (numB l false)) = some (x.es, []) ∧ mayX ⟨numV l, x.es⟩ = 0) := Go.Lib.hid fun x h => take_find h
  have HO : Hid (∀ es, numV (numL l) = ((es : List Ev).length : Int) → takeEs es.length (numL (numL l)) (numB (numL l) (numB l false)) = some (es, []) → mayX ⟨numV l, es⟩ = 0 → takeX l = some ⟨numV l, es⟩) := Go.Lib.hid fun es h1 h2 h3 => takeX_of h1 h2 h3
  have hbb : numB (numL l) (numB l false) = true → (min (numV (numL l)) 16).toNat = 0 := by
    intro hc
    have h0 : numV (numL l) = 0 := by
      by_cases h2 : numB l false = true
      · rw [(num_bad h2).2]
        rfl
      · have h3 : numB l false = false := by simpa using h2
        rw [h3] at hc
        exact (num_bad hc).1
    rw [h0]
    rfl
  have HBB := Go.Lib.hid hbb
  clear hbb
  generalize numV l = a at *
  generalize numV (numL l) = n at *
  generalize hl2 : numL (numL l) = l2 at *
  generalize hb2 : numB (numL l) (numB l false) = b2 at *
  generalize hK : (min n 16).toNat = K at *
  clear hl2 hb2
  go_wp2_with fail
  refine (takeEs10_any g l2 b2 n K w13 t13.rd hK HBB.out).mono ?_
  rintro e w14 ⟨A, m, c, es, l', b', rfl, oe, r14, g14, HE⟩
  have t14 := t13.read r14 g14
  have oe' := oe.lower (base' := gx + 1) t13.bx.lt
  have h2 := t14.hg
  have hgx0 := t13.hw
  have y1 := t14.bx.c1
  have zf := t14.bx.frozen 1
  have hs := grown_set w14 gx 1 (.slice A m c)
  have t15 : RtAt 161 (w14.setCell ⟨gx, 1, none⟩ (.slice A m c)) w g l' b' gx a A m c es :=
    ⟨rdr_apart r14 hs (fun r e => by injection e; omega), t14.res.far (by omega) _, t14.bx.set1 _, oe'.off hs (by omega), t14.bel.setCell (by show w.heap.size ≤ gx; omega) _, hwg, h2⟩
  clear t13 t14 oe oe' r14 g14 hs HBB
  go_upto_region 5 with (fail)
  generalize w14.setCell ⟨gx, 1, none⟩ (.slice A m c) = w15 at *
  clear y1 zf
  have y0 := t15.bx.c0
  have y1 := t15.bx.c1
  have q0 := t15.res.c0
  have q1 := t15.res.c1
  have z0 := t15.res.frozen 0
  have z1 := t15.res.frozen 1
  have HLn := Go.Lib.hid t15.own.len
  by_cases hmn : (m : Int) = n
  case neg =>
    have hnone : takeX l = none := by
      cases hx : takeX l with
      | none => rfl
      | some x =>
        obtain ⟨f1, f2, f3⟩ := HF.out x hx
        rcases HE.out with ⟨_, h4⟩ | ⟨h3, _⟩
        · rw [h4] at hmn
          exact absurd f1 hmn
        · rw [h3] at f2
          cases f2
    have HNONE := Go.Lib.hid hnone
    have i1 : ((m : Int) != n) = true := by rw [bne_iff_ne]; exact hmn
    have HFIN := Go.Lib.hid (t15.fin (.int .i64 0) (.slice none 0 0) _ rfl)
    clear hnone hmn HF HO t15
    go_wp2_with fail
    obtain ⟨E9, _, B9⟩ := HFIN.out
    generalize ((w15.setCell ⟨w.heap.size, 0, none⟩ (.int .i64 0)).setCell ⟨w.heap.size, 1, none⟩ (.slice none 0 0)) = w9 at *
    have y0 := E9.c0
    have y1 := E9.c1
    exact bodyPost_ret (v := .tuple #[.agg #[.int .i64 0, .slice none 0 0], .int .i64 2]) (by simp [results, Tryz.results69, go_sem, y0, y1]) rfl ⟨B9, .inr ⟨HNONE.out, rfl⟩⟩
  subst hmn
  by_cases hl' : l' = []
  case neg =>
    have hnone : takeX l = none := by
      cases hx : takeX l with
      | none => rfl
      | some x =>
        obtain ⟨f1, f2, f3⟩ := HF.out x hx
        rcases HE.out with ⟨h3, h4⟩ | ⟨h3, _⟩
        · rw [h3] at f2
          simp only [Option.some.injEq, Prod.mk.injEq] at f2
          exact absurd f2.2 hl'
        · rw [h3] at f2
          cases f2
    have HNONE := Go.Lib.hid hnone
    have hpos : 0 < l'.length := List.length_pos_iff.2 hl'
    have lf := left_any g l' b' w15 t15.rd
    generalize l'.length = k at *
    have i2 : (0 : Int) < k := by omega
    have HFIN := Go.Lib.hid (t15.fin (.int .i64 0) (.slice none 0 0) _ rfl)
    have LF := Go.Lib.hid lf
    clear hnone hl' HF HO t15 lf hpos
    go_wp2_with fail
    refine (LF.out).mono ?_
    rintro e w16 ⟨rfl, rfl⟩
    go_wp2_with fail
    obtain ⟨E9, _, B9⟩ := HFIN.out
    generalize ((w15.setCell ⟨w.heap.size, 0, none⟩ (.int .i64 0)).setCell ⟨w.heap.size, 1, none⟩ (.slice none 0 0)) = w9 at *
    have y0 := E9.c0
    have y1 := E9.c1
    exact bodyPost_ret (v := .tuple #[.agg #[.int .i64 0, .slice none 0 0], .int .i64 2]) (by simp [results, Tryz.results69, go_sem, y0, y1]) rfl ⟨B9, .inr ⟨HNONE.out, rfl⟩⟩
  subst hl'
  have hes : takeEs K l2 b2 = some (es, []) ∧ m = K := by
    rcases HE.out with h3 | ⟨_, h4⟩
    · exact h3
    · omega
  have hev := (takeEs_canon _ _ _ _ _ hes.1).2.2.1
  have hbk : BOk ⟨a, es⟩ := ⟨fun e he => evOk_may (hev e he), hA0⟩
  have iv : IsB w15 (.agg #[.int .i64 a, .slice A m c]) ⟨a, es⟩ := ⟨_, _, _, rfl, t15.own.rd⟩
  have HES := Go.Lib.hid hes
  have lf := left_any g [] b' w15 t15.rd
  have LF := Go.Lib.hid lf
  clear hes hev lf
  go_wp2_with fail
  refine (LF.out).mono ?_
  rintro e w16 ⟨rfl, rfl⟩
  go_wp2_with fail
  refine (may10_any _ ⟨a, es⟩ w15 iv hbk).mono ?_
  rintro e w17 ⟨rfl, b17⟩
  have t17 := t15.below b17
  clear y0 y1 q0 q1 z0 z1 iv t15 b17 LF
  have y0 := t17.bx.c0
  have y1 := t17.bx.c1
  have q0 := t17.res.c0
  have q1 := t17.res.c1
  have z0 := t17.res.frozen 0
  have z1 := t17.res.frozen 1
  by_cases h0 : mayX ⟨a, es⟩ = 0
  · have hyes : takeX l = some ⟨a, es⟩ := HO.out es (by rw [HLn.out]) (by rw [HLn.out, HES.out.2]; exact HES.out.1) h0
    have HY := Go.Lib.hid hyes
    have HFIN := Go.Lib.hid (t17.fin (.int .i64 a) (.slice A m c) _ rfl)
    rw [h0]
    clear hyes h0 HF HO t17 HE
    go_wp2_with fail
    obtain ⟨E9, O9, B9⟩ := HFIN.out
    generalize ((w17.setCell ⟨w.heap.size, 0, none⟩ (.int .i64 a)).setCell ⟨w.heap.size, 1, none⟩ (.slice A m c)) = w9 at *
    have y0 := E9.c0
    have y1 := E9.c1
    exact bodyPost_ret (v := .tuple #[.agg #[.int .i64 a, .slice A m c], .int .i64 0]) (by simp [results, Tryz.results69, go_sem, y0, y1]) rfl ⟨B9, .inl ⟨_, _, _, _, HY.out, rfl, O9⟩⟩
  · have hnone : takeX l = none := by
      cases hx : takeX l with
      | none => rfl
      | some x =>
        obtain ⟨f1, f2, f3⟩ := HF.out x hx
        rw [HES.out.1] at f2
        simp only [Option.some.injEq, Prod.mk.injEq] at f2
        rw [← f2.1] at f3
        exact absurd f3 h0
    have HNONE := Go.Lib.hid hnone
    have i3 : (mayX ⟨a, es⟩ != 0) = true := by rw [bne_iff_ne]; exact h0
    have HFIN := Go.Lib.hid (t17.fin (.int .i64 0) (.slice none 0 0) _ rfl)
    clear hnone h0 HF HO t17 HE
    generalize mayX ⟨a, es⟩ = M at *
    go_wp2_with fail
    obtain ⟨E9, _, B9⟩ := HFIN.out
    generalize ((w17.setCell ⟨w.heap.size, 0, none⟩ (.int .i64 0)).setCell ⟨w.heap.size, 1, none⟩ (.slice none 0 0)) = w9 at *
    have y0 := E9.c0
    have y1 := E9.c1
    exact bodyPost_ret (v := .tuple #[.agg #[.int .i64 0, .slice none 0 0], .int .i64 2]) (by simp [results, Tryz.results69, go_sem, y0, y1]) rfl ⟨B9, .inr ⟨HNONE.out, rfl⟩⟩
theorem bApi : BApi := ⟨may10_any, put10_any, take10_any⟩
end Go.Proofs.YtppidbdkejkopaaGreatDoor.BtWalk
namespace Go.Proofs.YtppidbdkejkopaaGreatDoor.WlWalk
open Go.RowKit MemRow Ev NameMath NameWalk EvWalk NumMem DkWalk FrMath BtWalk EdWalk CrcWalk
set_option maxHeartbeats 8000000 in
set_option maxRecDepth 100000 in
theorem takeL_any {base : Nat} {w : World} {P Q : Thing} {g gl many : Nat} {last : Int} {A : Option Addr} {n cap : Nat} {b : List UInt8} (hp : Pair base w P (With (With Q (SlT A n cap b)) (LlT gl g many last))) (kp : Keeps P) (kq : Keeps Q) (hb : base ≤ w.heap.size) (hn : n ≤ 100000) (hl0 : 0 ≤ last ∧ last ≤ 1048576) :
    Calls Tryz.prog 37 #[.pointer (some ⟨gl, 0, none⟩), .slice A n cap] w fun e w' => ∃ B m c, e = .returned (.tuple #[.slice B m c, .int .i64 (goodN b last : Nat)]) ∧ Pair base w' P (With (With (With Q (SlT A n cap b)) (LlT gl g many (last + (tot (goodB b last) : Int)))) (BsT w.heap.size B m c (goodB b last))) ∧ Below base w w' ∧ last + (tot (goodB b last) : Int) ≤ 1048576 := by
  have kS : Keeps (With Q (SlT A n cap b)) := with_keeps kq (slT_keeps _ _ _ _)
  obtain ⟨F, G, hpF, hqG, h1, h2, h3⟩ := hp
  have R0 := withSl_rd hqG
  have HL := Go.Lib.hid R0.len
  have t0 : TkAt base P (With Q (SlT A n cap b)) F G gl g many w.heap.size w last none 0 0 [] := ⟨hpF, hqG, h1, h2, h3, kp.lt hpF, (with_keeps kS (bxT_keeps _ _ _)).lt hqG, hb, Nat.le_refl _, OwnBs.nil _ _⟩
  have B0 := Below.refl base w
  clear hpF hqG h1 h2 h3 R0
  go_enter Tryz.func37, Tryz.ntmps37
  go_wp2_with fail
  go_loopw [6, 7, 8, 9, 10, 11] (fun lv i _ _ _ _ wr => ∃ (B : Option Addr) (m c j : Nat) (L : Int) (ys : List Bat), lv = .slice B m c ∧ i = .int .i64 (j : Int) ∧ j ≤ n ∧ (0 ≤ L ∧ L ≤ 1048576) ∧ 8 * m ≤ j ∧ Hid (goodB b last = ys ++ goodB (b.drop j) L) ∧ Hid ((bytesW ys).length = j) ∧ Hid (L = last + (tot ys : Int)) ∧ TkAt base P (With Q (SlT A n cap b)) F G gl g many w.heap.size wr L B m c ys ∧ Below base w wr) (fun _ i _ _ _ _ _ => n - (intOf i).toNat)
  case atStart => exact ⟨none, 0, 0, 0, last, [], rfl, rfl, Nat.zero_le _, hl0, Nat.zero_le _, Go.Lib.hid rfl, Go.Lib.hid rfl, Go.Lib.hid (by simp [tot]), t0, B0⟩
  case round =>
    obtain ⟨B, m, c, j, L, ys, rfl, rfl, hj, hL, h8, HQ, HJ, HT, tj, Bj⟩ := hrel
    clear t0 B0
    have HEND := Go.Lib.hid (fun (hz : goodB (b.drop j) L = []) => good_step_none HQ.out HJ.out hz)
    obtain ⟨l0, l1, l2, f1, f2, tb⟩ := ll_cells tj.pair
    obtain ⟨A1, q1, r1⟩ := FrWalk.slice_low (withSl_rd tj.q) hj
    have bd : Below wr.heap.size wr wr.drew := bel_drew (Below.refl _ _)
    have td := tj.below kp kS bd
    have Bd := Bj.trans (bel_up (Nat.le_trans tj.hlo tj.sz) bd)
    have tbd := tb.drew
    have rd1 := r1.below bd
    clear l0 l1 l2 f1 f2
    go_upto_region 3 with (fail)
    go_region_with (go_at_call 68; refine (FrWalk.takeT9_any gl 1 A1 (n - j) (cap - j) (b.drop j) wr.drew tbd rd1).mono ?_; rintro e w2 ⟨A2, m2, c2, rfl, o2, b2⟩)
    have t2 := td.below kp kS b2
    have B2 := Bd.trans (bel_up (Nat.le_trans td.hlo td.sz) b2)
    clear td Bd b2 bd tbd rd1 r1 q1 tb tj Bj
    cases ht : takeF (b.drop j) with
    | none =>
      have hz : goodB (b.drop j) L = [] := by unfold goodB; rw [scanF_none ht]; rfl
      have E1 := Go.Lib.hid (HEND.out hz)
      have hle : L = last + (tot ys : Int) := HT.out
      have hE : last + (tot ys : Int) ≤ 1048576 := by omega
      have HE := Go.Lib.hid hE
      rw [FrWalk.takeN_none ht]
      rw [FrWalk.takeB_none ht] at o2
      clear ht hz hle hE
      go_wp2_with fail
      refine (bApi.take A2 m2 c2 [] w2 o2.rd (by simp)).mono ?_
      rintro e w3 hx
      obtain ⟨A3, m3, c3, rfl, r3, b3⟩ := takeX_one hx
      generalize (tkX ([] : List UInt8)) = x3 at *
      generalize (tkN ([] : List UInt8)) = n3 at *
      have t3 := t2.below kp kS b3
      have B3 := B2.trans (bel_up (Nat.le_trans t2.hlo t2.sz) b3)
      clear hx t2 B2 o2 r3 b3
      have al4 := batch_bel w3 (.int .i64 x3.a) (.slice A3 m3 c3)
      have t4 := t3.below kp kS al4
      have B4 := B3.trans (bel_up (Nat.le_trans t3.hlo t3.sz) al4)
      clear t3 B3 al4
      go_upto_region 5 with (fail)
      generalize w3.alloc (.cells #[.int .i64 x3.a, .slice A3 m3 c3] 39) = w4 at *
      generalize w3.heap.size = gx at *
      go_quiet (fail)
      have bq := EeLaw.bel_drewN (Below.refl w4.heap.size w4) nq
      have t5 := t4.below kp kS bq
      have B5 := B4.trans (bel_up (Nat.le_trans t4.hlo t4.sz) bq)
      go_wp2_with fail
      go_ret2
      exact ⟨B, m, c, by (rw [E1.out.2]; rfl), by rw [E1.out.1, ← HT.out]; exact t5.out, B5, by rw [E1.out.1]; exact HE.out⟩
    | some x =>
      obtain ⟨hx, hd⟩ := takeF_some ht
      have hle := congrArg List.length hd
      rw [List.length_append, frameF_length, List.length_drop, HL.out] at hle
      rw [FrWalk.takeN_some ht]
      rw [FrWalk.takeB_some ht] at o2
      have hxl : x.length ≤ 1000000 := by unfold maxF at hx; omega
      have i1 : ((((8 + x.length : Nat) : Int)) == 0) = false := by rw [beq_eq_false_iff_ne]; omega
      have HF := Go.Lib.hid ht
      have hkn : j + (8 + x.length) ≤ n := by omega
      have HKN := Go.Lib.hid hkn
      clear ht hd hle hx
      generalize hk : 8 + x.length = k at *
      have HK := Go.Lib.hid hk
      have HXL := Go.Lib.hid hxl
      clear hk hxl hkn
      go_wp2_with fail
      refine (bApi.take A2 m2 c2 x w2 o2.rd HXL.out).mono ?_
      rintro e w3 ⟨b3, hp⟩
      have t3 := t2.below kp kS b3
      have B3 := B2.trans (bel_up (Nat.le_trans t2.hlo t2.sz) b3)
      rcases hp with ⟨y, A4, m4, c4, hty, rfl, oy⟩ | ⟨hty, rfl⟩
      · have al4 := batch_bel w3 (.int .i64 y.a) (.slice A4 m4 c4)
        have x4 := BxAt.new w3 (.int .i64 y.a) (.slice A4 m4 c4)
        have t4 := t3.below kp kS al4
        have hgx : some w3.heap.size ≠ B.map (·.block) := fun e => by
          obtain ⟨_, oc, _⟩ := t3.own
          cases hB : B with
          | none => rw [hB] at e; cases e
          | some a =>
            have := (OwnC.lt oc a hB).2
            rw [hB] at e
            injection e with e
            have e2 : w3.heap.size = a.block := e
            omega
        have HGX := Go.Lib.hid hgx
        have oy4 := (oy.below al4).lower (base' := w.heap.size) (Nat.le_trans t2.sz (Nat.le_refl _))
        have B4 := B3.trans (bel_up (Nat.le_trans t3.hlo t3.sz) al4)
        have hmay := ((takeX_iff x y).1 hty).1
        obtain ⟨z1, z2, _, z4, z5⟩ := (mayX_zero y).1 hmay
        have hm4 := oy.len
        have HTY := Go.Lib.hid hty
        clear t2 t3 oy b3 B2 B3 al4 o2 hty hmay hgx
        go_upto_region 5 with (fail)
        generalize w3.alloc (.cells #[.int .i64 y.a, .slice A4 m4 c4] 39) = w4 at *
        generalize w3.heap.size = gx at *
        have k0 := x4.c0
        have k1 := x4.c1
        obtain ⟨l0, l1, l2, f1, f2, _⟩ := ll_cells t4.pair
        clear l0 l1 f1
        by_cases ha : y.a = L
        · have HNEW := Go.Lib.hid (good_step HQ.out HF.out HTY.out ha)
          have hbw : (bytesW (ys ++ [y])).length = j + k := by
            rw [bytesW_append, bytesW_one, List.length_append, frameF_length, HJ.out, ← HK.out, ((takeX_iff x y).1 HTY.out).2]
            omega
          have HBW := Go.Lib.hid hbw
          have htt : L + (m4 : Int) = last + (tot (ys ++ [y]) : Int) := by
            have e1 : tot [y] = y.es.length := by simp [tot]
            rw [tot_append, e1, HT.out, hm4]
            push_cast
            omega
          have HTT := Go.Lib.hid htt
          have i2 : (y.a != L) = false := by rw [bne_eq_false_iff_eq]; exact ha
          have hL2 : 0 ≤ L + (m4 : Int) ∧ L + (m4 : Int) ≤ 1048576 := by omega
          rw [HK.out, hm4] at HNEW
          clear hbw htt
          go_wp2_with fail
          go_quiet (fail)
          have bq := EeLaw.bel_drewN (Below.refl w4.heap.size w4) nq
          have t5 := t4.below kp kS bq
          have B5 := B4.trans (bel_up (Nat.le_trans t4.hlo t4.sz) bq)
          have x5 := x4.below bq
          have oy5 := oy4.below bq
          generalize w4.drewN nq = w5 at *
          clear t4 B4 x4 oy4 bq k0 k1 l2 f2 i2 i1 HF HTY HQ HT HJ HEND ha
          have al5 : Below w5.heap.size w5 (w5.alloc (.cells #[.int .i64 y.a, .slice A4 m4 c4] 39)) := batch_bel w5 _ _
          have t6 := t5.below kp kS al5
          have x6 := x5.below al5
          have oy6 := oy5.below al5
          have B6 := B5.trans (bel_up (Nat.le_trans t5.hlo t5.sz) al5)
          have k0 := x5.c0
          have k1 := x5.c1
          have d5 : RdC 2 (w5.alloc (.cells #[.int .i64 y.a, .slice A4 m4 c4] 39)) (some ⟨w5.heap.size, 0, none⟩) 1 1 [.int .i64 y.a, .slice A4 m4 c4] := RdC.new w5 39 [.int .i64 y.a, .slice A4 m4 c4] rfl (by decide)
          obtain ⟨cs, oc, hlc, hbc⟩ := t6.own
          have h63 : m + 1 ≤ maxLen := by unfold maxLen; omega
          have hsz : (m + 1) * 32 ≤ 140737488355328 := by omega
          have big := t6.sz
          have hkn := HKN.out
          have hm8 : 8 * (m + 1) ≤ j + k := by have := HK.out; omega
          clear t5 B5 x5 oy5 al5
          go_upto_region 8 with (at_builtin; refine wpList_append_cells rfl (.tmp 44) (.tmp 46) 30 rfl 39 (.agg #[.int .i64 0, .slice none 0 0]) 32 Tryz.underlying30 batch_info rfl (by decide) rfl rfl oc d5 (bat_one y _ _ _) h63 hsz big ?_; intro A8 c8 w8 o8 g8 _)
          obtain ⟨t8, b8⟩ := t6.more kp kS oc hlc hbc oy6 o8 g8
          have x8 := x6.grown g8 HGX.out
          have B8 := B6.trans (b8.mono t6.hlo)
          clear oc hbc d5 o8 oy6 t6 x6 B6 b8 g8 k0 k1 hsz h63 big
          have k1 := x8.c1
          obtain ⟨_, _, l2, _, f2, _⟩ := ll_cells t8.pair
          have wz : IntKind.i64.wrap (L + (m4 : Int)) = L + (m4 : Int) := IntWalk.i64_in _ (by omega)
          have t9 := t8.set2 kp kS (L + (m4 : Int))
          have hG := t8.pair
          have B9 := B8.trans (ll_set2 kp kS hG (L + (m4 : Int))).2
          have bd9 := bel_drew (Below.refl (w8.setCell ⟨gl, 258, none⟩ (.int .i64 (L + (m4 : Int)))).heap.size (w8.setCell ⟨gl, 258, none⟩ (.int .i64 (L + (m4 : Int)))))
          have T10 := Go.Lib.hid (t9.below kp kS bd9)
          have B10 := Go.Lib.hid (B9.trans (bel_up (Nat.le_trans t9.hlo t9.sz) bd9))
          clear t8 t9 B8 B9 bd9 hG x8
          go_region_with (fail)
          all_goals
            generalize (w8.setCell ⟨gl, 258, none⟩ (.int .i64 (L + (m4 : Int)))).drew = w10 at *
            clear k1 l2 f2 wz
            go_wp2_with fail
            go_roundw
            case rel => exact ⟨A8, m + 1, c8, j + k, L + (m4 : Int), ys ++ [y], rfl, by go_num, hkn, hL2, hm8, HNEW, HBW, HTT, T10.out, B10.out⟩
            case measure => simp [intOf]; have := HK.out; omega
        · have hz : goodB (b.drop j) L = [] := by unfold goodB; rw [scanF_some HF.out, chain_off HTY.out ha]
          have E1 := Go.Lib.hid (HEND.out hz)
          have hE : last + (tot ys : Int) ≤ 1048576 := by have := HT.out; omega
          have HE := Go.Lib.hid hE
          have i2 : (y.a != L) = true := by rw [bne_iff_ne]; exact ha
          clear hz hE ha
          go_wp2_with fail
          go_quiet (fail)
          have bq := EeLaw.bel_drewN (Below.refl w4.heap.size w4) nq
          have t5 := t4.below kp kS bq
          have B5 := B4.trans (bel_up (Nat.le_trans t4.hlo t4.sz) bq)
          go_wp2_with fail
          go_ret2
          exact ⟨B, m, c, by (rw [E1.out.2]; rfl), by rw [E1.out.1, ← HT.out]; exact t5.out, B5, by rw [E1.out.1]; exact HE.out⟩
      · have hz : goodB (b.drop j) L = [] := by unfold goodB; rw [scanF_some HF.out, chain_none hty]
        have E1 := Go.Lib.hid (HEND.out hz)
        have hE : last + (tot ys : Int) ≤ 1048576 := by have := HT.out; omega
        have HE := Go.Lib.hid hE
        have al4 := batch_bel w3 (.int .i64 0) (.slice none 0 0)
        have t4 := t3.below kp kS al4
        have B4 := B3.trans (bel_up (Nat.le_trans t3.hlo t3.sz) al4)
        clear hz hE hty t2 t3 B2 B3 b3
        go_upto_region 5 with (fail)
        generalize w3.alloc (.cells #[.int .i64 0, .slice none 0 0] 39) = w4 at *
        generalize w3.heap.size = gx at *
        go_quiet (fail)
        have bq := EeLaw.bel_drewN (Below.refl w4.heap.size w4) nq
        have t5 := t4.below kp kS bq
        have B5 := B4.trans (bel_up (Nat.le_trans t4.hlo t4.sz) bq)
        go_wp2_with fail
        go_ret2
        exact ⟨B, m, c, by (rw [E1.out.2]; rfl), by rw [E1.out.1, ← HT.out]; exact t5.out, B5, by rw [E1.out.1]; exact HE.out⟩
end Go.Proofs.YtppidbdkejkopaaGreatDoor.WlWalk
namespace Go.Proofs.YtppidbdkejkopaaGreatDoor.WlWalk
open Go.RowKit MemRow Ev NameMath NameWalk EvWalk NumMem DkWalk BtWalk EdWalk
def Imp (Q R : Thing) : Prop := ∀ w G, Q w G → R w G
theorem pair_imp {base : Nat} {w : World} {P Q R : Thing} (i : Imp Q R) (h : Pair base w P Q) : Pair base w P R := by
  obtain ⟨F, G, hp, hq, h1, h2, h3⟩ := h
  exact ⟨F, G, hp, i w G hq, h1, h2, h3⟩
theorem th_left {Q Q' R : Thing} (i : Imp Q Q') : Imp (With Q R) (With Q' R) := fun w _ ⟨G1, G2, h1, h2, i1, i2, hl, hx⟩ => ⟨G1, G2, i w G1 h1, h2, i1, i2, hl, hx⟩
theorem th_place {Q R S : Thing} : Imp (With (With Q R) S) (With (With Q S) R) := fun w G ⟨G1, G2, ⟨H1, H2, hq, hr, a1, a2, a3, a4⟩, hs, i1, i2, hl, hx⟩ => by
  refine ⟨fun k => H1 k ∨ G2 k, H2, ⟨H1, G2, hq, hs, fun k hk => .inl hk, fun k hk => .inr hk, fun k hk => ?_, fun k h1 h2 => hx k (a1 k h1) h2⟩, hr, fun k hk => ?_, fun k hk => i1 k (a2 k hk), hl, fun k hk h2 => ?_⟩
  · rcases hk with hk | hk
    · exact a3 k (a1 k hk)
    · exact hl k (i2 k hk)
  · rcases hk with hk | hk
    · exact i1 k (a1 k hk)
    · exact i2 k hk
  · rcases hk with hk | hk
    · exact a4 k hk h2
    · exact hx k (a2 k h2) hk
theorem th_drop {Q R S : Thing} : Imp (With (With Q R) S) (With Q S) := fun _ _ ⟨_, G2, ⟨H1, _, hq, _, a1, _, _, _⟩, hs, i1, i2, hl, hx⟩ => ⟨H1, G2, hq, hs, fun k hk => i1 k (a1 k hk), i2, hl, fun k hk h2 => hx k (a1 k hk) h2⟩
theorem th_trans {Q R S : Thing} (i : Imp Q R) (j : Imp R S) : Imp Q S := fun w G h => j w G (i w G h)
theorem th_mv2 {A R B C : Thing} : Imp (With (With (With A R) B) C) (With (With (With A B) C) R) := th_trans (th_left th_place) th_place
theorem th_mv2' {A R B C : Thing} : Imp (With (With (With A B) C) R) (With (With (With A R) B) C) := th_trans th_place (th_left th_place)
theorem th_mv3 {A R B C D : Thing} : Imp (With (With (With (With A R) B) C) D) (With (With (With (With A B) C) D) R) := th_trans (th_left th_mv2) th_place
theorem th_mv3' {A R B C D : Thing} : Imp (With (With (With (With A B) C) D) R) (With (With (With (With A R) B) C) D) := th_trans th_place (th_left th_mv2')
theorem th_mv4 {A R B C D E : Thing} : Imp (With (With (With (With (With A R) B) C) D) E) (With (With (With (With (With A B) C) D) E) R) := th_trans (th_left th_mv3) th_place
theorem th_mv4' {A R B C D E : Thing} : Imp (With (With (With (With (With A B) C) D) E) R) (With (With (With (With (With A R) B) C) D) E) := th_trans th_place (th_left th_mv3')
def RsT (r1 r2 r3 : Nat) (v1 v2 v3 : Value) : Thing := fun w G => (w.heap[r1]? = some (.cells #[v1] 29 (0, 0)) ∧ w.heap[r2]? = some (.cells #[v2] 30 (0, 0)) ∧ w.heap[r3]? = some (.cells #[v3] 31 (0, 0))) ∧ (G r1 ∧ G r2 ∧ G r3) ∧ ∀ k, G k → k < w.heap.size
theorem rsT_keeps (r1 r2 r3 : Nat) (v1 v2 v3 : Value) : Keeps (RsT r1 r2 r3 v1 v2 v3) :=
  ⟨fun ⟨⟨a, b, c⟩, ⟨x, y, z⟩, hl⟩ hs hk => ⟨⟨(hk _ x).trans a, (hk _ y).trans b, (hk _ z).trans c⟩, ⟨x, y, z⟩, fun k h => Nat.lt_of_lt_of_le (hl k h) hs⟩, fun h => h.2.2⟩
theorem one_put {w : World} {b : Nat} {v u : Value} {t : TypeId} (h : w.heap[b]? = some (.cells #[v] t (0, 0))) : (w.setCell ⟨b, 0, none⟩ u).heap[b]? = some (.cells #[u] t (0, 0)) := by
  simp only [World.setCell, Array.getElem?_modify, h]
  rfl
theorem one_far {w : World} {b k : Nat} {u : Value} (h : k ≠ b) : (w.setCell ⟨b, 0, none⟩ u).heap[k]? = w.heap[k]? := by
  have : b ≠ k := fun e => h e.symm
  simp [World.setCell, Array.getElem?_modify, this]
theorem one_cell {w : World} {b : Nat} {v : Value} {t : TypeId} (h : w.heap[b]? = some (.cells #[v] t (0, 0))) : w.cell? ⟨b, 0, none⟩ = some v ∧ w.frozen? ⟨b, 0, none⟩ = false := by
  exact ⟨by rw [cell_of_row w b 0 _ _ _ h]; rfl, by simp [World.frozen?, h]⟩
def resW (w : World) (r1 r2 r3 : Nat) (u1 u2 u3 : Value) : World := ((w.setCell ⟨r1, 0, none⟩ u1).setCell ⟨r2, 0, none⟩ u2).setCell ⟨r3, 0, none⟩ u3
section
variable {base : Nat} {w : World} {P Q : Thing} {r1 r2 r3 : Nat} {v1 v2 v3 : Value}
theorem rs_cells (h : Pair base w P (With Q (RsT r1 r2 r3 v1 v2 v3))) : (w.cell? ⟨r1, 0, none⟩ = some v1 ∧ w.frozen? ⟨r1, 0, none⟩ = false) ∧ (w.cell? ⟨r2, 0, none⟩ = some v2 ∧ w.frozen? ⟨r2, 0, none⟩ = false) ∧ (w.cell? ⟨r3, 0, none⟩ = some v3 ∧ w.frozen? ⟨r3, 0, none⟩ = false) ∧ r1 ≠ r2 ∧ r1 ≠ r3 ∧ r2 ≠ r3 := by
  obtain ⟨_, _, _, ⟨_, _, _, ⟨⟨a, b, c⟩, _⟩, _⟩, _⟩ := h
  refine ⟨one_cell a, one_cell b, one_cell c, fun e => ?_, fun e => ?_, fun e => ?_⟩
  · rw [e, b] at a
    injection a with a
    injection a with _ a
    cases a
  · rw [e, c] at a
    injection a with a
    injection a with _ a
    cases a
  · rw [e, c] at b
    injection b with b
    injection b with _ b
    cases b
theorem rs_put (kp : Keeps P) (kq : Keeps Q) (h : Pair base w P (With Q (RsT r1 r2 r3 v1 v2 v3))) (u1 u2 u3 : Value) :
    Pair base (resW w r1 r2 r3 u1 u2 u3) P (With Q (RsT r1 r2 r3 u1 u2 u3)) ∧ Below base w (resW w r1 r2 r3 u1 u2 u3) ∧
    ((w.setCell ⟨r1, 0, none⟩ u1).cell? ⟨r2, 0, none⟩ = some v2 ∧ (w.setCell ⟨r1, 0, none⟩ u1).frozen? ⟨r2, 0, none⟩ = false) ∧
    (((w.setCell ⟨r1, 0, none⟩ u1).setCell ⟨r2, 0, none⟩ u2).cell? ⟨r3, 0, none⟩ = some v3 ∧ ((w.setCell ⟨r1, 0, none⟩ u1).setCell ⟨r2, 0, none⟩ u2).frozen? ⟨r3, 0, none⟩ = false) := by
  obtain ⟨_, _, _, n12, n13, n23⟩ := rs_cells h
  obtain ⟨F, G, hp, ⟨G1, G2, h1, ⟨⟨a, b, c⟩, ⟨x, y, z⟩, hl⟩, i1, i2, hlt, hx⟩, hF, hG, hd⟩ := h
  have b1 : (w.setCell ⟨r1, 0, none⟩ u1).heap[r2]? = _ := (one_far n12.symm).trans b
  have c1 : (w.setCell ⟨r1, 0, none⟩ u1).heap[r3]? = _ := (one_far n13.symm).trans c
  have c2 : ((w.setCell ⟨r1, 0, none⟩ u1).setCell ⟨r2, 0, none⟩ u2).heap[r3]? = _ := (one_far n23.symm).trans c1
  have hk : ∀ k, k ≠ r1 → k ≠ r2 → k ≠ r3 → (resW w r1 r2 r3 u1 u2 u3).heap[k]? = w.heap[k]? := fun k e1 e2 e3 => (one_far e3).trans ((one_far e2).trans (one_far e1))
  have hsz : (resW w r1 r2 r3 u1 u2 u3).heap.size = w.heap.size := by simp [resW, World.setCell]
  refine ⟨⟨F, G, kp.keep hp (by omega) fun k hf => hk k (fun e => hd k hf (i2 _ (by rw [e]; exact x))) (fun e => hd k hf (i2 _ (by rw [e]; exact y))) (fun e => hd k hf (i2 _ (by rw [e]; exact z))), ⟨G1, G2, kq.keep h1 (by omega) fun k hf => hk k (fun e => hx k hf (by rw [e]; exact x)) (fun e => hx k hf (by rw [e]; exact y)) (fun e => hx k hf (by rw [e]; exact z)), ⟨⟨(one_far n13).trans ((one_far n12).trans (one_put a)), (one_far n23).trans (one_put b1), one_put c2⟩, ⟨x, y, z⟩, fun k hk2 => by rw [hsz]; exact hl k hk2⟩, i1, i2, fun k hk2 => by rw [hsz]; exact hlt k hk2, hx⟩, hF, hG, hd⟩, ?_, one_cell b1, one_cell c2⟩
  exact (((Below.refl base w).setCell (by show base ≤ r1; exact hG _ (i2 _ x)) u1).setCell (by show base ≤ r2; exact hG _ (i2 _ y)) u2).setCell (by show base ≤ r3; exact hG _ (i2 _ z)) u3
end
theorem rs_new {base : Nat} {w : World} {P Q : Thing} (kp : Keeps P) (kq : Keeps Q) (hb : base ≤ w.heap.size) (h : Pair base w P Q) (v1 v2 v3 : Value) :
    Pair base (((w.alloc (.cells #[v1] 29)).alloc (.cells #[v2] 30)).alloc (.cells #[v3] 31)) P (With Q (RsT w.heap.size (w.heap.size + 1) (w.heap.size + 1 + 1) v1 v2 v3)) ∧ Below w.heap.size w (((w.alloc (.cells #[v1] 29)).alloc (.cells #[v2] 30)).alloc (.cells #[v3] 31)) := by
  have s1 : (w.alloc (.cells #[v1] 29)).heap.size = w.heap.size + 1 := by simp only [World.alloc, Array.size_push]
  have s2 : ((w.alloc (.cells #[v1] 29)).alloc (.cells #[v2] 30)).heap.size = w.heap.size + 1 + 1 := by simp only [World.alloc, Array.size_push]
  have b1 : Below w.heap.size w (w.alloc (.cells #[v1] 29)) := (Below.refl _ _).alloc (Nat.le_refl _) _
  have b2 : Below (w.heap.size + 1) (w.alloc (.cells #[v1] 29)) ((w.alloc (.cells #[v1] 29)).alloc (.cells #[v2] 30)) := (Below.refl _ _).alloc (by omega) _
  have b3 : Below (w.heap.size + 1 + 1) ((w.alloc (.cells #[v1] 29)).alloc (.cells #[v2] 30)) (((w.alloc (.cells #[v1] 29)).alloc (.cells #[v2] 30)).alloc (.cells #[v3] 31)) := (Below.refl _ _).alloc (by omega) _
  have h1 := heap_alloc_new w (.cells #[v1] 29)
  have h2 := heap_alloc_new (w.alloc (.cells #[v1] 29)) (.cells #[v2] 30)
  have h3 := heap_alloc_new ((w.alloc (.cells #[v1] 29)).alloc (.cells #[v2] 30)) (.cells #[v3] 31)
  rw [s1] at h2
  rw [s2] at h3
  have B : Below w.heap.size w (((w.alloc (.cells #[v1] 29)).alloc (.cells #[v2] 30)).alloc (.cells #[v3] 31)) := b1.trans ((b2.trans (b3.mono (by omega))).mono (by omega))
  have sz : (((w.alloc (.cells #[v1] 29)).alloc (.cells #[v2] 30)).alloc (.cells #[v3] 31)).heap.size = w.heap.size + 1 + 1 + 1 := by simp only [World.alloc, Array.size_push]
  refine ⟨pair_more h kp kq hb B ⟨⟨?_, ?_, h3⟩, ⟨⟨by omega, by omega⟩, ⟨by omega, by omega⟩, ⟨by omega, by omega⟩⟩, fun k hk => hk.2⟩, B⟩
  · exact (b3.block _ (by omega)).trans ((b2.block _ (by omega)).trans h1)
  · exact (b3.block _ (by omega)).trans h2
theorem BatsC.append {w : World} {base : Nat} : ∀ (xs ys : List Bat) (cs ds : List Value), BatsC w base xs cs → BatsC w base ys ds → BatsC w base (xs ++ ys) (cs ++ ds)
  | [], ys, cs, ds, h, h' => by
    obtain rfl : cs = [] := h
    exact h'
  | x :: xs, ys, cs, ds, ⟨A, n, c, cs', hc, o, h⟩, h' => by
    subst hc
    exact ⟨A, n, c, cs' ++ ds, rfl, o, BatsC.append xs ys cs' ds h h'⟩
theorem BatsC.one {w : World} {base : Nat} : ∀ (xs : List Bat) (cs : List Value), BatsC w base xs cs → ∀ v ∈ cs, v.oneCell' = true
  | [], cs, h, v, hv => by
    obtain rfl : cs = [] := h
    simp at hv
  | x :: xs, cs, ⟨A, n, c, cs', hc, o, h⟩, v, hv => by
    subst hc
    rcases List.mem_cons.1 hv with rfl | hv
    · rfl
    · rcases List.mem_cons.1 hv with rfl | hv
      · rfl
      · exact BatsC.one xs cs' h v hv
theorem pair_bulk {base lo : Nat} {w : World} {P Z : Thing} {A B : Option Addr} {n c m d : Nat} {xs ys : List Bat} (hp : Pair base w P (With (With Z (BsT base A n c xs)) (BsT lo B m d ys))) (kp : Keeps P) (kz : Keeps Z) (hb : base ≤ w.heap.size) (hlo : base ≤ lo) (hnm : n + m ≤ 1048576) :
    ∃ A' c' w', (Builtin.append_ #[30, 30] 30 #[.slice A n c, .slice B m d]).run Tryz.prog w = .ok (.slice A' (n + m) c') w' ∧ Pair base w' P (With Z (BsT base A' (n + m) c' (xs ++ ys))) ∧ Below base w w' := by
  obtain ⟨F, G, hpF, ⟨G1, G2, ⟨H1, H2, hz, ⟨cs, K1, o, hl, hK, ha, hi, hlt2⟩, a1, a2, a3, a4⟩, ⟨ds, K2, o', hl', hK', ha', hi', hlt'⟩, i1, i2, hlt, hx⟩, hF, hG, hd⟩ := hp
  have o2 := own_lower o' hlo
  have one := BatsC.one ys ds hK'.now
  obtain ⟨A', c', w', hrun, oo, hg, hbl⟩ := run_append_cells (P := Tryz.prog) 30 30 39 (.agg #[.int .i64 0, .slice none 0 0]) 32 Tryz.underlying30 batch_info rfl (by decide) o (OwnC.rd o2) one (by unfold maxLen; omega) (by omega) hb
  refine ⟨A', c', w', hrun, ?_, ?_⟩
  · obtain ⟨_, _, _, gs, gb⟩ := hg
    have na : ∀ k, (∀ a, A = some a → a.block ≠ k) → some k ≠ A.map (·.block) := fun k hk e => by
      cases A with
      | none => cases e
      | some a => injection e with e; exact hk a rfl e.symm
    have hA : ∀ a, A = some a → H2 a.block := fun a e => (ha a e).1
    have same : ∀ k, k < w.heap.size → (∀ a, A = some a → a.block ≠ k) → w'.heap[k]? = w.heap[k]? := fun k hk hn => gb k hk (na k hn)
    have k1 : ∀ k, K1 k → w'.heap[k]? = w.heap[k]? := fun k hk => same k (hK.2 k hk) fun a e e2 => (ha a e).2 (by rw [e2]; exact hk)
    have k2 : ∀ k, K2 k → w'.heap[k]? = w.heap[k]? := fun k hk => same k (hK'.2 k hk) fun a e e2 => hx k (a2 k (by rw [← e2]; exact hA a e)) (hi' k hk)
    have hA' : ∀ a, A' = some a → (∃ b, A = some b ∧ b.block = a.block) ∨ a.block = w.heap.size := fun a e => by
      rw [e] at hbl
      rcases hbl with q | q
      · cases A with
        | none => cases q
        | some b => injection q with q; exact .inl ⟨b, rfl, q.symm⟩
      · injection q with q; exact .inr q
    have hA2 : ∀ a, A' = some a → a.block < w'.heap.size := fun a e => (OwnC.lt oo a e).2
    have nk : ∀ a, A' = some a → ¬ (K1 a.block ∨ K2 a.block) := fun a e hk => by
      rcases hA' a e with ⟨b, hb1, hb2⟩ | q
      · rw [← hb2] at hk
        rcases hk with hk | hk
        · exact (ha b hb1).2 hk
        · exact hx _ (a2 _ (hA b hb1)) (hi' _ hk)
      · rcases hk with hk | hk
        · have := hK.2 _ hk; omega
        · have := hK'.2 _ hk; omega
    have inG : ∀ k, (H2 k ∨ K2 k ∨ ∃ a, A' = some a ∧ a.block = k) → G k ∨ k = w.heap.size := fun k hk => by
      rcases hk with hk | hk | ⟨a, e, rfl⟩
      · exact .inl (i1 k (a2 k hk))
      · exact .inl (i2 k (hi' k hk))
      · rcases hA' a e with ⟨b, hb1, hb2⟩ | q
        · rw [← hb2]; exact .inl (i1 _ (a2 _ (hA b hb1)))
        · exact .inr q
    have keepsH : ∀ k, (∀ a, A = some a → a.block ≠ k) → k < w.heap.size → w'.heap[k]? = w.heap[k]? := fun k h1 h2 => same k h2 h1
    refine ⟨F, fun k => G k ∨ k = w.heap.size ∧ k < w'.heap.size, kp.keep hpF gs fun k hf => keepsH k (fun a e e2 => hd k hf (i1 k (a2 k (by rw [← e2]; exact hA a e)))) (kp.lt hpF k hf), ⟨H1, fun k => H2 k ∨ K2 k ∨ ∃ a, A' = some a ∧ a.block = k, kz.keep hz gs fun k hf => keepsH k (fun a e e2 => a4 k hf (by rw [← e2]; exact hA a e)) (kz.lt hz k hf), ⟨cs ++ ds, fun k => K1 k ∨ K2 k, oo, by rw [List.length_append, hl, hl'], ⟨fun w2 h2 => ?_, fun k hk => ?_⟩, fun a e => ⟨.inr (.inr ⟨a, e, rfl⟩), nk a e⟩, fun k hk => ?_, fun k hk => ?_⟩, fun k hk => .inl (i1 k (a1 k hk)), fun k hk => ?_, fun k hk => ?_, fun k h1 h2 => ?_⟩, hF, fun k hk => ?_, fun k hf hk => ?_⟩
    · exact BatsC.append xs ys cs ds (hK.1 w2 fun k hk => (h2 k (.inl hk)).trans (k1 k hk)) (BatsC.map (fun _ _ _ _ h => h.lower hlo) ys ds (hK'.1 w2 fun k hk => (h2 k (.inr hk)).trans (k2 k hk)))
    · rcases hk with hk | hk
      · exact Nat.lt_of_lt_of_le (hK.2 k hk) gs
      · exact Nat.lt_of_lt_of_le (hK'.2 k hk) gs
    · rcases hk with hk | hk
      · exact .inl (hi k hk)
      · exact .inr (.inl hk)
    · rcases hk with hk | hk | ⟨a, e, rfl⟩
      · exact Nat.lt_of_lt_of_le (hlt2 k hk) gs
      · exact Nat.lt_of_lt_of_le (hK'.2 k hk) gs
      · exact hA2 a e
    · rcases inG k hk with h | h
      · exact .inl h
      · refine .inr ⟨h, ?_⟩
        rcases hk with hk | hk | ⟨a, e, rfl⟩
        · exact Nat.lt_of_lt_of_le (hlt2 k hk) gs
        · exact Nat.lt_of_lt_of_le (hK'.2 k hk) gs
        · exact hA2 a e
    · rcases hk with h | ⟨_, h⟩
      · exact Nat.lt_of_lt_of_le (hlt k h) gs
      · exact h
    · rcases h2 with h2 | h2 | ⟨a, e, rfl⟩
      · exact a4 k h1 h2
      · exact hx k (a1 k h1) (hi' k h2)
      · rcases hA' a e with ⟨b, hb1, hb2⟩ | q
        · exact a4 _ h1 (by rw [← hb2]; exact hA b hb1)
        · have := kz.lt hz _ h1; omega
    · rcases hk with hk | ⟨hk, _⟩
      · exact hG k hk
      · omega
    · rcases hk with hk | ⟨hk, _⟩
      · exact hd k hf hk
      · have := kp.lt hpF k hf; omega
  · exact (Below.refl base w).grown hg hb fun k e => by
      cases A with
      | none => cases e
      | some a =>
        injection e with e
        rw [← e]
        exact hG _ (i1 _ (a2 _ (ha a rfl).1))
theorem wpListIn_append_run {F : Fence} {nF : Nat} {P : Program} (w : World) {ops : Array Oper} {rest : List Oper} {o : Oper} {a : Act} {Q : Exit → Act → World → Prop} (hgd : o.guard = none) (s x : Operand) (t tn : TypeId)
    (ho : o.op = .call { callee := .builtin .append, args := #[s, x], argTypes := #[t, tn] }) (vs vx : Value) (hs : a.eval s = vs) (hx : a.eval x = vx)
    (v' : Value) (w' : World) (hr : (Builtin.append_ #[t, tn] o.type #[vs, vx]).run P w = .ok v' w') (h : wpListIn F nF P ops Q rest (a.put o.dst v') w') : wpListIn F nF P ops Q (o :: rest) a w := by
  refine wpListIn_plain hgd fun K hK => ?_
  unfold Oper.wpIn
  refine ⟨by simp [Oper.about, ho, resolve, Target.leads, Sem.run_pure], ?_⟩
  rw [Oper.semAt_plain F _ _ (by rw [ho]; intro c hc'; cases hc')]
  simp [execOp, ho, resolve, invoke, builtin, hs, hx, hr, Result.andThen]
  exact hK _ _ h
end Go.Proofs.YtppidbdkejkopaaGreatDoor.WlWalk
namespace Go.Proofs.YtppidbdkejkopaaGreatDoor.WlWalk
open Go.RowKit MemRow Ev NameMath NameWalk EvWalk NumMem DkWalk BtWalk EdWalk CrcWalk
def OpenL (base : Nat) (g : Nat) (Q : Thing) (R : Int × Dk × Rd11) (e : Ending) (w' : World) : Prop :=
  (R.1 = 0 ∧ ∃ gl A n c, e = .returned (.tuple #[.pointer (some ⟨gl, 0, none⟩), .slice A n c, .int .i64 0]) ∧ Pair base w' (LdT g R.2.1) (With (With Q (LlT gl g R.2.2.many R.2.2.last)) (BsT base A n c R.2.2.all))) ∨
  (R.1 ≠ 0 ∧ e = .returned (.tuple #[.pointer none, .slice none 0 0, .int .i64 R.1]) ∧ Pair base w' (LdT g R.2.1) Q)
structure Fr11 where
  g : Nat
  gl : Nat
  bd : Nat
  bl : Nat
  bs : Nat
  ball : Nat
  r1 : Nat
  r2 : Nat
  r3 : Nat
abbrev Opq (Q : Thing) (f : Fr11) : Thing := With (With (With (With Q (RsT f.r1 f.r2 f.r3 (.pointer none) (.slice none 0 0) (.int .i64 0))) (BxT f.bd #[.pointer (some ⟨f.g, 0, none⟩)] 24)) (BxT f.bl #[.pointer (some ⟨f.gl, 0, none⟩)] 29)) (BxT f.bs #[.pointer (some ⟨f.g, 0, none⟩)] 24)
abbrev OpX (base : Nat) (Q : Thing) (f : Fr11) (r : Nat) (o : Obj) (A : Option Addr) (n c : Nat) (all : List Bat) : Thing := With (With (With (Opq Q f) (RecT r o)) (BxT f.ball #[.slice A n c] 30)) (BsT base A n c all)
abbrev OpS (base : Nat) (Q : Thing) (f : Fr11) (r : Nat) (o : Obj) (k : Nat) (last : Int) (A : Option Addr) (n c : Nat) (all : List Bat) : Thing := With (OpX base Q f r o A n c all) (LlT f.gl f.g k last)
theorem opq_keeps {Q : Thing} (kq : Keeps Q) (f : Fr11) : Keeps (Opq Q f) := with_keeps (with_keeps (with_keeps (with_keeps kq (rsT_keeps _ _ _ _ _ _)) (bxT_keeps _ _ _)) (bxT_keeps _ _ _)) (bxT_keeps _ _ _)
theorem opX_keeps {Q : Thing} (kq : Keeps Q) (base : Nat) (f : Fr11) (r : Nat) (o : Obj) (A : Option Addr) (n c : Nat) (all : List Bat) : Keeps (OpX base Q f r o A n c all) := with_keeps (with_keeps (with_keeps (opq_keeps kq f) (recT_keeps _ _)) (bxT_keeps _ _ _)) (bsT_keeps _ _ _ _ _)
theorem opS_keeps {Q : Thing} (kq : Keeps Q) (base : Nat) (f : Fr11) (r : Nat) (o : Obj) (k : Nat) (last : Int) (A : Option Addr) (n c : Nat) (all : List Bat) : Keeps (OpS base Q f r o k last A n c all) := with_keeps (opX_keeps kq base f r o A n c all) (bxT_keeps _ _ _)
section
variable {base : Nat} {w W : World} {Q P : Thing} {f : Fr11} {r k : Nat} {o : Obj} {last : Int} {A : Option Addr} {n c : Nat} {all : List Bat}
theorem opS_rec (h : Pair base W P (OpS base Q f r o k last A n c all)) : RecW r o W := rec_get (pair_imp th_mv3 h)
theorem opS_put (kp : Keeps P) (kq : Keeps Q) (h : Pair base W P (OpS base Q f r o k last A n c all)) (o' : Obj) : Pair base (W.putObj (r + 1) o') P (OpS base Q f r o' k last A n c all) ∧ Below base W (W.putObj (r + 1) o') := by
  obtain ⟨p, b⟩ := rec_put kp (with_keeps (with_keeps (with_keeps (opq_keeps kq f) (bxT_keeps _ _ _)) (bsT_keeps _ _ _ _ _)) (bxT_keeps _ _ _)) (pair_imp th_mv3 h) o'
  exact ⟨pair_imp th_mv3' p, b⟩
theorem opX_cells (h : Pair base W P (OpX base Q f r o A n c all)) : W.cell? ⟨f.bd, 0, none⟩ = some (.pointer (some ⟨f.g, 0, none⟩)) ∧ W.cell? ⟨f.bl, 0, none⟩ = some (.pointer (some ⟨f.gl, 0, none⟩)) ∧ (W.cell? ⟨f.bs, 0, none⟩ = some (.pointer (some ⟨f.g, 0, none⟩)) ∧ f.bs < W.heap.size) ∧ W.cell? ⟨f.ball, 0, none⟩ = some (.slice A n c) := by
  have h1 := pair_first h
  have h2 := pair_first (pair_first h1)
  obtain ⟨a1, _, a3⟩ := bx_cell h2
  obtain ⟨b1, _, _⟩ := bx_cell (pair_first h2)
  obtain ⟨c1, _, _⟩ := bx_cell (pair_first (pair_first h2))
  exact ⟨c1, b1, ⟨a1, a3⟩, (bx_cell h1).1⟩
end
structure OpI (base : Nat) (w : World) (Q : Thing) (f : Fr11) (D : Dk) (r : Nat) (k : Nat) (last : Int) (n : Nat) (all : List Bat) (D' : Dk) : Prop where
  read : ReadL D D' k last all
  hk : k ≤ 200
  hl : 0 ≤ last ∧ last ≤ 1048576
  hn : (n : Int) ≤ last
  go : DkGo D'
def OpJ (base : Nat) (w : World) (Q : Thing) (f : Fr11) (D : Dk) (r : Nat) (o : Obj) (k : Nat) (W : World) : Prop :=
  ∃ last A n c all D', OpI base w Q f D r k last n all D' ∧ Pair base W (LdT f.g D') (OpS base Q f r o k last A n c all) ∧ Below base w W
def OpB (base : Nat) (w : World) (Q : Thing) (f : Fr11) (D : Dk) (r : Nat) (o : Obj) (k : Nat) (x : YdX) (W : World) : Prop :=
  ∃ last A n c all D', OpI base w Q f D r k last n all D' ∧ k < 200 ∧ readC D' (segN (k + 1)) = 0 ∧ x.i = (k : Int) + 1 ∧ Pair base W (LdT f.g D') (With (OpS base Q f r o k last A n c all) (SlT x.B x.n x.c (readB D' (segN (k + 1))))) ∧ Below base w W
def OpD (base : Nat) (w : World) (Q : Thing) (f : Fr11) (D : Dk) (r : Nat) (o : Obj) (W : World) : Prop :=
  ∃ k last A n c all D', ((openW D).1 = 0 ∧ (openW D).2.1 = D' ∧ (openW D).2.2.all = all ∧ (openW D).2.2.many = k ∧ (openW D).2.2.last = last) ∧ Pair base W (LdT f.g D') (OpS base Q f r o k last A n c all) ∧ Below base w W
def OpE (base : Nat) (w : World) (Q : Thing) (f : Fr11) (D : Dk) (r : Nat) (o : Obj) (cd : Code) (W : World) : Prop :=
  cd = .ret ∧ (openW D).1 ≠ 0 ∧ Pair base W (LdT f.g (openW D).2.1) (With (With Q (RsT f.r1 f.r2 f.r3 (.pointer none) (.slice none 0 0) (.int .i64 (openW D).1))) (RecT r o)) ∧ Below base w W
section
variable {base : Nat} {w W : World} {Q : Thing} {f : Fr11} {D : Dk} {r k : Nat} {o : Obj} {x : YdX} {cd : Code}
theorem opJ_rec (h : OpJ base w Q f D r o k W) : RecW r o W := by
  obtain ⟨_, _, _, _, _, _, _, p, _⟩ := h
  exact opS_rec p
theorem opJ_put (kq : Keeps Q) (h : OpJ base w Q f D r o k W) (o' : Obj) : OpJ base w Q f D r o' k (W.putObj (r + 1) o') := by
  obtain ⟨last, A, n, c, all, D', hi, p, b⟩ := h
  obtain ⟨p', b'⟩ := opS_put (ldT_keeps _ _) kq p o'
  exact ⟨last, A, n, c, all, D', hi, p', b.trans b'⟩
theorem opB_rec (h : OpB base w Q f D r o k x W) : RecW r o W := by
  obtain ⟨_, _, _, _, _, _, _, _, _, _, p, _⟩ := h
  exact opS_rec (pair_first p)
theorem opB_put (kq : Keeps Q) (h : OpB base w Q f D r o k x W) (o' : Obj) : OpB base w Q f D r o' k x (W.putObj (r + 1) o') := by
  obtain ⟨last, A, n, c, all, D', hi, h1, h2, h3, p, b⟩ := h
  obtain ⟨p', b'⟩ := rec_put (ldT_keeps _ _) (with_keeps (with_keeps (with_keeps (with_keeps (opq_keeps kq f) (bxT_keeps _ _ _)) (bsT_keeps _ _ _ _ _)) (bxT_keeps _ _ _)) (slT_keeps _ _ _ _)) (pair_imp th_mv4 p) o'
  exact ⟨last, A, n, c, all, D', hi, h1, h2, h3, pair_imp th_mv4' p', b.trans b'⟩
theorem opD_rec (h : OpD base w Q f D r o W) : RecW r o W := by
  obtain ⟨_, _, _, _, _, _, _, _, p, _⟩ := h
  exact opS_rec p
theorem opD_put (kq : Keeps Q) (h : OpD base w Q f D r o W) (o' : Obj) : OpD base w Q f D r o' (W.putObj (r + 1) o') := by
  obtain ⟨k, last, A, n, c, all, D', hi, p, b⟩ := h
  obtain ⟨p', b'⟩ := opS_put (ldT_keeps _ _) kq p o'
  exact ⟨k, last, A, n, c, all, D', hi, p', b.trans b'⟩
theorem opE_rec (h : OpE base w Q f D r o cd W) : RecW r o W := rec_get h.2.2.1
theorem opE_put (kq : Keeps Q) (h : OpE base w Q f D r o cd W) (o' : Obj) : OpE base w Q f D r o' cd (W.putObj (r + 1) o') := by
  obtain ⟨h1, h2, p, b⟩ := h
  obtain ⟨p', b'⟩ := rec_put (ldT_keeps _ _) (with_keeps kq (rsT_keeps _ _ _ _ _ _)) p o'
  exact ⟨h1, h2, p', b.trans b'⟩
theorem op_seq (kq : Keeps Q) (hb : base ≤ w.heap.size) (ht : TabB base w) (m : Nat) (o : Obj) (X : World → Prop) (W : World) (h0 : OpJ base w Q f D r o 0 W)
    (hY : ∀ k x W1, OpB base w Q f D r o k x W1 → YieldAt Fence.wide (m - 1) Tryz.prog (r + 1) (encY x) W1 fun e W' => (e = .returned (.bool true) ∧ OpJ base w Q f D r o (k + 1) W') ∨ (e = .returned (.bool false) ∧ X W')) :
    CallsIn Fence.wide m Tryz.prog 67 (#[.func (.yield (r + 1)) #[] #[]] ++ #[.pointer (some ⟨f.bs, 0, none⟩)]) W fun e W' => (∃ v, e = .returned v) ∧ (OpD base w Q f D r o W' ∨ X W') := by
  refine segIter_any (base := base) (g := f.g) (fun k W => OpJ base w Q f D r o k W) (OpD base w Q f D r o) X W ?_ ?_ h0
  · rintro k W1 ⟨last, A, n, c, all, D', hi, p, b⟩ hk
    have hbW := Nat.le_trans hb b.size
    obtain ⟨_, _, ⟨cb, lb⟩, _⟩ := opX_cells (pair_first p)
    refine ⟨D', _, ⟨hbW, ht.on b, cb, lb, p, opS_keeps kq _ _ _ _ _ _ _ _ _ _, hi.go⟩, fun hr W' B m1 c1 b1 p1 => hY k ⟨(k : Int) + 1, B, m1, c1⟩ _ ⟨last, A, n, c, all, D', hi, hk, hr, rfl, p1, b.trans (bel_up hbW b1)⟩, fun hr W' b1 => ?_⟩
    exact ⟨k, last, A, n, c, all, D', readL_done hi.read (fun _ => hr), p.below (ldT_keeps _ _) (opS_keeps kq _ _ _ _ _ _ _ _ _ _) b1, b.trans (bel_up hbW b1)⟩
  · rintro W1 ⟨last, A, n, c, all, D', hi, p, b⟩
    exact ⟨200, last, A, n, c, all, D', readL_done hi.read (fun h => by omega), p, b⟩
end
theorem opS_end {base : Nat} {w : World} {P Q : Thing} {f : Fr11} {r k : Nat} {o : Obj} {last : Int} {A : Option Addr} {n c : Nat} {all : List Bat} (h : Pair base w P (OpS base Q f r o k last A n c all)) :
    Pair base w P (With (With (With (With Q (RecT r o)) (BsT base A n c all)) (LlT f.gl f.g k last)) (RsT f.r1 f.r2 f.r3 (.pointer none) (.slice none 0 0) (.int .i64 0))) ∧ f.ball ≠ f.r1 := by
  have hb := pair_bx (pair_first (pair_first h))
  have h1 := pair_imp (th_left th_drop) h
  have h2 := pair_imp (th_left (th_left th_drop)) h1
  have h3 := pair_imp (th_left (th_left th_drop)) h2
  have h4 := pair_imp (th_left (th_left th_drop)) h3
  have h5 := pair_imp th_mv3 h4
  refine ⟨h5, fun e => ?_⟩
  obtain ⟨_, _, _, ⟨_, _, _, ⟨⟨a, _⟩, _⟩, _⟩, _⟩ := h5
  rw [e, a] at hb
  injection hb with hb
  injection hb with _ hb
  cases hb
theorem opX_fail {base : Nat} {w : World} {P Q L Y : Thing} {f : Fr11} {r : Nat} {o : Obj} {A : Option Addr} {n c : Nat} {all : List Bat} (h : Pair base w P (With (With (OpX base Q f r o A n c all) L) Y)) :
    Pair base w P (With (With Q (RecT r o)) (RsT f.r1 f.r2 f.r3 (.pointer none) (.slice none 0 0) (.int .i64 0))) := by
  have h1 := pair_first (pair_first (pair_first (pair_first h)))
  exact pair_place (pair_imp th_drop (pair_imp th_drop (pair_imp th_drop h1)))
structure AfterL (D DC : Dk) (k : Nat) (last : Int) (all : List Bat) : Prop where
  go : DkGo DC
  no : (syncD DC (segN (k + 1))).1 ≠ 0 → (openW D).1 = (syncD DC (segN (k + 1))).1 ∧ (openW D).2.1 = (syncD DC (segN (k + 1))).2
  yes : (syncD DC (segN (k + 1))).1 = 0 → ReadL D (syncD DC (segN (k + 1))).2 (k + 1) last all
theorem bs_nil {base : Nat} {w : World} {P Q : Thing} (kq : Keeps Q) (h : Pair base w P Q) : Pair base w P (With Q (BsT base none 0 0 [])) := by
  obtain ⟨F, G, hp, hq, h1, h2, h3⟩ := h
  refine ⟨F, G, hp, ⟨G, fun _ => False, hq, ⟨[], fun _ => False, OwnC.nil _ _, rfl, ⟨fun _ _ => rfl, fun _ h => h.elim⟩, fun a e => (by cases e), fun _ h => h.elim, fun _ h => h.elim⟩, fun _ h => h, fun _ h => h.elim, kq.lt hq, fun _ _ h => h⟩, h1, h2, h3⟩
section
variable {base : Nat} {w1 w2 : World} {P A : Thing} {cs : Array Value}
theorem op_one (kp : Keeps P) (ka : Keeps A) (hb : base ≤ w1.heap.size) (hp : Pair base w1 P A) (b2 : Below w1.heap.size w1 w2) :
    ∃ gl bl, Value.pointer (some ⟨w2.heap.size + 1, 0, none⟩) = .pointer (some ⟨bl, 0, none⟩) ∧ Pair base ((w2.alloc (.cells cs 81)).alloc (.cells #[.pointer (some ⟨w2.heap.size, 0, none⟩)] 29)) P (With (With A (BxT bl #[.pointer (some ⟨gl, 0, none⟩)] 29)) (BxT gl cs 81)) ∧ Below base w1 ((w2.alloc (.cells cs 81)).alloc (.cells #[.pointer (some ⟨w2.heap.size, 0, none⟩)] 29)) := by
  have p2 := hp.below kp ka b2
  have hb2 := Nat.le_trans hb b2.size
  obtain ⟨p3, b3⟩ := bx_new kp ka hb2 p2 cs 81
  have hb3 := Nat.le_trans hb2 b3.size
  obtain ⟨p4, b4⟩ := bx_new kp (with_keeps ka (bxT_keeps _ _ _)) hb3 p3 #[.pointer (some ⟨w2.heap.size, 0, none⟩)] 29
  rw [World.size_alloc] at p4
  exact ⟨w2.heap.size, w2.heap.size + 1, rfl, pair_place p4, ((bel_up hb b2).trans (bel_up hb2 b3)).trans (bel_up hb3 b4)⟩
theorem op_two (kp : Keeps P) (ka : Keeps A) (hb : base ≤ w1.heap.size) (hp : Pair base w1 P A) (b2 : Below w1.heap.size w1 w2) :
    ∃ gl bl, Value.pointer (some ⟨w2.heap.size, 0, none⟩) = .pointer (some ⟨bl, 0, none⟩) ∧ Pair base ((w2.alloc (.cells #[.pointer (some ⟨w2.heap.size + 1, 0, none⟩)] 29)).alloc (.cells cs 81)) P (With (With A (BxT bl #[.pointer (some ⟨gl, 0, none⟩)] 29)) (BxT gl cs 81)) ∧ Below base w1 ((w2.alloc (.cells #[.pointer (some ⟨w2.heap.size + 1, 0, none⟩)] 29)).alloc (.cells cs 81)) := by
  have p2 := hp.below kp ka b2
  have hb2 := Nat.le_trans hb b2.size
  obtain ⟨p3, b3⟩ := bx_new kp ka hb2 p2 #[.pointer (some ⟨w2.heap.size + 1, 0, none⟩)] 29
  have hb3 := Nat.le_trans hb2 b3.size
  obtain ⟨p4, b4⟩ := bx_new kp (with_keeps ka (bxT_keeps _ _ _)) hb3 p3 cs 81
  rw [World.size_alloc] at p4
  exact ⟨w2.heap.size + 1, w2.heap.size, rfl, p4, ((bel_up hb b2).trans (bel_up hb2 b3)).trans (bel_up hb3 b4)⟩
theorem op_three (kp : Keeps P) (ka : Keeps A) (hb : base ≤ w1.heap.size) (hp : Pair base w1 P A) (b2 : Below (w1.alloc (.cells #[.pointer none] 29)).drew.heap.size (w1.alloc (.cells #[.pointer none] 29)).drew w2) :
    ∃ gl bl, Value.pointer (some ⟨w1.heap.size, 0, none⟩) = .pointer (some ⟨bl, 0, none⟩) ∧ Pair base ((w2.alloc (.cells cs 81)).setCell ⟨w1.heap.size, 0, none⟩ (.pointer (some ⟨w2.heap.size, 0, none⟩))) P (With (With A (BxT bl #[.pointer (some ⟨gl, 0, none⟩)] 29)) (BxT gl cs 81)) ∧ Below base w1 ((w2.alloc (.cells cs 81)).setCell ⟨w1.heap.size, 0, none⟩ (.pointer (some ⟨w2.heap.size, 0, none⟩))) := by
  obtain ⟨p1, b1⟩ := bx_new kp ka hb hp #[.pointer none] 29
  have hb1 := Nat.le_trans hb b1.size
  have k1 : Keeps (With A (BxT w1.heap.size #[.pointer none] 29)) := with_keeps ka (bxT_keeps _ _ _)
  have bd : Below (w1.alloc (.cells #[.pointer none] 29)).heap.size (w1.alloc (.cells #[.pointer none] 29)) (w1.alloc (.cells #[.pointer none] 29)).drew := bel_drew (Below.refl _ _)
  have b12 := bd.trans (bel_up bd.size b2)
  have p2 := p1.below kp k1 b12
  have hb2 := Nat.le_trans hb1 b12.size
  obtain ⟨p3, b3⟩ := bx_new kp k1 hb2 p2 cs 81
  have hb3 := Nat.le_trans hb2 b3.size
  obtain ⟨p4, b4⟩ := bx_set kp (with_keeps ka (bxT_keeps _ _ _)) (pair_place p3) (.pointer (some ⟨w2.heap.size, 0, none⟩))
  exact ⟨w2.heap.size, w1.heap.size, rfl, pair_place p4, (((bel_up hb b1).trans (bel_up hb1 b12)).trans (bel_up hb2 b3)).trans b4⟩
end
theorem new_lies (w : World) (cs : Value) {w' : World} {t : TypeId} (b : Below (w.drew.alloc (.cells #[cs] t)).heap.size (w.drew.alloc (.cells #[cs] t)) w') : w'.cell? ⟨w.heap.size, 0, none⟩ = some cs ∧ w'.frozen? ⟨w.heap.size, 0, none⟩ = false := by
  have h := heap_alloc_new w.drew (.cells #[cs] t)
  have h2 := (b.block _ (Array.getElem?_eq_some_iff.1 h).1).trans h
  exact one_cell h2
theorem wpIn_calmly {F : Fence} {n : Nat} {P : Program} {s : Code} {K : Act → World → Prop} {Q' : Exit → Act → World → Prop} {a : Act} {w : World} (h : s.wpIn F n P (Exit.then K (fun _ _ _ => False)) a w) : s.wpIn F n P (Exit.then K Q') a w :=
  wpIn_mono h fun e _ _ hq => by
    cases e with
    | normal => exact hq
    | exit id => exact hq.elim
    | goto l => exact hq.elim
    | ret => exact hq.elim
    | panic ch => exact hq.elim
    | outgrown => exact hq.elim
theorem lies_on {w w1 : World} {b : Nat} {v : Value} {o : Obj} (h : w.cell? ⟨b, 0, none⟩ = some v) (hb : b < w1.heap.size) (hs : w1.heap.size ≤ w.heap.size) : (w.alloc o).cell? ⟨b, 0, none⟩ = some v :=
  (((Below.refl _ w).alloc (Nat.le_refl _) o).cell (p := ⟨b, 0, none⟩) (Nat.lt_of_lt_of_le hb hs)).trans h
theorem ll_form (g : Nat) (w : World) : Array.foldl (fun cs (x : Value × Nat) => cs.setIfInBounds (1 + x.snd) x.fst) (Tryz.zeroCells81.setIfInBounds 0 (Value.pointer (some ⟨g, 0, none⟩))) tab.zipIdx 0 256 = llV g 0 0 := by
  have h := ll_build g w
  have hts : tab.size = 256 := tab_size
  simp [go_sem, hts] at h
  exact h
end Go.Proofs.YtppidbdkejkopaaGreatDoor.WlWalk
namespace Go.Proofs.YtppidbdkejkopaaGreatDoor.WlWalk
open Go.RowKit MemRow Ev NameMath NameWalk EvWalk NumMem DkWalk BtWalk EdWalk CrcWalk
attribute [local go_sem] Oper.semAt_some
set_option maxHeartbeats 8000000 in
set_option maxRecDepth 100000 in
theorem openL_any {base : Nat} {w : World} {Q : Thing} {g : Nat} {D : Dk} (hp : Pair base w (LdT g D) Q) (kq : Keeps Q) (hb : base ≤ w.heap.size) (go : DkGo D) (ht : TabB base w) :
    Calls Tryz.prog 13 #[.pointer (some ⟨g, 0, none⟩)] w fun e w' => OpenL base g Q (openW D) e w' ∧ Below base w w' := by
  have hmx : Tryz.prog.follows .mixedOrders = true := by kernel_rfl
  refine (callsIn_wide (n := 6)).1 ?_
  refine callsIn_of_wp_marks Tryz.func13 rfl trivial ?_ rfl
  simp only [Tryz.ntmps13, List.size_toArray, List.length_cons, List.length_nil, Nat.reduceAdd, Nat.reduceSub, Array.replicate_succ, Array.replicate_zero, List.push_toArray, List.append_toArray, List.nil_append, List.cons_append]
  obtain ⟨p0, b0⟩ := bx_new (ldT_keeps g D) kq hb hp #[.pointer (some ⟨g, 0, none⟩)] 24
  have hb0 := Nat.le_trans hb b0.size
  obtain ⟨p1, b1⟩ := rs_new (ldT_keeps g D) (with_keeps kq (bxT_keeps _ _ _)) hb0 p0 (.pointer none) (.slice none 0 0) (.int .i64 0)
  have B1 := (bel_up hb b0).trans (bel_up hb0 b1)
  have hb1 := Nat.le_trans hb0 b1.size
  rw [World.size_alloc] at p1
  gi_upto_region 1 with (fail)
  generalize (((w.alloc (.cells #[.pointer (some ⟨g, 0, none⟩)] 24)).alloc (.cells #[.pointer none] 29)).alloc (.cells #[.slice none 0 0] 30)).alloc (.cells #[.int .i64 0] 31) = w1 at *
  clear b0 b1 p0 hb0 hp
  have p2 := pair_place p1
  have kA : Keeps (With (With Q (RsT (w.heap.size + 1) (w.heap.size + 1 + 1) (w.heap.size + 1 + 1 + 1) (.pointer none) (.slice none 0 0) (.int .i64 0))) (BxT w.heap.size #[.pointer (some ⟨g, 0, none⟩)] 24)) := with_keeps (with_keeps kq (rsT_keeps _ _ _ _ _ _)) (bxT_keeps _ _ _)
  have hb' := hb
  generalize w.heap.size + 1 = r1 at *
  generalize r1 + 1 = r2 at *
  generalize r2 + 1 = r3 at *
  generalize hbd : w.heap.size = bd at p2 kA p1
  clear p1
  have hts : tab.size = 256 := tab_size
  have hform := ll_form g w
  obtain ⟨c0, _, lt0⟩ := bx_cell p2
  have bd2 : Below w1.heap.size w1 w1.drew := bel_drew (Below.refl _ _)
  have c0' : w1.drew.cell? ⟨bd, 0, none⟩ = some (.pointer (some ⟨g, 0, none⟩)) := c0
  have alA : Below w1.heap.size w1 (w1.alloc (.cells #[.pointer none] 29)) := (Below.refl _ _).alloc (Nat.le_refl _) _
  have cA : (w1.alloc (.cells #[.pointer none] 29)).drew.cell? ⟨bd, 0, none⟩ = some (.pointer (some ⟨g, 0, none⟩)) := (alA.cell (p := ⟨bd, 0, none⟩) lt0).trans c0
  have hmx2 := hmx
  gi_cut [5] from 54 (fun v wx => ∃ gl bl, v = .pointer (some ⟨bl, 0, none⟩) ∧ Pair base wx (LdT g D) (With (With (With (With Q (RsT r1 r2 r3 (.pointer none) (.slice none 0 0) (.int .i64 0))) (BxT bd #[.pointer (some ⟨g, 0, none⟩)] 24)) (BxT bl #[.pointer (some ⟨gl, 0, none⟩)] 29)) (LlT gl g 0 0)) ∧ Below base w1 wx)
  case first =>
   refine wpIn_calmly ?_
   gi_region_with_o (refine ⟨trivial, ?_⟩; gi_at_call 35; refine (callsIn_wide.2 (new_any _)).mono ?_; rintro e w2 ⟨rfl, b2⟩; have c2 : w2.cell? ⟨bd, 0, none⟩ = some (.pointer (some ⟨g, 0, none⟩)) := (by first | exact (b2.cell (p := ⟨bd, 0, none⟩) lt0).trans c0 | exact (b2.cell (p := ⟨bd, 0, none⟩) (Nat.lt_of_lt_of_le lt0 alA.size)).trans cA); have c3 : (w2.alloc (.cells #[.pointer none] 29)).cell? ⟨bd, 0, none⟩ = some (.pointer (some ⟨g, 0, none⟩)) := (by first | exact lies_on c2 lt0 b2.size | exact lies_on c2 lt0 (Nat.le_trans alA.size b2.size)); (try (have cz : (w2.alloc (.cells (llV g 0 0) 81)).cell? ⟨w1.heap.size, 0, none⟩ = some (.pointer none) ∧ (w2.alloc (.cells (llV g 0 0) 81)).frozen? ⟨w1.heap.size, 0, none⟩ = false := new_lies w1 _ (b2.trans ((Below.refl _ w2).alloc b2.size _)); obtain ⟨cz1, cz2⟩ := cz)))
   all_goals
    gi_wp2_with fail
    gi_meet
    first
      | exact op_one (ldT_keeps g D) kA hb1 p2 (bd2.trans (bel_up bd2.size b2))
      | exact op_two (ldT_keeps g D) kA hb1 p2 (bd2.trans (bel_up bd2.size b2))
      | exact op_three (ldT_keeps g D) kA hb1 p2 b2
  obtain ⟨gl, bl, rfl, p3, b3⟩ := hcut
  have B3 := B1.trans b3
  have hb3 := Nat.le_trans hb1 b3.size
  have kB : Keeps (With (With (With (With Q (RsT r1 r2 r3 (.pointer none) (.slice none 0 0) (.int .i64 0))) (BxT bd #[.pointer (some ⟨g, 0, none⟩)] 24)) (BxT bl #[.pointer (some ⟨gl, 0, none⟩)] 29)) (LlT gl g 0 0)) := with_keeps (with_keeps kA (bxT_keeps _ _ _)) (bxT_keeps _ _ _)
  obtain ⟨p4, b4⟩ := bx_new (ldT_keeps g D) kB hb3 p3 #[.slice none 0 0] 30
  have B4 := B3.trans (bel_up hb3 b4)
  have hb4 := Nat.le_trans hb3 b4.size
  clear hform hts c0 c0' cA alA bd2 p2 b3 p3 B3 B1 lt0
  gi_upto_region 3 with (fail)
  generalize hball : wc.heap.size = ball at *
  generalize wc.alloc (.cells #[.slice none 0 0] 30) = w4 at *
  clear hb3 b4 hball
  obtain ⟨c4, _, _⟩ := bx_cell (pair_first (pair_first (pair_first p4)))
  gi_wp2_with fail
  refine ⟨trivial, (callsIn_wide.2 (segs_any g _)).mono ?_⟩
  rintro e w5 ⟨rfl, hw5⟩
  obtain ⟨p5, b5⟩ := bx_new (ldT_keeps g D) (with_keeps kB (bxT_keeps _ _ _)) hb4 p4 #[.pointer (some ⟨g, 0, none⟩)] 24
  have B5 := B4.trans (bel_up hb4 b5)
  rw [← hw5] at p5 B5
  have hb5 := Nat.le_trans hb B5.size
  clear hw5 b5 p4 B4 hb4 c4
  generalize w4.heap.size = bs at *
  gi_wp2_with fail
  obtain ⟨f, hf⟩ : ∃ f : Fr11, f = ⟨g, gl, bd, bl, bs, ball, r1, r2, r3⟩ := ⟨_, rfl⟩
  have p6 : Pair base w5 (LdT f.g D) (With (With (With (Opq Q f) (BxT f.ball #[.slice none 0 0] 30)) (BsT base none 0 0 [])) (LlT f.gl f.g 0 0)) := by
    rw [hf]
    exact pair_imp (th_left (th_left th_place)) (pair_imp th_mv3 (bs_nil (with_keeps (with_keeps kB (bxT_keeps _ _ _)) (bxT_keeps _ _ _)) p5))
  have k6 : Keeps (With (With (With (Opq Q f) (BxT f.ball #[.slice none 0 0] 30)) (BsT base none 0 0 [])) (LlT f.gl f.g 0 0)) := with_keeps (with_keeps (with_keeps (opq_keeps kq f) (bxT_keeps _ _ _)) (bsT_keeps _ _ _ _ _)) (bxT_keeps _ _ _)
  have h0 : ∀ o, OpJ base w Q f D w5.heap.size o 0 ((w5.alloc (.deferred (some []))).alloc o) := fun o => by
    obtain ⟨p, b⟩ := rec_new (ldT_keeps _ D) k6 hb5 p6 o
    exact ⟨0, none, 0, 0, [], D, ⟨readL_start D, Nat.zero_le _, by omega, by omega, go⟩, pair_imp th_mv3' p, B5.trans (bel_up hb5 b)⟩
  have hb0 := hb
  clear p5 p6 k6 kB kA hbd hb'
  have ef : f.g = g ∧ f.gl = gl ∧ f.bd = bd ∧ f.bl = bl ∧ f.bs = bs ∧ f.ball = ball ∧ f.r1 = r1 ∧ f.r2 = r2 ∧ f.r3 = r3 := by rw [hf]; exact ⟨rfl, rfl, rfl, rfl, rfl, rfl, rfl, rfl, rfl⟩
  obtain ⟨rfl, rfl, rfl, rfl, rfl, rfl, rfl, rfl, rfl⟩ := ef
  clear hf
  refine wpIn_rangeFunc_th (α := YdX) (gf := 67) (lb := #[.pointer (some ⟨f.bs, 0, none⟩)]) rfl (enters_of Tryz.func67 (by kernel_rfl) rfl) (encs := encY) (fun _ => rfl)
    (fun o k W => OpJ base w Q f D w5.heap.size o k W) (fun o k x W => OpB base w Q f D w5.heap.size o k x W) (fun o W => OpD base w Q f D w5.heap.size o W) (fun o cd W => OpE base w Q f D w5.heap.size o cd W)
    (fun h => opB_rec h) (fun h => opJ_rec h) (fun h => opD_rec h) (fun h => opE_rec h)
    (fun o' h => opB_put kq h o') (fun o' h => opJ_put kq h o') (fun o' h => opD_put kq h o') (fun o' h => opE_put kq h o')
    h0 (fun o X W h hY => op_seq kq hb ht 5 o X W h hY)
    (fun x => { tmps := #[.pointer (some ⟨f.g, 0, none⟩), .pointer (some ⟨f.bd, 0, none⟩), .pointer (some ⟨f.r1, 0, none⟩), .pointer (some ⟨f.r2, 0, none⟩), .pointer (some ⟨f.r3, 0, none⟩), .pointer (some ⟨f.bl, 0, none⟩), .pointer (some ⟨f.ball, 0, none⟩), .int .i64 x.i, .slice x.B x.n x.c, undef, undef, undef, undef, u13, u14, u15, u16, .pointer (some ⟨f.g, 0, none⟩), .func (.func 67) #[] #[.pointer (some ⟨f.bs, 0, none⟩)], .int .i64 x.i, .slice x.B x.n x.c, undef, undef, undef, undef, undef, undef, undef, undef, undef, undef, undef, undef, undef, undef, undef, undef, undef, undef, undef, undef, undef, undef, undef, undef, undef, undef, undef, undef, undef, undef, undef, undef, undef], defers := [] }) ?assign ?body ?done ?stop
  case assign =>
    intro l x W K hK
    dsimp only [encY]
    gi_wp2
    exact hK
  case body =>
    rintro o k ⟨xi, xB, xn, xc⟩ W ⟨last, A, n, c, all, D', hi, hk, hr, hx, pr, bl⟩
    obtain rfl : xi = (k : Int) + 1 := hx
    have hbW := Nat.le_trans hb0 bl.size
    obtain ⟨_, c1, _, _⟩ := opX_cells (pair_first (pair_first pr))
    have kX := opX_keeps kq base f w5.heap.size o A n c all
    have hm0 := (pair_rd pr).len
    have hm1 := readB_le hi.go.ok (segN (k + 1))
    have hl := hi.hl
    gi_wp2_with fail
    refine ⟨trivial, (CallsIn.inRound _ (callsIn_wide.2 (takeL_any (pair_place pr) (ldT_keeps f.g D') kX hbW (by omega) hl))).mono ?_⟩
    rintro e w6 ⟨Y, y, cy, rfl, p6, b6, hsum⟩
    have B6 := bl.trans b6
    have hb6 := Nat.le_trans hbW b6.size
    have p7 := pair_imp (th_left (th_drop (Q := OpX base Q f w5.heap.size o A n c all))) p6
    obtain ⟨f1, hf1, hO, hMD, hkM, hread⟩ := readL_next hi.read hk hr
    have hly : (goodB (readB D' (segN (k + 1))) last).length = y := by
      obtain ⟨_, _, _, ⟨_, _, _, hbs, _⟩, _⟩ := p7
      exact hbs.own.len
    have hty := len_le_tot fun z hz => ((goodB_chained (readB D' (segN (k + 1))) last).all z hz).1
    rw [hly] at hty
    have HCUT := Go.Lib.hid (readL_cut hi.go hMD hkM hO rfl rfl hm0)
    have HON := Go.Lib.hid (readL_on hi.go hf1 hkM hread hO rfl rfl hm0)
    have hgo := hi.go
    have HNN := Go.Lib.hid hi.hn
    have HKK := Go.Lib.hid (And.intro hk hkM)
    have kY : Keeps (With (With (OpX base Q f w5.heap.size o A n c all) (LlT f.gl f.g k (last + (tot (goodB (readB D' (segN (k + 1))) last) : Int)))) (BsT W.heap.size Y y cy (goodB (readB D' (segN (k + 1))) last))) := with_keeps (with_keeps kX (bxT_keeps _ _ _)) (bsT_keeps _ _ _ _ _)
    clear p6 pr bl b6 hi hO hread hf1 c1 hm1
    generalize goodB (readB D' (segN (k + 1))) last = ys at *
    generalize goodN (readB D' (segN (k + 1))) last = gn at *
    generalize readB D' (segN (k + 1)) = bs0 at *
    generalize hlo : W.heap.size = lo at *
    have HLO : Hid (base ≤ lo) := Go.Lib.hid hbW
    clear hlo hbW
    gi_upto_if 30 with (fail)
    generalize hB : decide (gn < xn) = bv
    have HB := Go.Lib.hid hB
    clear hB
    gi_cut [10] from 54 (fun _ wx => ∃ DC, Hid (AfterL D DC k (last + (tot ys : Int)) (all ++ ys)) ∧ Pair base wx (LdT f.g DC) (With (With (OpX base Q f w5.heap.size o A n c all) (LlT f.gl f.g k (last + (tot ys : Int)))) (BsT lo Y y cy ys)) ∧ Below base w wx)
    case first =>
      cases bv with
      | true =>
        have hgm : gn < xn := by simpa using HB.out
        have hct := cutLd_any (n := k + 1) (z := (gn : Int)) p7 kY hb6 hgo (ht.on B6) ⟨by omega, by rw [hMD]; exact hkM⟩
        rw [show (((k + 1 : Nat) : Int)) = (k : Int) + 1 from by push_cast; rfl] at hct
        have HCT := Go.Lib.hid hct
        have hcg := cutL_go hgo (k + 1) (gn : Int)
        have hC := HCUT.out hgm
        obtain ⟨cd0, _, _, _⟩ := opX_cells (pair_first (pair_first p7))
        generalize cutL D' (k + 1) (gn : Int) = C at *
        obtain ⟨C1, DC⟩ := C
        have HC := Go.Lib.hid hC
        have HCG : Hid (DkGo DC) := Go.Lib.hid hcg
        clear hct hC hcg p7 HCUT HON hgm
        gi_wp2_with fail
        refine ⟨trivial, (CallsIn.inRound _ (callsIn_wide.2 HCT.out)).mono ?_⟩
        rintro e w8 ⟨rfl, p8, b8⟩
        have B8 := B6.trans b8
        clear HCT cd0 B6 b8 hb6
        by_cases hC1 : C1 = 0
        · subst hC1
          have HA : Hid (AfterL D DC k (last + (tot ys : Int)) (all ++ ys)) := Go.Lib.hid ⟨HCG.out, (HC.out.2 rfl).1, (HC.out.2 rfl).2⟩
          clear HC HCG
          gi_wp2_with fail
          gi_meet
          exact ⟨DC, HA, p8, B8⟩
        · have i1 : (C1 != 0) = true := by rw [bne_iff_ne]; exact hC1
          obtain ⟨e1, e2⟩ := HC.out.1 hC1
          have pF := opX_fail p8
          obtain ⟨⟨q1, q1'⟩, _, _, _⟩ := rs_cells pF
          obtain ⟨pG, bG, ⟨q2, q2'⟩, ⟨q3, q3'⟩⟩ := rs_put (ldT_keeps f.g DC) (with_keeps kq (recT_keeps _ _)) pF (.pointer none) (.slice none 0 0) (.int .i64 C1)
          have HE : Hid (OpE base w Q f D w5.heap.size o .ret (resW w8 f.r1 f.r2 f.r3 (.pointer none) (.slice none 0 0) (.int .i64 C1))) := Go.Lib.hid ⟨rfl, by rw [e1]; exact hC1, by rw [e1, e2]; exact pair_place pG, B8.trans bG⟩
          unfold resW at HE
          clear HC HCG e1 e2 pF pG bG p8 B8 hC1
          gi_wp2_with fail
          exact HE.out
      | false =>
        have hgm : ¬ gn < xn := by simpa using HB.out
        have HA : Hid (AfterL D D' k (last + (tot ys : Int)) (all ++ ys)) := Go.Lib.hid ⟨hgo, (HON.out hgm).1, (HON.out hgm).2⟩
        clear HCUT HON hgm
        gi_wp2_with fail
        gi_meet
        exact ⟨D', HA, p7, B6⟩
    obtain ⟨DC, HA, p9, B9⟩ := hcut
    have hb9 := Nat.le_trans hb0 B9.size
    clear p7 B6 hb6 HCUT HON HB hgo hm0
    have hsy := HA.out.go
    generalize hS : syncD DC (segN (k + 1)) = S
    have HSY := Go.Lib.hid hS
    have hsg := sync_go hsy (segN (k + 1))
    have HSG : Hid (DkGo S.2) := Go.Lib.hid (by rw [← hS]; exact hsg)
    have HNO : Hid (S.1 ≠ 0 → (openW D).1 = S.1 ∧ (openW D).2.1 = S.2) := Go.Lib.hid (by rw [← hS]; exact HA.out.no)
    have HYES : Hid (S.1 = 0 → ReadL D S.2 (k + 1) (last + (tot ys : Int)) (all ++ ys)) := Go.Lib.hid (by rw [← hS]; exact HA.out.yes)
    clear hS hsg HA
    gi_upto_region 11 with (fail)
    gi_cut [12] from 54 (fun v wx => v = .int .i64 S.1 ∧ Pair base wx (LdT f.g S.2) (With (With (OpX base Q f w5.heap.size o A n c all) (LlT f.gl f.g k (last + (tot ys : Int)))) (BsT lo Y y cy ys)) ∧ Below base w wx)
    case first =>
      obtain ⟨cd0, _, _, _⟩ := opX_cells (pair_first (pair_first p9))
      have bdc : Below wc.heap.size wc wc.drew := bel_drew (Below.refl _ _)
      have pd := p9.below (ldT_keeps f.g DC) kY bdc
      have Bd := B9.trans (bel_up hb9 bdc)
      have hs := segL_any ((k : Int) + 1) wc.drew (ht.on Bd).here
      have e1 : segZ ((k : Int) + 1) = segN (k + 1) := by unfold segZ; congr 1
      rw [e1] at hs
      have HS := Go.Lib.hid hs
      have hsz := seg_size (k + 1)
      clear hs e1 p9 B9
      refine wpIn_calmly ?_
      have hmx3 := hmx
      gi_region_with_o (first
        | (refine ⟨trivial, ?_⟩; gi_at_call 39; refine (CallsIn.inRound _ (callsIn_wide.2 (pr_sync p10 kY hb10 hsy hsz))).mono ?_; rw [HSY.out]; rintro e w11 ⟨rfl, p11, b11⟩)
        | (refine ⟨trivial, ?_⟩; gi_at_call 23; refine (CallsIn.inRound _ (callsIn_wide.2 HS.out)).mono ?_; rintro e w10 ⟨rfl, b10⟩; have p10 := pd.below (ldT_keeps f.g DC) kY b10; have B10 := Bd.trans (bel_up hb9 b10); have hb10 := Nat.le_trans hb9 b10.size; obtain ⟨cd1, _, _, _⟩ := opX_cells (pair_first (pair_first p10))))
      all_goals
        gi_wp2_with fail
        gi_meet
        exact ⟨rfl, p11, B10.trans b11⟩
    obtain ⟨rfl, p12, B12⟩ := hcut
    have hb12 := Nat.le_trans hb0 B12.size
    clear p9 B9 hb9 hsy HSY
    obtain ⟨S1, DS⟩ := S
    have p13 : Pair base wc (LdT f.g DS) (With (With (OpX base Q f w5.heap.size o A n c all) (LlT f.gl f.g k (last + (tot ys : Int)))) (BsT lo Y y cy ys)) := p12
    clear p12
    by_cases hS1 : S1 = 0
    case neg =>
      have i1 : (S1 != 0) = true := by rw [bne_iff_ne]; exact hS1
      obtain ⟨e1, e2⟩ := HNO.out hS1
      have pF := opX_fail p13
      obtain ⟨⟨q1, q1'⟩, _, _, _⟩ := rs_cells pF
      obtain ⟨pG, bG, ⟨q2, q2'⟩, ⟨q3, q3'⟩⟩ := rs_put (ldT_keeps f.g DS) (with_keeps kq (recT_keeps _ _)) pF (.pointer none) (.slice none 0 0) (.int .i64 S1)
      have HE : Hid (OpE base w Q f D w5.heap.size o .ret (resW wc f.r1 f.r2 f.r3 (.pointer none) (.slice none 0 0) (.int .i64 S1))) := Go.Lib.hid ⟨rfl, by rw [e1]; exact hS1, by rw [e1, e2]; exact pair_place pG, B12.trans bG⟩
      unfold resW at HE
      clear HNO HYES e1 e2 pF pG bG p13 B12 hS1 HSG
      gi_wp2_with fail
      exact HE.out
    subst hS1
    have HR := Go.Lib.hid (HYES.out rfl)
    clear HNO HYES
    obtain ⟨_, cl0, _, _⟩ := opX_cells (pair_first (pair_first p13))
    have p14 := pair_place p13
    obtain ⟨_, l1, _, f1', _, _⟩ := ll_cells p14
    obtain ⟨p15, b15⟩ := ll_set1 (ldT_keeps f.g DS) (with_keeps kX (bsT_keeps _ _ _ _ _)) p14 (k + 1)
    have B15 := B12.trans b15
    rw [show (((k + 1 : Nat) : Int)) = (k : Int) + 1 from by push_cast; rfl] at p15 B15
    clear p13 p14 b15 B12 hb12
    gi_upto_region 15 with (fail)
    generalize wc.setCell ⟨f.gl, 257, none⟩ (.int .i64 ((k : Int) + 1)) = w15 at *
    clear cl0 l1 f1'
    have hb15 := Nat.le_trans hb0 B15.size
    have hnn := HNN.out
    have kZ : Keeps (With (With (With (Opq Q f) (RecT w5.heap.size o)) (BxT f.ball #[.slice A n c] 30)) (LlT f.gl f.g (k + 1) (last + (tot ys : Int)))) := with_keeps (with_keeps (with_keeps (opq_keeps kq f) (recT_keeps _ _)) (bxT_keeps _ _ _)) (bxT_keeps _ _ _)
    have p16 := pair_imp (th_left th_place) (pair_place p15)
    obtain ⟨_, _, _, cb0⟩ := opX_cells (pair_first (pair_first p15))
    obtain ⟨A2, c2, w16, hrun, p17, b17⟩ := pair_bulk p16 (ldT_keeps f.g DS) kZ hb15 HLO.out (by omega)
    have B17 := B15.trans b17
    have p18 := pair_imp th_mv2 p17
    obtain ⟨cb1, fb1, _⟩ := bx_cell p18
    obtain ⟨p19, b19⟩ := bx_set (ldT_keeps f.g DS) (with_keeps (with_keeps (with_keeps (opq_keeps kq f) (recT_keeps _ _)) (bxT_keeps _ _ _)) (bsT_keeps _ _ _ _ _)) p18 (.slice A2 (n + y) c2)
    have HJ : Hid (OpJ base w Q f D w5.heap.size o (k + 1) (w16.setCell ⟨f.ball, 0, none⟩ (.slice A2 (n + y) c2))) := Go.Lib.hid ⟨last + (tot ys : Int), A2, n + y, c2, all ++ ys, DS, ⟨HR.out, by have := HKK.out.1; omega, by omega, by omega, HSG.out⟩, pair_place (pair_imp th_mv2' p19), B17.trans b19⟩
    clear p15 p16 p17 p18 p19 b17 b19 B15 B17 HR kZ
    gi_wp2_with (gi_at_builtin; refine wpListIn_append_run _ rfl (.tmp 49) (.tmp 50) 30 30 rfl _ _ rfl rfl _ _ hrun ?_)
    exact HJ.out
  case done =>
    rintro o W ⟨k, last, A, n, c, all, D', hi, pr, bl⟩
    obtain ⟨_, c1, _, c2⟩ := opX_cells (pair_first pr)
    have hbW := Nat.le_trans hb0 bl.size
    obtain ⟨p6, hne⟩ := opS_end pr
    have kE : Keeps (With (With (With Q (RecT w5.heap.size o)) (BsT base A n c all)) (LlT f.gl f.g k last)) := with_keeps (with_keeps (with_keeps kq (recT_keeps _ _)) (bsT_keeps _ _ _ _ _)) (bxT_keeps _ _ _)
    obtain ⟨⟨q1, q1'⟩, _, _, _⟩ := rs_cells p6
    obtain ⟨p7, b7, ⟨q2, q2'⟩, ⟨q3, q3'⟩⟩ := rs_put (ldT_keeps f.g D') kE p6 (.pointer (some ⟨f.gl, 0, none⟩)) (.slice A n c) (.int .i64 0)
    have c3 : (W.setCell ⟨f.r1, 0, none⟩ (.pointer (some ⟨f.gl, 0, none⟩))).cell? ⟨f.ball, 0, none⟩ = some (.slice A n c) := (World.cell?_of_block (w := W) (a := ⟨f.ball, 0, none⟩) (one_far hne)).trans c2
    have bdW := bel_drew (Below.refl (resW W f.r1 f.r2 f.r3 (.pointer (some ⟨f.gl, 0, none⟩)) (.slice A n c) (.int .i64 0)).heap.size (resW W f.r1 f.r2 f.r3 (.pointer (some ⟨f.gl, 0, none⟩)) (.slice A n c) (.int .i64 0)))
    have p8 := p7.below (ldT_keeps f.g D') (with_keeps kE (rsT_keeps _ _ _ _ _ _)) bdW
    have B8 := (bl.trans b7).trans (bel_up (Nat.le_trans hbW b7.size) bdW)
    have p9 := pair_imp th_mv3 p8
    have hK := (rec_get p9).dfr
    obtain ⟨p10, b10⟩ := rec_end (ldT_keeps f.g D') (with_keeps (with_keeps (with_keeps kq (bsT_keeps _ _ _ _ _)) (bxT_keeps _ _ _)) (rsT_keeps _ _ _ _ _ _)) p9 (.deferred none)
    obtain ⟨⟨y1, _⟩, ⟨y2, _⟩, ⟨y3, _⟩, _⟩ := rs_cells p10
    have P11 := Go.Lib.hid (pair_place (pair_first p10))
    have B11 := Go.Lib.hid (B8.trans b10)
    have HI := Go.Lib.hid hi
    unfold resW at hK y1 y2 y3 P11 B11
    clear p10 b10 p9 p8 B8 p7 b7 p6 pr bl hi hne kE bdW
    gi_wp2_with fail
    refine wpIn_calmly ?_
    have hmx3 := hmx
    gi_region_with_o (fail)
    all_goals
      clear c1 c2 c3 q1 q1' q2 q2' q3 q3'
      generalize (((W.setCell ⟨f.r1, 0, none⟩ (.pointer (some ⟨f.gl, 0, none⟩))).setCell ⟨f.r2, 0, none⟩ (.slice A n c)).setCell ⟨f.r3, 0, none⟩ (.int .i64 0)).drew = W3 at *
      gi_wp2_with fail
      refine ⟨by simp, .inl ⟨_, _, rfl, run_takeDeferred hK, ?_⟩⟩
      refine ⟨.tuple #[.pointer (some ⟨f.gl, 0, none⟩), .slice A n c, .int .i64 0], ?_, .inl ⟨HI.out.1, f.gl, A, n, c, rfl, ?_⟩, B11.out⟩
      · simp [results, Tryz.results13, go_sem, y1, y2, y3]
      · obtain ⟨_, e2, e3, e4, e5⟩ := HI.out
        rw [e2, e3, e4, e5]
        exact P11.out
  case stop =>
    rintro o cd W ⟨rfl, hne, pr, bl⟩
    have hK := (rec_get pr).dfr
    obtain ⟨p7, b7⟩ := rec_end (ldT_keeps f.g (openW D).2.1) (with_keeps kq (rsT_keeps _ _ _ _ _ _)) pr (.deferred none)
    obtain ⟨⟨q1, _⟩, ⟨q2, _⟩, ⟨q3, _⟩, _⟩ := rs_cells p7
    have P8 := Go.Lib.hid (pair_first p7)
    have B8 := Go.Lib.hid (bl.trans b7)
    have HNE := Go.Lib.hid hne
    clear p7 b7 pr bl hne
    gi_wp2
    refine ⟨by simp, .inl ⟨_, _, rfl, run_takeDeferred hK, ?_⟩⟩
    refine ⟨.tuple #[.pointer none, .slice none 0 0, .int .i64 (openW D).1], ?_, .inr ⟨HNE.out, rfl, P8.out⟩, B8.out⟩
    simp [results, Tryz.results13, go_sem, q1, q2, q3]
end Go.Proofs.YtppidbdkejkopaaGreatDoor.WlWalk
namespace Go.Proofs.YtppidbdkejkopaaGreatDoor.WlWalk
open Go.RowKit MemRow Ev NameMath NameWalk EvWalk NumMem DkWalk FrMath BtWalk EdWalk CrcWalk
set_option maxHeartbeats 4000000 in
set_option maxRecDepth 100000 in
theorem targetL_any {base : Nat} {w : World} {Q : Thing} {g gl many : Nat} {last : Int} {D : Dk} (hp : Pair base w (LdT g D) (With Q (LlT gl g many last))) (kq : Keeps Q) (hb : base ≤ w.heap.size) (go : DkGo D) (ht : TabB base w) (hm : many ≤ 100000) :
    Calls Tryz.prog 49 #[.pointer (some ⟨gl, 0, none⟩)] w fun e w' => e = .returned (.int .i64 (nextW D many : Nat)) ∧ Pair base w' (LdT g D) (With Q (LlT gl g many last)) ∧ Below w.heap.size w w' := by
  have SEG : Hid (∀ (n : Nat) (W : World), TabW W → Calls Tryz.prog 23 #[.int .i64 (n : Int)] W fun e w' => e = .returned (.string (segN n)) ∧ Below W.heap.size W w') := Go.Lib.hid fun n W h => segL_any (n : Int) W h
  have kk : Keeps (With Q (LlT gl g many last)) := with_keeps kq (bxT_keeps _ _ _)
  obtain ⟨l0, l1, l2, f1, f2, _⟩ := ll_cells hp
  have bd : Below w.heap.size w w.drew := bel_drew (Below.refl _ _)
  have pd := hp.below (ldT_keeps g D) kk bd
  have td := (ht.on (bel_up hb bd)).here
  go_enter Tryz.func49, Tryz.ntmps49
  go_upto_region 1 with (fail)
  go_region_held (fun w' => w'.cell? ⟨gl, 0, none⟩ = some (.pointer (some ⟨g, 0, none⟩)) ∧ w'.cell? ⟨gl, 257, none⟩ = some (.int .i64 (many : Int)))
    (first | exact ⟨l0, l1⟩ | exact ⟨(ll_cells p6).1, (ll_cells p6).2.1⟩ | exact ⟨(ll_cells p5).1, (ll_cells p5).2.1⟩)
    (first
      | (go_at_call 34; refine (pr_read p5 kk go (seg_size many)).mono ?_; rintro e w6 ⟨A6, m6, c6, rfl, r6, p6, bb⟩; have B6 := B5.trans (bel_up B5.size bb); clear bb)
      | (go_at_call 23; refine (SEG.out many w.drew td).mono ?_; rintro e w5 ⟨rfl, b5⟩; have p5 := pd.below (ldT_keeps g D) kk b5; have B5 := bd.trans (bel_up bd.size b5); have hb5 := Nat.le_trans hb B5.size))
  have hm6 := r6.len
  have HN : Hid (nextW D many = if many = 0 ∨ 2048 ≤ m6 then many + 1 else many) := Go.Lib.hid (by unfold nextW; rw [hm6])
  clear hm6 r6 hp pd p5 B5 td b5 bd l0 l1 l2 f1 f2
  obtain ⟨l0, l1, l2, f1, f2, _⟩ := ll_cells p6
  go_upto_region 2 with (fail)
  go_cut [27] (fun v wx => v = .bool (decide (many = 0 ∨ 2048 ≤ m6)) ∧ w6 = wx)
  case first =>
    by_cases hmz : many = 0
    · subst hmz
      go_wp2_with fail
      go_meet
      exact ⟨by simp, rfl⟩
    · have j0 : (((many : Int)) == 0) = false := by rw [beq_eq_false_iff_ne]; omega
      by_cases h48 : 2048 ≤ m6
      · have j1 : (2048 : Int) ≤ m6 := by omega
        go_wp2_with fail
        go_meet
        exact ⟨by simp [h48], rfl⟩
      · have j1 : ¬ (2048 : Int) ≤ m6 := by omega
        go_wp2_with fail
        go_meet
        exact ⟨by simp [h48, hmz], rfl⟩
  obtain ⟨rfl, rfl⟩ := hcut
  by_cases hc : many = 0 ∨ 2048 ≤ m6
  · have e5 : decide (many = 0 ∨ 2048 ≤ m6) = true := by simpa using hc
    have hx : ((nextW D many : Nat) : Int) = (many : Int) + 1 := by rw [HN.out, if_pos hc]; push_cast; rfl
    have HX := Go.Lib.hid hx
    rw [e5]
    have wz : IntKind.i64.wrap ((many : Int) + 1) = (many : Int) + 1 := IntWalk.i64_in _ (by omega)
    clear HN hc e5 hx
    go_wp2_with fail
    go_ret
    exact ⟨by rw [HX.out]; rfl, p6, B6⟩
  · have e5 : decide (many = 0 ∨ 2048 ≤ m6) = false := by simpa using hc
    have hx : nextW D many = many := by rw [HN.out, if_neg hc]
    have HX := Go.Lib.hid hx
    rw [e5]
    clear HN hc e5 hx
    go_wp2_with fail
    go_ret
    exact ⟨by rw [HX.out]; rfl, p6, B6⟩
end Go.Proofs.YtppidbdkejkopaaGreatDoor.WlWalk
namespace Go.Proofs.YtppidbdkejkopaaGreatDoor.WlWalk
open Go.RowKit MemRow Ev NameMath NameWalk EvWalk NumMem DkWalk FrMath BtWalk CrcWalk
def appendL (D : Dk) (many : Nat) (last : Int) (x : Bat) : Int × Dk × Nat × Int :=
  if mayX x ≠ 0 then (mayX x, D, many, last)
  else if x.a ≠ last then (1, D, many, last)
  else if maxF < (encX x).length then (3, D, many, last)
  else if (appendD D (segN (nextW D many)) (frameF (encX x))).1 ≠ 0 then ((appendD D (segN (nextW D many)) (frameF (encX x))).1, (appendD D (segN (nextW D many)) (frameF (encX x))).2, many, last)
  else if (syncD (appendD D (segN (nextW D many)) (frameF (encX x))).2 (segN (nextW D many))).1 ≠ 0 then ((syncD (appendD D (segN (nextW D many)) (frameF (encX x))).2 (segN (nextW D many))).1, (syncD (appendD D (segN (nextW D many)) (frameF (encX x))).2 (segN (nextW D many))).2, many, last)
  else (0, (syncD (appendD D (segN (nextW D many)) (frameF (encX x))).2 (segN (nextW D many))).2, nextW D many, last + (x.es.length : Int))
theorem appendL_eq (D : Dk) (many : Nat) (last : Int) (x : Bat) : (appendL D many last x).1 = (appendW D many last x).1 ∧ (appendL D many last x).2.1 = (appendW D many last x).2.1 ∧ (appendL D many last x).2.2.2 = (appendW D many last x).2.2.2 ∧ (appendL D many last x).2.2.1 = if (appendW D many last x).1 = 0 then (appendW D many last x).2.2.1 else many := by
  unfold appendL appendW
  split
  · next h => exact ⟨rfl, rfl, rfl, by first | rfl | exact (if_neg h).symm⟩
  · split
    · exact ⟨rfl, rfl, rfl, (if_neg (by simp)).symm⟩
    · split
      · exact ⟨rfl, rfl, rfl, (if_neg (by simp)).symm⟩
      · split
        · next h => exact ⟨rfl, rfl, rfl, by first | rfl | exact (if_neg h).symm⟩
        · split
          · next h => exact ⟨rfl, rfl, rfl, by first | rfl | exact (if_neg h).symm⟩
          · exact ⟨rfl, rfl, rfl, (if_pos rfl).symm⟩
abbrev AlT (Q : Thing) (gb gl g many : Nat) (last a : Int) (v : Value) : Thing := With (With Q (BxT gb #[.int .i64 a, v] 39)) (LlT gl g many last)
theorem alT_keeps {Q : Thing} (kq : Keeps Q) (gb gl g many : Nat) (last a : Int) (v : Value) : Keeps (AlT Q gb gl g many last a v) := with_keeps (with_keeps kq (bxT_keeps _ _ _)) (bxT_keeps _ _ _)
theorem alT_box {base : Nat} {w : World} {P Q : Thing} {gb gl g many : Nat} {last a : Int} {v : Value} (h : Pair base w P (AlT Q gb gl g many last a v)) : w.cell? ⟨gb, 0, none⟩ = some (.int .i64 a) ∧ w.cell? ⟨gb, 1, none⟩ = some v := by
  have hh := pair_bx (pair_first h)
  exact ⟨by rw [cell_of_row w gb 0 _ _ _ hh]; rfl, by rw [cell_of_row w gb 1 _ _ _ hh]; rfl⟩
set_option maxHeartbeats 8000000 in
set_option maxRecDepth 100000 in
theorem appL_any {base : Nat} {w : World} {Q : Thing} {g gl many : Nat} {last : Int} {D : Dk} {v : Value} {x : Bat} (hp : Pair base w (LdT g D) (With Q (LlT gl g many last))) (kq : Keeps Q) (hb : base ≤ w.heap.size) (go : DkGo D) (ht : TabB base w) (hv : IsB w v x) (hok : BOk x) (hm : many ≤ 100000) (hl : 0 ≤ last ∧ last ≤ 1048576) :
    Calls Tryz.prog 16 #[.pointer (some ⟨gl, 0, none⟩), v] w fun e w' => e = .returned (.int .i64 (appendL D many last x).1) ∧ Pair base w' (LdT g (appendL D many last x).2.1) (With Q (LlT gl g (appendL D many last x).2.2.1 (appendL D many last x).2.2.2)) ∧ Below base w w' := by
  have hv0 := hv
  obtain ⟨A0, n0, c0, rfl, rE⟩ := hv
  have hn0 := rE.len
  have al := batch_bel w (.int .i64 x.a) (.slice A0 n0 c0)
  have p1' := pair_more (R := BxT w.heap.size #[.int .i64 x.a, .slice A0 n0 c0] 39) hp (ldT_keeps g D) (with_keeps kq (bxT_keeps _ _ _)) hb al ⟨BxAt.new w _ _, ⟨Nat.le_refl _, by simp⟩, fun k hk => hk.2⟩
  have p1 : Pair base _ (LdT g D) (AlT Q w.heap.size gl g many last x.a (.slice A0 n0 c0)) := pair_place p1'
  have B1 : Below base w (w.alloc (.cells #[.int .i64 x.a, .slice A0 n0 c0] 39)) := bel_up hb al
  have hv1 := hv0.below al
  have hb1 : base ≤ (w.alloc (.cells #[.int .i64 x.a, .slice A0 n0 c0] 39)).heap.size := Nat.le_trans hb B1.size
  clear p1' hp al
  generalize hR : appendL D many last x = R
  have HR := Go.Lib.hid hR
  clear hR
  go_enter Tryz.func16, Tryz.ntmps16
  go_upto_region 1 with (fail)
  generalize w.alloc (.cells #[.int .i64 x.a, .slice A0 n0 c0] 39) = w1 at *
  generalize w.heap.size = gb at *
  obtain ⟨k0, k1⟩ := alT_box p1
  go_wp2_with fail
  refine (bApi.may _ x w1 hv1 hok).mono ?_
  rintro e w2 ⟨rfl, b2⟩
  have p2 := p1.below (ldT_keeps g D) (alT_keeps kq _ _ _ _ _ _ _) b2
  have B2 := B1.trans (bel_up hb1 b2)
  have hb2 := Nat.le_trans hb1 b2.size
  have hv2 := hv1.below b2
  clear p1 k0 k1 b2 hv1
  by_cases h0 : mayX x = 0
  case neg =>
    have m0 : (mayX x != 0) = true := by rw [bne_iff_ne]; exact h0
    have e1 : R = (mayX x, D, many, last) := by rw [← HR.out]; unfold appendL; rw [if_pos h0]
    have hM : mayX x = R.1 := by rw [e1]
    have pz : Pair base w2 (LdT g R.2.1) (With Q (LlT gl g R.2.2.1 R.2.2.2)) := by rw [e1]; exact pair_first (pair_place p2)
    rw [hM] at m0 ⊢
    clear HR h0 p2 e1 hM
    go_wp2_with fail
    go_ret
    exact ⟨rfl, pz, B2⟩
  have H0 := Go.Lib.hid h0
  obtain ⟨z1, z2, _, z4, z5⟩ := (mayX_zero x).1 h0
  rw [hn0] at z1 z2 z5
  have hlx := encX_le h0
  rw [h0]
  clear h0
  obtain ⟨k0, k1⟩ := alT_box p2
  obtain ⟨l0, l1, l2, f1, f2, _⟩ := ll_cells p2
  by_cases ha : x.a = last
  case neg =>
    obtain rfl : (1, D, many, last) = R := by rw [← HR.out]; unfold appendL; rw [if_neg (by simpa using H0.out), if_pos ha]
    have i1 : (x.a != last) = true := by rw [bne_iff_ne]; exact ha
    have pz := pair_first (pair_place p2)
    clear HR ha
    go_wp2_with fail
    go_quiet (fail)
    go_wp2_with fail
    go_ret
    exact ⟨rfl, pz.below (ldT_keeps g D) (with_keeps kq (bxT_keeps _ _ _)) (EeLaw.bel_drewN (Below.refl _ _) _), B2.trans (EeLaw.bel_drewN (Below.refl _ _) _)⟩
  have i1 : (x.a != last) = false := by rw [bne_eq_false_iff_eq]; exact ha
  go_wp2_with fail
  go_quiet (fail)
  have bq := EeLaw.bel_drewN (Below.refl w2.heap.size w2) nq
  have p3 := p2.below (ldT_keeps g D) (alT_keeps kq _ _ _ _ _ _ _) bq
  have B3 := B2.trans (bel_up hb2 bq)
  have hv3 := hv2.below bq
  have hb3 : base ≤ (w2.drewN nq).heap.size := hb2
  have HA := Go.Lib.hid ha
  generalize w2.drewN nq = w3 at *
  clear p2 B2 hv2 hb2 k0 k1 l0 l1 l2 f1 f2 i1 ha bq
  obtain ⟨k0, k1⟩ := alT_box p3
  go_wp2_with fail
  refine (bApi.put _ x w3 hv3 hok).mono ?_
  rintro e w4 ⟨b4, hpx⟩
  have p4 := p3.below (ldT_keeps g D) (alT_keeps kq _ _ _ _ _ _ _) b4
  have B4 := B3.trans (bel_up hb3 b4)
  have hb4 := Nat.le_trans hb3 b4.size
  clear p3 B3 hb3 b4 k0 k1 hv3
  rcases hpx with ⟨_, A2, c2, rfl, r2⟩ | ⟨h0, _⟩
  case inr => exact absurd H0.out h0
  obtain ⟨_, _, _, _, _, tb⟩ := ll_cells p4
  go_wp2_with fail
  refine (FrWalk.putT9_any gl 1 A2 _ c2 (encX x) w4 tb r2).mono ?_
  rintro e w5 ⟨A5, m5, c5, rfl, r5, b5⟩
  have p5 := p4.below (ldT_keeps g D) (alT_keeps kq _ _ _ _ _ _ _) b5
  have B5 := B4.trans (bel_up hb4 b5)
  have hb5 := Nat.le_trans hb4 b5.size
  clear p4 B4 hb4 b5 r2 tb
  by_cases hmx : maxF < (encX x).length
  · have e3 : FrWalk.putC (encX x) = 3 := by unfold FrWalk.putC; rw [if_pos hmx]
    rw [e3]
    obtain rfl : (3, D, many, last) = R := by rw [← HR.out]; unfold appendL; rw [if_neg (by simpa using H0.out), if_neg (by simpa using HA.out), if_pos hmx]
    have pz := pair_first (pair_place p5)
    clear HR hmx e3
    go_wp2_with fail
    go_ret
    exact ⟨rfl, pz, B5⟩
  have e3 : FrWalk.putC (encX x) = 0 := by unfold FrWalk.putC; rw [if_neg hmx]
  have e4 : FrWalk.putB (encX x) = frameF (encX x) := by unfold FrWalk.putB; rw [if_neg hmx]
  rw [e3]
  rw [e4] at r5
  have hm5 := r5.len
  rw [frameF_length] at hm5
  have hm5' : m5 ≤ 1000000 := by unfold maxF at hmx; omega
  replace HR : Hid ((if (appendD D (segN (nextW D many)) (frameF (encX x))).1 ≠ 0 then ((appendD D (segN (nextW D many)) (frameF (encX x))).1, (appendD D (segN (nextW D many)) (frameF (encX x))).2, many, last)
      else if (syncD (appendD D (segN (nextW D many)) (frameF (encX x))).2 (segN (nextW D many))).1 ≠ 0 then ((syncD (appendD D (segN (nextW D many)) (frameF (encX x))).2 (segN (nextW D many))).1, (syncD (appendD D (segN (nextW D many)) (frameF (encX x))).2 (segN (nextW D many))).2, many, last)
      else (0, (syncD (appendD D (segN (nextW D many)) (frameF (encX x))).2 (segN (nextW D many))).2, nextW D many, last + (x.es.length : Int))) = R) := Go.Lib.hid (by
    have := HR.out
    unfold appendL at this
    rw [if_neg (by simpa using H0.out), if_neg (by simpa using HA.out), if_neg hmx] at this
    exact this)
  generalize frameF (encX x) = f at *
  clear e3 e4 hmx hlx hm5
  generalize (encX x).length = le at *
  have SEG : Hid (∀ (n : Nat) (W : World), TabW W → Calls Tryz.prog 23 #[.int .i64 (n : Int)] W fun e w' => e = .returned (.string (segN n)) ∧ Below W.heap.size W w') := Go.Lib.hid fun n W h => segL_any (n : Int) W h
  go_wp2_with fail
  refine (targetL_any p5 (with_keeps kq (bxT_keeps _ _ _)) hb5 go (ht.on B5) hm).mono ?_
  generalize nextW D many = nx at *
  rintro e w6 ⟨rfl, p6, b6⟩
  have B6 := B5.trans (bel_up hb5 b6)
  have hb6 := Nat.le_trans hb5 b6.size
  have rf6 := r5.below b6
  clear p5 B5 hb5 b6 r5 rE hv0
  have HS : Hid ((segN nx).size ≤ maxLen) := Go.Lib.hid (seg_size nx)
  have goA := append_go go (segN nx) f
  generalize hA : appendD D (segN nx) f = A at *
  have HAP : Hid (appendD D (segN nx) f = A) := Go.Lib.hid hA
  clear hA
  obtain ⟨l0, l1, l2, f1, f2, _⟩ := ll_cells p6
  have bd6 : Below w6.heap.size w6 w6.drew := bel_drew (Below.refl _ _)
  have pd6 := p6.below (ldT_keeps g D) (alT_keeps kq _ _ _ _ _ _ _) bd6
  have Bd6 := B6.trans (bel_up hb6 bd6)
  have td6 := (ht.on Bd6).here
  have rg6 := rf6.below bd6
  clear l1 l2 f1 f2
  go_upto_region 11 with (fail)
  go_region_held (fun w' => w'.cell? ⟨gl, 0, none⟩ = some (.pointer (some ⟨g, 0, none⟩)))
    (first | exact l0 | exact (ll_cells p8).1 | exact (ll_cells p7).1)
    (first
      | (go_at_call 30; refine (pr_append p7 (alT_keeps kq _ _ _ _ _ _ _) hb7 go HS.out rf7 hm5').mono ?_; rw [HAP.out]; rintro e w8 ⟨rfl, p8, b8⟩; have B8 := B7.trans b8; have hb8 := Nat.le_trans hb7 b8.size; clear b8)
      | (go_at_call 23; refine (SEG.out nx w6.drew td6).mono ?_; rintro e w7 ⟨rfl, b7⟩; have p7 := pd6.below (ldT_keeps g D) (alT_keeps kq _ _ _ _ _ _ _) b7; have B7 := Bd6.trans (bel_up hb6 b7); have rf7 := rg6.below b7; have hb7 := Nat.le_trans hb6 b7.size))
  clear p6 pd6 p7 B6 Bd6 B7 td6 rg6 rf7 rf6 b7 bd6 l0 hb6 hb7
  clear HAP
  obtain ⟨A1, DA⟩ := A
  by_cases hA1 : A1 = 0
  case neg =>
    have i1 : (A1 != 0) = true := by rw [bne_iff_ne]; exact hA1
    obtain rfl : (A1, DA, many, last) = R := by rw [← HR.out, if_pos hA1]
    have pz := pair_first (pair_place p8)
    clear HR hA1
    go_wp2_with fail
    go_ret
    exact ⟨rfl, pz, B8⟩
  subst hA1
  replace HR : Hid ((if (syncD DA (segN nx)).1 ≠ 0 then ((syncD DA (segN nx)).1, (syncD DA (segN nx)).2, many, last)
      else (0, (syncD DA (segN nx)).2, nx, last + (x.es.length : Int))) = R) := Go.Lib.hid (by
    have := HR.out
    rw [if_neg (by simp)] at this
    exact this)
  obtain ⟨l0, l1, l2, f1, f2, _⟩ := ll_cells p8
  have goA' : DkGo DA := goA
  clear goA l1 l2 f1 f2
  have bd9 : Below w8.heap.size w8 w8.drew := bel_drew (Below.refl _ _)
  have pd9 : Pair base w8.drew (LdT g DA) (AlT Q gb gl g many last x.a (.slice A0 n0 c0)) := p8.below (ldT_keeps g DA) (alT_keeps kq _ _ _ _ _ _ _) bd9
  have Bd9 := B8.trans (bel_up hb8 bd9)
  have td9 := (ht.on Bd9).here
  generalize hS : syncD DA (segN nx) = S at *
  have HSY : Hid (syncD DA (segN nx) = S) := Go.Lib.hid hS
  clear hS
  go_upto_region 14 with (fail)
  go_region_held (fun w' => w'.cell? ⟨gl, 0, none⟩ = some (.pointer (some ⟨g, 0, none⟩)))
    (first | exact l0 | exact (ll_cells p11).1 | exact (ll_cells p10).1)
    (first
      | (go_at_call 39; refine (pr_sync p10 (alT_keeps kq _ _ _ _ _ _ _) hb10 goA' HS.out).mono ?_; rw [HSY.out]; rintro e w11 ⟨rfl, p11, b11⟩; have B11 := B10.trans b11; have hb11 := Nat.le_trans hb10 b11.size; clear b11)
      | (go_at_call 23; refine (SEG.out nx w8.drew td9).mono ?_; rintro e w10 ⟨rfl, b10⟩; have p10 := pd9.below (ldT_keeps g DA) (alT_keeps kq _ _ _ _ _ _ _) b10; have B10 := Bd9.trans (bel_up hb8 b10); have hb10 := Nat.le_trans hb8 b10.size))
  clear p8 pd9 p10 B8 Bd9 B10 td9 b10 bd9 l0 hb8 hb10 HSY goA' HS
  obtain ⟨S1, DS⟩ := S
  by_cases hS1 : S1 = 0
  case neg =>
    have i1 : (S1 != 0) = true := by rw [bne_iff_ne]; exact hS1
    obtain rfl : (S1, DS, many, last) = R := by rw [← HR.out, if_pos hS1]
    have pz := pair_first (pair_place p11)
    clear HR hS1
    go_wp2_with fail
    go_ret
    exact ⟨rfl, pz, B11⟩
  subst hS1
  obtain rfl : (0, DS, nx, last + (x.es.length : Int)) = R := by
    have := HR.out
    rw [if_neg (by simp)] at this
    exact this
  clear HR
  obtain ⟨l0, l1, l2, f1, f2, _⟩ := ll_cells p11
  obtain ⟨p12, b12⟩ := ll_set1 (ldT_keeps g DS) (with_keeps kq (bxT_keeps _ _ _)) p11 nx
  have B12 := B11.trans b12
  have hb12 := Nat.le_trans hb11 b12.size
  go_upto_region 18 with (fail)
  clear l0 l1 l2 f1 f2 b12 p11 B11 hb11
  generalize w11.setCell ⟨gl, 257, none⟩ (.int .i64 (nx : Int)) = w12 at *
  obtain ⟨l0, l1, l2, f1, f2, _⟩ := ll_cells p12
  obtain ⟨k0, k1⟩ := alT_box p12
  have z6 : last + (n0 : Int) ≤ 1048576 := by rw [← HA.out]; exact z5
  have z7 := hl.1
  have wz : IntKind.i64.wrap (last + (n0 : Int)) = last + (n0 : Int) := IntWalk.i64_in _ (by omega)
  obtain ⟨p13, b13⟩ := ll_set2 (ldT_keeps g DS) (with_keeps kq (bxT_keeps _ _ _)) p12 (last + (n0 : Int))
  have p14 := pair_first (pair_place p13)
  have bd14 := bel_drew (Below.refl (w12.setCell ⟨gl, 258, none⟩ (.int .i64 (last + (n0 : Int)))).heap.size (w12.setCell ⟨gl, 258, none⟩ (.int .i64 (last + (n0 : Int)))))
  have p15 := Go.Lib.hid (p14.below (ldT_keeps g DS) (with_keeps kq (bxT_keeps _ _ _)) bd14)
  have B15 := Go.Lib.hid ((B12.trans b13).trans (bel_up (Nat.le_trans hb12 b13.size) bd14))
  clear p13 b13 p14 bd14 p12 B12
  go_region_with (fail)
  all_goals
    generalize (w12.setCell ⟨gl, 258, none⟩ (.int .i64 (last + (n0 : Int)))).drew = w15 at *
    clear l0 l1 l2 f1 f2 k0 k1
    subst hn0
    go_wp2_with fail
    go_ret
    exact ⟨rfl, p15.out, B15.out⟩
end Go.Proofs.YtppidbdkejkopaaGreatDoor.WlWalk
namespace Go.Proofs.YtppidbdkejkopaaGreatDoor.WlWalk
open Go.RowKit MemRow Ev NameMath NameWalk EvWalk DkWalk FrMath BtWalk
def bts (cs : List (List UInt8 × Nat)) : List (List UInt8) := cs.map (·.1)
def AllSafe (cs : List (List UInt8 × Nat)) : Prop := ∀ p ∈ cs, p.2 = p.1.length
def safed (bs : List (List UInt8)) : List (List UInt8 × Nat) := bs.map fun b => (b, b.length)
theorem safed_safe (bs : List (List UInt8)) : AllSafe (safed bs) := fun p hp => by
  obtain ⟨b, _, rfl⟩ := List.mem_map.1 hp
  rfl
theorem bts_safed (bs : List (List UInt8)) : bts (safed bs) = bs := by
  unfold bts safed
  rw [List.map_map]
  simp [Function.comp_def]
theorem left_off {D : Dk} (h : D.left = -1) : leftN D = -1 := by unfold leftN; rw [h]; rfl
theorem left_ne {D : Dk} (h : D.left = -1) : D.left ≠ 0 := by omega
def syncW : List (List UInt8 × Nat) → Int → List (List UInt8 × Nat)
  | [], _ => []
  | p :: cs, last => if goodN p.1 last < p.1.length then p :: cs else (p.1, p.1.length) :: syncW cs (last + (tot (goodB p.1 last) : Int))
theorem syncW_len : ∀ (cs : List (List UInt8 × Nat)) (last : Int), (syncW cs last).length = cs.length
  | [], _ => rfl
  | p :: cs, last => by
    unfold syncW
    split
    · rfl
    · rw [List.length_cons, List.length_cons, syncW_len]
theorem openR_segs : ∀ (rest pre : List (List UInt8 × Nat)) (D : Dk) (last : Int) (all : List Bat), DkGo D → D.left = -1 → SegsD D (pre ++ rest) →
    (openR rest.length D pre.length last all).c = 0 ∧ (openR rest.length D pre.length last all).all = all ++ (readW (bts rest) last).1 ∧ (openR rest.length D pre.length last all).many = pre.length + (readW (bts rest) last).2.1 ∧
    (openR rest.length D pre.length last all).last = last + (tot (readW (bts rest) last).1 : Int) ∧ (openR rest.length D pre.length last all).cut = (readW (bts rest) last).2.2 ∧
    SegsD (openR rest.length D pre.length last all).D (pre ++ syncW rest last) ∧ DkGo (openR rest.length D pre.length last all).D ∧ (openR rest.length D pre.length last all).D.left = -1 ∧ (openR rest.length D pre.length last all).D.quota = D.quota
  | [], pre, D, last, all, hg, hl, hs => by
    refine ⟨rfl, ?_, rfl, ?_, rfl, hs, hg, hl, rfl⟩
    · show all = all ++ []
      rw [List.append_nil]
    · show last = last + ((tot [] : Nat) : Int)
      rw [tot_nil]
      simp
  | p :: rest, pre, D, last, all, hg, hl, hs => by
    have hc : (pre ++ p :: rest)[pre.length]? = some p := by rw [List.getElem?_append_right (Nat.le_refl _), Nat.sub_self]; rfl
    have hk := hs.get hc
    have hr := (read_some hk).2
    have eb : bts (p :: rest) = p.1 :: bts rest := rfl
    rw [List.length_cons]
    unfold openR
    rw [hr]
    by_cases hcut : goodN p.1 last < p.1.length
    · rw [if_pos hcut, eb, readW_cut hcut]
      have e2 : syncW (p :: rest) last = p :: rest := by unfold syncW; rw [if_pos hcut]
      rw [e2]
      exact ⟨rfl, rfl, rfl, rfl, rfl, hs, hg, hl, rfl⟩
    · rw [if_neg hcut, eb, readW_on hcut]
      obtain ⟨b, kk⟩ := p
      obtain ⟨y1, y2, y3⟩ := sync_yes hg (left_ne hl) hk
      have hg2 := sync_go hg (segN (pre.length + 1))
      have hl2 : (syncD D (segN (pre.length + 1))).2.left = -1 := by rw [y2.left, left_off hl]
      have hlt : pre.length < (pre ++ (b, kk) :: rest).length := by rw [List.length_append, List.length_cons]; omega
      have hs2 := hs.set hlt y3
      have e3 : (pre ++ (b, kk) :: rest).set pre.length (b, b.length) = (pre ++ [(b, b.length)]) ++ rest := by
        rw [List.set_append_right _ _ (Nat.le_refl _), Nat.sub_self]
        simp
      rw [e3] at hs2
      have ih := openR_segs rest (pre ++ [(b, b.length)]) (syncD D (segN (pre.length + 1))).2 (last + (tot (goodB b last) : Int)) (all ++ goodB b last) hg2 hl2 hs2
      have e4 : (pre ++ [(b, b.length)]).length = pre.length + 1 := by simp
      rw [e4] at ih
      obtain ⟨i1, i2, i3, i4, i5, i6, i7, i8, i9⟩ := ih
      rw [if_neg (by rw [y1]; decide)]
      have e5 : syncW ((b, kk) :: rest) last = (b, b.length) :: syncW rest (last + (tot (goodB b last) : Int)) := by
        rw [syncW]
        simp only
        rw [if_neg hcut]
      rw [e5]
      refine ⟨i1, by rw [i2, List.append_assoc], by rw [i3]; simp only; omega, ?_, i5, by simpa using i6, i7, i8, by rw [i9, y2.quota]⟩
      rw [i4, tot_append]
      push_cast
      omega
theorem removeW_segs : ∀ (f : Nat) (D : Dk) (k : Nat) (cs : List (List UInt8 × Nat)), DkGo D → SegsD D cs → cs.length = k → f ≤ k →
    ∃ j, SegsD (removeW f D k).2 (cs.take j) ∧ k - f ≤ j ∧ j ≤ k ∧ DkGo (removeW f D k).2 ∧ (removeW f D k).2.quota = D.quota ∧ (((removeW f D k).1 = 0 ∧ j = k - f) ∨ (removeW f D k).1 = 14) ∧ (D.left = -1 → (removeW f D k).1 = 0 ∧ (removeW f D k).2.left = -1)
  | 0, D, k, cs, hg, hs, hk, _ => by
    refine ⟨k, ?_, by omega, Nat.le_refl _, hg, rfl, .inl ⟨rfl, by omega⟩, fun h => ⟨rfl, h⟩⟩
    rw [List.take_of_length_le (by omega)]
    exact hs
  | f + 1, D, k, cs, hg, hs, hk, hf => by
    unfold removeW
    by_cases h0 : D.left = 0
    · have e := (fuse_out h0 (segN k) [] 0).2.2.1
      rw [e, if_pos (by simp)]
      refine ⟨k, ?_, by omega, Nat.le_refl _, hg, rfl, .inr rfl, fun h => by omega⟩
      rw [List.take_of_length_le (by omega)]
      exact hs
    · have hne : cs ≠ [] := by
        intro h
        rw [h] at hk
        simp at hk
        omega
      have e1 := List.dropLast_concat_getLast hne
      generalize cs.dropLast = ds at *
      generalize cs.getLast hne = q at *
      subst e1
      rw [List.length_append, List.length_singleton] at hk
      subst hk
      have hc : (ds ++ [q])[ds.length]? = some q := by rw [List.getElem?_append_right (Nat.le_refl _), Nat.sub_self]; rfl
      obtain ⟨y1, y2, y3⟩ := remove_yes hg h0 (hs.get hc)
      have hg2 := remove_go hg (segN (ds.length + 1))
      rw [if_neg (by rw [y1]; decide)]
      obtain ⟨j, j1, j2, j3, j4, j5, j6, j7⟩ := removeW_segs f (removeD D (segN (ds.length + 1))).2 ds.length ds hg2 (hs.pop y3) rfl (by omega)
      have e2 : ds.length + 1 - 1 = ds.length := by omega
      rw [e2]
      refine ⟨j, ?_, by omega, by omega, j4, by rw [j5, y2.quota], ?_, fun h => j7 (by rw [y2.left, left_off h])⟩
      · rw [List.take_append_of_le_length j3]
        exact j1
      · rcases j6 with ⟨a, b⟩ | a
        · exact .inl ⟨a, by omega⟩
        · exact .inr a
end Go.Proofs.YtppidbdkejkopaaGreatDoor.WlWalk
namespace Go.Proofs.YtppidbdkejkopaaGreatDoor.WlWalk
open Go.RowKit MemRow Ev NameMath NameWalk EvWalk DkWalk FrMath BtWalk
theorem bts_append (a b : List (List UInt8 × Nat)) : bts (a ++ b) = bts a ++ bts b := by unfold bts; rw [List.map_append]
theorem bts_len (a : List (List UInt8 × Nat)) : (bts a).length = a.length := by unfold bts; rw [List.length_map]
theorem sync_none : ∀ (cs : List (List UInt8 × Nat)) (last : Int), (readW (bts cs) last).2.2 = none → syncW cs last = safed (bts cs) ∧ fixW (bts cs) last = bts cs
  | [], _, _ => ⟨rfl, rfl⟩
  | p :: cs, last, h => by
    have eb : bts (p :: cs) = p.1 :: bts cs := rfl
    rw [eb] at h ⊢
    by_cases hc : goodN p.1 last < p.1.length
    · rw [readW_cut hc] at h
      cases h
    · rw [readW_on hc] at h
      obtain ⟨h1, h2⟩ := sync_none cs _ h
      rw [syncW, if_neg hc, fixW, if_neg hc, h1, h2]
      exact ⟨rfl, rfl⟩
theorem sync_cut : ∀ (cs : List (List UInt8 × Nat)) (last : Int) (n : Nat), (readW (bts cs) last).2.2 = some n →
    ∃ ds b kk es, cs = ds ++ (b, kk) :: es ∧ ds.length + 1 = (readW (bts cs) last).2.1 ∧ syncW cs last = safed (bts ds) ++ (b, kk) :: es ∧ fixW (bts cs) last = bts ds ++ [b.take n] ∧ n ≤ b.length ∧ ∀ fs, readW (bts (ds ++ (b, kk) :: fs)) last = readW (bts cs) last
  | [], _, _, h => by cases h
  | (b, kk) :: cs, last, n, h => by
    have eb : ∀ xs, bts ((b, kk) :: xs) = b :: bts xs := fun _ => rfl
    rw [eb] at h ⊢
    by_cases hc : goodN b last < b.length
    · rw [readW_cut hc] at h ⊢
      injection h with h
      subst h
      refine ⟨[], b, kk, cs, rfl, rfl, ?_, ?_, by omega, fun fs => ?_⟩
      · rw [syncW]
        simp only
        rw [if_pos hc]
        rfl
      · rw [fixW, if_pos hc]
        rfl
      · rw [List.nil_append, eb, readW_cut hc]
    · rw [readW_on hc] at h ⊢
      obtain ⟨ds, b2, k2, es, h1, h2, h3, h4, h5, h6⟩ := sync_cut cs _ n h
      refine ⟨(b, kk) :: ds, b2, k2, es, by rw [h1]; rfl, by rw [List.length_cons, h2], ?_, ?_, h5, fun fs => ?_⟩
      · rw [syncW]
        simp only
        rw [if_neg hc, h3]
        rfl
      · rw [fixW, if_neg hc, h4]
        rfl
      · rw [List.cons_append, eb, readW_on hc, h6]
theorem set_last {α : Type} (ds : List α) (p q : α) : (ds ++ [p]).set ds.length q = ds ++ [q] := by
  rw [List.set_append_right _ _ (Nat.le_refl _), Nat.sub_self]
  rfl
theorem last_get {α : Type} (ds : List α) (p : α) (es : List α) : (ds ++ p :: es)[ds.length]? = some p := by rw [List.getElem?_append_right (Nat.le_refl _), Nat.sub_self]; rfl
theorem take_mid {α : Type} (ds : List α) (p : α) (es : List α) : (ds ++ p :: es).take (ds.length + 1) = ds ++ [p] := by
  rw [List.take_append, List.take_of_length_le (Nat.le_succ _)]
  have e : ds.length + 1 - ds.length = 1 := by omega
  rw [e]
  rfl
theorem cutW_segs {D : Dk} {ds es : List (List UInt8 × Nat)} {b : List UInt8} {kk n : Nat} (hg : DkGo D) (hl : D.left = -1) (hs : SegsD D (ds ++ (b, kk) :: es)) (hn : n ≤ b.length) :
    (cutW D (ds ++ (b, kk) :: es).length (ds.length + 1) n).1 = 0 ∧ SegsD (cutW D (ds ++ (b, kk) :: es).length (ds.length + 1) n).2 (ds ++ [(b.take n, n)]) ∧ DkGo (cutW D (ds ++ (b, kk) :: es).length (ds.length + 1) n).2 ∧
    (cutW D (ds ++ (b, kk) :: es).length (ds.length + 1) n).2.left = -1 ∧ (cutW D (ds ++ (b, kk) :: es).length (ds.length + 1) n).2.quota = D.quota := by
  have hlen : ds.length + 1 ≤ (ds ++ (b, kk) :: es).length := by rw [List.length_append, List.length_cons]; omega
  obtain ⟨j, j1, j2, j3, j4, j5, j6, j7⟩ := removeW_segs ((ds ++ (b, kk) :: es).length - (ds.length + 1)) D (ds ++ (b, kk) :: es).length _ hg hs rfl (by omega)
  obtain ⟨r1, r2⟩ := j7 hl
  have hj : j = ds.length + 1 := by
    rcases j6 with ⟨_, h⟩ | h
    · omega
    · rw [r1] at h
      cases h
  subst hj
  rw [take_mid] at j1
  unfold cutW
  generalize removeW ((ds ++ (b, kk) :: es).length - (ds.length + 1)) D (ds ++ (b, kk) :: es).length = Q at *
  rw [if_neg (by rw [r1]; decide)]
  obtain ⟨t1, t2, t3⟩ := trunc_yes j4 (left_ne r2) (j1.get (last_get ds (b, kk) [])) hn
  have tg := trunc_go j4 (segN (ds.length + 1)) (n : Int)
  have tl : (truncD Q.2 (segN (ds.length + 1)) (n : Int)).2.left = -1 := by rw [t2.left, left_off r2]
  have ts := j1.set (i := ds.length) (by rw [List.length_append]; simp) t3
  rw [set_last] at ts
  rw [if_neg (by rw [t1]; decide)]
  generalize (truncD Q.2 (segN (ds.length + 1)) (n : Int)) = T at *
  obtain ⟨y1, y2, y3⟩ := sync_yes tg (left_ne tl) (ts.get (last_get ds (b.take n, min kk n) []))
  have yg := sync_go tg (segN (ds.length + 1))
  have ys := ts.set (i := ds.length) (by rw [List.length_append]; simp) y3
  have el : (b.take n).length = n := by rw [List.length_take]; omega
  rw [set_last, el] at ys
  exact ⟨y1, ys, yg, by rw [y2.left, left_off tl], by rw [y2.quota, t2.quota, j5]⟩
theorem openW_segs {D : Dk} {cs : List (List UInt8 × Nat)} (hg : DkGo D) (hl : D.left = -1) (hs : SegsD D cs) :
    (openW D).1 = 0 ∧ SegsD (openW D).2.1 (safed (fixW (bts cs) 0)) ∧ DkGo (openW D).2.1 ∧ (openW D).2.1.left = -1 ∧ (openW D).2.1.quota = D.quota ∧
    (openW D).2.2.all = (readW (bts cs) 0).1 ∧ (openW D).2.2.many = (readW (bts cs) 0).2.1 ∧ (openW D).2.2.last = (tot (readW (bts cs) 0).1 : Int) := by
  obtain ⟨i1, i2, i3, i4, i5, i6, i7, i8, i9⟩ := openR_segs cs [] D 0 [] hg hl hs
  rw [List.nil_append] at i2 i6
  simp only [List.length_nil, Nat.zero_add] at i1 i2 i3 i4 i5 i6 i7 i8 i9
  have hm := manyW_segs hs
  unfold openW
  simp only
  rw [hm]
  generalize openR cs.length D 0 0 [] = R at *
  rw [if_neg (by rw [i1]; decide)]
  cases hc : (readW (bts cs) 0).2.2 with
  | none =>
    rw [hc] at i5
    obtain ⟨s1, s2⟩ := sync_none cs 0 hc
    rw [i5]
    rw [s1] at i6
    rw [s2]
    exact ⟨rfl, i6, i7, i8, i9, i2, i3, by rw [i4]; omega⟩
  | some n =>
    rw [hc] at i5
    obtain ⟨ds, b, kk, es, c1, c2, c3, c4, c5, _⟩ := sync_cut cs 0 n hc
    rw [i5]
    simp only
    rw [c4, i3, ← c2]
    rw [c3] at i6
    have hdl : (safed (bts ds)).length = ds.length := by unfold safed; rw [List.length_map, bts_len]
    have hk : cs.length = (safed (bts ds) ++ (b, kk) :: es).length := by rw [← c3, syncW_len]
    obtain ⟨k1, k2, k3, k4, k5⟩ := cutW_segs i7 i8 i6 c5
    rw [hdl] at k1 k2 k3 k4 k5
    rw [hk]
    have es2 : safed (bts ds ++ [b.take n]) = safed (bts ds) ++ [(b.take n, n)] := by
      unfold safed
      rw [List.map_append, List.map_cons, List.map_nil, List.length_take, Nat.min_eq_left c5]
    rw [es2]
    exact ⟨k1, k2, k3, k4, by rw [k5, i9], i2, rfl, by rw [i4]; omega⟩
end Go.Proofs.YtppidbdkejkopaaGreatDoor.WlWalk
namespace Go.Proofs.YtppidbdkejkopaaGreatDoor.WlWalk
open Go.RowKit MemRow Ev NameMath NameWalk EvWalk DkWalk FrMath BtWalk
theorem safed_append (a b : List (List UInt8)) : safed (a ++ b) = safed a ++ safed b := by unfold safed; rw [List.map_append]
theorem safed_len (a : List (List UInt8)) : (safed a).length = a.length := by unfold safed; rw [List.length_map]
structure LogD (D : Dk) (ss : List (List Bat)) : Prop where
  go : DkGo D
  segs : SegsD D (safed (ss.map bytesW))
  ch : Chained ss.flatten 0
theorem LogD.new {q : Int} (h : q ≤ 9223372036854775807) : LogD (newD q) [] := ⟨new_go h, SegsD.new q, trivial⟩
theorem LogD.same {D D' : Dk} {ss : List (List Bat)} (h : LogD D ss) (hg : DkGo D') (hf : D'.fs = D.fs) : LogD D' ss := ⟨hg, h.segs.same hf, h.ch⟩
theorem LogD.read {D : Dk} {ss : List (List Bat)} (h : LogD D ss) : readW (bts (safed (ss.map bytesW))) 0 = (ss.flatten, ss.length, none) := by rw [bts_safed]; exact readW_whole h.ch
theorem readW_last {ss : List (List Bat)} {ys : List Bat} {r : List UInt8} (h : Chained (ss.flatten ++ ys) 0) (hr : takeF r = none) : (readW (ss.map bytesW ++ [bytesW ys ++ r]) 0).1 = ss.flatten ++ ys := by
  obtain ⟨h1, h2⟩ := chained_append.1 h
  rw [readW_of ss 0 _ h1]
  obtain ⟨g1, g2⟩ := good_tail h2 hr
  simp only
  congr 1
  by_cases hc : goodN (bytesW ys ++ r) (0 + (tot ss.flatten : Int)) < (bytesW ys ++ r).length
  · rw [readW_cut hc, g1]
  · rw [readW_on hc, g1]
    simp [readW]
theorem takeF_nil : takeF [] = none := rfl
structure Torn (D : Dk) (ss : List (List Bat)) (x : Bat) (cs : List (List UInt8 × Nat)) : Prop where
  go : DkGo D
  segs : SegsD D cs
  cut : ∀ keep : Int, (readW (bts (cs.map fun p => (p.1.take (cutN keep p), cutN keep p))) 0).1 = ss.flatten ∨ (readW (bts (cs.map fun p => (p.1.take (cutN keep p), cutN keep p))) 0).1 = ss.flatten ++ [x]
theorem cut_same {cs : List (List UInt8 × Nat)} (h : AllSafe cs) (keep : Int) : (cs.map fun p => (p.1.take (cutN keep p), cutN keep p)) = cs := by
  conv => rhs; rw [← List.map_id cs]
  refine List.map_congr_left fun p hp => ?_
  obtain ⟨b, k⟩ := p
  have hk := h _ hp
  simp only at hk
  subst hk
  have e : cutN keep (b, b.length) = b.length := by unfold cutN; simp
  rw [e, List.take_length]
  rfl
theorem cut_one (b f : List UInt8) (keep : Int) : cutN keep (b ++ f, b.length) = b.length + min (max keep 0).toNat f.length ∧ (b ++ f).take (cutN keep (b ++ f, b.length)) = b ++ f.take (min (max keep 0).toNat f.length) := by
  have e : cutN keep (b ++ f, b.length) = b.length + min (max keep 0).toNat f.length := by
    unfold cutN
    simp only [List.length_append, Nat.add_sub_cancel_left]
  refine ⟨e, ?_⟩
  rw [e, List.take_length_add_append]
theorem torn_read {ts : List (List Bat)} {s : List Bat} {x : Bat} (h : Chained (ts.flatten ++ s ++ [x]) 0) (keep : Int) :
    (readW (bts ((safed (ts.map bytesW) ++ [(bytesW s ++ frameF (encX x), (bytesW s).length)]).map fun p => (p.1.take (cutN keep p), cutN keep p))) 0).1 = ts.flatten ++ s ∨
    (readW (bts ((safed (ts.map bytesW) ++ [(bytesW s ++ frameF (encX x), (bytesW s).length)]).map fun p => (p.1.take (cutN keep p), cutN keep p))) 0).1 = ts.flatten ++ s ++ [x] := by
  obtain ⟨hc1, hc2⟩ := cut_one (bytesW s) (frameF (encX x)) keep
  rw [List.map_append, cut_same (safed_safe _), List.map_cons, List.map_nil, bts_append, bts_safed]
  have e : bts [((bytesW s ++ frameF (encX x)).take (cutN keep (bytesW s ++ frameF (encX x), (bytesW s).length)), cutN keep (bytesW s ++ frameF (encX x), (bytesW s).length))] = [bytesW s ++ (frameF (encX x)).take (min (max keep 0).toNat (frameF (encX x)).length)] := by
    unfold bts
    rw [List.map_cons, List.map_nil]
    simp only
    rw [hc2]
  simp only
  rw [e]
  obtain ⟨h1, h2⟩ := chained_append.1 h
  have hx := (h2.all x (by simp)).2
  have hfl := frameF_length (encX x)
  by_cases hq : min (max keep 0).toNat (frameF (encX x)).length < (frameF (encX x)).length
  · left
    exact readW_last h1 (cut_none hx (by omega))
  · right
    have e2 : min (max keep 0).toNat (frameF (encX x)).length = (frameF (encX x)).length := by omega
    rw [e2, List.take_length]
    have e3 : bytesW s ++ frameF (encX x) = bytesW (s ++ [x]) ++ [] := by rw [bytesW_append, bytesW_one, List.append_nil]
    rw [e3, List.append_assoc]
    refine readW_last ?_ takeF_nil
    rw [← List.append_assoc]
    exact h
theorem chained_one {ys : List Bat} {x : Bat} (h : Chained ys 0) (h1 : mayX x = 0) (h2 : (encX x).length ≤ maxF) (h3 : x.a = (tot ys : Int)) : Chained (ys ++ [x]) 0 :=
  chained_append.2 ⟨h, h1, h2, by rw [h3]; omega, trivial⟩
theorem sync_step {E : Dk} {ts : List (List Bat)} {s : List Bat} {x : Bat} (hg : DkGo E) (hs : SegsD E (safed (ts.map bytesW) ++ [(bytesW s ++ frameF (encX x), (bytesW s).length)])) (hc : Chained (ts.flatten ++ s ++ [x]) 0) :
    ((syncD E (segN (ts.length + 1))).1 = 0 ∧ LogD (syncD E (segN (ts.length + 1))).2 (ts ++ [s ++ [x]]) ∧ (E.left = -1 → (syncD E (segN (ts.length + 1))).2.left = -1)) ∨
    ((syncD E (segN (ts.length + 1))).1 = 14 ∧ E.left ≠ -1 ∧ Torn (syncD E (segN (ts.length + 1))).2 (ts ++ [s]) x (safed (ts.map bytesW) ++ [(bytesW s ++ frameF (encX x), (bytesW s).length)])) := by
  have hl : (safed (ts.map bytesW)).length = ts.length := by rw [safed_len, List.length_map]
  by_cases h0 : E.left = 0
  · right
    have e := (fuse_out h0 (segN (ts.length + 1)) [] 0).2.1
    rw [e]
    refine ⟨rfl, by omega, hg, hs, fun keep => ?_⟩
    have ef : (ts ++ [s]).flatten = ts.flatten ++ s := by simp
    rw [ef]
    exact torn_read hc keep
  · left
    have hget := hs.get (last_get (safed (ts.map bytesW)) (bytesW s ++ frameF (encX x), (bytesW s).length) [])
    rw [hl] at hget
    obtain ⟨y1, y2, y3⟩ := sync_yes hg h0 hget
    have yg := sync_go hg (segN (ts.length + 1))
    rw [← hl] at y3
    have ys := hs.set (i := (safed (ts.map bytesW)).length) (by rw [List.length_append]; simp) y3
    rw [set_last, hl] at ys
    refine ⟨y1, ⟨yg, ?_, ?_⟩, fun hm => by rw [y2.left, left_off hm]⟩
    · rw [List.map_append, safed_append, List.map_cons, List.map_nil, bytesW_append, bytesW_one]
      exact ys
    · have ef : (ts ++ [s ++ [x]]).flatten = ts.flatten ++ s ++ [x] := by simp
      rw [ef]
      exact hc
theorem appendW_log {D : Dk} {ss : List (List Bat)} (x : Bat) (h : LogD D ss) :
    ((appendW D ss.length (tot ss.flatten : Int) x).1 ≠ 0 ∧ LogD (appendW D ss.length (tot ss.flatten : Int) x).2.1 ss ∧ (appendW D ss.length (tot ss.flatten : Int) x).2.1.fs = D.fs ∧ (appendW D ss.length (tot ss.flatten : Int) x).2.2 = (ss.length, (tot ss.flatten : Int)) ∧ (D.left = -1 → (appendW D ss.length (tot ss.flatten : Int) x).2.1.left = -1)) ∨
    ((appendW D ss.length (tot ss.flatten : Int) x).1 = 0 ∧ ∃ ss', LogD (appendW D ss.length (tot ss.flatten : Int) x).2.1 ss' ∧ ss'.flatten = ss.flatten ++ [x] ∧ (appendW D ss.length (tot ss.flatten : Int) x).2.2 = (ss'.length, (tot ss'.flatten : Int)) ∧ (D.left = -1 → (appendW D ss.length (tot ss.flatten : Int) x).2.1.left = -1)) ∨
    ((appendW D ss.length (tot ss.flatten : Int) x).1 = 14 ∧ D.left ≠ -1 ∧ ∃ cs, Torn (appendW D ss.length (tot ss.flatten : Int) x).2.1 ss x cs) := by
  have hls : (safed (ss.map bytesW)).length = ss.length := by rw [safed_len, List.length_map]
  unfold appendW
  by_cases h1 : mayX x = 0
  case neg =>
    rw [if_pos h1]
    exact .inl ⟨h1, h, rfl, rfl, fun hl => hl⟩
  rw [if_neg (by simpa using h1)]
  by_cases h2 : x.a = (tot ss.flatten : Int)
  case neg =>
    rw [if_pos h2]
    exact .inl ⟨(by simp), h, rfl, rfl, fun hl => hl⟩
  rw [if_neg (by simpa using h2)]
  by_cases h3 : maxF < (encX x).length
  · rw [if_pos h3]
    exact .inl ⟨(by simp), h, rfl, rfl, fun hl => hl⟩
  rw [if_neg h3]
  have hch := chained_one h.ch h1 (by omega) h2
  obtain ⟨ts, s, hts, hfl, hnx, hold⟩ : ∃ ts s, ts.length + 1 = nextW D ss.length ∧ ss.flatten = ts.flatten ++ s ∧ ((ts = ss ∧ s = []) ∨ ss = ts ++ [s]) ∧ (∀ E : Dk, (∀ t, lkF E.fs t = if t = segN (ts.length + 1) then some (((lkF D.fs (segN (ts.length + 1))).map (·.1)).getD [] ++ frameF (encX x), ((lkF D.fs (segN (ts.length + 1))).map (·.2)).getD 0) else lkF D.fs t) → mayN (segN (ts.length + 1)) = true → SegsD E (safed (ts.map bytesW) ++ [(bytesW s ++ frameF (encX x), (bytesW s).length)])) := by
    by_cases hnew : ss.length = 0 ∨ 2048 ≤ (readB D (segN ss.length)).length
    · refine ⟨ss, [], by unfold nextW; rw [if_pos hnew], by simp, .inl ⟨rfl, rfl⟩, fun E hE hm => ?_⟩
      have hno := h.segs.no (i := ss.length) (by omega)
      rw [hno] at hE
      have h200 : ss.length < 200 := by
        refine Nat.lt_of_not_le fun hc => ?_
        rw [segN_out (by omega), may_empty] at hm
        cases hm
      have := h.segs.push (D' := E) (q := (frameF (encX x), 0)) (by omega) (by rw [hls]; simpa using hE)
      simpa [bytesW_nil] using this
    · have hne : ss ≠ [] := fun e => hnew (.inl (by rw [e]; rfl))
      have e1 := List.dropLast_concat_getLast hne
      refine ⟨ss.dropLast, ss.getLast hne, ?_, ?_, .inr e1.symm, fun E hE _ => ?_⟩
      · unfold nextW
        rw [if_neg hnew, List.length_dropLast]
        have := List.length_pos_iff.2 hne
        omega
      · conv => lhs; rw [← e1]
        simp
      · generalize ss.dropLast = ts at *
        generalize ss.getLast hne = s at *
        subst e1
        have hl2 : (safed (ts.map bytesW)).length = ts.length := by rw [safed_len, List.length_map]
        have hsg := h.segs
        rw [List.map_append, safed_append] at hsg
        have hget := hsg.get (last_get (safed (ts.map bytesW)) (bytesW s, (bytesW s).length) [])
        rw [hl2] at hget
        rw [hget] at hE
        rw [← hl2] at hE
        have := hsg.set (D' := E) (i := (safed (ts.map bytesW)).length) (q := (bytesW s ++ frameF (encX x), (bytesW s).length)) (by rw [List.length_append]; unfold safed; simp) hE
        have e4 : safed ([s].map bytesW) = [(bytesW s, (bytesW s).length)] := rfl
        rw [e4, set_last] at this
        exact this
  rw [← hts]
  by_cases hA : (appendD D (segN (ts.length + 1)) (frameF (encX x))).1 = 0
  case neg =>
    rw [if_pos hA]
    refine .inl ⟨hA, ?_⟩
    by_cases h0 : D.left = 0
    · have e := (fuse_out h0 (segN (ts.length + 1)) (frameF (encX x)) 0).1
      rw [e]
      exact ⟨h, rfl, rfl, fun hl => hl⟩
    · have e := append_code h0 _ _ hA
      have hg := append_go h.go (segN (ts.length + 1)) (frameF (encX x))
      rw [e] at hg ⊢
      exact ⟨h.same hg rfl, rfl, rfl, fun hl => left_off hl⟩
  rw [if_neg (by simpa using hA)]
  have hl0 : D.left ≠ 0 := fun h0 => by
    have e := (fuse_out h0 (segN (ts.length + 1)) (frameF (encX x)) 0).1
    rw [e] at hA
    cases hA
  obtain ⟨a1, a2, _, a4⟩ := append_yes h.go hl0 _ _ hA
  have ag := append_go h.go (segN (ts.length + 1)) (frameF (encX x))
  have asg := hold _ a4 a1
  have al : D.left = -1 → (appendD D (segN (ts.length + 1)) (frameF (encX x))).2.left = -1 := fun hl => by rw [a2.left, left_off hl]
  generalize (appendD D (segN (ts.length + 1)) (frameF (encX x))).2 = E at *
  rw [hfl] at hch h2 ⊢
  rcases sync_step ag asg hch with ⟨y1, y2, y3⟩ | ⟨y1, y2, y3⟩
  · rw [if_neg (by rw [y1]; decide)]
    refine .inr (.inl ⟨rfl, ts ++ [s ++ [x]], y2, by simp, ?_, fun hl => y3 (al hl)⟩)
    have e1 : (ts ++ [s ++ [x]]).length = ts.length + 1 := by simp
    have e2 : (ts ++ [s ++ [x]]).flatten = ts.flatten ++ s ++ [x] := by simp
    rw [e1, e2, tot_append (ts.flatten ++ s)]
    have e3 : tot [x] = x.es.length := by simp [tot]
    rw [e3]
    push_cast
    rfl
  · rw [if_pos (by rw [y1]; decide)]
    refine .inr (.inr ⟨y1, fun hl => y2 (al hl), _, y3.go, y3.segs, ?_⟩)
    have e2 : (ts ++ [s]).flatten = ts.flatten ++ s := by simp
    have h3 := y3.cut
    rw [e2] at h3
    rw [hfl]
    exact h3
end Go.Proofs.YtppidbdkejkopaaGreatDoor.WlWalk
namespace Go.Proofs.YtppidbdkejkopaaGreatDoor.WlWalk
open Go.RowKit MemRow Ev NameMath NameWalk EvWalk DkWalk FrMath BtWalk
def flsOf : Nat → List (List UInt8 × Nat) → List Fl
  | _, [] => []
  | k, p :: cs => ⟨segN (k + 1), p.1, p.2⟩ :: flsOf (k + 1) cs
theorem flsOf_mem : ∀ (cs : List (List UInt8 × Nat)) (k : Nat) (f : Fl), f ∈ flsOf k cs ↔ ∃ i, cs[i]? = some (f.b, f.safe) ∧ f.name = segN (k + i + 1)
  | [], k, f => by simp [flsOf]
  | p :: cs, k, f => by
    rw [flsOf, List.mem_cons, flsOf_mem cs (k + 1) f]
    constructor
    · rintro (rfl | ⟨i, h1, h2⟩)
      · exact ⟨0, rfl, rfl⟩
      · exact ⟨i + 1, h1, by rw [h2]; congr 1; omega⟩
    · rintro ⟨i, h1, h2⟩
      cases i with
      | zero =>
        left
        simp only [List.getElem?_cons_zero, Option.some.injEq] at h1
        obtain ⟨n, b, s⟩ := f
        simp only at h1 h2
        rw [h1, h2]
      | succ i => exact .inr ⟨i, h1, by rw [h2]; congr 1; omega⟩
theorem flsOf_nodup : ∀ (cs : List (List UInt8 × Nat)) (k : Nat), k + cs.length ≤ 200 → (flsOf k cs).Nodup
  | [], _, _ => List.nodup_nil
  | p :: cs, k, h => by
    rw [List.length_cons] at h
    rw [flsOf, List.nodup_cons]
    refine ⟨fun hm => ?_, flsOf_nodup cs (k + 1) (by omega)⟩
    obtain ⟨i, h1, h2⟩ := (flsOf_mem cs (k + 1) _).1 hm
    have hil := (List.getElem?_eq_some_iff.1 h1).1
    have := segN_inj (by omega) (by omega) h2
    omega
theorem flsOf_used : ∀ (cs : List (List UInt8 × Nat)) (k : Nat), usedF (flsOf k cs) = ((bts cs).map List.length).sum
  | [], _ => rfl
  | p :: cs, k => by
    have ih := flsOf_used cs (k + 1)
    unfold usedF at ih ⊢
    unfold bts at ih ⊢
    simp only [flsOf, List.map_cons, List.sum_cons]
    rw [ih]
theorem flsOf_len : ∀ (cs : List (List UInt8 × Nat)) (k : Nat), (flsOf k cs).length = cs.length
  | [], _ => rfl
  | p :: cs, k => by rw [flsOf, List.length_cons, flsOf_len, List.length_cons]
theorem segs_perm {D : Dk} {cs : List (List UInt8 × Nat)} (hg : DkGo D) (h : SegsD D cs) : D.fs.Perm (flsOf 0 cs) := by
  have hn : D.fs.Nodup := by
    have := rising_nodup hg.up
    unfold names List.Nodup at this
    rw [List.pairwise_map] at this
    exact this.imp fun h1 e => h1 (by rw [e])
  refine (List.perm_ext_iff_of_nodup hn (flsOf_nodup cs 0 (by have := h.le; omega))).2 fun f => ?_
  obtain ⟨n, b, s⟩ := f
  rw [flsOf_mem, ← lk_iff hg.up, h.at_]
  simp only [Nat.zero_add]
theorem segs_len {D : Dk} {cs : List (List UInt8 × Nat)} (hg : DkGo D) (h : SegsD D cs) : D.fs.length = cs.length := by rw [(segs_perm hg h).length_eq, flsOf_len]
theorem segs_used {D : Dk} {cs : List (List UInt8 × Nat)} (hg : DkGo D) (h : SegsD D cs) : usedF D.fs = ((bts cs).map List.length).sum := by
  rw [← flsOf_used cs 0]
  unfold usedF
  exact ((segs_perm hg h).map _).sum_nat
theorem bytes_sum : ∀ (ss : List (List Bat)), ((ss.map bytesW).map List.length).sum = (bytesW ss.flatten).length
  | [] => rfl
  | s :: ss => by
    rw [List.map_cons, List.map_cons, List.sum_cons, bytes_sum ss, List.flatten_cons, bytesW_append, List.length_append]
theorem LogD.used {D : Dk} {ss : List (List Bat)} (h : LogD D ss) : usedF D.fs = (bytesW ss.flatten).length := by rw [segs_used h.go h.segs, bts_safed, bytes_sum]
theorem LogD.len {D : Dk} {ss : List (List Bat)} (h : LogD D ss) : D.fs.length = ss.length := by rw [segs_len h.go h.segs, safed_len, List.length_map]
end Go.Proofs.YtppidbdkejkopaaGreatDoor.WlWalk
namespace Go.Proofs.YtppidbdkejkopaaGreatDoor.BtWalk
open Go.RowKit Go.WideShapes Go.ChangeShapes Go.Joins Go.Deep MemRow Ev NameMath NameWalk EvWalk NumMath NumMem NumWalk EcWalk EdWalk EeLaw Go.Proofs.YtppidbdkejkopaaGreatDoor.Open
structure Wop where
  kind : Int
  n : Int
  file : Int
  x : Bat
def noWop : Wop := ⟨0, 0, 0, noBat⟩
structure WopOk (d : Wop) : Prop where
  kind : -9223372036854775808 ≤ d.kind ∧ d.kind ≤ 9223372036854775807
  n : -9223372036854775808 ≤ d.n ∧ d.n ≤ 9223372036854775807
  file : -9223372036854775808 ≤ d.file ∧ d.file ≤ 9223372036854775807
  x : BOk d.x
def IsWop (w : World) (v : Value) (d : Wop) : Prop := ∃ A n ca, v = .agg #[.int .i64 d.kind, .int .i64 d.n, .int .i64 d.file, .int .i64 d.x.a, .slice A n ca] ∧ RdE w A n ca d.x.es
def WopCells (w : World) (b o : Nat) (d : Wop) : Prop :=
  ∃ A n ca, w.cell? ⟨b, o, none⟩ = some (.int .i64 d.kind) ∧ w.cell? ⟨b, o + 1, none⟩ = some (.int .i64 d.n) ∧ w.cell? ⟨b, o + 2, none⟩ = some (.int .i64 d.file) ∧ w.cell? ⟨b, o + 3, none⟩ = some (.int .i64 d.x.a) ∧ w.cell? ⟨b, o + 4, none⟩ = some (.slice A n ca) ∧ RdE w A n ca d.x.es
theorem WopCells.below {w w' : World} {b o : Nat} {d : Wop} (h : WopCells w b o d) (hb : Below w.heap.size w w') : WopCells w' b o d := by
  obtain ⟨A, n, ca, h0, h1, h2, h3, h4, h5⟩ := h
  exact ⟨A, n, ca, bcell hb h0, bcell hb h1, bcell hb h2, bcell hb h3, bcell hb h4, h5.below hb⟩
def RdW (w : World) (A : Option Addr) (n cap : Nat) (ds : List Wop) : Prop :=
  ds.length = n ∧ n ≤ cap ∧ cap ≤ maxLen ∧ (0 < n → ∃ b o, A = some ⟨b, o, none⟩ ∧ b < w.heap.size ∧ ∀ i, i < n → WopCells w b (o + i * 5) (ds.getD i noWop))
theorem RdW.nil (w : World) : RdW w none 0 0 [] := ⟨rfl, Nat.le_refl _, Nat.zero_le _, fun h => absurd h (by omega)⟩
theorem RdW.len {w : World} {A : Option Addr} {n cap : Nat} {ds : List Wop} (h : RdW w A n cap ds) : ds.length = n := h.1
theorem RdW.le {w : World} {A : Option Addr} {n cap : Nat} {ds : List Wop} (h : RdW w A n cap ds) : n ≤ maxLen := Nat.le_trans h.2.1 h.2.2.1
theorem RdW.at_ {w : World} {A : Option Addr} {n cap : Nat} {ds : List Wop} (h : RdW w A n cap ds) (hn : 0 < n) : ∃ b o, A = some ⟨b, o, none⟩ ∧ b < w.heap.size ∧ ∀ i, i < n → WopCells w b (o + i * 5) (ds.getD i noWop) := h.2.2.2 hn
theorem RdW.below {w w' : World} {A : Option Addr} {n cap : Nat} {ds : List Wop} (h : RdW w A n cap ds) (hb : Below w.heap.size w w') : RdW w' A n cap ds :=
  ⟨h.1, h.2.1, h.2.2.1, fun hn => by
    obtain ⟨b, o, hA, hlt, hc⟩ := h.2.2.2 hn
    exact ⟨b, o, hA, Nat.lt_of_lt_of_le hlt hb.size, fun i hi => (hc i hi).below hb⟩⟩
theorem wop_get {ds : List Wop} {j : Nat} (h : j < ds.length) : ds.getD j noWop ∈ ds := by
  rw [List.getD_eq_getElem?_getD, List.getElem?_eq_getElem h]
  exact List.getElem_mem h
section
variable {H : Type} {enc : TypeId × Value → H} {P : Program} {W : World} {base : Nat} {t e : TypeId} {v : Value} {d : DataW H} {p : List MemPlace}
theorem trod_struct4 {spare : Nat → Bool} {held : Bool} {f0 f1 f2 f3 : Field} {fuel : Nat} {cs : List Value} {x : DataW H × List MemPlace} (ht : P.underlying t = some (.struct #[f0, f1, f2, f3])) (h : DataW.trod enc P W base spare held fuel t cs = some x) :
    ∃ y0 y1 y2 y3 n, DataW.trod enc P W base spare held n f0.type ((cs.drop f0.offset).take (P.cellsOf f0.type)) = some y0 ∧ DataW.trod enc P W base spare held n f1.type ((cs.drop f1.offset).take (P.cellsOf f1.type)) = some y1 ∧ DataW.trod enc P W base spare held n f2.type ((cs.drop f2.offset).take (P.cellsOf f2.type)) = some y2 ∧ DataW.trod enc P W base spare held n f3.type ((cs.drop f3.offset).take (P.cellsOf f3.type)) = some y3 := by
  obtain ⟨xs, n, _, rfl, hl, hlen, hf⟩ := DataW.trod_struct ht h
  match xs, hlen with
  | [y0, y1, y2, y3], _ => exact ⟨y0, y1, y2, y3, n, by simpa using hf 0 f0 rfl, by simpa using hf 1 f1 rfl, by simpa using hf 2 f2 rfl, by simpa using hf 3 f3 rfl⟩
theorem trod_struct2 {spare : Nat → Bool} {held : Bool} {f0 f1 : Field} {fuel : Nat} {cs : List Value} {x : DataW H × List MemPlace} (ht : P.underlying t = some (.struct #[f0, f1])) (h : DataW.trod enc P W base spare held fuel t cs = some x) :
    ∃ y0 y1 n, DataW.trod enc P W base spare held n f0.type ((cs.drop f0.offset).take (P.cellsOf f0.type)) = some y0 ∧ DataW.trod enc P W base spare held n f1.type ((cs.drop f1.offset).take (P.cellsOf f1.type)) = some y1 := by
  obtain ⟨xs, n, _, rfl, hl, hlen, hf⟩ := DataW.trod_struct ht h
  match xs, hlen with
  | [y0, y1], _ => exact ⟨y0, y1, n, by simpa using hf 0 f0 rfl, by simpa using hf 1 f1 rfl⟩
end
section
variable {H : Type} {enc : TypeId × Value → H}
set_option maxRecDepth 100000 in
theorem tr_wop {W : World} {fuel : Nat} {v0 v1 v2 v3 v4 : Value} {y : DataW H × List MemPlace} (h : DataW.trod enc Tryz.prog W 0 (fun _ => true) true fuel 41 [v0, v1, v2, v3, v4] = some y) :
    ∃ d : Wop, WopOk d ∧ ∃ A n ca, v0 = .int .i64 d.kind ∧ v1 = .int .i64 d.n ∧ v2 = .int .i64 d.file ∧ v3 = .int .i64 d.x.a ∧ v4 = .slice A n ca ∧ RdE W A n ca d.x.es := by
  obtain ⟨y0, y1, y2, y3, n, q0, q1, q2, q3⟩ := trod_struct4 Tryz.underlying41 h
  have c0 : Tryz.prog.cellsOf 3 = 1 := by kernel_rfl
  have c3 : Tryz.prog.cellsOf 39 = 2 := by kernel_rfl
  have c4 : Tryz.prog.cellsOf 37 = 1 := by kernel_rfl
  have z0 : DataW.trod enc Tryz.prog W 0 (fun _ => true) true n 3 [v0] = some y0 := by simpa [c0] using q0
  have z1 : DataW.trod enc Tryz.prog W 0 (fun _ => true) true n 3 [v1] = some y1 := by simpa [c0] using q1
  have z2 : DataW.trod enc Tryz.prog W 0 (fun _ => true) true n 3 [v2] = some y2 := by simpa [c0] using q2
  have z3 : DataW.trod enc Tryz.prog W 0 (fun _ => true) true n 39 [v3, v4] = some y3 := by simpa [c3] using q3
  obtain ⟨za, x0, _, w0⟩ := DataW.trod_int Tryz.underlying3 z0
  obtain ⟨zb, x1, _, w1⟩ := DataW.trod_int Tryz.underlying3 z1
  obtain ⟨zc, x2, _, w2⟩ := DataW.trod_int Tryz.underlying3 z2
  obtain ⟨u0, u1, m, b0, b1⟩ := trod_struct2 Tryz.underlying39 z3
  have b0' : DataW.trod enc Tryz.prog W 0 (fun _ => true) true m 3 [v3] = some u0 := by simpa [c0] using b0
  have b1' : DataW.trod enc Tryz.prog W 0 (fun _ => true) true m 37 [v4] = some u1 := by simpa [c4] using b1
  obtain ⟨zd, x3, _, w3⟩ := DataW.trod_int Tryz.underlying3 b0'
  obtain ⟨A, k, ca, es, rfl, r, ok⟩ := tr_events Tryz.underlying37 Tryz.underlying69 (by kernel_rfl) (by kernel_rfl) Tryz.underlying9 Tryz.underlying9 Tryz.underlying61 Tryz.underlying9 (by kernel_rfl) Tryz.underlying67 Tryz.underlying132 (by kernel_rfl) rfl rfl (by kernel_rfl) (by kernel_rfl) Tryz.underlying9 Tryz.underlying3 b1'
  injection x0 with x0
  injection x1 with x1
  injection x2 with x2
  injection x3 with x3
  subst x0 x1 x2 x3
  exact ⟨⟨za, zb, zc, ⟨zd, es⟩⟩, ⟨bounds_i64 w0, bounds_i64 w1, bounds_i64 w2, ok, (bounds_i64 w3).1, (bounds_i64 w3).2⟩, A, k, ca, rfl, rfl, rfl, rfl, rfl, r⟩
set_option maxRecDepth 100000 in
theorem tr_wops {W : World} {v : Value} {fuel : Nat} {y : DataW H × List MemPlace} (hf : DataW.trod enc Tryz.prog W 0 (fun _ => true) true fuel 22 [v] = some y) :
    ∃ A n ca ds, v = .slice A n ca ∧ RdW W A n ca ds ∧ ∀ d ∈ ds, WopOk d := by
  have ce : Tryz.prog.cellsOf 41 = 5 := by kernel_rfl
  rcases open_slice Tryz.underlying22 hf with ⟨hcs, _⟩ | ⟨a, l, c, m, nn, D, Pl, hcs, _, hl, hm, hmm, _, hx⟩
  · simp only [List.cons.injEq, and_true] at hcs
    subst hcs
    exact ⟨none, 0, 0, [], rfl, RdW.nil W, fun d hd => by simp at hd⟩
  · simp only [List.cons.injEq, and_true] at hcs
    subst hcs
    have hm' : m = c := by simpa using hmm
    subst hm'
    have each : ∀ i, i < m → ∃ d : Wop, WopOk d ∧ ∃ A n ca, W.cell? (a.add (i * 5)) = some (.int .i64 d.kind) ∧ W.cell? (a.add (i * 5 + 1)) = some (.int .i64 d.n) ∧ W.cell? (a.add (i * 5 + 2)) = some (.int .i64 d.file) ∧ W.cell? (a.add (i * 5 + 3)) = some (.int .i64 d.x.a) ∧ W.cell? (a.add (i * 5 + 4)) = some (.slice A n ca) ∧ RdE W A n ca d.x.es := by
      intro i hi
      obtain ⟨cs', h1, h2⟩ := hx i hi
      rw [ce] at h1
      obtain ⟨_, hlen, hcell⟩ := World.cells?_some h1
      match cs', hlen with
      | [v0, v1, v2, v3, v4], _ =>
        have e0 := hcell 0 (by omega)
        have e1 := hcell 1 (by omega)
        have e2 := hcell 2 (by omega)
        have e3 := hcell 3 (by omega)
        have e4 := hcell 4 (by omega)
        rw [add_add] at e0 e1 e2 e3 e4
        obtain ⟨d, ok, A, n, ca, rfl, rfl, rfl, rfl, rfl, r⟩ := tr_wop h2
        exact ⟨d, ok, A, n, ca, by simpa using e0, by simpa using e1, by simpa using e2, by simpa using e3, by simpa using e4, r⟩
    have hex : ∃ F : Nat → Wop, ∀ i, i < m → WopOk (F i) ∧ ∃ A n ca, W.cell? (a.add (i * 5)) = some (.int .i64 (F i).kind) ∧ W.cell? (a.add (i * 5 + 1)) = some (.int .i64 (F i).n) ∧ W.cell? (a.add (i * 5 + 2)) = some (.int .i64 (F i).file) ∧ W.cell? (a.add (i * 5 + 3)) = some (.int .i64 (F i).x.a) ∧ W.cell? (a.add (i * 5 + 4)) = some (.slice A n ca) ∧ RdE W A n ca (F i).x.es :=
      ⟨fun i => if hi : i < m then (each i hi).choose else noWop, fun i hi => by simp only [hi, dif_pos]; exact (each i hi).choose_spec⟩
    obtain ⟨F, hF'⟩ := hex
    refine ⟨_, l, m, (List.range l).map F, rfl, ⟨by simp, hl, hm, fun hn => ?_⟩, ?_⟩
    · obtain ⟨_, _, _, _, hc0, _⟩ := hF' 0 (by omega)
      rw [Nat.zero_mul] at hc0
      have e0 := spot_none hc0
      have hb := World.block_lt_of_cell? W _ hc0
      rw [e0, add_at] at hb
      refine ⟨a.block, a.off, by rw [← e0], hb, fun i hi => ?_⟩
      have hFj : ((List.range l).map F).getD i noWop = F i := by simp [List.getD, hi]
      rw [hFj]
      obtain ⟨_, A, n, ca, h0, h1, h2, h3, h4, r⟩ := hF' i (by omega)
      rw [e0, add_at] at h0 h1 h2 h3 h4
      exact ⟨A, n, ca, h0, h1, h2, h3, h4, r⟩
    · intro x hxm
      obtain ⟨j, hj, rfl⟩ := List.mem_map.1 hxm
      exact (hF' j (by have := List.mem_range.1 hj; omega)).1
set_option maxRecDepth 100000 in
theorem op_wops {W : World} {base : Nat} {v : Value} {d : DataW H} {p : List MemPlace} (ho : Value.okWide Tryz.prog W .any base 22 v) (h : DataW.Trod enc Tryz.prog W 0 (fun _ => true) true 22 v d p) :
    ∃ A n ca ds, v = .slice A n ca ∧ RdW W A n ca ds ∧ ∀ d ∈ ds, WopOk d := by
  obtain ⟨a, len, cap, rfl⟩ := okWide_slice Tryz.underlying22 ho
  obtain ⟨fuel, hf⟩ := h
  exact tr_wops hf
end
def few6 (es : List Ev) : List Ev := (es.take 6).map fewE
theorem few6_snoc (es : List Ev) (j : Nat) (h : j < es.length) (h6 : j < 6) : few6 (es.take (j + 1)) = few6 (es.take j) ++ [fewE (es.getD j noEv)] := by
  unfold few6
  rw [List.take_take, List.take_take, Nat.min_eq_right (by omega), Nat.min_eq_right (by omega), ev_take es j h, List.map_append]
  rfl
theorem few6_take (es : List Ev) (j : Nat) (h : es.length ≤ j ∨ 6 ≤ j) : few6 (es.take j) = few6 es := by
  unfold few6
  rw [List.take_take]
  rcases h with h | h
  · congr 1
    rcases Nat.le_total 6 j with h8 | h8
    · rw [Nat.min_eq_left h8]
    · rw [Nat.min_eq_right h8, List.take_of_length_le h, List.take_of_length_le (by omega)]
  · rw [Nat.min_eq_left h]
def W5At (w : World) (g : Nat) (v0 v1 v2 v3 v4 : Value) : Prop := w.heap[g]? = some (.cells #[v0, v1, v2, v3, v4] 41 (0, 0))
section
variable {w w' : World} {g : Nat} {v0 v1 v2 v3 v4 : Value}
theorem W5At.lt (h : W5At w g v0 v1 v2 v3 v4) : g < w.heap.size := (Array.getElem?_eq_some_iff.1 h).1
theorem W5At.below (h : W5At w g v0 v1 v2 v3 v4) (hb : Below w.heap.size w w') : W5At w' g v0 v1 v2 v3 v4 := (hb.block g h.lt).trans h
theorem W5At.c0 (h : W5At w g v0 v1 v2 v3 v4) : w.cell? ⟨g, 0, none⟩ = some v0 := by rw [cell_of_row w g 0 _ _ _ h]; rfl
theorem W5At.c1 (h : W5At w g v0 v1 v2 v3 v4) : w.cell? ⟨g, 1, none⟩ = some v1 := by rw [cell_of_row w g 1 _ _ _ h]; rfl
theorem W5At.c2 (h : W5At w g v0 v1 v2 v3 v4) : w.cell? ⟨g, 2, none⟩ = some v2 := by rw [cell_of_row w g 2 _ _ _ h]; rfl
theorem W5At.c3 (h : W5At w g v0 v1 v2 v3 v4) : w.cell? ⟨g, 3, none⟩ = some v3 := by rw [cell_of_row w g 3 _ _ _ h]; rfl
theorem W5At.c4 (h : W5At w g v0 v1 v2 v3 v4) : w.cell? ⟨g, 4, none⟩ = some v4 := by rw [cell_of_row w g 4 _ _ _ h]; rfl
theorem W5At.frozen (h : W5At w g v0 v1 v2 v3 v4) (i : Nat) : w.frozen? ⟨g, i, none⟩ = false := by
  unfold W5At at h
  simp [World.frozen?, h]
theorem W5At.grown {row : Option Nat} (h : W5At w g v0 v1 v2 v3 v4) (hg : w.grownBy w' row) (hne : some g ≠ row) : W5At w' g v0 v1 v2 v3 v4 := (hg.block g h.lt hne).trans h
theorem W5At.far {b i : Nat} (h : W5At w g v0 v1 v2 v3 v4) (hne : g ≠ b) (x : Value) : W5At (w.setCell ⟨b, i, none⟩ x) g v0 v1 v2 v3 v4 := by
  unfold W5At at h ⊢
  simp only [World.setCell, Array.getElem?_modify]
  rw [if_neg (fun e => hne e.symm)]
  exact h
theorem W5At.set3 (h : W5At w g v0 v1 v2 v3 v4) (x : Value) : W5At (w.setCell ⟨g, 3, none⟩ x) g v0 v1 v2 x v4 := by
  unfold W5At at h ⊢
  simp only [World.setCell, Array.getElem?_modify, h]
  rfl
theorem W5At.set4 (h : W5At w g v0 v1 v2 v3 v4) (x : Value) : W5At (w.setCell ⟨g, 4, none⟩ x) g v0 v1 v2 v3 x := by
  unfold W5At at h ⊢
  simp only [World.setCell, Array.getElem?_modify, h]
  rfl
theorem W5At.all (h : W5At w g v0 v1 v2 v3 v4) (x0 x1 x2 x3 x4 : Value) : W5At (((((w.setCell ⟨g, 0, none⟩ x0).setCell ⟨g, 1, none⟩ x1).setCell ⟨g, 2, none⟩ x2).setCell ⟨g, 3, none⟩ x3).setCell ⟨g, 4, none⟩ x4) g x0 x1 x2 x3 x4 := by
  unfold W5At at h ⊢
  simp only [World.setCell, Array.getElem?_modify, h]
  rfl
end
theorem wop_bel (w : World) (v0 v1 v2 v3 v4 : Value) : Below w.heap.size w (w.alloc (.cells #[v0, v1, v2, v3, v4] 41)) := (Below.refl _ _).alloc (Nat.le_refl _) _
structure MkO (w0 wr w : World) (kd nn fl a : Int) (vs : Value) (A : Option Addr) (n cap : Nat) (es : List Ev) : Prop where
  eq : W5At wr w.heap.size (.int .i64 kd) (.int .i64 nn) (.int .i64 fl) (.int .i64 a) vs
  res : W5At wr (w.heap.size + 1) (.int .i64 0) (.int .i64 0) (.int .i64 0) (.int .i64 0) (.slice none 0 0)
  out : BxAt wr (w.heap.size + 1 + 1) (.int .i64 a) (.slice A n cap)
  own : OwnO w0 wr (w.heap.size + 1 + 1 + 1) A n cap es
  bel : Below w.heap.size w wr
section
variable {w0 wr w w' : World} {kd nn fl a : Int} {vs : Value} {A : Option Addr} {n cap : Nat} {es : List Ev}
theorem MkO.below (h : MkO w0 wr w kd nn fl a vs A n cap es) (hb : Below wr.heap.size wr w') : MkO w0 w' w kd nn fl a vs A n cap es := ⟨h.eq.below hb, h.res.below hb, h.out.below hb, h.own.below hb, below_chain h.bel hb⟩
theorem MkO.far (h : MkO w0 wr w kd nn fl a vs A n cap es) {g : Nat} (hg : w.heap.size + 1 + 1 < g) (hA : ∀ a, A = some a → a.block ≠ g) (i : Nat) (x : Value) : MkO w0 (wr.setCell ⟨g, i, none⟩ x) w kd nn fl a vs A n cap es := by
  obtain ⟨cs, o, hl, hc⟩ := h.own
  exact ⟨h.eq.far (by omega) x, h.res.far (by omega) x, h.out.far (by omega) x, ⟨cs, OwnC.grown o (grown_set wr g i x) (fun a ha e => hA a ha (by injection e)), hl, hc⟩, h.bel.setCell (by show w.heap.size ≤ g; omega) x⟩
theorem MkO.new (w0 w : World) (kd nn fl a : Int) (vs : Value) : MkO w0 (((w.alloc (.cells #[.int .i64 kd, .int .i64 nn, .int .i64 fl, .int .i64 a, vs] 41)).alloc (.cells #[.int .i64 0, .int .i64 0, .int .i64 0, .int .i64 0, .slice none 0 0] 41)).alloc (.cells #[.int .i64 a, .slice none 0 0] 39)) w kd nn fl a vs none 0 0 [] := by
  have a1 : W5At (w.alloc (.cells #[.int .i64 kd, .int .i64 nn, .int .i64 fl, .int .i64 a, vs] 41)) w.heap.size (.int .i64 kd) (.int .i64 nn) (.int .i64 fl) (.int .i64 a) vs := heap_alloc_new w _
  have b1 := wop_bel w (.int .i64 kd) (.int .i64 nn) (.int .i64 fl) (.int .i64 a) vs
  generalize hw1 : w.alloc (.cells #[.int .i64 kd, .int .i64 nn, .int .i64 fl, .int .i64 a, vs] 41) = w1 at *
  have s1 : w1.heap.size = w.heap.size + 1 := by rw [← hw1]; simp
  have a2 : W5At (w1.alloc (.cells #[.int .i64 0, .int .i64 0, .int .i64 0, .int .i64 0, .slice none 0 0] 41)) w1.heap.size (.int .i64 0) (.int .i64 0) (.int .i64 0) (.int .i64 0) (.slice none 0 0) := heap_alloc_new w1 _
  have b2 := wop_bel w1 (.int .i64 0) (.int .i64 0) (.int .i64 0) (.int .i64 0) (.slice none 0 0)
  generalize hw2 : w1.alloc (.cells #[.int .i64 0, .int .i64 0, .int .i64 0, .int .i64 0, .slice none 0 0] 41) = w2 at *
  have s2 : w2.heap.size = w.heap.size + 1 + 1 := by rw [← hw2]; simp [s1]
  have a3 := BxAt.new w2 (.int .i64 a) (.slice none 0 0)
  have b3 := batch_bel w2 (.int .i64 a) (.slice none 0 0)
  rw [s1] at a2
  rw [s2] at a3
  exact ⟨(a1.below b2).below b3, a2.below b3, a3, OwnO.nil _ _ _, below_chain (below_chain b1 b2) b3⟩
theorem MkO.more {cs : List Value} {e : Ev} {T F : Option Addr} {nT cT nF cF : Nat} {A' : Option Addr} {cap' : Nat} {w8 : World} (h : MkO w0 wr w kd nn fl a vs A n cap es) (ho : OwnC 4 wr (w.heap.size + 1 + 1 + 1) 69 A n cap cs) (hc : EvsO w0 es cs) (o1 : RdS w0 T nT cT e.tags) (o2 : RdF w0 F nF cF e.fs)
    (ho8 : OwnC 4 w8 (w.heap.size + 1 + 1 + 1) 69 A' (n + 1) cap' (cs ++ [.string e.s, .string e.t, .slice T nT cT, .slice F nF cF])) (hg : wr.grownBy w8 (A.map (·.block))) :
    w8.frozen? ⟨w.heap.size + 1 + 1, 1, none⟩ = false ∧ w8.cell? ⟨w.heap.size + 1 + 1, 1, none⟩ = some (.slice A n cap) ∧ MkO w0 (w8.setCell ⟨w.heap.size + 1 + 1, 1, none⟩ (.slice A' (n + 1) cap')) w kd nn fl a vs A' (n + 1) cap' (es ++ [e]) := by
  have low := fun r e => row_low ho (r := r) e
  have hF : ∀ k, k < w.heap.size + 1 + 1 + 1 → some k ≠ A.map (·.block) := fun k hk e => by have := low k e.symm; omega
  have e8 := h.out.grown hg (hF _ (by omega))
  have hs := grown_set w8 (w.heap.size + 1 + 1) 1 (.slice A' (n + 1) cap')
  have o8 : OwnO w0 w8 (w.heap.size + 1 + 1 + 1) A' (n + 1) cap' (es ++ [e]) := ⟨_, ho8, by rw [List.length_append, h.own.len]; rfl, EvsO.snoc o1 o2 es cs hc⟩
  refine ⟨e8.frozen 1, e8.c1, (h.eq.grown hg (hF _ (by omega))).far (by omega) _, (h.res.grown hg (hF _ (by omega))).far (by omega) _, e8.set1 _, o8.grown hs (by omega), ?_⟩
  have b8 := h.bel.grown hg h.bel.size (fun r e => by have := low r e; omega)
  exact b8.setCell (by show w.heap.size ≤ w.heap.size + 1 + 1; omega) _
theorem MkO.lay (h : MkO w0 wr w kd nn fl a vs A n cap es) : MkO w0 ((wr.setCell ⟨w.heap.size, 3, none⟩ (.int .i64 a)).setCell ⟨w.heap.size, 4, none⟩ (.slice A n cap)) w kd nn fl a (.slice A n cap) A n cap es := by
  refine ⟨(h.eq.set3 _).set4 _, (h.res.far (by omega) _).far (by omega) _, (h.out.far (by omega) _).far (by omega) _, (h.own.grown (grown_set wr w.heap.size 3 _) (by omega)).grown (grown_set _ w.heap.size 4 _) (by omega), ?_⟩
  exact (h.bel.setCell (by show w.heap.size ≤ w.heap.size; omega) _).setCell (by show w.heap.size ≤ w.heap.size; omega) _
def resO (w : World) (g : Nat) (x0 x1 x2 x3 x4 : Value) : World := ((((w.setCell ⟨g, 0, none⟩ x0).setCell ⟨g, 1, none⟩ x1).setCell ⟨g, 2, none⟩ x2).setCell ⟨g, 3, none⟩ x3).setCell ⟨g, 4, none⟩ x4
theorem MkO.fin (h : MkO w0 wr w kd nn fl a vs A n cap es) (x0 x1 x2 x3 x4 : Value) : W5At (resO wr (w.heap.size + 1) x0 x1 x2 x3 x4) (w.heap.size + 1) x0 x1 x2 x3 x4 ∧ OwnO w0 (resO wr (w.heap.size + 1) x0 x1 x2 x3 x4) (w.heap.size + 1 + 1 + 1) A n cap es ∧ Below w.heap.size w (resO wr (w.heap.size + 1) x0 x1 x2 x3 x4) := by
  refine ⟨h.res.all _ _ _ _ _, ((((h.own.grown (grown_set _ _ 0 _) (by omega)).grown (grown_set _ _ 1 _) (by omega)).grown (grown_set _ _ 2 _) (by omega)).grown (grown_set _ _ 3 _) (by omega)).grown (grown_set _ _ 4 _) (by omega), ?_⟩
  have hle : w.heap.size ≤ w.heap.size + 1 := by omega
  exact ((((h.bel.setCell hle _).setCell hle _).setCell hle _).setCell hle _).setCell hle _
end
end Go.Proofs.YtppidbdkejkopaaGreatDoor.BtWalk
