/-
  Contract of layer 5: Take.
-/
import Derived.Test.YtjglpmakjampjaaEdDec
namespace Go.Proofs.Ytjglpmakjampjaa.EdWalk
open Go.RowKit Go.Proofs.Ytjglpmakjampjaa.MemRow Go.Proofs.Ytjglpmakjampjaa.Ev Go.Proofs.Ytjglpmakjampjaa.NameMath Go.Proofs.Ytjglpmakjampjaa.NameWalk Go.Proofs.Ytjglpmakjampjaa.EvWalk Go.Proofs.Ytjglpmakjampjaa.NumMath Go.Proofs.Ytjglpmakjampjaa.NumMem Go.Proofs.Ytjglpmakjampjaa.NumWalk Go.Proofs.Ytjglpmakjampjaa.EcWalk

/-- What stands while an event is taken: the reader, the result's cell, the reader as it was. -/
structure TkAt (wr w : World) (g : Nat) (l : List UInt8) (b : Bool) (A : Option Addr) (n cap : Nat) (l0 : List UInt8) : Prop where
  rd : Rdr wr 60 g l b
  res : EvAt wr w.heap.size (.string ⟨#[]⟩) (.string ⟨#[]⟩) (.slice none 0 0) (.slice none 0 0)
  wb : wr.heap[w.heap.size + 1]? = some (.cells #[.slice A n cap, .bool false] 60 (0, 0))
  rb : Rd wr A n cap l0
  old : Old A g
  gg : w.grownBy wr (some g)
  gw : g < w.heap.size

section
variable {wr w w' : World} {g n cap : Nat} {l l' l0 : List UInt8} {b b' : Bool} {A : Option Addr}
theorem TkAt.below (h : TkAt wr w g l b A n cap l0) (hb : Below wr.heap.size wr w') : TkAt w' w g l b A n cap l0 :=
  ⟨h.rd.below hb, h.res.below hb h.res.lt, (hb.block _ (lt_of_block h.wb)).trans h.wb, h.rb.below hb, h.old, gr_step h.gg (row := none) ⟨hb.os, hb.tape, hb.output, hb.size, fun k hk _ => hb.block k hk⟩ (fun r e => by cases e), h.gw⟩
theorem TkAt.read (h : TkAt wr w g l b A n cap l0) (hr : Rdr w' 60 g l' b') (hg : wr.grownBy w' (some g)) : TkAt w' w g l' b' A n cap l0 := by
  have gw := h.gw
  exact ⟨hr, h.res.grown hg (by simp; omega), (hg.block _ (lt_of_block h.wb) (by simp; omega)).trans h.wb, h.rb.grown hg h.rd.no_byte, h.old, gr_step' h.gg hg, gw⟩
theorem TkAt.restore (h : TkAt wr w g l b A n cap l0) : TkAt ((wr.setCell ⟨g, 0, none⟩ (.slice A n cap)).setCell ⟨g, 1, none⟩ (.bool false)) w g l0 false A n cap l0 := by
  have hno := h.rd.no_byte
  obtain ⟨A1, n1, c1, hh, _, _⟩ := h.rd
  have s0 := grown_set wr g 0 (.slice A n cap)
  have s1 := grown_set (wr.setCell ⟨g, 0, none⟩ (.slice A n cap)) g 1 (.bool false)
  have r1 := (h.rb.grown s0 hno).grown s1 (two_no_byte (two_set0 hh) (by simp) (by simp))
  have hr : Rdr ((wr.setCell ⟨g, 0, none⟩ (.slice A n cap)).setCell ⟨g, 1, none⟩ (.bool false)) 60 g l0 false := ⟨A, n, cap, two_set1 (two_set0 hh), r1, h.old⟩
  exact h.read hr (gr_step' s0 s1)
theorem TkAt.fin (h : TkAt wr w g l b A n cap l0) (x0 x1 x2 x3 : Value) (w9 : World) (h9 : w9 = (((wr.setCell ⟨w.heap.size, 0, none⟩ x0).setCell ⟨w.heap.size, 1, none⟩ x1).setCell ⟨w.heap.size, 2, none⟩ x2).setCell ⟨w.heap.size, 3, none⟩ x3) :
    EvAt w9 w.heap.size x0 x1 x2 x3 ∧ Rdr w9 60 g l b ∧ w.grownBy w9 (some g) := by
  subst h9
  have gw := h.gw
  have e := h.res.all x0 x1 x2 x3
  refine ⟨e, ?_, ?_⟩
  · exact rdr_apart (rdr_apart (rdr_apart (rdr_apart h.rd (grown_set _ _ _ _) (fun r e => by injection e; omega)) (grown_set _ _ _ _) (fun r e => by injection e; omega)) (grown_set _ _ _ _) (fun r e => by injection e; omega)) (grown_set _ _ _ _) (fun r e => by injection e; omega)
  · exact gr_step (gr_step (gr_step (gr_step h.gg (grown_set _ _ _ _) (fun r e => by injection e; omega)) (grown_set _ _ _ _) (fun r e => by injection e; omega)) (grown_set _ _ _ _) (fun r e => by injection e; omega)) (grown_set _ _ _ _) (fun r e => by injection e; omega)
end

/-- What taking comes to. -/
def TakeN (l : List UInt8) (g : Nat) (w : World) (e : Ending) (w' : World) : Prop :=
  w.grownBy w' (some g) ∧ ((∃ ev l', takeE l false = some (ev, l') ∧ ∃ v, e = .returned (.tuple #[v, .int .i64 0]) ∧ OwnIs w' w.heap.size v ev ∧ EvOk ev ∧ Rdr w' 60 g l' false) ∨
    (takeE l false = none ∧ NoneE e ∧ ∃ l' b', Rdr w' 60 g l' b'))

set_option maxHeartbeats 4000000 in
set_option maxRecDepth 100000 in
theorem take5_any (g : Nat) (l : List UInt8) (w : World) (h : Rdr w 60 g l false) :
    Calls Try.prog 14 #[.pointer (some ⟨g, 0, none⟩)] w fun e w' => TakeN l g w e w' := by
  have gw := h.lt
  have hd := takeE_decC l
  have HD := Go.Lib.hid hd
  clear hd
  have e1 := EvAt.new w (.string ⟨#[]⟩) (.string ⟨#[]⟩) (.slice none 0 0) (.slice none 0 0)
  have b1 : Below w.heap.size w (w.alloc (.cells #[.string ⟨#[]⟩, .string ⟨#[]⟩, .slice none 0 0, .slice none 0 0] 26)) := (Below.refl _ _).alloc (Nat.le_refl _) _
  have s1 : (w.alloc (.cells #[.string ⟨#[]⟩, .string ⟨#[]⟩, .slice none 0 0, .slice none 0 0] 26)).heap.size = w.heap.size + 1 := by simp
  have h1 := h.below b1
  go_enter Try.func14, Try.ntmps14
  go_upto_region 1 with (fail)
  generalize w.alloc (.cells #[.string ⟨#[]⟩, .string ⟨#[]⟩, .slice none 0 0, .slice none 0 0] 26) = w1 at *
  have h1' := h1
  obtain ⟨A, n, cap, hh, hr, ho⟩ := h1'
  obtain ⟨k0, k1, _⟩ := two_cell hh
  clear hh h
  go_upto_region 4 with (fail)
  have b2 : Below w1.heap.size w1 (w1.alloc (.cells #[.slice A n cap, .bool false] 60)) := (Below.refl _ _).alloc (Nat.le_refl _) _
  have t2 : TkAt (w1.alloc (.cells #[.slice A n cap, .bool false] 60)) w g l false A n cap l :=
    ⟨h1.below b2, e1.below b2 e1.lt, by rw [← s1]; exact heap_alloc_new w1 _, hr.below b2, ho, gr_step ⟨b1.os, b1.tape, b1.output, b1.size, fun k hk _ => b1.block k hk⟩ (row := none) ⟨b2.os, b2.tape, b2.output, b2.size, fun k hk _ => b2.block k hk⟩ (fun r e => by cases e), gw⟩
  have s2 : (w1.alloc (.cells #[.slice A n cap, .bool false] 60)).heap.size = w.heap.size + 1 + 1 := by simp [s1]
  generalize w1.alloc (.cells #[.slice A n cap, .bool false] 60) = w2 at *
  clear b1 b2 h1 hr ho e1 k0 k1 s1
  go_wp2_with fail
  refine (decode5_any g l w2 t2.rd).mono ?_
  rintro e w3 ⟨gg, s, t, T, nT, cT, F, nF, cF, ok, l', b', rfl, r3, HNO, HYES⟩
  have t3 := t2.read r3 gg
  have s23 := gg.size
  have al : Below w3.heap.size w3 (w3.alloc (.cells #[.string s, .string t, .slice T nT cT, .slice F nF cF] 26)) := (Below.refl _ _).alloc (Nat.le_refl _) _
  have e4 := EvAt.new w3 (.string s) (.string t) (.slice T nT cT) (.slice F nF cF)
  have t4 := t3.below al
  clear t2 r3 gg t3
  go_upto_region 5 with (fail)
  generalize hw4 : w3.alloc (.cells #[.string s, .string t, .slice T nT cT, .slice F nF cF] 26) = w4 at *
  clear hw4
  cases ok with
  | false =>
    have hno : takeE l false = none := by
      rw [HD.out, HNO.out rfl]
      rfl
    have HN := Go.Lib.hid hno
    clear hno HYES HNO
    cases b' with
    | true =>
      go_wp2_with fail
      refine (bad_any g _ _ w4 t4.rd).mono ?_
      rintro e w' ⟨rfl, rfl⟩
      have r0 := t4.res.c0
      have r1 := t4.res.c1
      have r2 := t4.res.c2
      have r3 := t4.res.c3
      have z0 := t4.res.frozen 0
      have z1 := t4.res.frozen 1
      have z2 := t4.res.frozen 2
      have z3 := t4.res.frozen 3
      have hfin := t4.fin (.string ⟨#[]⟩) (.string ⟨#[]⟩) (.slice none 0 0) (.slice none 0 0) _ rfl
      have HFIN := Go.Lib.hid hfin
      clear hfin
      go_wp2_with fail
      rcases HFIN.out with ⟨E9, R9, G9⟩
      generalize ((((w4.setCell ⟨w.heap.size, 0, none⟩ (.string ⟨#[]⟩)).setCell ⟨w.heap.size, 1, none⟩ (.string ⟨#[]⟩)).setCell ⟨w.heap.size, 2, none⟩ (.slice none 0 0)).setCell ⟨w.heap.size, 3, none⟩ (.slice none 0 0)) = w9 at *
      have q0 := E9.c0
      have q1 := E9.c1
      have q2 := E9.c2
      have q3 := E9.c3
      exact bodyPost_ret (v := .tuple #[.agg #[.string ⟨#[]⟩, .string ⟨#[]⟩, .slice none 0 0, .slice none 0 0], .int .i64 2]) (by simp [results, Try.results14, go_sem, q0, q1, q2, q3]) rfl ⟨G9, .inr ⟨HN.out, rfl, _, _, R9⟩⟩
    | false =>
      go_wp2_with fail
      refine (bad_any g _ _ w4 t4.rd).mono ?_
      rintro e w' ⟨rfl, rfl⟩
      obtain ⟨A1, n1, c1, hh, _, _⟩ := t4.rd
      obtain ⟨x0, x1, xf⟩ := two_cell hh
      obtain ⟨y0, y1, _⟩ := two_cell t4.wb
      have f0 := xf 0
      have f1 := xf 1
      have tr := t4.restore
      clear hh xf
      go_upto_region 9 with (fail)
      generalize (w4.setCell ⟨g, 0, none⟩ (.slice A n cap)).setCell ⟨g, 1, none⟩ (.bool false) = wr at *
      clear x0 x1 y0 y1 f0 f1
      have r0 := tr.res.c0
      have r1 := tr.res.c1
      have r2 := tr.res.c2
      have r3 := tr.res.c3
      have z0 := tr.res.frozen 0
      have z1 := tr.res.frozen 1
      have z2 := tr.res.frozen 2
      have z3 := tr.res.frozen 3
      have hfin := tr.fin (.string ⟨#[]⟩) (.string ⟨#[]⟩) (.slice none 0 0) (.slice none 0 0) _ rfl
      have HFIN := Go.Lib.hid hfin
      clear hfin
      go_wp2_with fail
      rcases HFIN.out with ⟨E9, R9, G9⟩
      generalize ((((wr.setCell ⟨w.heap.size, 0, none⟩ (.string ⟨#[]⟩)).setCell ⟨w.heap.size, 1, none⟩ (.string ⟨#[]⟩)).setCell ⟨w.heap.size, 2, none⟩ (.slice none 0 0)).setCell ⟨w.heap.size, 3, none⟩ (.slice none 0 0)) = w9 at *
      have q0 := E9.c0
      have q1 := E9.c1
      have q2 := E9.c2
      have q3 := E9.c3
      exact bodyPost_ret (v := .tuple #[.agg #[.string ⟨#[]⟩, .string ⟨#[]⟩, .slice none 0 0, .slice none 0 0], .int .i64 2]) (by simp [results, Try.results14, go_sem, q0, q1, q2, q3]) rfl ⟨G9, .inr ⟨HN.out, rfl, _, _, R9⟩⟩
  | true =>
    obtain ⟨rfl, ts, fs, hdec, o1, o2, hok⟩ := HYES.out rfl
    have o1' := own_lower (OwnC.below o1 al) (base' := w.heap.size + 1) (by omega)
    have o2' := own_lower (OwnC.below o2 al) (base' := w.heap.size + 1) (by omega)
    have iv : IsEv w4 (.agg #[.string s, .string t, .slice T nT cT, .slice F nF cF]) ⟨s, t, ts, fs⟩ := ⟨_, _, _, _, _, _, rfl, OwnC.rd o1', OwnC.rd o2'⟩
    have htk : takeE l false = if mayE ⟨s, t, ts, fs⟩ = 0 then some (⟨s, t, ts, fs⟩, l') else none := by
      rw [HD.out, hdec]
      rfl
    have HTK := Go.Lib.hid htk
    clear hdec o1 o2 htk HNO HYES
    have k0 := e4.c0
    have k1 := e4.c1
    have k2 := e4.c2
    have k3 := e4.c3
    go_wp2_with fail
    refine (evMay_any _ ⟨s, t, ts, fs⟩ w4 iv hok).mono ?_
    rintro e w5 ⟨rfl, b5⟩
    have t5 := t4.below b5
    have e5 := e4.below b5 e4.lt
    have p1 := OwnC.below o1' b5
    have p2 := OwnC.below o2' b5
    clear t4 e4 o1' o2' iv k0 k1 k2 k3 b5 al
    by_cases h0 : mayE ⟨s, t, ts, fs⟩ = 0
    · rw [h0]
      have hyes : takeE l false = some (⟨s, t, ts, fs⟩, l') := by rw [HTK.out, if_pos h0]
      have HY := Go.Lib.hid hyes
      have HOK := Go.Lib.hid hok
      clear hyes h0 hok
      have k0 := e5.c0
      have k1 := e5.c1
      have k2 := e5.c2
      have k3 := e5.c3
      have r0 := t5.res.c0
      have r1 := t5.res.c1
      have r2 := t5.res.c2
      have r3 := t5.res.c3
      have z0 := t5.res.frozen 0
      have z1 := t5.res.frozen 1
      have z2 := t5.res.frozen 2
      have z3 := t5.res.frozen 3
      have hfin := t5.fin (.string s) (.string t) (.slice T nT cT) (.slice F nF cF) _ rfl
      have p1' := own_away (own_away (own_away (own_away p1 (g := w.heap.size) (i := 0) (Nat.lt_succ_self _) (.string s)) (g := w.heap.size) (i := 1) (Nat.lt_succ_self _) (.string t)) (g := w.heap.size) (i := 2) (Nat.lt_succ_self _) (.slice T nT cT)) (g := w.heap.size) (i := 3) (Nat.lt_succ_self _) (.slice F nF cF)
      have p2' := own_away (own_away (own_away (own_away p2 (g := w.heap.size) (i := 0) (Nat.lt_succ_self _) (.string s)) (g := w.heap.size) (i := 1) (Nat.lt_succ_self _) (.string t)) (g := w.heap.size) (i := 2) (Nat.lt_succ_self _) (.slice T nT cT)) (g := w.heap.size) (i := 3) (Nat.lt_succ_self _) (.slice F nF cF)
      have HFIN := Go.Lib.hid hfin
      have P1 := Go.Lib.hid p1'
      have P2 := Go.Lib.hid p2'
      clear hfin p1 p2 p1' p2' t5 e5
      go_wp2_with fail
      rcases HFIN.out with ⟨E9, R9, G9⟩
      have p1 := P1.out
      have p2 := P2.out
      generalize ((((w5.setCell ⟨w.heap.size, 0, none⟩ (.string s)).setCell ⟨w.heap.size, 1, none⟩ (.string t)).setCell ⟨w.heap.size, 2, none⟩ (.slice T nT cT)).setCell ⟨w.heap.size, 3, none⟩ (.slice F nF cF)) = w9 at *
      have q0 := E9.c0
      have q1 := E9.c1
      have q2 := E9.c2
      have q3 := E9.c3
      exact bodyPost_ret (v := .tuple #[.agg #[.string s, .string t, .slice T nT cT, .slice F nF cF], .int .i64 0]) (by simp [results, Try.results14, go_sem, q0, q1, q2, q3]) rfl ⟨G9, .inl ⟨_, _, HY.out, _, rfl, ⟨_, _, _, _, _, _, rfl, own_lower p1 (Nat.le_succ _), own_lower p2 (Nat.le_succ _)⟩, HOK.out, R9⟩⟩
    · have hm0 : (mayE ⟨s, t, ts, fs⟩ == 0) = false := by rw [beq_eq_false_iff_ne]; exact h0
      have hno : takeE l false = none := by rw [HTK.out, if_neg h0]
      have HN := Go.Lib.hid hno
      clear hno h0 p1 p2 hok
      generalize mayE ⟨s, t, ts, fs⟩ = MM at *
      go_wp2_with fail
      refine (bad_any g _ _ w5 t5.rd).mono ?_
      rintro e w' ⟨rfl, rfl⟩
      obtain ⟨A1, n1, c1, hh, _, _⟩ := t5.rd
      obtain ⟨x0, x1, xf⟩ := two_cell hh
      obtain ⟨y0, y1, _⟩ := two_cell t5.wb
      have f0 := xf 0
      have f1 := xf 1
      have tr := t5.restore
      clear hh xf
      go_upto_region 9 with (fail)
      generalize (w5.setCell ⟨g, 0, none⟩ (.slice A n cap)).setCell ⟨g, 1, none⟩ (.bool false) = wr at *
      clear x0 x1 y0 y1 f0 f1
      have r0 := tr.res.c0
      have r1 := tr.res.c1
      have r2 := tr.res.c2
      have r3 := tr.res.c3
      have z0 := tr.res.frozen 0
      have z1 := tr.res.frozen 1
      have z2 := tr.res.frozen 2
      have z3 := tr.res.frozen 3
      have hfin := tr.fin (.string ⟨#[]⟩) (.string ⟨#[]⟩) (.slice none 0 0) (.slice none 0 0) _ rfl
      have HFIN := Go.Lib.hid hfin
      clear hfin
      go_wp2_with fail
      rcases HFIN.out with ⟨E9, R9, G9⟩
      generalize ((((wr.setCell ⟨w.heap.size, 0, none⟩ (.string ⟨#[]⟩)).setCell ⟨w.heap.size, 1, none⟩ (.string ⟨#[]⟩)).setCell ⟨w.heap.size, 2, none⟩ (.slice none 0 0)).setCell ⟨w.heap.size, 3, none⟩ (.slice none 0 0)) = w9 at *
      have q0 := E9.c0
      have q1 := E9.c1
      have q2 := E9.c2
      have q3 := E9.c3
      exact bodyPost_ret (v := .tuple #[.agg #[.string ⟨#[]⟩, .string ⟨#[]⟩, .slice none 0 0, .slice none 0 0], .int .i64 2]) (by simp [results, Try.results14, go_sem, q0, q1, q2, q3]) rfl ⟨G9, .inr ⟨HN.out, rfl, _, _, R9⟩⟩

end Go.Proofs.Ytjglpmakjampjaa.EdWalk
