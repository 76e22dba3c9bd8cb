/-
  Contract of layer 5: decode.
-/
import Derived.Test.YtjglpmakjampjaaEdDecM
import Derived.Test.YtjglpmakjampjaaEvApiB
namespace Go.Proofs.Ytjglpmakjampjaa.EdWalk
open Go.RowKit Go.Proofs.Ytjglpmakjampjaa.MemRow Go.Proofs.Ytjglpmakjampjaa.Ev Go.Proofs.Ytjglpmakjampjaa.NameMath Go.Proofs.Ytjglpmakjampjaa.NameWalk Go.Proofs.Ytjglpmakjampjaa.EvWalk Go.Proofs.Ytjglpmakjampjaa.NumMath Go.Proofs.Ytjglpmakjampjaa.NumMem Go.Proofs.Ytjglpmakjampjaa.NumWalk Go.Proofs.Ytjglpmakjampjaa.EcWalk

/-- What stands while an event is decoded: the reader and the variable that names it, the result's cell, the event that is made. -/
structure DecAt (wr w : World) (g : Nat) (l : List UInt8) (b : Bool) (gr ge : Nat) (s t : ByteArray) (T : Option Addr) (nT cT : Nat) (ts : List ByteArray) (F : Option Addr) (nF cF : Nat) (fs : List (ByteArray × Int)) : Prop where
  rd : Rdr wr 60 g l b
  bx : wr.cell? ⟨w.heap.size, 0, none⟩ = some (.pointer (some ⟨g, 0, none⟩))
  res : EvAt wr gr (.string ⟨#[]⟩) (.string ⟨#[]⟩) (.slice none 0 0) (.slice none 0 0)
  ev : EvAt wr ge (.string s) (.string t) (.slice T nT cT) (.slice F nF cF)
  tt : OwnC 1 wr (ge + 1) 9 T nT cT (MemRow.strs ts)
  ff : OwnC 2 wr (ge + 1) 52 F nF cF (flds fs)
  gg : w.grownBy wr (some g)
  gw : g < w.heap.size
  w1 : w.heap.size < gr
  w2 : gr < ge

section
variable {wr w w' : World} {g gr ge nT cT nF cF : Nat} {l l' : List UInt8} {b b' : Bool} {s t : ByteArray} {T F : Option Addr} {ts : List ByteArray} {fs : List (ByteArray × Int)}
theorem DecAt.read (h : DecAt wr w g l b gr ge s t T nT cT ts F nF cF fs) (hr : Rdr w' 60 g l' b') (hg : wr.grownBy w' (some g)) : DecAt w' w g l' b' gr ge s t T nT cT ts F nF cF fs := by
  have gw := h.gw
  have w1 := h.w1
  have w2 := h.w2
  exact ⟨hr, hg.cell h.bx (by simp; omega), h.res.grown hg (by simp; omega), h.ev.grown hg (by simp; omega), own_off h.tt hg (by omega), own_off h.ff hg (by omega), gr_step' h.gg hg, gw, w1, w2⟩
theorem ev_set0 {w : World} {g : Nat} {v0 v1 v2 v3 : Value} (h : EvAt w g v0 v1 v2 v3) (x : Value) : EvAt (w.setCell ⟨g, 0, none⟩ x) g x v1 v2 v3 := by
  unfold EvAt at h ⊢
  simp only [World.setCell, Array.getElem?_modify, h]
  rfl
theorem DecAt.set (h : DecAt wr w g l b gr ge s t T nT cT ts F nF cF fs) (i : Nat) (x : Value) {s' t' : ByteArray} {T' : Option Addr} {nT' cT' : Nat} {ts' : List ByteArray} {F' : Option Addr} {nF' cF' : Nat} {fs' : List (ByteArray × Int)}
    (he : EvAt (wr.setCell ⟨ge, i, none⟩ x) ge (.string s') (.string t') (.slice T' nT' cT') (.slice F' nF' cF')) (ht : OwnC 1 wr (ge + 1) 9 T' nT' cT' (MemRow.strs ts')) (hf : OwnC 2 wr (ge + 1) 52 F' nF' cF' (flds fs')) :
    DecAt (wr.setCell ⟨ge, i, none⟩ x) w g l b gr ge s' t' T' nT' cT' ts' F' nF' cF' fs' := by
  have gw := h.gw
  have w1 := h.w1
  have w2 := h.w2
  have hs := grown_set wr ge i x
  exact ⟨rdr_apart h.rd hs (fun r e => by injection e; omega), hs.cell h.bx (by simp; omega), h.res.far (by omega) _, he, own_away ht (by omega) _, own_away hf (by omega) _, gr_step h.gg hs (fun r e => by injection e; omega), gw, w1, w2⟩
/-- The result's cell is written. -/
theorem DecAt.fin (h : DecAt wr w g l b gr ge s t T nT cT ts F nF cF fs) (x0 x1 x2 x3 : Value) (w9 : World) (h9 : w9 = (((wr.setCell ⟨gr, 0, none⟩ x0).setCell ⟨gr, 1, none⟩ x1).setCell ⟨gr, 2, none⟩ x2).setCell ⟨gr, 3, none⟩ x3) :
    EvAt w9 gr x0 x1 x2 x3 ∧ Rdr w9 60 g l b ∧ w.grownBy w9 (some g) ∧ OwnC 1 w9 (ge + 1) 9 T nT cT (MemRow.strs ts) ∧ OwnC 2 w9 (ge + 1) 52 F nF cF (flds fs) := by
  subst h9
  have gw := h.gw
  have w1 := h.w1
  have w2 := h.w2
  have e := h.res.all x0 x1 x2 x3
  refine ⟨e, ?_, ?_, ?_, ?_⟩
  · exact rdr_apart (rdr_apart (rdr_apart (rdr_apart h.rd (grown_set _ _ _ _) (fun r e => by injection e; omega)) (grown_set _ _ _ _) (fun r e => by injection e; omega)) (grown_set _ _ _ _) (fun r e => by injection e; omega)) (grown_set _ _ _ _) (fun r e => by injection e; omega)
  · exact gr_step (gr_step (gr_step (gr_step h.gg (grown_set _ _ _ _) (fun r e => by injection e; omega)) (grown_set _ _ _ _) (fun r e => by injection e; omega)) (grown_set _ _ _ _) (fun r e => by injection e; omega)) (grown_set _ _ _ _) (fun r e => by injection e; omega)
  · exact own_away (own_away (own_away (own_away h.tt (by omega) _) (by omega) _) (by omega) _) (by omega) _
  · exact own_away (own_away (own_away (own_away h.ff (by omega) _) (by omega) _) (by omega) _) (by omega) _
end

/-- What decoding comes to. -/
def DecOut (l : List UInt8) (g : Nat) (w : World) (e : Ending) (w' : World) : Prop :=
  w.grownBy w' (some g) ∧ ∃ (s t : ByteArray) (T : Option Addr) (nT cT : Nat) (F : Option Addr) (nF cF : Nat) (ok : Bool) (l' : List UInt8) (b' : Bool),
    e = .returned (.tuple #[.agg #[.string s, .string t, .slice T nT cT, .slice F nF cF], .bool ok]) ∧ Rdr w' 60 g l' b' ∧ Hid (ok = false → decC l = none) ∧
    Hid (ok = true → b' = false ∧ ∃ ts fs, decC l = some (⟨s, t, ts, fs⟩, l') ∧ OwnC 1 w' w.heap.size 9 T nT cT (MemRow.strs ts) ∧ OwnC 2 w' w.heap.size 52 F nF cF (flds fs) ∧ EvOk ⟨s, t, ts, fs⟩)

set_option maxHeartbeats 4000000 in
set_option maxRecDepth 100000 in
theorem decode5_any (g : Nat) (l : List UInt8) (w : World) (h : Rdr w 60 g l false) :
    Calls Try.prog 28 #[.pointer (some ⟨g, 0, none⟩)] w fun e w' => DecOut l g w e w' := by
  have gw := h.lt
  have HS0 := Go.Lib.hid (tx_small h)
  have D0 : Dry l false := fun h => by cases h
  have b1 : Below w.heap.size w (w.alloc (.cells #[.pointer (some ⟨g, 0, none⟩)] 33)) := (Below.refl _ _).alloc (Nat.le_refl _) _
  have k1 := box_cell w (.pointer (some ⟨g, 0, none⟩)) 33
  have s1 : (w.alloc (.cells #[.pointer (some ⟨g, 0, none⟩)] 33)).heap.size = w.heap.size + 1 := by simp
  have h1 := h.below b1
  go_enter Try.func28, Try.ntmps28
  go_upto_region 0 with (fail)
  have g1 : w.grownBy (w.alloc (.cells #[.pointer (some ⟨g, 0, none⟩)] 33)) (some g) := ⟨b1.os, b1.tape, b1.output, b1.size, fun k hk _ => b1.block k hk⟩
  go_upto_region 1 with (fail)
  generalize w.alloc (.cells #[.pointer (some ⟨g, 0, none⟩)] 33) = w1 at *
  have e2 := EvAt.new w1 (.string ⟨#[]⟩) (.string ⟨#[]⟩) (.slice none 0 0) (.slice none 0 0)
  have b2 : Below w1.heap.size w1 (w1.alloc (.cells #[.string ⟨#[]⟩, .string ⟨#[]⟩, .slice none 0 0, .slice none 0 0] 26)) := (Below.refl _ _).alloc (Nat.le_refl _) _
  have h2 := h1.below b2
  have k2 := bcell b2 k1
  have g2 := gr_step g1 (row := none) ⟨b2.os, b2.tape, b2.output, b2.size, fun k hk _ => b2.block k hk⟩ (fun r e => by cases e)
  generalize w1.alloc (.cells #[.string ⟨#[]⟩, .string ⟨#[]⟩, .slice none 0 0, .slice none 0 0] 26) = w2 at *
  rw [s1] at e2
  clear h h1 k1 b1 b2 g1 s1
  go_upto_region 2 with (fail)
  have e3 := EvAt.new w2 (.string ⟨#[]⟩) (.string ⟨#[]⟩) (.slice none 0 0) (.slice none 0 0)
  have b3 : Below w2.heap.size w2 (w2.alloc (.cells #[.string ⟨#[]⟩, .string ⟨#[]⟩, .slice none 0 0, .slice none 0 0] 26)) := (Below.refl _ _).alloc (Nat.le_refl _) _
  have d3 : DecAt (w2.alloc (.cells #[.string ⟨#[]⟩, .string ⟨#[]⟩, .slice none 0 0, .slice none 0 0] 26)) w g l false (w.heap.size + 1) w2.heap.size ⟨#[]⟩ ⟨#[]⟩ none 0 0 [] none 0 0 [] :=
    ⟨h2.below b3, bcell b3 k2, e2.below b3 e2.lt, e3, OwnC.nil _ _, OwnC.nil _ _, gr_step g2 (row := none) ⟨b3.os, b3.tape, b3.output, b3.size, fun k hk _ => b3.block k hk⟩ (fun r e => by cases e), gw, Nat.lt_succ_self _, e2.lt⟩
  generalize w2.alloc (.cells #[.string ⟨#[]⟩, .string ⟨#[]⟩, .slice none 0 0, .slice none 0 0] 26) = w3 at *
  generalize w2.heap.size = ge at *
  clear h2 k2 g2 e2 e3 b3
  have k0 := d3.bx
  go_wp2_with fail
  refine (text_any g l false w3 d3.rd).mono ?_
  rintro e w4 ⟨rfl, r4, gg⟩
  have d4 := d3.read r4 gg
  have z0 := d4.ev.frozen 0
  have q0 := d4.ev.c0
  have d5 := d4.set 0 (.string (tx l)) (ev_set0 d4.ev _) d4.tt d4.ff
  have D1 : Dry (textL l) (textB l false) := D0.text
  have HS1 := Go.Lib.hid (tx_small d4.rd)
  clear d3 r4 gg k0
  go_upto_region 4 with (fail)
  have hset : w4.setCell ⟨ge, 0, none⟩ (.string ⟨(textV l).toArray⟩) = w4.setCell ⟨ge, 0, none⟩ (.string (tx l)) := rfl
  rw [hset]
  generalize w4.setCell ⟨ge, 0, none⟩ (.string (tx l)) = w5 at *
  clear z0 q0 hset d4
  have k0 := d5.bx
  go_wp2_with fail
  refine (text_any g _ _ w5 d5.rd).mono ?_
  rintro e w6 ⟨rfl, r6, gg⟩
  have d6 := d5.read r6 gg
  have z1 := d6.ev.frozen 1
  have q1 := d6.ev.c1
  have d7 := d6.set 1 (.string (tx (textL l))) (ev_set1 d6.ev _) d6.tt d6.ff
  have D2 : Dry (textL (textL l)) (textB (textL l) (textB l false)) := D1.text
  clear d5 r6 gg k0
  go_upto_region 5 with (fail)
  have hset : w6.setCell ⟨ge, 1, none⟩ (.string ⟨(textV (textL l)).toArray⟩) = w6.setCell ⟨ge, 1, none⟩ (.string (tx (textL l))) := rfl
  rw [hset]
  generalize w6.setCell ⟨ge, 1, none⟩ (.string (tx (textL l))) = w7 at *
  clear z1 q1 hset d6
  have k0 := d7.bx
  generalize hl2 : textL (textL l) = l2 at *
  generalize hb2 : textB (textL l) (textB l false) = b2 at *
  have HL2 := Go.Lib.hid hl2
  have HB2 := Go.Lib.hid hb2
  clear hl2 hb2
  go_wp2_with fail
  refine (listS_any g l2 b2 w7 d7.rd D2).mono ?_
  rintro e w8 ⟨gg, ts, l', b', T8, m8, c8, us, ok, HT, HOK, rfl, r8, o8, HU, HZ⟩
  have d8 := d7.read r8 gg
  have z2 := d8.ev.frozen 2
  have q2 := d8.ev.c2
  have d9 := d8.set 2 (.slice T8 m8 c8) (d8.ev.set2 _) (own_lower o8 d7.ev.lt) d8.ff
  clear d7 r8 gg k0 d8 o8
  go_upto_region 6 with (fail)
  generalize w8.setCell ⟨ge, 2, none⟩ (.slice T8 m8 c8) = w9 at *
  clear z2 q2
  have hno : ok = false → decC l = none := by
    intro h
    have h1 := HOK.out
    rw [h] at h1
    unfold decC
    simp only
    rw [HL2.out, HB2.out, HT.out, if_pos]
    by_cases h0 : 0 ≤ numV l2
    · rw [decide_eq_true h0] at h1
      right
      cases b' with
      | true => rfl
      | false => cases h1
    · exact .inl (by omega)
  have HNO := Go.Lib.hid hno
  clear hno
  cases ok with
  | false =>
    have r0 := d9.res.c0
    have r1 := d9.res.c1
    have r2 := d9.res.c2
    have r3 := d9.res.c3
    have z0 := d9.res.frozen 0
    have z1 := d9.res.frozen 1
    have z2 := d9.res.frozen 2
    have z3 := d9.res.frozen 3
    have hfin := d9.fin (.string ⟨#[]⟩) (.string ⟨#[]⟩) (.slice none 0 0) (.slice none 0 0) _ rfl
    have HFIN := Go.Lib.hid hfin
    clear hfin
    go_wp2_with fail
    rcases HFIN.out with ⟨E9, R9, G9, _, _⟩
    generalize ((((w9.setCell ⟨w.heap.size + 1, 0, none⟩ (.string ⟨#[]⟩)).setCell ⟨w.heap.size + 1, 1, none⟩ (.string ⟨#[]⟩)).setCell ⟨w.heap.size + 1, 2, none⟩ (.slice none 0 0)).setCell ⟨w.heap.size + 1, 3, none⟩ (.slice none 0 0)) = w10 at *
    have q0 := E9.c0
    have q1 := E9.c1
    have q2 := E9.c2
    have q3 := E9.c3
    exact bodyPost_ret (v := .tuple #[.agg #[.string ⟨#[]⟩, .string ⟨#[]⟩, .slice none 0 0, .slice none 0 0], .bool false]) (by simp [results, Try.results28, go_sem, q0, q1, q2, q3]) rfl ⟨G9, _, _, _, _, _, _, _, _, false, _, _, rfl, R9, Go.Lib.hid (fun _ => HNO.out trivial), Go.Lib.hid (fun h => by cases h)⟩
  | true =>
    have hn0 : 0 ≤ numV l2 ∧ b' = false := by
      have h1 := HOK.out
      by_cases h0 : 0 ≤ numV l2
      · rw [decide_eq_true h0] at h1
        cases b' with
        | true => cases h1
        | false => exact ⟨h0, rfl⟩
      · rw [decide_eq_false h0] at h1
        cases h1
    obtain ⟨hn0, rfl⟩ := hn0
    have HN0 := Go.Lib.hid hn0
    have hus := HU.out rfl
    have HUS := Go.Lib.hid hus
    have k0 := d9.bx
    have hbg : w.heap.size ≠ g := by omega
    clear hn0 hus HNO HOK HU
    go_wp2_with fail
    refine (listF_any g l' false w9 d9.rd (fun h => by cases h) w.heap.size k0 hbg).mono ?_
    rintro e w10 ⟨gg, fs, l'', b'', F10, m10, c10, vs, ok, HF, HOK, rfl, r10, o10, HV, HVZ⟩
    have d10 := d9.read r10 gg
    have z3 := d10.ev.frozen 3
    have q3 := d10.ev.c3
    have d11 := d10.set 3 (.slice F10 m10 c10) (d10.ev.set3 _) d10.tt (own_lower o10 d9.ev.lt)
    clear d9 r10 gg k0 d10 o10
    go_upto_region 9 with (fail)
    generalize w10.setCell ⟨ge, 3, none⟩ (.slice F10 m10 c10) = w11 at *
    clear z3 q3
    have hw1 := d11.w1
    have hw2 := d11.w2
    have r0 := d11.res.c0
    have r1 := d11.res.c1
    have r2 := d11.res.c2
    have r3 := d11.res.c3
    have z0 := d11.res.frozen 0
    have z1 := d11.res.frozen 1
    have z2 := d11.res.frozen 2
    have z3 := d11.res.frozen 3
    have e0 := d11.ev.c0
    have e1 := d11.ev.c1
    have e2 := d11.ev.c2
    have e3 := d11.ev.c3
    have hfin := d11.fin (.string (tx l)) (.string (tx (textL l))) (.slice T8 m8 c8) (.slice F10 m10 c10) _ rfl
    have HFIN := Go.Lib.hid hfin
    clear hfin d11
    go_wp2_with fail
    rcases HFIN.out with ⟨E9, R9, G9, O1, O2⟩
    generalize ((((w11.setCell ⟨w.heap.size + 1, 0, none⟩ (.string (tx l))).setCell ⟨w.heap.size + 1, 1, none⟩ (.string (tx (textL l)))).setCell ⟨w.heap.size + 1, 2, none⟩ (.slice T8 m8 c8)).setCell ⟨w.heap.size + 1, 3, none⟩ (.slice F10 m10 c10)) = w12 at *
    have q0 := E9.c0
    have q1 := E9.c1
    have q2 := E9.c2
    have q3 := E9.c3
    have hdec : decC l = if numV l' < 0 ∨ b'' = true then none else some (⟨tx l, tx (textL l), ts.take 7, fs.take 5⟩, l'') := by
      unfold decC
      simp only
      rw [HL2.out, HB2.out, HT.out]
      simp only
      have c1 : ¬ (numV l2 < 0 ∨ false = true) := by
        rintro (h | h)
        · have := HN0.out
          omega
        · cases h
      rw [if_neg c1, HF.out]
    refine bodyPost_ret (v := .tuple #[.agg #[.string (tx l), .string (tx (textL l)), .slice T8 m8 c8, .slice F10 m10 c10], .bool ok]) (by simp [results, Try.results28, go_sem, q0, q1, q2, q3]) rfl ⟨G9, _, _, _, _, _, _, _, _, ok, _, _, rfl, R9, Go.Lib.hid fun h => ?_, Go.Lib.hid fun h => ?_⟩
    · rw [hdec, if_pos]
      have h1 := HOK.out
      rw [h] at h1
      by_cases h0 : 0 ≤ numV l'
      · rw [decide_eq_true h0] at h1
        right
        cases b'' with
        | true => rfl
        | false => cases h1
      · exact .inl (by omega)
    · have h1 := HOK.out
      rw [h] at h1
      have hb : ¬ numV l' < 0 ∧ b'' = false := by
        by_cases h0 : 0 ≤ numV l'
        · rw [decide_eq_true h0] at h1
          cases b'' with
          | true => cases h1
          | false => exact ⟨by omega, rfl⟩
        · rw [decide_eq_false h0] at h1
          cases h1
      obtain ⟨hm0, rfl⟩ := hb
      have hvs := HV.out rfl
      refine ⟨rfl, us, vs, ?_, own_lower O1 (by omega), own_lower O2 (by omega), HS0.out, HS1.out, HZ.out, fun f hf => (HVZ.out f hf).1, fun f hf => (HVZ.out f hf).2⟩
      rw [hdec, HUS.out, hvs, if_neg]
      rintro (h | h)
      · exact hm0 h
      · cases h

end Go.Proofs.Ytjglpmakjampjaa.EdWalk
