/-
  Contract of layer 5: encode: an event that may be, laid down in bytes of its own.
-/
import Derived.Test.YtjglpmakjampjaaEdPut
namespace Go.Proofs.Ytjglpmakjampjaa.EdWalk
open Go.RowKit Go.Proofs.Ytjglpmakjampjaa.MemRow Go.Proofs.Ytjglpmakjampjaa.Ev Go.Proofs.Ytjglpmakjampjaa.NameMath Go.Proofs.Ytjglpmakjampjaa.NameWalk Go.Proofs.Ytjglpmakjampjaa.EvWalk Go.Proofs.Ytjglpmakjampjaa.NumMath Go.Proofs.Ytjglpmakjampjaa.NumMem Go.Proofs.Ytjglpmakjampjaa.NumWalk Go.Proofs.Ytjglpmakjampjaa.EcWalk

/-- What stands while an event is laid down: the event's box, the bytes' box, all else. -/
structure EncAt (wr w : World) (B : Nat) (s t : ByteArray) (T F : Value) (l : List UInt8) : Prop where
  ev : EvAt wr w.heap.size (.string s) (.string t) T F
  bx : BoxB wr B l
  be : Below w.heap.size w wr
  lt : w.heap.size < B

theorem EncAt.step {wr w w' : World} {B : Nat} {s t : ByteArray} {T F : Value} {l l' : List UInt8} (h : EncAt wr w B s t T F l) (hb : BoxB w' B l') (hg : wr.grownBy w' (some B)) : EncAt w' w B s t T F l' := by
  have hl := h.lt
  exact ⟨h.ev.grown hg (by simp; omega), hb, h.be.grown hg h.be.size (by rintro k ⟨rfl⟩; omega), hl⟩
theorem EncAt.below {wr w w' : World} {B : Nat} {s t : ByteArray} {T F : Value} {l : List UInt8} (h : EncAt wr w B s t T F l) (hb : Below wr.heap.size wr w') : EncAt w' w B s t T F l :=
  ⟨h.ev.below hb h.ev.lt, h.bx.below hb, below_chain h.be hb, h.lt⟩

set_option maxHeartbeats 4000000 in
set_option maxRecDepth 100000 in
theorem encode_any (v : Value) (ev : Ev) (w : World) (hv : IsEv w v ev) (sm : Small ev) :
    Calls Try.prog 24 #[v] w fun e w' => ∃ A c l', Hid (l' = encE ev) ∧ e = .returned (.slice A l'.length c) ∧ Rd w' A l'.length c l' ∧ Below w.heap.size w w' := by
  obtain ⟨T, nT, cT, F, nF, cF, rfl, hT, hF⟩ := hv
  have LT := Go.Lib.hid (RdS.len hT)
  have LF := Go.Lib.hid (RdF.len hF)
  have SM := Go.Lib.hid sm
  have hs : ev.s.size ≤ 1000 := by have := sm.s; omega
  have ht : ev.t.size ≤ 1000 := by have := sm.t; omega
  have hnt : nT ≤ 6 := by rw [← LT.out]; exact sm.nt
  have hnf : nF ≤ 4 := by rw [← LF.out]; exact sm.nf
  have B1 : Below w.heap.size w (w.alloc (.cells #[.string ev.s, .string ev.t, .slice T nT cT, .slice F nF cF] 26)) := (Below.refl _ _).alloc (Nat.le_refl _) _
  have E1 := EvAt.new w (.string ev.s) (.string ev.t) (.slice T nT cT) (.slice F nF cF)
  clear sm
  go_enter Try.func24, Try.ntmps24
  go_upto_region 1 with (fail)
  generalize w.alloc (.cells #[.string ev.s, .string ev.t, .slice T nT cT, .slice F nF cF] 26) = w1 at *
  go_upto_region 2 with (fail)
  have al : Below w1.heap.size w1 (w1.alloc (.cells #[.slice none 0 0] 22)) := (Below.refl _ _).alloc (Nat.le_refl _) _
  have a2 : EncAt (w1.alloc (.cells #[.slice none 0 0] 22)) w w1.heap.size ev.s ev.t (.slice T nT cT) (.slice F nF cF) [] :=
    ⟨E1.below al E1.lt, ⟨none, 0, heap_alloc_new w1 _, Rd.nil _⟩, below_chain B1 al, E1.lt⟩
  generalize w1.alloc (.cells #[.slice none 0 0] 22) = w2 at *
  generalize w1.heap.size = B at *
  clear al B1 E1
  have k0 := a2.ev.c0
  go_wp2_with fail
  refine (encText_any B [] ev.s w2 a2.bx hs (by simp)).mono ?_
  rintro e w3 ⟨l3, H3, rfl, bx, gg⟩
  have a3 := a2.step bx gg
  have k1 := a3.ev.c1
  have hl3 : l3.length ≤ 10000000 := by have := txt_le hs; rw [H3.out]; simp; omega
  clear a2 bx gg k0
  go_wp2_with fail
  refine (encText_any B l3 ev.t w3 a3.bx ht hl3).mono ?_
  rintro e w4 ⟨l4, H4, rfl, bx, gg⟩
  have a4 := a3.step bx gg
  have k2 := a4.ev.c2
  have hl4 : l4.length ≤ 10000000 := by
    have h1 := txt_le hs
    have h2 := txt_le ht
    rw [H4.out, H3.out]
    simp
    omega
  have hxT : -9223372036854775808 ≤ (nT : Int) ∧ (nT : Int) ≤ 9223372036854775807 := by omega
  clear a3 bx gg k1 hl3
  go_wp2_with fail
  refine (encNum_any B l4 (nT : Int) w4 a4.bx hxT hl4).mono ?_
  rintro e w5 ⟨l5, H5, rfl, bx, gg⟩
  have a5 := a4.step bx gg
  have k2' := a5.ev.c2
  have e5 : l5 = txt ev.s ++ txt ev.t ++ enc (ev.tags.length : Int) ++ txts (ev.tags.take 0) := by
    rw [H5.out, H4.out, H3.out, LT.out]
    simp [txts, List.append_assoc]
  have HE5 := Go.Lib.hid e5
  clear a4 bx gg k2 hl4 hxT e5
  go_wp2_with fail
  go_loopw [7, 28] (fun _ i wr => ∃ (j : Nat) (l' : List UInt8), j ≤ nT ∧ i = .int .i64 j ∧ Hid (l' = txt ev.s ++ txt ev.t ++ enc (ev.tags.length : Int) ++ txts (ev.tags.take j)) ∧ EncAt wr w B ev.s ev.t (.slice T nT cT) (.slice F nF cF) l') (fun _ i _ => nT - (intOf i).toNat)
  case atStart => exact ⟨0, l5, Nat.zero_le _, rfl, HE5, a5⟩
  case round =>
    obtain ⟨j, l', hj, rfl, HQ, aq⟩ := hrel
    have hlq : l'.length ≤ 10000000 := by
      have h1 := head_le SM.out j
      rw [HQ.out]
      omega
    clear a5 k2'
    by_cases hlt : j < nT
    · obtain ⟨bt, ot, rfl, _, kt⟩ := RdS.at_ (RdC.below hT aq.be) (by omega)
      have ka1 := kt j hlt
      have i1 : (j : Int) < nT := by omega
      have hjl : j < ev.tags.length := by rw [LT.out]; exact hlt
      have ta := take_get ev.tags j hjl
      have hy := SM.out.tags _ (mem_getD ev.tags j hjl)
      have TA := Go.Lib.hid ta
      clear kt ta hjl
      generalize ev.tags.getD j ByteArray.empty = y at *
      have hy' : y.size ≤ 1000 := by omega
      go_wp2_with fail
      refine (encText_any B l' y wr aq.bx hy' hlq).mono ?_
      rintro e w6 ⟨l6, H6, rfl, bx, gg⟩
      have a6 := aq.step bx gg
      have H7 : Hid (l6 = txt ev.s ++ txt ev.t ++ enc (ev.tags.length : Int) ++ txts (ev.tags.take (j + 1))) := Go.Lib.hid (by rw [H6.out, HQ.out, TA.out, txts_snoc]; simp only [List.append_assoc])
      clear ka1 aq bx gg
      go_wp2_with fail
      go_roundw
      case rel => exact ⟨j + 1, l6, by omega, by go_num, H7, a6⟩
      case measure => simp [intOf]; omega
    · obtain rfl : nT = j := by omega
      have hxF : -9223372036854775808 ≤ (nF : Int) ∧ (nF : Int) ≤ 9223372036854775807 := by omega
      have k3 := aq.ev.c3
      go_wp2_with fail
      refine (encNum_any B l' (nF : Int) wr aq.bx hxF hlq).mono ?_
      rintro e w7 ⟨l7, H7, rfl, bx, gg⟩
      have a7 := aq.step bx gg
      have k3' := a7.ev.c3
      have H8 : Hid (l7 = txt ev.s ++ txt ev.t ++ enc (ev.tags.length : Int) ++ txts ev.tags ++ (enc (ev.fs.length : Int) ++ fldsE (ev.fs.take 0))) := Go.Lib.hid (by
        rw [H7.out, HQ.out, List.take_of_length_le (by rw [LT.out]; exact Nat.le_refl _), LF.out]
        simp [fldsE, List.append_assoc])
      clear k3 hxF hlq HQ aq bx gg
      go_wp2_with fail
      go_loopw [9, 44] (fun _ i wq => ∃ (k : Nat) (l' : List UInt8), k ≤ nF ∧ i = .int .i64 k ∧ Hid (l' = txt ev.s ++ txt ev.t ++ enc (ev.tags.length : Int) ++ txts ev.tags ++ (enc (ev.fs.length : Int) ++ fldsE (ev.fs.take k))) ∧ EncAt wq w B ev.s ev.t (.slice T nT cT) (.slice F nF cF) l') (fun _ i _ => nF - (intOf i).toNat)
      case atStart => exact ⟨0, l7, Nat.zero_le _, rfl, H8, a7⟩
      case round =>
        obtain ⟨k, l', hk, rfl, HQ, aq⟩ := hrel
        clear a7 k3'
        have hlq : l'.length ≤ 1100000 := by
          have h1 := head_le SM.out ev.tags.length
          have h2 := tail_le SM.out k
          rw [List.take_of_length_le (Nat.le_refl _)] at h1
          rw [HQ.out, List.length_append]
          omega
        by_cases hlt : k < nF
        · obtain ⟨bf, of, rfl, _, kf⟩ := RdF.at_ (RdC.below hF aq.be) (by omega)
          obtain ⟨y1, y2⟩ := kf k hlt
          have i1 : (k : Int) < nF := by omega
          have hkl : k < ev.fs.length := by rw [LF.out]; exact hlt
          have ta := fs_take ev.fs k hkl
          have hy := SM.out.names _ (fs_mem ev.fs k hkl)
          have hz := SM.out.nums _ (fs_mem ev.fs k hkl)
          have TA := Go.Lib.hid ta
          clear kf ta hkl
          generalize ev.fs.getD k (ByteArray.empty, 0) = f at *
          obtain ⟨nm, nz⟩ := f
          simp only at y1 y2 hy hz
          have hy' : nm.size ≤ 1000 := by omega
          have hz' : -9223372036854775808 ≤ nz ∧ nz ≤ 9223372036854775807 := by omega
          have hl2 : l'.length ≤ 10000000 := by omega
          go_upto_region 16 with (fail)
          have al : Below wr.heap.size wr (wr.alloc (.cells #[.string nm, .int .i64 nz] 52)) := (Below.refl _ _).alloc (Nat.le_refl _) _
          have ar := aq.below al
          have fa : FldAt (wr.alloc (.cells #[.string nm, .int .i64 nz] 52)) wr.heap.size (nm, nz) := heap_alloc_new wr _
          have hBr : B < wr.heap.size := aq.bx.lt
          generalize wr.alloc (.cells #[.string nm, .int .i64 nz] 52) = w8 at *
          generalize wr.heap.size = g8 at *
          have q0 := fa.c0
          clear y1 y2 al aq
          go_wp2_with fail
          refine (encText_any B l' nm w8 ar.bx hy' hl2).mono ?_
          rintro e w9 ⟨l9, H9, rfl, bx, gg⟩
          have a9 := ar.step bx gg
          have f9 : FldAt w9 g8 (nm, nz) := (gg.block g8 fa.lt (fun e => by injection e with e; omega)).trans fa
          have q1 := f9.c1
          have hl9 : l9.length ≤ 10000000 := by have h1 := txt_le hy'; rw [H9.out, List.length_append]; omega
          clear q0 ar bx gg fa
          go_wp2_with fail
          refine (encNum_any B l9 nz w9 a9.bx hz' hl9).mono ?_
          rintro e w10 ⟨l10, H10, rfl, bx, gg⟩
          have a10 := a9.step bx gg
          have H11 : Hid (l10 = txt ev.s ++ txt ev.t ++ enc (ev.tags.length : Int) ++ txts ev.tags ++ (enc (ev.fs.length : Int) ++ fldsE (ev.fs.take (k + 1)))) := Go.Lib.hid (by rw [H10.out, H9.out, HQ.out, TA.out, fldsE_snoc, fldE]; simp only [List.append_assoc])
          clear q1 a9 bx gg f9
          go_wp2_with fail
          go_roundw
          case rel => exact ⟨k + 1, l10, by omega, by go_num, H11, a10⟩
          case measure => simp [intOf]; omega
        · obtain rfl : nF = k := by omega
          have HF2 : l' = encE ev := by
            rw [HQ.out, List.take_of_length_le (by rw [LF.out]; exact Nat.le_refl _), encE]
            simp only [List.append_assoc]
          have HH := Go.Lib.hid HF2
          obtain ⟨A, c, hh, hr⟩ := aq.bx
          have k0 := cell_of_one hh
          have be := aq.be
          clear HF2 hh HQ aq
          go_wp2_with fail
          go_ret
          exact ⟨A, c, l', HH, rfl, hr, be⟩

end Go.Proofs.Ytjglpmakjampjaa.EdWalk
