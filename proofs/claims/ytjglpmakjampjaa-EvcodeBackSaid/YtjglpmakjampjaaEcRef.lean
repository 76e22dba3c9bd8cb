/-
  Contracts of the document's answers of layer 5: Put.
-/
import Derived.Test.YtjglpmakjampjaaEcMath
import Derived.Test.YtjglpmakjampjaaNumRefPut
import Derived.Test.YtjglpmakjampjaaEvRefD
import Derived.Deep.RegionHeld
import Derived.Deep.DeepCutAuto
namespace Go.Proofs.Ytjglpmakjampjaa.EcWalk
open Go.RowKit Go.Proofs.Ytjglpmakjampjaa.MemRow Go.Proofs.Ytjglpmakjampjaa.Ev Go.Proofs.Ytjglpmakjampjaa.NameMath Go.Proofs.Ytjglpmakjampjaa.NameWalk Go.Proofs.Ytjglpmakjampjaa.EvWalk Go.Proofs.Ytjglpmakjampjaa.NumMath Go.Proofs.Ytjglpmakjampjaa.NumMem Go.Proofs.Ytjglpmakjampjaa.NumWalk

/-- Bytes that a call has laid, in a row of its own, as long as they are. -/
def Laid (w : World) (base : Nat) (v : Value) (l : List UInt8) : Prop := ∃ A cap, v = .slice A l.length cap ∧ Own w base 5 A l.length cap l
theorem Laid.below {w w' : World} {base : Nat} {v : Value} {l : List UInt8} (h : Laid w base v l) (hb : Below w.heap.size w w') : Laid w' base v l := by
  obtain ⟨A, cap, rfl, h⟩ := h
  exact ⟨A, cap, rfl, h.below hb⟩
theorem Laid.lower {w : World} {base base' : Nat} {v : Value} {l : List UInt8} (h : Laid w base v l) (hb : base' ≤ base) : Laid w base' v l := by
  obtain ⟨A, cap, rfl, h⟩ := h
  refine ⟨A, cap, rfl, h.1, ?_⟩
  rcases h.2 with h2 | ⟨g, c, cur, hv, hg, rest⟩
  · exact .inl h2
  · exact .inr ⟨g, c, cur, hv, Nat.le_trans hb hg, rest⟩

theorem refPut_laid (A : Option Addr) (n cap : Nat) (l : List UInt8) (x : Int) (w : World) (h : Rd w A n cap l) (hx : -9223372036854775808 ≤ x ∧ x ≤ 9223372036854775807) (hn : l.length ≤ 10000000) :
    Calls Try.prog 21 #[.slice A n cap, .int .i64 x] w fun e w' => ∃ v l', Hid (l' = l ++ enc x) ∧ e = .returned v ∧ Laid w' w.heap.size v l' ∧ Below w.heap.size w w' := by
  have hl := h.len
  refine (refPut_any A n cap l x w h hx.1 hx.2 (by omega)).mono ?_
  rintro e w' ⟨A', c', rfl, ho, hb⟩
  have e1 : n + (enc x).length = (l ++ enc x).length := by rw [List.length_append, hl]
  rw [e1] at ho ⊢
  exact ⟨_, _, Go.Lib.hid rfl, rfl, ⟨A', c', rfl, ho⟩, hb⟩
theorem refTxt_laid (A : Option Addr) (n cap : Nat) (l : List UInt8) (s : ByteArray) (w : World) (h : Rd w A n cap l) (hs : s.size ≤ 1000) (hn : l.length ≤ 10000000) :
    Calls Try.prog 26 #[.slice A n cap, .string s] w fun e w' => ∃ v l', Hid (l' = l ++ txt s) ∧ e = .returned v ∧ Laid w' w.heap.size v l' ∧ Below w.heap.size w w' := by
  have hl := h.len
  refine (refPutText_any A n cap l s w h (by omega) (by omega)).mono ?_
  rintro e w' ⟨A', c', rfl, ho, hb⟩
  have e1 : n + (enc (s.size : Int)).length + s.size = (l ++ txt s).length := by rw [List.length_append, txt_len, hl]; omega
  rw [e1, List.append_assoc] at ho
  rw [e1]
  exact ⟨_, _, Go.Lib.hid rfl, rfl, ⟨A', c', rfl, ho⟩, hb⟩

/-- What laying an event down comes to. -/
def PutE (l : List UInt8) (ev : Ev) (w : World) (e : Ending) (w' : World) : Prop :=
  (mayE ev = 0 ∧ ∃ v, e = .returned (.tuple #[v, .int .i64 0]) ∧ Laid w' w.heap.size v (l ++ encE ev)) ∨ (mayE ev ≠ 0 ∧ e = .returned (.tuple #[.slice none 0 0, .int .i64 (mayE ev)]))

theorem head_le {e : Ev} (h : Small e) (j : Nat) : (txt e.s ++ txt e.t ++ enc (e.tags.length : Int) ++ txts (e.tags.take j)).length ≤ 10000 := by
  have h1 := txt_le (s := e.s) (by have := h.s; omega)
  have h2 := txt_le (s := e.t) (by have := h.t; omega)
  have h3 := enc_le (e.tags.length : Int) (by omega) (by have := h.nt; omega)
  have h4 := txts_le (ss := e.tags.take j) fun x hx => by have := h.tags x (List.mem_of_mem_take hx); omega
  have h5 : (e.tags.take j).length ≤ 6 := by rw [List.length_take]; have := h.nt; omega
  simp only [List.length_append]
  omega
theorem tail_le {e : Ev} (h : Small e) (j : Nat) : (enc (e.fs.length : Int) ++ fldsE (e.fs.take j)).length ≤ 10000 := by
  have h3 := enc_le (e.fs.length : Int) (by omega) (by have := h.nf; omega)
  have h4 := fldsE_le (fs := e.fs.take j) (fun x hx => by have := h.names x (List.mem_of_mem_take hx); omega) (fun x hx => by have := h.nums x (List.mem_of_mem_take hx); omega)
  have h5 : (e.fs.take j).length ≤ 4 := by rw [List.length_take]; have := h.nf; omega
  simp only [List.length_append]
  omega

set_option maxHeartbeats 2000000 in
set_option maxRecDepth 100000 in
theorem refPutE_any (A : Option Addr) (n cap : Nat) (l : List UInt8) (v : Value) (ev : Ev) (w : World) (h : Rd w A n cap l) (hl : l.length ≤ 1000000) (hv : IsEv w v ev) (hok : EvOk ev) :
    Calls Try.prog 12 #[.slice A n cap, v] w fun e w' => PutE l ev w e w' ∧ Below w.heap.size w w' := by
  have hv0 := hv
  obtain ⟨T, nT, cT, F, nF, cF, rfl, hT, hF⟩ := hv
  have lT := RdS.len hT
  have lF := RdF.len hF
  have LT := Go.Lib.hid lT
  have LF := Go.Lib.hid lF
  have B1 : Below w.heap.size w (w.alloc (.cells #[.string ev.s, .string ev.t, .slice T nT cT, .slice F nF cF] 26)) := (Below.refl _ _).alloc (Nat.le_refl _) _
  have E1 := EvAt.new w (.string ev.s) (.string ev.t) (.slice T nT cT) (.slice F nF cF)
  clear lT lF
  go_enter Try.func12, Try.ntmps12
  go_upto_region 1 with (fail)
  generalize w.alloc (.cells #[.string ev.s, .string ev.t, .slice T nT cT, .slice F nF cF] 26) = w1 at *
  have k0 := E1.c0
  have k1 := E1.c1
  have k2 := E1.c2
  have k3 := E1.c3
  go_wp2_with fail
  refine (refMayE_any _ ev w1 (hv0.below B1) hok).mono ?_
  rintro e w2 ⟨rfl, b2⟩
  have E2 := E1.below b2 E1.lt
  have B2 := below_chain B1 b2
  clear k0 k1 k2 k3 E1 B1 b2
  by_cases h0 : mayE ev = 0
  case neg =>
    have m0 : (mayE ev != 0) = true := by rw [bne_iff_ne]; exact h0
    go_wp2_with fail
    go_ret2
    exact ⟨.inr ⟨h0, rfl⟩, B2⟩
  rw [h0]
  have H0 := Go.Lib.hid h0
  have sm := may_smallE h0
  have SM := Go.Lib.hid sm
  have hs := sm.s
  have ht := sm.t
  have hnt : nT ≤ 6 := by rw [← LT.out]; exact sm.nt
  have hnf : nF ≤ 4 := by rw [← LF.out]; exact sm.nf
  clear h0 sm
  have k0 := E2.c0
  have k1 := E2.c1
  have r2 := h.below B2
  have hs' : ev.s.size ≤ 1000 := by omega
  have ht' : ev.t.size ≤ 1000 := by omega
  have hl3' : (l ++ txt ev.s).length ≤ 10000000 := by have := txt_le hs'; rw [List.length_append]; omega
  have HL3 := Go.Lib.hid hl3'
  clear hl3'
  have hl0 : l.length ≤ 10000000 := by omega
  have b0 : Below w2.heap.size w2 w2.drew := bel_drew (Below.refl _ _)
  have r2d := r2.below b0
  go_wp2_with fail
  go_region_held (fun w' => w'.cell? ⟨w.heap.size, 0, none⟩ = some (.string ev.s) ∧ w'.cell? ⟨w.heap.size, 1, none⟩ = some (.string ev.t))
    (first | exact ⟨k0, k1⟩ | exact ⟨bcell b3 k0, bcell b3 k1⟩ | exact ⟨bcell b4 k0, bcell b4 k1⟩)
    (first
      | (go_at_call 26; refine (refTxt_laid A3 l3.length c3 l3 ev.t w3 o3.rd ht' hl3).mono ?_; rintro e w4 ⟨u4, l4, H4, rfl, ⟨A4, c4, rfl, o4⟩, bb⟩; have b4 := below_chain b3 bb; clear bb)
      | (go_at_call 26; refine (refTxt_laid A n cap l ev.s w2.drew r2d hs' hl0).mono ?_; rintro e w3 ⟨u3, l3, H3, rfl, ⟨A3, c3, rfl, o3⟩, bb⟩; have b3 := below_chain b0 bb; have hl3 : l3.length ≤ 10000000 := (by rw [H3.out]; exact HL3.out); clear bb))
  have E4 := E2.below b4 E2.lt
  have B4 := below_chain B2 b4
  have hl4 : l4.length ≤ 10000000 := by
    have h1 := txt_le hs'
    have h2 := txt_le ht'
    rw [H4.out, H3.out]
    simp only [List.length_append]
    omega
  have hxT : -9223372036854775808 ≤ (nT : Int) ∧ (nT : Int) ≤ 9223372036854775807 := by omega
  have k2 := E4.c2
  clear k0 k1 b3 b4 b0 r2d r2 hl3 HL3 E2 B2
  go_wp2_with fail
  refine (refPut_laid A4 l4.length c4 l4 (nT : Int) w4 o4.rd hxT hl4).mono ?_
  rintro e w5 ⟨u5, l5, H5, rfl, L5, b5⟩
  have E5 := E4.below b5 E4.lt
  have B5 := below_chain B4 b5
  have L5' := Laid.lower L5 B4.size
  have e5 : l5 = l ++ (txt ev.s ++ txt ev.t ++ enc (ev.tags.length : Int) ++ txts (ev.tags.take 0)) := by
    rw [H5.out, H4.out, H3.out, LT.out]
    simp [txts, List.append_assoc]
  have HE5 := Go.Lib.hid e5
  clear k2 E4 B4 b5 L5 e5 hl4 hxT o4 o3
  obtain ⟨A5, c5, rfl, o5⟩ := L5'
  go_wp2_with fail
  go_loopw [7, 8] (fun o i wr => ∃ (j : Nat) (A' : Option Addr) (c' : Nat) (l' : List UInt8), j ≤ nT ∧ o = .slice A' l'.length c' ∧ i = .int .i64 j ∧ Hid (l' = l ++ (txt ev.s ++ txt ev.t ++ enc (ev.tags.length : Int) ++ txts (ev.tags.take j))) ∧ Own wr w.heap.size 5 A' l'.length c' l' ∧
      EvAt wr w.heap.size (.string ev.s) (.string ev.t) (.slice T nT cT) (.slice F nF cF) ∧ Below w.heap.size w wr) (fun _ i _ => nT - (intOf i).toNat)
  case atStart => exact ⟨0, A5, c5, l5, Nat.zero_le _, rfl, rfl, HE5, o5, E5, B5⟩
  case round =>
    obtain ⟨j, A', c', l', hj, rfl, rfl, HQ, oq, Eq, Bq⟩ := hrel
    have k2 := Eq.c2
    have hlq : l'.length ≤ 10000000 := by
      have h1 := head_le SM.out j
      rw [HQ.out, List.length_append]
      omega
    by_cases hlt : j < nT
    · obtain ⟨bt, ot, rfl, _, kt⟩ := RdS.at_ (RdC.below hT Bq) (by omega)
      have ka1 := kt j hlt
      have i1 : (j : Int) < nT := by omega
      have hjl : j < ev.tags.length := by rw [LT.out]; exact hlt
      have ta := take_get ev.tags j hjl
      have hy := SM.out.tags _ (mem_getD ev.tags j hjl)
      have TA := Go.Lib.hid ta
      clear kt ta hjl
      generalize ev.tags.getD j ByteArray.empty = y at *
      have hy' : y.size ≤ 1000 := by omega
      go_wp2_with fail
      refine (refTxt_laid A' l'.length c' l' y wr oq.rd hy' hlq).mono ?_
      rintro e w6 ⟨u6, l6, H6, rfl, L6, b6⟩
      obtain ⟨A6, c6, rfl, o6⟩ := Laid.lower L6 Bq.size
      have E6 := Eq.below b6 Eq.lt
      have B6 := below_chain Bq b6
      have H7 : Hid (l6 = l ++ (txt ev.s ++ txt ev.t ++ enc (ev.tags.length : Int) ++ txts (ev.tags.take (j + 1)))) := Go.Lib.hid (by rw [H6.out, HQ.out, TA.out, txts_snoc]; simp only [List.append_assoc])
      clear k2 ka1 L6
      go_wp2_with fail
      go_roundw
      case rel => exact ⟨j + 1, A6, c6, l6, by omega, rfl, by go_num, H7, o6, E6, B6⟩
      case measure => simp [intOf]; omega
    · obtain rfl : nT = j := by omega
      have hxF : -9223372036854775808 ≤ (nF : Int) ∧ (nF : Int) ≤ 9223372036854775807 := by omega
      have k3 := Eq.c3
      go_wp2_with fail
      refine (refPut_laid A' l'.length c' l' (nF : Int) wr oq.rd hxF hlq).mono ?_
      rintro e w7 ⟨u7, l7, H7, rfl, L7, b7⟩
      obtain ⟨A7, c7, rfl, o7⟩ := Laid.lower L7 Bq.size
      have E7 := Eq.below b7 Eq.lt
      have B7 := below_chain Bq b7
      have H8 : Hid (l7 = l ++ (txt ev.s ++ txt ev.t ++ enc (ev.tags.length : Int) ++ txts ev.tags ++ (enc (ev.fs.length : Int) ++ fldsE (ev.fs.take 0)))) := Go.Lib.hid (by
        rw [H7.out, HQ.out, List.take_of_length_le (by rw [LT.out]; exact Nat.le_refl _), LF.out]
        simp [fldsE, List.append_assoc])
      clear k2 k3 L7 hxF hlq HQ oq
      go_wp2_with fail
      go_loopw [7, 9] (fun o i wq => ∃ (k : Nat) (A' : Option Addr) (c' : Nat) (l' : List UInt8), k ≤ nF ∧ o = .slice A' l'.length c' ∧ i = .int .i64 k ∧ Hid (l' = l ++ (txt ev.s ++ txt ev.t ++ enc (ev.tags.length : Int) ++ txts ev.tags ++ (enc (ev.fs.length : Int) ++ fldsE (ev.fs.take k)))) ∧ Own wq w.heap.size 5 A' l'.length c' l' ∧
          EvAt wq w.heap.size (.string ev.s) (.string ev.t) (.slice T nT cT) (.slice F nF cF) ∧ Below w.heap.size w wq) (fun _ i _ => nF - (intOf i).toNat)
      case atStart => exact ⟨0, A7, c7, l7, Nat.zero_le _, rfl, rfl, H8, o7, E7, B7⟩
      case round =>
        obtain ⟨k, A', c', l', hk, rfl, rfl, HQ, oq, Eq, Bq⟩ := hrel
        have k3 := Eq.c3
        have hlq : l'.length ≤ 1100000 := by
          have h1 := head_le SM.out ev.tags.length
          have h2 := tail_le SM.out k
          rw [List.take_of_length_le (Nat.le_refl _)] at h1
          rw [HQ.out, List.length_append, List.length_append]
          omega
        by_cases hlt : k < nF
        · obtain ⟨bf, of, rfl, _, kf⟩ := RdF.at_ (RdC.below hF Bq) (by omega)
          obtain ⟨y1, y2⟩ := kf k hlt
          have i1 : (k : Int) < nF := by omega
          have hkl : k < ev.fs.length := by rw [LF.out]; exact hlt
          have ta := fs_take ev.fs k hkl
          have hy := SM.out.names _ (fs_mem ev.fs k hkl)
          have hz := SM.out.nums _ (fs_mem ev.fs k hkl)
          have TA := Go.Lib.hid ta
          clear kf ta hkl
          generalize ev.fs.getD k (ByteArray.empty, 0) = f at *
          obtain ⟨nm, nz⟩ := f
          simp only at y1 y2 hy hz
          have hy' : nm.size ≤ 1000 := by omega
          have hz' : -9223372036854775808 ≤ nz ∧ nz ≤ 9223372036854775807 := by omega
          have hl2 : l'.length ≤ 10000000 := by omega
          have b0 : Below wr.heap.size wr wr.drew := bel_drew (Below.refl _ _)
          have rd := oq.rd.below b0
          go_wp2_with fail
          go_region_held (fun w' => w'.cell? ⟨w.heap.size, 3, none⟩ = some (.slice (some ⟨bf, of, none⟩) nF cF) ∧ w'.cell? ⟨bf, of + k * 2, none⟩ = some (.string nm) ∧ w'.cell? ⟨bf, of + k * 2 + 1, none⟩ = some (.int .i64 nz))
            (first | exact ⟨k3, y1, y2⟩ | exact ⟨bcell b8 k3, bcell b8 y1, bcell b8 y2⟩ | exact ⟨bcell b9 k3, bcell b9 y1, bcell b9 y2⟩)
            (first
              | (go_at_call 21; refine (refPut_laid A8 l8.length c8 l8 nz w8 o8.rd hz' hl8).mono ?_; rintro e w9 ⟨u9, l9, H9, rfl, ⟨A9, c9, rfl, o9⟩, bb⟩; have b9 := below_chain b8 bb; clear bb)
              | (go_at_call 26; refine (refTxt_laid A' l'.length c' l' nm wr.drew rd hy' hl2).mono ?_; rintro e w8 ⟨u8, l8, H8', rfl, ⟨A8, c8, rfl, o8⟩, bb⟩; have b8 := below_chain b0 bb; have hl8 : l8.length ≤ 10000000 := (by have h1 := txt_le hy'; rw [H8'.out, List.length_append]; omega); clear bb))
          have E9 := Eq.below b9 Eq.lt
          have B9 := below_chain Bq b9
          obtain ⟨A9', c9', e9, o9'⟩ := Laid.lower (base' := w.heap.size) ⟨A9, c9, rfl, o9⟩ (Nat.le_trans Bq.size b8.size)
          injection e9 with e9a e9b e9c
          subst e9a e9c
          have H10 : Hid (l9 = l ++ (txt ev.s ++ txt ev.t ++ enc (ev.tags.length : Int) ++ txts ev.tags ++ (enc (ev.fs.length : Int) ++ fldsE (ev.fs.take (k + 1))))) := Go.Lib.hid (by rw [H9.out, H8'.out, HQ.out, TA.out, fldsE_snoc, fldE]; simp only [List.append_assoc])
          clear k3 y1 y2 b0 rd
          go_wp2_with fail
          go_roundw
          case rel => exact ⟨k + 1, A9, c9, l9, by omega, rfl, by go_num, H10, o9', E9, B9⟩
          case measure => simp [intOf]; omega
        · obtain rfl : nF = k := by omega
          have HF2 : l' = l ++ encE ev := by
            rw [HQ.out, List.take_of_length_le (by rw [LF.out]; exact Nat.le_refl _), encE]
            simp only [List.append_assoc]
          go_wp2_with fail
          go_ret2
          exact ⟨.inl ⟨H0.out, _, rfl, by rw [← HF2]; exact ⟨_, _, rfl, oq⟩⟩, Bq⟩

end Go.Proofs.Ytjglpmakjampjaa.EcWalk
