/-
  Contract of layer 5: Put.
-/
import Derived.Test.YtjglpmakjampjaaEdEnc
namespace Go.Proofs.Ytjglpmakjampjaa.EdWalk
open Go.RowKit Go.Proofs.Ytjglpmakjampjaa.MemRow Go.Proofs.Ytjglpmakjampjaa.Ev Go.Proofs.Ytjglpmakjampjaa.NameMath Go.Proofs.Ytjglpmakjampjaa.NameWalk Go.Proofs.Ytjglpmakjampjaa.EvWalk Go.Proofs.Ytjglpmakjampjaa.NumMath Go.Proofs.Ytjglpmakjampjaa.NumMem Go.Proofs.Ytjglpmakjampjaa.NumWalk Go.Proofs.Ytjglpmakjampjaa.EcWalk

theorem encE_le {ev : Ev} (sm : Small ev) : (encE ev).length ≤ 20000 := by
  have h1 := head_le sm ev.tags.length
  have h2 := tail_le sm ev.fs.length
  rw [List.take_of_length_le (Nat.le_refl _)] at h1 h2
  simp only [encE, List.length_append] at h1 h2 ⊢
  omega
theorem encE_pos (e : Ev) : 1 ≤ (encE e).length := by
  have h := enc_pos (e.s.size : Int)
  unfold encE txt
  simp only [List.length_append]
  omega

set_option maxHeartbeats 4000000 in
set_option maxRecDepth 100000 in
theorem putE_any (A : Option Addr) (n cap : Nat) (l : List UInt8) (v : Value) (ev : Ev) (w : World) (h : Rd w A n cap l) (hl : l.length ≤ 1000000) (hv : IsEv w v ev) (hok : EvOk ev) :
    Calls Try.prog 10 #[.slice A n cap, v] w fun e w' => PutE l ev w e w' ∧ Below w.heap.size w w' := by
  have hv0 := hv
  obtain ⟨T, nT, cT, F, nF, cF, rfl, hT, hF⟩ := hv
  have LL := Go.Lib.hid h.len
  have B1 : Below w.heap.size w (w.alloc (.cells #[.string ev.s, .string ev.t, .slice T nT cT, .slice F nF cF] 26)) := (Below.refl _ _).alloc (Nat.le_refl _) _
  have E1 := EvAt.new w (.string ev.s) (.string ev.t) (.slice T nT cT) (.slice F nF cF)
  go_enter Try.func10, Try.ntmps10
  go_upto_region 1 with (fail)
  generalize w.alloc (.cells #[.string ev.s, .string ev.t, .slice T nT cT, .slice F nF cF] 26) = w1 at *
  have k0 := E1.c0
  have k1 := E1.c1
  have k2 := E1.c2
  have k3 := E1.c3
  go_wp2_with fail
  refine (evMay_any _ ev w1 (hv0.below B1) hok).mono ?_
  rintro e w2 ⟨rfl, b2⟩
  have E2 := E1.below b2 E1.lt
  have B2 := below_chain B1 b2
  clear k0 k1 k2 k3 E1 B1 b2
  by_cases h0 : mayE ev = 0
  case neg =>
    have m0 : (mayE ev != 0) = true := by rw [bne_iff_ne]; exact h0
    go_wp2_with fail
    go_ret2
    exact ⟨.inr ⟨h0, rfl⟩, B2⟩
  rw [h0]
  have H0 := Go.Lib.hid h0
  have sm := may_smallE h0
  have SM := Go.Lib.hid sm
  clear h0 sm
  have k0 := E2.c0
  have k1 := E2.c1
  have k2 := E2.c2
  have k3 := E2.c3
  go_wp2_with fail
  refine (encode_any _ ev w2 (hv0.below B2) SM.out).mono ?_
  rintro e w3 ⟨A3, c3, l3, H3, rfl, r3, b3⟩
  have B3 := below_chain B2 b3
  have r0 := h.below B3
  have h30 : 0 < n + l3.length := by rw [H3.out]; have := encE_pos ev; omega
  have h31 : n + l3.length ≤ 1000000000 := by rw [H3.out]; have := encE_le SM.out; have := LL.out; omega
  clear k0 k1 k2 k3 E2 B2 b3
  go_wp2_with fail
  have al : Below w3.heap.size w3 (w3.alloc (.cells #[.slice A n cap, .slice A3 l3.length c3] 22)) := (Below.refl _ _).alloc (Nat.le_refl _) _
  have q0 : (w3.alloc (.cells #[.slice A n cap, .slice A3 l3.length c3] 22)).cell? ⟨w3.heap.size, 0, none⟩ = some (.slice A n cap) := by rw [cell_of_row _ w3.heap.size 0 _ _ _ (heap_alloc_new w3 _)]; rfl
  have q1 : (w3.alloc (.cells #[.slice A n cap, .slice A3 l3.length c3] 22)).cell? ⟨w3.heap.size, 1, none⟩ = some (.slice A3 l3.length c3) := by rw [cell_of_row _ w3.heap.size 1 _ _ _ (heap_alloc_new w3 _)]; rfl
  refine (concat_any w3.heap.size A A3 n cap l3.length c3 l l3 _ q0 q1 (r0.below al) (r3.below al) h30 h31).mono ?_
  rintro e w4 ⟨A4, c4, rfl, o4, b4⟩
  have B4 := below_chain (below_chain B3 al) b4
  have hlen : n + l3.length = (l ++ encE ev).length := by rw [H3.out, List.length_append, LL.out]
  have hle := (below_chain B3 al).size
  have HL := Go.Lib.hid hlen
  have O4 := Go.Lib.hid o4
  clear q0 q1 r0 r3 hlen al
  go_wp2_with fail
  go_ret2
  refine ⟨.inl ⟨H0.out, _, rfl, ?_⟩, B4⟩
  have ho := O4.out
  have hx : l ++ l3 = l ++ encE ev := by rw [H3.out]
  rw [HL.out, hx] at ho
  rw [HL.out]
  exact Laid.lower ⟨A4, c4, rfl, ho⟩ hle

end Go.Proofs.Ytjglpmakjampjaa.EdWalk
