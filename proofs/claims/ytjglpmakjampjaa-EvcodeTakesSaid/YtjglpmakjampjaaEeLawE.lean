/-
  Walk of a statement of layer 5: EvcodeTakes.
-/
import Derived.Test.YtjglpmakjampjaaEeCom
import Derived.Test.YtjglpmakjampjaaEdAll
import Derived.Test.YtjglpmakjampjaaEdRefAll
import Derived.Deep.DeepCutAuto
namespace Go.Proofs.Ytjglpmakjampjaa.EeLaw
open Go.RowKit Go.WideShapes Go.ChangeShapes Go.Proofs.Ytjglpmakjampjaa.MemRow Go.Proofs.Ytjglpmakjampjaa.Ev Go.Proofs.Ytjglpmakjampjaa.NameMath Go.Proofs.Ytjglpmakjampjaa.NameWalk Go.Proofs.Ytjglpmakjampjaa.EvWalk Go.Proofs.Ytjglpmakjampjaa.NumMath Go.Proofs.Ytjglpmakjampjaa.NumMem Go.Proofs.Ytjglpmakjampjaa.NumWalk Go.Proofs.Ytjglpmakjampjaa.EcWalk Go.Proofs.Ytjglpmakjampjaa.EdWalk Go.Proofs.Ytjglpmakjampjaa.Open

/-! ### What is taken, in one way -/
def tkE (l : List UInt8) : Ev := match takeE l false with | some p => p.1 | none => noEv
def tkC (l : List UInt8) : Int := match takeE l false with | some _ => 0 | none => 2
def tkL (l : List UInt8) : List UInt8 := match takeE l false with | some p => p.2 | none => []
theorem tk_some {l l' : List UInt8} {e : Ev} (h : takeE l false = some (e, l')) : tkE l = e ∧ tkC l = 0 ∧ tkL l = l' := by
  unfold tkE tkC tkL
  rw [h]
  exact ⟨rfl, rfl, rfl⟩
theorem tk_none {l : List UInt8} (h : takeE l false = none) : tkE l = noEv ∧ tkC l = 2 := by
  unfold tkE tkC
  rw [h]
  exact ⟨rfl, rfl⟩
/-- What taking comes to, whichever reader it is. -/
def TkOne (R : TypeId) (l : List UInt8) (g : Nat) (w : World) (e : Ending) (w' : World) : Prop :=
  ∃ (T : Option Addr) (nT cT : Nat) (F : Option Addr) (nF cF : Nat), e = .returned (.tuple #[.agg #[.string (tkE l).s, .string (tkE l).t, .slice T nT cT, .slice F nF cF], .int .i64 (tkC l)]) ∧ RdS w' T nT cT (tkE l).tags ∧ RdF w' F nF cF (tkE l).fs ∧ Hid (tkC l = 0 → Rdr w' R g (tkL l) false) ∧ w.grownBy w' (some g)
theorem takeN_one {l : List UInt8} {g : Nat} {w w' : World} {e : Ending} (h : TakeN l g w e w') : TkOne 60 l g w e w' := by
  obtain ⟨hg, h⟩ := h
  rcases h with ⟨ev, l', ht, v, rfl, ⟨T, nT, cT, F, nF, cF, rfl, o1, o2⟩, _, hr⟩ | ⟨ht, rfl, _⟩
  · obtain ⟨e1, e2, e3⟩ := tk_some ht
    refine ⟨T, nT, cT, F, nF, cF, by rw [e1, e2], by rw [e1]; exact OwnC.rd o1, by rw [e1]; exact OwnC.rd o2, Go.Lib.hid (fun _ => by rw [e3]; exact hr), hg⟩
  · obtain ⟨e1, e2⟩ := tk_none ht
    exact ⟨none, 0, 0, none, 0, 0, by rw [e1, e2]; rfl, by rw [e1]; exact RdC.nil _, by rw [e1]; exact RdC.nil _, Go.Lib.hid (fun h => by rw [e2] at h; cases h), hg⟩
theorem takeOut_one {l : List UInt8} {g : Nat} {w w' : World} {e : Ending} (h : TakeOut l false g w e w') : TkOne 39 l g w e w' := by
  obtain ⟨hg, h⟩ := h
  rcases h with ⟨ev, l', ht, v, rfl, ⟨T, nT, cT, F, nF, cF, rfl, o1, o2⟩, hr⟩ | ⟨ht, rfl, _⟩
  · obtain ⟨e1, e2, e3⟩ := tk_some ht
    refine ⟨T, nT, cT, F, nF, cF, by rw [e1, e2], by rw [e1]; exact OwnC.rd o1, by rw [e1]; exact OwnC.rd o2, Go.Lib.hid (fun _ => by rw [e3]; exact hr), hg⟩
  · obtain ⟨e1, e2⟩ := tk_none ht
    exact ⟨none, 0, 0, none, 0, 0, by rw [e1, e2]; rfl, by rw [e1]; exact RdC.nil _, by rw [e1]; exact RdC.nil _, Go.Lib.hid (fun h => by rw [e2] at h; cases h), hg⟩
def alE (l : List UInt8) : List Ev := match allF l with | some es => es | none => []
def alC (l : List UInt8) : Int := match allF l with | some _ => 0 | none => 2
theorem all_one {l : List UInt8} {w w' : World} {e : Ending} (h : AllOut l w e w') : ∃ A m c, e = .returned (.tuple #[.slice A m c, .int .i64 (alC l)]) ∧ RdE w' A m c (alE l) ∧ Below w.heap.size w w' := by
  obtain ⟨hb, h⟩ := h
  unfold alE alC
  rcases h with ⟨es, A, m, c, h1, rfl, hr⟩ | ⟨h1, rfl⟩
  · rw [h1]
    exact ⟨A, m, c, rfl, hr.rd, hb⟩
  · rw [h1]
    exact ⟨none, 0, 0, rfl, RdE.nil _, hb⟩
theorem left_n (g : Nat) (l : List UInt8) (bad : Bool) (n : Nat) (w : World) (h : Rdr w 60 g l bad) (hn : l.length = n) :
    Calls Try.prog 20 #[.pointer (some ⟨g, 0, none⟩)] w fun e w' => e = .returned (.int .i64 (n : Int)) ∧ w = w' := by
  subst hn
  exact left_any g l bad w h

set_option maxHeartbeats 8000000 in
set_option maxRecDepth 100000 in
theorem takes_walk (A : Option Addr) (n cap : Nat) (l : List UInt8) (w : World) (hl : Rd w A n cap l) :
    Calls Try.prog 4 #[.slice A n cap] w fun e w' => e = .returned (.bool true) ∧ Below w.heap.size w w' := by
  have hcap := hl.le_cap
  have hmax := hl.2.2.1
  unfold maxLen at hmax
  go_enter Try.func4, Try.ntmps4
  go_wp2_with fail
  refine (shown5_any _).mono ?_
  rintro e w1 ⟨rfl, B1⟩
  have r1 := hl.below B1
  go_upto_if 19 with (fail)
  go_cut [0] (fun v wx => w1 = wx ∧ ∃ A' n' cap' l', v = .slice A' n' cap' ∧ n' ≤ 600 ∧ Rd w1 A' n' cap' l')
  case first =>
    go_wp2_with fail
    · go_meet
      exact ⟨rfl, _, _, _, _, rfl, by omega, r1.first (by omega)⟩
    · go_meet
      exact ⟨rfl, _, _, _, _, rfl, by omega, r1⟩
  case rest =>
    obtain ⟨rfl, A', n', cap', l', rfl, hn', r2⟩ := hcut
    clear r1 hl hcap hmax
    have hln := r2.len
    have hll : l'.length ≤ 100000000 := by omega
    have HLL := Go.Lib.hid hll
    have ba : Below w1.heap.size w1 (w1.alloc (.cells #[] 5)) := (Below.refl _ _).alloc (Nat.le_refl _) _
    have r3 := r2.below ba
    clear hln hll
    go_wp2_with (first
      | (at_builtin; refine wpList_append_fresh rfl (.tmp 22) (.tmp 23) 22 rfl 5 Try.underlying22 u8_info rfl rfl (Own.empty w1 5 (Nat.le_refl _)) r3 (by omega) ba.size w1 ba ?_; intro A5 c5 w5 o5 b5))
    have B5 := below_chain B1 b5
    refine (newReader_any _ _ _ _ _ o5.rd (by omega)).mono ?_
    rintro e w6 ⟨g, rfl, hg, hr6, hb6⟩
    have B6 := below_chain B5 hb6
    have hg' : w.heap.size ≤ g := Nat.le_trans B5.size hg
    have r6 := (r2.below b5).below hb6
    clear r2 r3 ba o5 b5 B5 hb6 B1 hg
    go_wp2_with fail
    refine (take5_any g l' w6 hr6).mono ?_
    rintro e w7 ht
    obtain ⟨T7, m7, c7, F7, k7, d7, rfl, x1, x2, HR, gg⟩ := takeN_one ht
    have B7 := B6.grown gg B6.size (by rintro q ⟨rfl⟩; exact hg')
    have r7 := r6.grown gg hr6.no_byte
    have gl := hr6.lt
    have gl7 : g < w7.heap.size := Nat.lt_of_lt_of_le gl gg.size
    clear ht gg hr6 B6 r6 gl
    go_upto_region 8 with (fail)
    have al : Below w7.heap.size w7 (w7.alloc (.cells #[.string (tkE l').s, .string (tkE l').t, .slice T7 m7 c7, .slice F7 k7 d7] 26)) := (Below.refl _ _).alloc (Nat.le_refl _) _
    have E8 := EvAt.new w7 (.string (tkE l').s) (.string (tkE l').t) (.slice T7 m7 c7) (.slice F7 k7 d7)
    have B8 := below_chain B7 al
    have r8 := r7.below al
    have x1' : RdS _ _ _ _ _ := RdC.below x1 al
    have x2' : RdF _ _ _ _ _ := RdC.below x2 al
    have HR8 := Go.Lib.hid (fun h => (HR.out h).below al)
    have gl8 := Nat.lt_of_lt_of_le gl7 al.size
    generalize w7.alloc (.cells #[.string (tkE l').s, .string (tkE l').t, .slice T7 m7 c7, .slice F7 k7 d7] 26) = w8 at *
    generalize w7.heap.size = gx at *
    clear x1 x2 HR B7 r7 al gl7
    have bc : Below w8.heap.size w8 (w8.alloc (.cells #[] 5)) := (Below.refl _ _).alloc (Nat.le_refl _) _
    have r9 := r8.below bc
    go_upto_region 9 with (at_builtin; refine wpList_append_fresh rfl (.tmp 33) (.tmp 34) 22 rfl 5 Try.underlying22 u8_info rfl rfl (Own.empty w8 5 (Nat.le_refl _)) r9 (by omega) bc.size w8 bc ?_; intro A9 c9 w9 o9 b9)
    have be : Below w9.heap.size w9 (w9.alloc (.cells #[.slice A9 n' c9, .bool false] 39)) := (Below.refl _ _).alloc (Nat.le_refl _) _
    have hy : Rdr (w9.alloc (.cells #[.slice A9 n' c9, .bool false] 39)) 39 w9.heap.size l' false := ⟨_, _, _, heap_alloc_new w9 _, o9.rd.below be, fun a h => by subst h; exact (World.ownsRow.lt o9 a.block rfl).2⟩
    have b810 := below_chain b9 be
    have s89 := b9.size
    generalize w9.alloc (.cells #[.slice A9 n' c9, .bool false] 39) = w10 at *
    generalize w9.heap.size = g2 at *
    clear o9 b9 r9 bc be
    go_wp2_with fail
    refine (refTake_any g2 l' false w10 hy).mono ?_
    rintro e w11 ht
    obtain ⟨T11, m11, c11, F11, k11, d11, rfl, y1, y2, HY, gg⟩ := takeOut_one ht
    have b811 := b810.grown gg b810.size (by rintro q ⟨rfl⟩; exact s89)
    have B11 := below_chain B8 b811
    have r11 := r8.below b811
    have x11 : RdS _ _ _ _ _ := RdC.below x1' b811
    have x12 : RdF _ _ _ _ _ := RdC.below x2' b811
    have HR11 := Go.Lib.hid (fun h => (HR8.out h).below b811)
    have E11 := E8.below b811 E8.lt
    clear ht gg hy b810 b811 B8 r8 x1' x2' HR8 E8
    have al : Below w11.heap.size w11 (w11.alloc (.cells #[.string (tkE l').s, .string (tkE l').t, .slice T11 m11 c11, .slice F11 k11 d11] 26)) := (Below.refl _ _).alloc (Nat.le_refl _) _
    have D12 := EvAt.new w11 (.string (tkE l').s) (.string (tkE l').t) (.slice T11 m11 c11) (.slice F11 k11 d11)
    have E12 := E11.below al E11.lt
    have B12 := below_chain B11 al
    have r12 := r11.below al
    have x121 : RdS _ _ _ _ _ := RdC.below x11 al
    have x122 : RdF _ _ _ _ _ := RdC.below x12 al
    have y121 : RdS _ _ _ _ _ := RdC.below y1 al
    have y122 : RdF _ _ _ _ _ := RdC.below y2 al
    have HR12 := Go.Lib.hid (fun h => (HR11.out h).below al)
    have HY12 := Go.Lib.hid (fun h => (HY.out h).below al)
    go_upto_region 10 with (fail)
    generalize w11.alloc (.cells #[.string (tkE l').s, .string (tkE l').t, .slice T11 m11 c11, .slice F11 k11 d11] 26) = w12 at *
    generalize w11.heap.size = gy at *
    clear B11 r11 x11 x12 HR11 E11 y1 y2 HY al
    have bc : Below w12.heap.size w12 (w12.alloc (.cells #[] 5)) := (Below.refl _ _).alloc (Nat.le_refl _) _
    have r13 := r12.below bc
    go_wp2_with (at_builtin; refine wpList_append_fresh rfl (.tmp 44) (.tmp 45) 22 rfl 5 Try.underlying22 u8_info rfl rfl (Own.empty w12 5 (Nat.le_refl _)) r13 (by omega) bc.size w12 bc ?_; intro A13 c13 w13 o13 b13)
    refine (all5_any A13 n' c13 l' w13 o13.rd HLL.out).mono ?_
    rintro e w14 ho
    obtain ⟨P14, m14, q14, rfl, v14, b14⟩ := all_one ho
    have b1214 := below_chain b13 b14
    have r14 := r12.below b1214
    clear ho o13 r13 bc b13 b14
    go_wp2_with fail
    refine (refAll_any A' n' cap' l' w14 r14 HLL.out).mono ?_
    rintro e w15 ho
    obtain ⟨P15, m15, q15, rfl, v15, b15⟩ := all_one ho
    have b1215 := below_chain b1214 b15
    have v15' := v14.below b15
    have B15 := below_chain B12 b1215
    have E15 := E12.below b1215 E12.lt
    have D15 := D12.below b1215 D12.lt
    have x151 : RdS _ _ _ _ _ := RdC.below x121 b1215
    have x152 : RdF _ _ _ _ _ := RdC.below x122 b1215
    have y151 : RdS _ _ _ _ _ := RdC.below y121 b1215
    have y152 : RdF _ _ _ _ _ := RdC.below y122 b1215
    have HR15 := Go.Lib.hid (fun h => (HR12.out h).below b1215)
    have HY15 := Go.Lib.hid (fun h => (HY12.out h).below b1215)
    clear ho r14 b1214 b15 v14 b1215 E12 D12 x121 x122 y121 y122 HR12 HY12 B12 r12
    have k0 := E15.c0
    have k1 := E15.c1
    have k2 := E15.c2
    have k3 := E15.c3
    have j0 := D15.c0
    have j1 := D15.c1
    have j2 := D15.c2
    have j3 := D15.c3
    go_wp2_with fail
    refine (refSame_any _ _ (tkE l') (tkE l') w15 ⟨_, _, _, _, _, _, rfl, x151, x152⟩ ⟨_, _, _, _, _, _, rfl, y151, y152⟩).mono ?_
    rintro e w16 ⟨rfl, b16⟩
    rw [sameB_refl]
    have B16 := below_chain B15 b16
    have v16 := v15.below b16
    have v16' := v15'.below b16
    have HR16 := Go.Lib.hid (fun h => (HR15.out h).below b16)
    have HY16 := Go.Lib.hid (fun h => (HY15.out h).below b16)
    clear k0 k1 k2 k3 j0 j1 j2 j3 E15 D15 x151 x152 y151 y152 b16 B15 v15 v15' HR15 HY15
    go_wp2_with fail
    refine (refSameAll_any P14 P15 m14 m15 q14 q15 (alE l') (alE l') w16 v16' v16).mono ?_
    rintro e w17 ⟨R, hR, rfl, b17⟩
    obtain rfl : R = true := hR.2 rfl
    have B17 := below_chain B16 b17
    have HR17 := Go.Lib.hid (fun h => (HR16.out h).below b17)
    have HY17 := Go.Lib.hid (fun h => (HY16.out h).below b17)
    clear b17 hR B16 v16 v16' HR16 HY16
    generalize alC l' = ca at *
    by_cases h0 : tkC l' = 0
    · have ra := HR17.out h0
      have rb := HY17.out h0
      rw [h0]
      clear HR17 HY17 h0
      generalize tkL l' = tl at *
      obtain ⟨Az, nz, cz, hh, hrr, _⟩ := rb
      obtain ⟨z0, z1, _⟩ := two_cell hh
      have hlen := hrr.len
      have HLEN := Go.Lib.hid hlen
      clear hh hrr hlen
      go_wp2_with fail
      go_quiet (first | (go_at_call 20; exact still (left_n g tl false nz _ ra HLEN.out)))
      go_wp2_with fail
      go_ret
      exact ⟨by simp, bel_drewN B17 _⟩
    · have m0 : (tkC l' != 0) = true := by rw [bne_iff_ne]; exact h0
      clear HR17 HY17 h0
      generalize tkC l' = ct at *
      go_wp2_with fail
      go_quiet (fail)
      go_wp2_with fail
      go_ret
      exact ⟨by simp, bel_drewN B17 _⟩

section
variable {H : Type} {enc : TypeId × Value → H}
set_option maxRecDepth 100000 in
theorem takes_main (W : World) (base : Nat) (v0 : Value) {d0 : DataW H} {p0 : List MemPlace} (o0 : Value.okWide Try.prog W .any base 22 v0)
    (h0 : DataW.Trod enc Try.prog W 0 (fun _ => true) true 22 v0 d0 p0) :
    Calls Try.prog 4 #[v0] W fun e W' => e = .returned (.bool true) ∧ Below W.heap.size W W' := by
  obtain ⟨A, n, cap, l, rfl, hl⟩ := op_bytes Try.underlying22 Try.underlying5 (by kernel_rfl) o0 h0
  exact takes_walk A n cap l W hl
end

end Go.Proofs.Ytjglpmakjampjaa.EeLaw
