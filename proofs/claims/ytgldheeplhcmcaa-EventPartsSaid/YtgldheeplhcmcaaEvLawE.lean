/-
  Walks of the statements of layer 4: EventParts.
-/
import Derived.Test.YtgldheeplhcmcaaEvStep
import Derived.Test.YtgldheeplhcmcaaEvMath
import Derived.Deep.RegionHeldLaw
import Derived.Deep.DeepCutAuto
import Derived.Deep.RegionHeld
namespace Go.Proofs.Ytgldheeplhcmcaa.EvLaw
open Go.RowKit Go.WideShapes Go.ChangeShapes Go.Proofs.Ytgldheeplhcmcaa.MemRow Go.Proofs.Ytgldheeplhcmcaa.Ev Go.Proofs.Ytgldheeplhcmcaa.NameMath Go.Proofs.Ytgldheeplhcmcaa.NameWalk Go.Proofs.Ytgldheeplhcmcaa.EvWalk Go.Proofs.Ytgldheeplhcmcaa.Open

theorem EvOk.tagsOf {e : Ev} (h : EvOk e) {ts : List ByteArray} (ht : ∀ x ∈ ts, x ∈ e.tags) : EvOk ⟨e.s, e.t, ts, e.fs⟩ := ⟨h.s, h.t, fun x hx => h.tags x (ht x hx), h.names, h.nums⟩
theorem EvOk.fsOf {e : Ev} (h : EvOk e) {fs : List (ByteArray × Int)} (ht : ∀ x ∈ fs, x ∈ e.fs) : EvOk ⟨e.s, e.t, e.tags, fs⟩ := ⟨h.s, h.t, h.tags, fun x hx => h.names x (ht x hx), fun x hx => h.nums x (ht x hx)⟩
theorem mem_parts {α : Type} {l : List α} {i j : Nat} {x : α} (h : x ∈ l.take i ++ l.drop j) : x ∈ l := by
  rcases List.mem_append.1 h with h | h
  · exact List.mem_of_mem_take h
  · exact List.mem_of_mem_drop h

set_option maxHeartbeats 16000000 in
set_option maxRecDepth 100000 in
theorem parts_walk (v : Value) (ea : Ev) (i k : Int) (w : World) (hv : IsEv w v ea) (hok : EvOk ea) (ki : -9223372036854775808 ≤ i ∧ i ≤ 9223372036854775807) (kk : -9223372036854775808 ≤ k ∧ k ≤ 9223372036854775807) :
    Calls Try.prog 6 #[v, .int .i64 i, .int .i64 k] w fun e w' => e = .returned (.bool true) ∧ Below w.heap.size w w' := by
  have hv0 := hv
  have hfo := fewE_ok hok
  have hft := fewE_tags ea
  have hff := fewE_fs ea
  obtain ⟨A0, n0, ca0, B0, m0, cb0, rfl, _, _⟩ := hv
  have st := BoxAt.new w (.string ea.s) (.string ea.t) (.slice A0 n0 ca0) (.slice B0 m0 cb0)
  go_enter Try.func6, Try.ntmps6
  go_wp2_with fail
  generalize w.alloc (.cells #[.string ea.s, .string ea.t, .slice A0 n0 ca0, .slice B0 m0 cb0] 25) = w1 at *
  refine (shown_any _).mono ?_
  rintro e w2 ⟨rfl, b2⟩
  have st2 := st.below b2
  obtain ⟨k0, k1, k2, k3⟩ := st2.cells
  clear st b2
  go_wp2_with fail
  refine (few_any _ ea w _ hv0).mono ?_
  rintro e w3 ⟨u1, rfl, hv1, b3⟩
  have st3 := st2.below b3
  clear st2 b3 k0 k1 k2 k3
  have hv2 := hv1
  obtain ⟨C0, p0, cc0, D0, q0, cd0, rfl, rC, rD⟩ := hv1
  have st4 := st3.set0 (.string (fewE ea).s) (.string (fewE ea).t) (.slice C0 p0 cc0) (.slice D0 q0 cd0)
  obtain ⟨k0, k1, k2, k3⟩ := st3.cells
  have z0 := st3.e0.frozen 0
  have z1 := st3.e0.frozen 1
  have z2 := st3.e0.frozen 2
  have z3 := st3.e0.frozen 3
  clear st3
  go_wp2_with fail
  generalize ((((w3.setCell ⟨w.heap.size, 0, none⟩ (.string (fewE ea).s)).setCell ⟨w.heap.size, 1, none⟩ (.string (fewE ea).t)).setCell ⟨w.heap.size, 2, none⟩ (.slice C0 p0 cc0)).setCell ⟨w.heap.size, 3, none⟩ (.slice D0 q0 cd0)) = w4 at *
  clear k0 k1 k2 k3 z0 z1 z2 z3
  have ht : (fewE ea).tags.length ≤ 1000 := by omega
  have hf : (fewE ea).fs.length ≤ 1000 := by omega
  have hft12 : (fewE ea).tags.length ≤ 12 := hft
  have hff12 : (fewE ea).fs.length ≤ 12 := hff
  generalize fewE ea = fa at *
  clear hft hff
  have hp12 : p0 ≤ 12 := by rw [← RdS.len rC]; exact hft12
  have hq12 : q0 ≤ 12 := by rw [← RdF.len rD]; exact hff12
  have LC := Go.Lib.hid (RdS.len rC)
  have LD := Go.Lib.hid (RdF.len rD)
  clear hft12 hff12
  refine (evMay_any _ fa w4 (hv2.below st4.bel) hfo).mono ?_
  rintro e w5 ⟨rfl, b5⟩
  have stw5 := st4.below b5
  clear st4 b5
  by_cases h0 : mayE fa = 0
  case neg =>
    have m0 : (mayE fa != 0) = true := by rw [bne_iff_ne]; exact h0
    clear h0
    go_wp2_with fail
    go_ret
    exact ⟨rfl, stw5.bel⟩
  rw [h0]
  have H0 := Go.Lib.hid h0
  clear h0
  have k2 := stw5.e0.c2
  go_upto_region 5 with (fail)
  go_cut [30] (fun b wx => b = .bool (decide (0 ≤ i ∧ i < (p0 : Int))) ∧ w5 = wx)
  case first =>
    by_cases hi : 0 ≤ i
    · by_cases hi2 : i < (p0 : Int)
      · go_wp2_with fail
        go_meet
        exact ⟨by rw [decide_eq_true ⟨hi, hi2⟩], rfl⟩
      · go_wp2_with fail
        go_meet
        exact ⟨by rw [decide_eq_false (by omega)], rfl⟩
    · go_wp2_with fail
      go_meet
      exact ⟨by rw [decide_eq_false (by omega)], rfl⟩
  case rest =>
  obtain ⟨rfl, rfl⟩ := hcut
  generalize hB : decide (0 ≤ i ∧ i < (p0 : Int)) = bI at *
  have HBI := Go.Lib.hid hB
  clear hB k2
  go_upto_if 30 with (fail)
  go_cut [8, 9] (fun _ _ wx => BoxAt wx w (.string fa.s) (.string fa.t) (.slice C0 p0 cc0) (.slice D0 q0 cd0))
  case first =>
    cases bI with
    | false =>
      go_wp2_with fail
      go_meet
      exact stw5
    | true =>
      obtain ⟨hi, hi2⟩ := of_decide_eq_true HBI.out
      obtain ⟨iN, rfl⟩ := Int.eq_ofNat_of_zero_le hi
      have hiN : iN < p0 := by omega
      clear HBI hi ki
      have e1 : ((iN + 1 : Nat) : Int) = (iN : Int) + 1 := by omega
      have wi : IntKind.i64.wrap ((iN : Int) + 1) = (iN : Int) + 1 := IntWalk.i64_in _ (by omega)
      obtain ⟨qa, da⟩ := slice_hi (P := Try.prog) 22 9 Try.underlying22 elem_strs string_size rC (m := iN) (by omega)
      rw [strs_take] at da
      have qa' : ∀ W, (Instr.slice 22 (.slice C0 p0 cc0) none (some (.int .i64 (iN : Int))) none).run Try.prog W = .ok (.slice C0 iN cc0) W := qa
      obtain ⟨Ab, qb, db⟩ := slice_lo (P := Try.prog) 22 9 Try.underlying22 elem_strs string_size rC (m := iN + 1) (by omega)
      rw [strs_drop] at db
      rw [e1] at qb
      have qb' : ∀ W, (Instr.slice 22 (.slice C0 p0 cc0) (some (.int .i64 ((iN : Int) + 1))) none none).run Try.prog W = .ok (.slice Ab (p0 - (iN + 1)) (cc0 - (iN + 1))) W := qb
      obtain ⟨qc, dc⟩ := slice_hi (P := Try.prog) 22 9 Try.underlying22 elem_strs string_size rC (m := iN + 1) (by omega)
      rw [strs_take] at dc
      rw [e1] at qc
      have qc' : ∀ W, (Instr.slice 22 (.slice C0 p0 cc0) none (some (.int .i64 ((iN : Int) + 1))) none).run Try.prog W = .ok (.slice C0 (iN + 1) cc0) W := qc
      obtain ⟨Ad, qd, dd⟩ := slice_lo (P := Try.prog) 22 9 Try.underlying22 elem_strs string_size rC (m := iN) (by omega)
      rw [strs_drop] at dd
      have qd' : ∀ W, (Instr.slice 22 (.slice C0 p0 cc0) (some (.int .i64 (iN : Int))) none none).run Try.prog W = .ok (.slice Ad (p0 - iN) (cc0 - iN)) W := qd
      clear qa qb qc qd
      have k0 := stw5.e0.c0
      have k1 := stw5.e0.c1
      have k2 := stw5.e0.c2
      have k3 := stw5.e0.c3
      have ltw5 := stw5.e0.lt
      go_upto_region 7 with (fail)
      have al : Below w5.heap.size w5 (w5.alloc (.cells #[.string fa.s, .string fa.t, .slice C0 p0 cc0, .slice D0 q0 cd0] 25)) := (Below.refl _ _).alloc (Nat.le_refl _) _
      have EBw6 := EvAt.new w5 (.string fa.s) (.string fa.t) (.slice C0 p0 cc0) (.slice D0 q0 cd0)
      have stw6 := stw5.below al
      generalize w5.alloc (.cells #[.string fa.s, .string fa.t, .slice C0 p0 cc0, .slice D0 q0 cd0] 25) = w6 at *
      clear al k0 k1 k2 k3
      have k2 := stw6.e0.c2
      have ltB := EBw6.lt
      have al1 : Below w6.heap.size w6 (w6.alloc (.cells #[] 9)).drew := ((Below.refl _ _).alloc (Nat.le_refl _) _).drew
      have o1 : OwnC 1 (w6.alloc (.cells #[] 9)).drew w6.heap.size 9 (some ⟨w6.heap.size, 0, none⟩) 0 0 [] := OwnC.empty w6 9 (Nat.le_refl _)
      have d1 := RdC.below da (below_chain stw6.bel al1)
      have k2a := bcell al1 k2
      have hne : w.heap.size ≠ w5.heap.size := by omega
      have g1 : iN ≤ maxLen := by unfold maxLen; omega
      have g2 : iN * 16 ≤ 140737488355328 := by omega
      have g3 : (iN + (p0 - (iN + 1))) ≤ maxLen := by unfold maxLen; omega
      have g4 : (iN + (p0 - (iN + 1))) * 16 ≤ 140737488355328 := by omega
      go_wp2_with fail
      go_region_held_law (fun w' => w'.cell? ⟨w.heap.size, 2, none⟩ = some (.slice C0 p0 cc0))
        (first | exact k2 | exact k2a | exact k2b | exact k2c | exact k2d)
        (first
          | (refine step_copy_cells (by rfl) (.tmp 32) (.tmp 36) 22 rfl 9 (.string ByteArray.empty) 16 Try.underlying22 string_info rfl (by decide) rfl rfl o1 d1 (strs_one _) g1 g2 al1.size al1 ?_; intro A10 c10 w10 o10 b10; have k2b := bcell b10 k2; have d10 := RdC.below db (below_chain stw6.bel b10); (try go_simp))
          | (refine step_more_cells (by rfl) (.tmp 37) (.tmp 42) 22 rfl 9 (.string ByteArray.empty) 16 Try.underlying22 string_info rfl (by decide) rfl rfl o10 d10 (strs_one _) g3 g4 b10.size b10 ?_; intro AL cL w12 o12 b12; have k2c := bcell b12 k2; have z2 := (EBw6.below b12 EBw6.lt).frozen 2; have kk := (EBw6.below b12 EBw6.lt).c2; have k2d := cell_far (g := w5.heap.size) (i := 2) (x := .slice AL (iN + (p0 - (iN + 1))) cL) k2c hne; (try go_simp)))
      have stw7 : BoxAt (w12.setCell ⟨w5.heap.size, 2, none⟩ (.slice AL (iN + (p0 - (iN + 1))) cL)) w (.string fa.s) (.string fa.t) (.slice C0 p0 cc0) (.slice D0 q0 cd0) := ⟨(stw6.below b12).e0.far (by omega) _, (stw6.below b12).bel.setCell (by show w.heap.size ≤ w5.heap.size; omega) _⟩
      have Ew7 := (EBw6.below b12 EBw6.lt).set2 (.slice AL (iN + (p0 - (iN + 1))) cL)
      have Rw7 : RdC 1 (w12.setCell ⟨w5.heap.size, 2, none⟩ (.slice AL (iN + (p0 - (iN + 1))) cL)) AL (iN + (p0 - (iN + 1))) cL (strs (fa.tags.take iN ++ fa.tags.drop (iN + 1))) := by
        have h := OwnC.rd o12
        rw [← strs_append] at h
        exact RdC.off h (fun a hA => by have := (OwnC.lt o12 a hA).1; omega) _
      have Rw7_lt' : ∀ a, AL = some a → a.block < w12.heap.size := fun a hA => (OwnC.lt o12 a hA).2
      generalize hww7 : w12.setCell ⟨w5.heap.size, 2, none⟩ (.slice AL (iN + (p0 - (iN + 1))) cL) = w7 at *
      have sw7 : w7.heap.size = w12.heap.size := by rw [← hww7]; simp [World.setCell]
      have Rw7_lt : ∀ a, AL = some a → a.block < w7.heap.size := fun a hA => by rw [sw7]; exact Rw7_lt' a hA
      have Sw7 : w6.heap.size ≤ w7.heap.size := by rw [sw7]; have := b12.size; omega
      clear hww7 sw7 Rw7_lt' k2 k2a k2b k2c k2d z2 kk o12 b12 o10 b10 d10 o1 d1 al1 g1 g2 g3 g4 EBw6 stw6
      have k0 := stw7.e0.c0
      have k1 := stw7.e0.c1
      have k2 := stw7.e0.c2
      have k3 := stw7.e0.c3
      have ltw7 := stw7.e0.lt
      go_upto_region 9 with (fail)
      have al : Below w7.heap.size w7 (w7.alloc (.cells #[.string fa.s, .string fa.t, .slice C0 p0 cc0, .slice D0 q0 cd0] 25)) := (Below.refl _ _).alloc (Nat.le_refl _) _
      have EBw8 := EvAt.new w7 (.string fa.s) (.string fa.t) (.slice C0 p0 cc0) (.slice D0 q0 cd0)
      have stw8 := stw7.below al
      have Ew7' := EvAt.below Ew7 al (EvAt.lt Ew7)
      clear Ew7
      have Ew7 := Ew7'
      clear Ew7'
      have Rw7' := RdC.below Rw7 al
      clear Rw7
      have Rw7 := Rw7'
      clear Rw7'
      generalize w7.alloc (.cells #[.string fa.s, .string fa.t, .slice C0 p0 cc0, .slice D0 q0 cd0] 25) = w8 at *
      clear al k0 k1 k2 k3
      have k2 := stw8.e0.c2
      have ltB := EBw8.lt
      have al1 : Below w8.heap.size w8 (w8.alloc (.cells #[] 9)).drew := ((Below.refl _ _).alloc (Nat.le_refl _) _).drew
      have o1 : OwnC 1 (w8.alloc (.cells #[] 9)).drew w8.heap.size 9 (some ⟨w8.heap.size, 0, none⟩) 0 0 [] := OwnC.empty w8 9 (Nat.le_refl _)
      have d1 := RdC.below dc (below_chain stw8.bel al1)
      have k2a := bcell al1 k2
      have hne : w.heap.size ≠ w7.heap.size := by omega
      have g1 : (iN + 1) ≤ maxLen := by unfold maxLen; omega
      have g2 : (iN + 1) * 16 ≤ 140737488355328 := by omega
      have g3 : ((iN + 1) + (p0 - iN)) ≤ maxLen := by unfold maxLen; omega
      have g4 : ((iN + 1) + (p0 - iN)) * 16 ≤ 140737488355328 := by omega
      go_wp2_with fail
      go_region_held_law (fun w' => w'.cell? ⟨w.heap.size, 2, none⟩ = some (.slice C0 p0 cc0))
        (first | exact k2 | exact k2a | exact k2b | exact k2c | exact k2d)
        (first
          | (refine step_copy_cells (by rfl) (.tmp 46) (.tmp 51) 22 rfl 9 (.string ByteArray.empty) 16 Try.underlying22 string_info rfl (by decide) rfl rfl o1 d1 (strs_one _) g1 g2 al1.size al1 ?_; intro A10 c10 w10 o10 b10; have k2b := bcell b10 k2; have d10 := RdC.below dd (below_chain stw8.bel b10); (try go_simp))
          | (refine step_more_cells (by rfl) (.tmp 52) (.tmp 56) 22 rfl 9 (.string ByteArray.empty) 16 Try.underlying22 string_info rfl (by decide) rfl rfl o10 d10 (strs_one _) g3 g4 b10.size b10 ?_; intro AM cM w12 o12 b12; have k2c := bcell b12 k2; have z2 := (EBw8.below b12 EBw8.lt).frozen 2; have kk := (EBw8.below b12 EBw8.lt).c2; have k2d := cell_far (g := w7.heap.size) (i := 2) (x := .slice AM ((iN + 1) + (p0 - iN)) cM) k2c hne; (try go_simp)))
      have stw9 : BoxAt (w12.setCell ⟨w7.heap.size, 2, none⟩ (.slice AM ((iN + 1) + (p0 - iN)) cM)) w (.string fa.s) (.string fa.t) (.slice C0 p0 cc0) (.slice D0 q0 cd0) := ⟨(stw8.below b12).e0.far (by omega) _, (stw8.below b12).bel.setCell (by show w.heap.size ≤ w7.heap.size; omega) _⟩
      have Ew9 := (EBw8.below b12 EBw8.lt).set2 (.slice AM ((iN + 1) + (p0 - iN)) cM)
      have Rw9 : RdC 1 (w12.setCell ⟨w7.heap.size, 2, none⟩ (.slice AM ((iN + 1) + (p0 - iN)) cM)) AM ((iN + 1) + (p0 - iN)) cM (strs (fa.tags.take (iN + 1) ++ fa.tags.drop iN)) := by
        have h := OwnC.rd o12
        rw [← strs_append] at h
        exact RdC.off h (fun a hA => by have := (OwnC.lt o12 a hA).1; omega) _
      have Ew7' := EvAt.far (i := 2) (b := w7.heap.size) (EvAt.below Ew7 b12 (EvAt.lt Ew7)) (by have := EvAt.lt Ew7; omega) (.slice AM ((iN + 1) + (p0 - iN)) cM)
      clear Ew7
      have Ew7 := Ew7'
      clear Ew7'
      have Rw7' := RdC.off (RdC.below Rw7 b12) (fun a hA => by have := Rw7_lt a hA; omega) (.slice AM ((iN + 1) + (p0 - iN)) cM) (g := w7.heap.size) (i := 2)
      clear Rw7
      have Rw7 := Rw7'
      clear Rw7'
      have Rw9_lt' : ∀ a, AM = some a → a.block < w12.heap.size := fun a hA => (OwnC.lt o12 a hA).2
      generalize hww9 : w12.setCell ⟨w7.heap.size, 2, none⟩ (.slice AM ((iN + 1) + (p0 - iN)) cM) = w9 at *
      have sw9 : w9.heap.size = w12.heap.size := by rw [← hww9]; simp [World.setCell]
      have Rw9_lt : ∀ a, AM = some a → a.block < w9.heap.size := fun a hA => by rw [sw9]; exact Rw9_lt' a hA
      have Sw9 : w8.heap.size ≤ w9.heap.size := by rw [sw9]; have := b12.size; omega
      clear hww9 sw9 Rw9_lt' k2 k2a k2b k2c k2d z2 kk o12 b12 o10 b10 d10 o1 d1 al1 g1 g2 g3 g4 EBw8 stw8
      obtain ⟨ba, oa, rfl, _, ka⟩ := RdS.at_ (RdC.below rC stw9.bel) (by omega)
      have ka1 := ka iN hiN
      have hnot := up_not ((mayE_zero fa).1 H0.out).2.2.2.2.2.2.2.1 (i := iN) (by rw [LC.out]; exact hiN)
      have i1 : (iN : Int) < p0 := by omega
      clear ka
      generalize fa.tags.getD iN ByteArray.empty = y at *
      have hhas : hasB (fa.tags.take iN ++ fa.tags.drop (iN + 1)) y = false := by
        cases h : hasB (fa.tags.take iN ++ fa.tags.drop (iN + 1)) y with
        | false => rfl
        | true => exact absurd (hasB_mem.1 h) hnot
      have HH := Go.Lib.hid hhas
      have HML := Go.Lib.hid (mayE_less H0.out iN)
      have hmm := mayE_more (e := fa) (i := iN) (by rw [LC.out]; exact hiN)
      generalize hM : mayE ⟨fa.s, fa.t, fa.tags.take (iN + 1) ++ fa.tags.drop iN, fa.fs⟩ = M at hmm
      have HMM := Go.Lib.hid hM
      have m0 : (M == 0) = false := by rw [beq_eq_false_iff_ne]; exact hmm
      clear hmm hM hhas hnot
      have okl : EvOk ⟨fa.s, fa.t, fa.tags.take iN ++ fa.tags.drop (iN + 1), fa.fs⟩ := EvOk.tagsOf hfo fun x hx => mem_parts hx
      have okm : EvOk ⟨fa.s, fa.t, fa.tags.take (iN + 1) ++ fa.tags.drop iN, fa.fs⟩ := EvOk.tagsOf hfo fun x hx => mem_parts hx
      have jl : IsEv w9 (.agg #[.string fa.s, .string fa.t, .slice AL (iN + (p0 - (iN + 1))) cL, .slice D0 q0 cd0]) ⟨fa.s, fa.t, fa.tags.take iN ++ fa.tags.drop (iN + 1), fa.fs⟩ := ⟨_, _, _, _, _, _, rfl, Rw7, RdC.below rD stw9.bel⟩
      have jm : IsEv w9 (.agg #[.string fa.s, .string fa.t, .slice AM ((iN + 1) + (p0 - iN)) cM, .slice D0 q0 cd0]) ⟨fa.s, fa.t, fa.tags.take (iN + 1) ++ fa.tags.drop iN, fa.fs⟩ := ⟨_, _, _, _, _, _, rfl, Rw9, RdC.below rD stw9.bel⟩
      have C : ∀ w', Below w9.heap.size w9 w' → (w'.cell? ⟨w5.heap.size, 0, none⟩ = some (.string fa.s) ∧ w'.cell? ⟨w5.heap.size, 1, none⟩ = some (.string fa.t) ∧ w'.cell? ⟨w5.heap.size, 2, none⟩ = some (.slice AL (iN + (p0 - (iN + 1))) cL) ∧ w'.cell? ⟨w5.heap.size, 3, none⟩ = some (.slice D0 q0 cd0) ∧ w'.cell? ⟨w7.heap.size, 0, none⟩ = some (.string fa.s) ∧ w'.cell? ⟨w7.heap.size, 1, none⟩ = some (.string fa.t) ∧ w'.cell? ⟨w7.heap.size, 2, none⟩ = some (.slice AM ((iN + 1) + (p0 - iN)) cM) ∧ w'.cell? ⟨w7.heap.size, 3, none⟩ = some (.slice D0 q0 cd0) ∧ w'.cell? ⟨w.heap.size, 2, none⟩ = some (.slice (some ⟨ba, oa, none⟩) p0 cc0) ∧ w'.cell? ⟨ba, oa + iN, none⟩ = some (.string y)) := fun w' hb' => ⟨bcell hb' Ew7.c0, bcell hb' Ew7.c1, bcell hb' Ew7.c2, bcell hb' Ew7.c3, bcell hb' Ew9.c0, bcell hb' Ew9.c1, bcell hb' Ew9.c2, bcell hb' Ew9.c3, bcell hb' stw9.e0.c2, bcell hb' ka1⟩
      have HC := Go.Lib.hid C
      have q0' : Below w9.heap.size w9 w9.drew := bel_drew (Below.refl _ _)
      have stw := stw9
      clear C ka1
      go_wp2_with fail
      first
        | (go_region_held (fun w' => w'.cell? ⟨w5.heap.size, 0, none⟩ = some (.string fa.s) ∧ w'.cell? ⟨w5.heap.size, 1, none⟩ = some (.string fa.t) ∧ w'.cell? ⟨w5.heap.size, 2, none⟩ = some (.slice AL (iN + (p0 - (iN + 1))) cL) ∧ w'.cell? ⟨w5.heap.size, 3, none⟩ = some (.slice D0 q0 cd0) ∧ w'.cell? ⟨w7.heap.size, 0, none⟩ = some (.string fa.s) ∧ w'.cell? ⟨w7.heap.size, 1, none⟩ = some (.string fa.t) ∧ w'.cell? ⟨w7.heap.size, 2, none⟩ = some (.slice AM ((iN + 1) + (p0 - iN)) cM) ∧ w'.cell? ⟨w7.heap.size, 3, none⟩ = some (.slice D0 q0 cd0) ∧ w'.cell? ⟨w.heap.size, 2, none⟩ = some (.slice (some ⟨ba, oa, none⟩) p0 cc0) ∧ w'.cell? ⟨ba, oa + iN, none⟩ = some (.string y))
            (first | exact HC.out _ q0' | exact HC.out _ q1' | exact HC.out _ q2' | exact HC.out _ q3')
            (first
              | (go_at_call 19; refine (evHas_any _ ⟨fa.s, fa.t, fa.tags.take iN ++ fa.tags.drop (iN + 1), fa.fs⟩ y _ (jl.below q2')).mono ?_; rintro e v3 ⟨rfl, bb⟩; rw [HH.out]; have q3' := below_chain q2' bb; clear bb)
              | (go_at_call 14; refine (evMay_any _ ⟨fa.s, fa.t, fa.tags.take (iN + 1) ++ fa.tags.drop iN, fa.fs⟩ _ (jm.below q1') okm).mono ?_; rintro e v2 ⟨rfl, bb⟩; rw [HMM.out]; have q2' := below_chain q1' bb; clear bb)
              | (go_at_call 14; refine (evMay_any _ ⟨fa.s, fa.t, fa.tags.take iN ++ fa.tags.drop (iN + 1), fa.fs⟩ _ (jl.below q0') okl).mono ?_; rintro e v1 ⟨rfl, bb⟩; rw [HML.out]; have q1' := below_chain q0' bb; clear bb)))
        | fail
      all_goals go_wp2_with fail
      all_goals go_meet
      all_goals exact stw.below q3'
  case rest =>
  obtain ⟨wk, rfl⟩ : ∃ wk : World, wk = wc := ⟨_, rfl⟩
  have stwk := hcut
  clear hcut stw5 HBI
  have k3 := stwk.e0.c3
  go_upto_region 12 with (fail)
  go_cut [84] (fun b wx => b = .bool (decide (0 ≤ k ∧ k < (q0 : Int))) ∧ wk = wx)
  case first =>
    by_cases hi : 0 ≤ k
    · by_cases hi2 : k < (q0 : Int)
      · go_wp2_with fail
        go_meet
        exact ⟨by rw [decide_eq_true ⟨hi, hi2⟩], rfl⟩
      · go_wp2_with fail
        go_meet
        exact ⟨by rw [decide_eq_false (by omega)], rfl⟩
    · go_wp2_with fail
      go_meet
      exact ⟨by rw [decide_eq_false (by omega)], rfl⟩
  case rest =>
  obtain ⟨rfl, rfl⟩ := hcut
  generalize hB : decide (0 ≤ k ∧ k < (q0 : Int)) = bK at *
  have HBK := Go.Lib.hid hB
  clear hB k3
  cases bK with
  | false =>
    go_wp2_with fail
    go_ret
    exact ⟨rfl, stwk.bel⟩
  | true =>
    obtain ⟨hi, hi2⟩ := of_decide_eq_true HBK.out
    obtain ⟨kN, rfl⟩ := Int.eq_ofNat_of_zero_le hi
    have hkN : kN < q0 := by omega
    clear HBK hi kk
    have e1 : ((kN + 1 : Nat) : Int) = (kN : Int) + 1 := by omega
    have wi : IntKind.i64.wrap ((kN : Int) + 1) = (kN : Int) + 1 := IntWalk.i64_in _ (by omega)
    obtain ⟨qa, da⟩ := slice_hi (P := Try.prog) 23 38 Try.underlying23 elem_flds field_size rD (m := kN) (by omega)
    rw [flds_take] at da
    have qa' : ∀ W, (Instr.slice 23 (.slice D0 q0 cd0) none (some (.int .i64 (kN : Int))) none).run Try.prog W = .ok (.slice D0 kN cd0) W := qa
    obtain ⟨Ab, qb, db⟩ := slice_lo (P := Try.prog) 23 38 Try.underlying23 elem_flds field_size rD (m := kN + 1) (by omega)
    rw [flds_drop] at db
    rw [e1] at qb
    have qb' : ∀ W, (Instr.slice 23 (.slice D0 q0 cd0) (some (.int .i64 ((kN : Int) + 1))) none none).run Try.prog W = .ok (.slice Ab (q0 - (kN + 1)) (cd0 - (kN + 1))) W := qb
    clear qa qb
    have k0 := stwk.e0.c0
    have k1 := stwk.e0.c1
    have k2 := stwk.e0.c2
    have k3 := stwk.e0.c3
    have ltwk := stwk.e0.lt
    go_upto_region 14 with (fail)
    have al : Below wk.heap.size wk (wk.alloc (.cells #[.string fa.s, .string fa.t, .slice C0 p0 cc0, .slice D0 q0 cd0] 25)) := (Below.refl _ _).alloc (Nat.le_refl _) _
    have EBwd := EvAt.new wk (.string fa.s) (.string fa.t) (.slice C0 p0 cc0) (.slice D0 q0 cd0)
    have stwd := stwk.below al
    generalize wk.alloc (.cells #[.string fa.s, .string fa.t, .slice C0 p0 cc0, .slice D0 q0 cd0] 25) = wd at *
    clear al k0 k1 k2 k3
    have k2 := stwd.e0.c3
    have ltB := EBwd.lt
    have al1 : Below wd.heap.size wd (wd.alloc (.cells #[] 38)).drew := ((Below.refl _ _).alloc (Nat.le_refl _) _).drew
    have o1 : OwnC 2 (wd.alloc (.cells #[] 38)).drew wd.heap.size 38 (some ⟨wd.heap.size, 0, none⟩) 0 0 [] := OwnC.empty wd 38 (Nat.le_refl _)
    have d1 := RdC.below da (below_chain stwd.bel al1)
    have k2a := bcell al1 k2
    have hne : w.heap.size ≠ wk.heap.size := by omega
    have g1 : kN ≤ maxLen := by unfold maxLen; omega
    have g2 : kN * 24 ≤ 140737488355328 := by omega
    have g3 : (kN + (q0 - (kN + 1))) ≤ maxLen := by unfold maxLen; omega
    have g4 : (kN + (q0 - (kN + 1))) * 24 ≤ 140737488355328 := by omega
    go_wp2_with fail
    go_region_held_law (fun w' => w'.cell? ⟨w.heap.size, 3, none⟩ = some (.slice D0 q0 cd0))
      (first | exact k2 | exact k2a | exact k2b | exact k2c | exact k2d)
      (first
        | (refine step_copy_cells (by rfl) (.tmp 86) (.tmp 90) 23 rfl 38 (.agg #[.string ⟨#[]⟩, .int .i64 0]) 24 Try.underlying23 field_info rfl (by decide) rfl rfl o1 d1 (flds_one _) g1 g2 al1.size al1 ?_; intro A10 c10 w10 o10 b10; have k2b := bcell b10 k2; have d10 := RdC.below db (below_chain stwd.bel b10); (try go_simp))
        | (refine step_more_cells (by rfl) (.tmp 91) (.tmp 96) 23 rfl 38 (.agg #[.string ⟨#[]⟩, .int .i64 0]) 24 Try.underlying23 field_info rfl (by decide) rfl rfl o10 d10 (flds_one _) g3 g4 b10.size b10 ?_; intro AF cF w12 o12 b12; have k2c := bcell b12 k2; have z2 := (EBwd.below b12 EBwd.lt).frozen 3; have kk := (EBwd.below b12 EBwd.lt).c3; have k2d := cell_far (g := wk.heap.size) (i := 3) (x := .slice AF (kN + (q0 - (kN + 1))) cF) k2c hne; (try go_simp)))
    have stwe : BoxAt (w12.setCell ⟨wk.heap.size, 3, none⟩ (.slice AF (kN + (q0 - (kN + 1))) cF)) w (.string fa.s) (.string fa.t) (.slice C0 p0 cc0) (.slice D0 q0 cd0) := ⟨(stwd.below b12).e0.far (by omega) _, (stwd.below b12).bel.setCell (by show w.heap.size ≤ wk.heap.size; omega) _⟩
    have Ewe := (EBwd.below b12 EBwd.lt).set3 (.slice AF (kN + (q0 - (kN + 1))) cF)
    have Rwe : RdC 2 (w12.setCell ⟨wk.heap.size, 3, none⟩ (.slice AF (kN + (q0 - (kN + 1))) cF)) AF (kN + (q0 - (kN + 1))) cF (flds (fa.fs.take kN ++ fa.fs.drop (kN + 1))) := by
      have h := OwnC.rd o12
      rw [← flds_append] at h
      exact RdC.off h (fun a hA => by have := (OwnC.lt o12 a hA).1; omega) _
    have Rwe_lt' : ∀ a, AF = some a → a.block < w12.heap.size := fun a hA => (OwnC.lt o12 a hA).2
    generalize hwwe : w12.setCell ⟨wk.heap.size, 3, none⟩ (.slice AF (kN + (q0 - (kN + 1))) cF) = we at *
    have swe : we.heap.size = w12.heap.size := by rw [← hwwe]; simp [World.setCell]
    have Rwe_lt : ∀ a, AF = some a → a.block < we.heap.size := fun a hA => by rw [swe]; exact Rwe_lt' a hA
    have Swe : wd.heap.size ≤ we.heap.size := by rw [swe]; have := b12.size; omega
    clear hwwe swe Rwe_lt' k2 k2a k2b k2c k2d z2 kk o12 b12 o10 b10 d10 o1 d1 al1 g1 g2 g3 g4 EBwd stwd
    obtain ⟨bb, ob, rfl, _, kb⟩ := RdF.at_ (RdC.below rD stwe.bel) (by omega)
    obtain ⟨y1, y2⟩ := kb kN hkN
    have i1 : (kN : Int) < q0 := by omega
    have hup := ((mayE_zero fa).1 H0.out).2.2.2.2.2.2.2.2
    have hval := value_up hup (fs_mem fa.fs kN (by rw [LD.out]; exact hkN))
    have hnot := up_not hup (i := kN) (by rw [List.length_map, LD.out]; exact hkN)
    have hnm : (fa.fs.map (·.1)).getD kN ByteArray.empty = (fa.fs.getD kN (ByteArray.empty, 0)).1 := by
      have hl : kN < fa.fs.length := by rw [LD.out]; exact hkN
      simp [List.getD, List.getElem?_eq_getElem hl]
    rw [hnm, ← List.map_take, ← List.map_drop, ← List.map_append] at hnot
    have hnone := value_none hnot
    clear kb hup hnot hnm
    generalize fa.fs.getD kN (ByteArray.empty, 0) = f at *
    obtain ⟨nm, nz⟩ := f
    simp only at y1 y2 hval hnone
    have HV := Go.Lib.hid hval
    have HN := Go.Lib.hid hnone
    have HMF := Go.Lib.hid (mayE_lessF H0.out kN)
    have hzz : (nz != nz) = false := by simp
    have okf : EvOk ⟨fa.s, fa.t, fa.tags, fa.fs.take kN ++ fa.fs.drop (kN + 1)⟩ := EvOk.fsOf hfo fun x hx => mem_parts hx
    have jl : IsEv we (.agg #[.string fa.s, .string fa.t, .slice C0 p0 cc0, .slice AF (kN + (q0 - (kN + 1))) cF]) ⟨fa.s, fa.t, fa.tags, fa.fs.take kN ++ fa.fs.drop (kN + 1)⟩ := ⟨_, _, _, _, _, _, rfl, RdC.below rC stwe.bel, Rwe⟩
    have ja := hv2.below stwe.bel
    have C : ∀ w', Below we.heap.size we w' → (w'.cell? ⟨wk.heap.size, 0, none⟩ = some (.string fa.s) ∧ w'.cell? ⟨wk.heap.size, 1, none⟩ = some (.string fa.t) ∧ w'.cell? ⟨wk.heap.size, 2, none⟩ = some (.slice C0 p0 cc0) ∧ w'.cell? ⟨wk.heap.size, 3, none⟩ = some (.slice AF (kN + (q0 - (kN + 1))) cF) ∧ w'.cell? ⟨w.heap.size, 3, none⟩ = some (.slice (some ⟨bb, ob, none⟩) q0 cd0) ∧ w'.cell? ⟨bb, ob + kN * 2, none⟩ = some (.string nm)) := fun w' hb' => ⟨bcell hb' Ewe.c0, bcell hb' Ewe.c1, bcell hb' Ewe.c2, bcell hb' Ewe.c3, bcell hb' stwe.e0.c3, bcell hb' y1⟩
    have C2 : ∀ w', Below we.heap.size we w' → (w'.cell? ⟨w.heap.size, 0, none⟩ = some (.string fa.s) ∧ w'.cell? ⟨w.heap.size, 1, none⟩ = some (.string fa.t) ∧ w'.cell? ⟨w.heap.size, 2, none⟩ = some (.slice C0 p0 cc0) ∧ w'.cell? ⟨w.heap.size, 3, none⟩ = some (.slice (some ⟨bb, ob, none⟩) q0 cd0) ∧ w'.cell? ⟨bb, ob + kN * 2, none⟩ = some (.string nm)) := fun w' hb' => ⟨bcell hb' stwe.e0.c0, bcell hb' stwe.e0.c1, bcell hb' stwe.e0.c2, bcell hb' stwe.e0.c3, bcell hb' y1⟩
    have HC := Go.Lib.hid C
    have HC2 := Go.Lib.hid C2
    have q0' : Below we.heap.size we we.drew := bel_drew (Below.refl _ _)
    have BW := stwe.bel
    have en := Ewe
    have e3 := stwe.e0.c3
    have HY2 := Go.Lib.hid y2
    have HE3 := Go.Lib.hid e3
    clear C C2 y1 y2 hval hnone e3 stwk
    go_wp2_with fail
    first
      | (go_region_held (fun w' => w'.cell? ⟨wk.heap.size, 0, none⟩ = some (.string fa.s) ∧ w'.cell? ⟨wk.heap.size, 1, none⟩ = some (.string fa.t) ∧ w'.cell? ⟨wk.heap.size, 2, none⟩ = some (.slice C0 p0 cc0) ∧ w'.cell? ⟨wk.heap.size, 3, none⟩ = some (.slice AF (kN + (q0 - (kN + 1))) cF) ∧ w'.cell? ⟨w.heap.size, 3, none⟩ = some (.slice (some ⟨bb, ob, none⟩) q0 cd0) ∧ w'.cell? ⟨bb, ob + kN * 2, none⟩ = some (.string nm))
          (first | exact HC.out _ q0' | exact HC.out _ q1')
          (first
            | (go_at_call 16; refine (evValue_any _ ⟨fa.s, fa.t, fa.tags, fa.fs.take kN ++ fa.fs.drop (kN + 1)⟩ nm _ (jl.below q0')).mono ?_; rintro e v1 ⟨rfl, b1⟩; rw [HN.out]; have q1' := below_chain q0' b1; clear b1)))
      | fail
    have q1d := bel_drew q1'
    go_wp2_with fail
    first
      | (go_region_held (fun w' => w'.cell? ⟨w.heap.size, 0, none⟩ = some (.string fa.s) ∧ w'.cell? ⟨w.heap.size, 1, none⟩ = some (.string fa.t) ∧ w'.cell? ⟨w.heap.size, 2, none⟩ = some (.slice C0 p0 cc0) ∧ w'.cell? ⟨w.heap.size, 3, none⟩ = some (.slice (some ⟨bb, ob, none⟩) q0 cd0) ∧ w'.cell? ⟨bb, ob + kN * 2, none⟩ = some (.string nm))
          (first | exact HC2.out _ q1d | exact HC2.out _ q2')
          (first
            | (go_at_call 16; refine (evValue_any _ fa nm _ (ja.below q1d)).mono ?_; rintro e v2 ⟨rfl, b2⟩; rw [HV.out]; have q2' := below_chain q1d b2; clear b2)))
      | fail
    obtain ⟨n0, n1, n2, n3, _, _⟩ := HC.out _ q2'
    go_wp2_with fail
    refine (evMay_any _ ⟨fa.s, fa.t, fa.tags, fa.fs.take kN ++ fa.fs.drop (kN + 1)⟩ _ (jl.below q2') okf).mono ?_
    rintro e v3 ⟨rfl, b3⟩
    rw [HMF.out]
    have q3' := below_chain q2' b3
    have m3 := bcell q3' HE3.out
    have m4 := bcell q3' HY2.out
    clear n0 n1 n2 n3 b3
    go_wp2_with fail
    go_ret
    exact ⟨rfl, below_chain BW q3'⟩

section
variable {H : Type} {enc : TypeId × Value → H}
set_option maxRecDepth 100000 in
theorem parts_main (W : World) (base : Nat) (v0 v1 v2 : Value) {d0 d1 d2 : DataW H} {p0 p1 p2 : List MemPlace} (o0 : Value.okWide Try.prog W .any base 25 v0) (o1 : Value.okWide Try.prog W .any base 3 v1) (o2 : Value.okWide Try.prog W .any base 3 v2)
    (h0 : DataW.Trod enc Try.prog W 0 (fun _ => true) true 25 v0 d0 p0) (h1 : DataW.Trod enc Try.prog W 0 (fun _ => true) true 3 v1 d1 p1) (h2 : DataW.Trod enc Try.prog W 0 (fun _ => true) true 3 v2 d2 p2) :
    Calls Try.prog 6 #[v0, v1, v2] W fun e W' => e = .returned (.bool true) ∧ Below W.heap.size W W' := by
  obtain ⟨ea, ha, hok⟩ := op_event o0 h0
  obtain ⟨i, rfl, a1, a2⟩ := op_i64 Try.underlying3 o1 h1
  obtain ⟨k, rfl, c1, c2⟩ := op_i64 Try.underlying3 o2 h2
  exact parts_walk v0 ea i k W ha hok ⟨a1, a2⟩ ⟨c1, c2⟩
end

end Go.Proofs.Ytgldheeplhcmcaa.EvLaw
