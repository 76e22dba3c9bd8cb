/-
  Walks of the statements of layer 4: EventOwn.
-/
import Derived.Test.YtgldheeplhcmcaaEvLawC
import Derived.Test.YtgldheeplhcmcaaEvMath
import Derived.Deep.DeepCutAuto
namespace Go.Proofs.Ytgldheeplhcmcaa.EvLaw
open Go.RowKit Go.WideShapes Go.ChangeShapes Go.Proofs.Ytgldheeplhcmcaa.MemRow Go.Proofs.Ytgldheeplhcmcaa.Ev Go.Proofs.Ytgldheeplhcmcaa.NameMath Go.Proofs.Ytgldheeplhcmcaa.NameWalk Go.Proofs.Ytgldheeplhcmcaa.EvWalk Go.Proofs.Ytgldheeplhcmcaa.Open

theorem OwnC.put {k : Nat} {w : World} {base : Nat} {t : TypeId} {g n cap : Nat} {cs : List Value} (h : OwnC k w base t (some ⟨g, 0, none⟩) n cap cs) (i : Nat) (x : Value) : OwnC k (w.setCell ⟨g, i, none⟩ x) base t (some ⟨g, 0, none⟩) n cap (cs.set i x) := by
  rcases h.2 with ⟨hv, _⟩ | ⟨g', c, cur, hv, hb, hg, h1, h2, h3, h4⟩
  · cases hv
  · injection hv with e1 e2 e3
    injection e1 with e1
    injection e1 with e1
    subst e1 e3
    refine ⟨by rw [List.length_set]; exact h.1, .inr ⟨g, cap, cur.setIfInBounds i x, rfl, hb, ?_, h1, h2, by simpa using h3, ?_⟩⟩
    · simp only [World.setCell, Array.getElem?_modify, hg]
      rfl
    · rw [Array.toList_setIfInBounds, List.take_set, h4]
theorem OwnC.free {k : Nat} {w : World} {base : Nat} {t : TypeId} {g n cap : Nat} {cs : List Value} (h : OwnC k w base t (some ⟨g, 0, none⟩) n cap cs) (i : Nat) : w.frozen? ⟨g, i, none⟩ = false := by
  rcases h.2 with ⟨hv, _⟩ | ⟨g', c, cur, hv, hb, hg, _⟩
  · cases hv
  · injection hv with e1 e2 e3
    injection e1 with e1
    injection e1 with e1
    subst e1
    simp [World.frozen?, hg]
theorem OwnC.cellAt {k : Nat} {w : World} {base : Nat} {t : TypeId} {g n cap : Nat} {cs : List Value} (h : OwnC k w base t (some ⟨g, 0, none⟩) n cap cs) (hk : 0 < k) (hn : 0 < n) {i : Nat} {v : Value} (hv : cs[i]? = some v) : w.cell? ⟨g, i, none⟩ = some v := by
  obtain ⟨b, o, e, _, hc⟩ := RdC.at_ (OwnC.rd h) hk hn
  injection e with e
  injection e with e1 e2
  subst e1 e2
  have := hc i v hv
  rwa [Nat.zero_add] at this
theorem OwnC.shape {k : Nat} {w : World} {base : Nat} {t : TypeId} {A : Option Addr} {n cap : Nat} {cs : List Value} (h : OwnC k w base t A n cap cs) (hn : 0 < n) : ∃ g, A = some ⟨g, 0, none⟩ := by
  rcases h.2 with ⟨_, hn0⟩ | ⟨g, c, cur, hv, _⟩
  · omega
  · injection hv with e1
    exact ⟨g, e1⟩
theorem flds_set : ∀ (fs : List (ByteArray × Int)) (j : Nat) (X : Int), j < fs.length → (flds fs).set (j * 2 + 1) (.int .i64 X) = flds (fs.set j ((fs.getD j (ByteArray.empty, 0)).1, X))
  | [], j, X, h => by simp at h
  | f :: fs, 0, X, _ => rfl
  | f :: fs, j + 1, X, h => by
    have e : (j + 1) * 2 + 1 = (j * 2 + 1) + 1 + 1 := by omega
    have ih := flds_set fs j X (by simpa using h)
    rw [e, show flds (f :: fs) = Value.string f.1 :: Value.int .i64 f.2 :: flds fs from rfl, List.set_cons_succ, List.set_cons_succ, ih]
    simp only [List.set_cons_succ, List.getD_cons_succ]
    rfl

/-- What stands while what Norm has made is spoilt. -/
structure SpoilAt (wr w11 : World) (g6 : Nat) (n0 n1 n2 n3 : Value) (T : Option Addr) (nT cT : Nat) (F : Option Addr) (nF cF : Nat) (cs : List Value) (fs : List (ByteArray × Int)) : Prop where
  bel : Below w11.heap.size w11 wr
  en : EvAt wr g6 n0 n1 n2 n3
  tt : OwnC 1 wr w11.heap.size 9 T nT cT cs
  ff : OwnC 2 wr w11.heap.size 38 F nF cF (flds fs)
theorem SpoilAt.setT {wr w11 : World} {g6 : Nat} {n0 n1 n2 n3 : Value} {gt nT cT : Nat} {F : Option Addr} {nF cF : Nat} {cs : List Value} {fs : List (ByteArray × Int)} (h : SpoilAt wr w11 g6 n0 n1 n2 n3 (some ⟨gt, 0, none⟩) nT cT F nF cF cs fs)
    (h6 : gt < g6) (hap : ∀ b, F = some b → gt ≠ b.block) (j : Nat) (x : Value) : SpoilAt (wr.setCell ⟨gt, j, none⟩ x) w11 g6 n0 n1 n2 n3 (some ⟨gt, 0, none⟩) nT cT F nF cF (cs.set j x) fs :=
  ⟨h.bel.setCell (by show w11.heap.size ≤ gt; exact (OwnC.lt h.tt ⟨gt, 0, none⟩ rfl).1) _, h.en.far (by omega) _, OwnC.put h.tt j x, OwnC.grown h.ff (grownBy_set wr gt j x) fun b hb e => hap b hb (by injection e with e; exact e.symm)⟩
theorem SpoilAt.setF {wr w11 : World} {g6 : Nat} {n0 n1 n2 n3 : Value} {T : Option Addr} {gf nT cT nF cF : Nat} {cs : List Value} {fs : List (ByteArray × Int)} (h : SpoilAt wr w11 g6 n0 n1 n2 n3 T nT cT (some ⟨gf, 0, none⟩) nF cF cs fs)
    (h6 : gf < g6) (hap : ∀ a, T = some a → a.block ≠ gf) {j : Nat} (hj : j < fs.length) (X : Int) : SpoilAt (wr.setCell ⟨gf, j * 2 + 1, none⟩ (.int .i64 X)) w11 g6 n0 n1 n2 n3 T nT cT (some ⟨gf, 0, none⟩) nF cF cs (fs.set j ((fs.getD j (ByteArray.empty, 0)).1, X)) := by
  refine ⟨h.bel.setCell (by show w11.heap.size ≤ gf; exact (OwnC.lt h.ff ⟨gf, 0, none⟩ rfl).1) _, h.en.far (by omega) _, OwnC.grown h.tt (grownBy_set wr gf _ _) fun a ha e => hap a ha (by injection e), ?_⟩
  rw [← flds_set fs j X hj]
  exact OwnC.put h.ff _ _
theorem SpoilAt.drew {wr w11 : World} {g6 : Nat} {n0 n1 n2 n3 : Value} {T : Option Addr} {nT cT : Nat} {F : Option Addr} {nF cF : Nat} {cs : List Value} {fs : List (ByteArray × Int)} (h : SpoilAt wr w11 g6 n0 n1 n2 n3 T nT cT F nF cF cs fs) : SpoilAt wr.drew w11 g6 n0 n1 n2 n3 T nT cT F nF cF cs fs :=
  ⟨bel_drew h.bel, h.en, h.tt, h.ff⟩

set_option maxHeartbeats 16000000 in
set_option maxRecDepth 100000 in
theorem own_walk (v : Value) (ea : Ev) (w : World) (hv : IsEv w v ea) (hok : EvOk ea) :
    Calls Try.prog 8 #[v] w fun e w' => e = .returned (.bool true) ∧ Below w.heap.size w w' := by
  have hv0 := hv
  have hfo := fewE_ok hok
  have hft := fewE_tags ea
  have hff := fewE_fs ea
  obtain ⟨A0, n0, ca0, B0, m0, cb0, rfl, _, _⟩ := hv
  have st := BoxAt.new w (.string ea.s) (.string ea.t) (.slice A0 n0 ca0) (.slice B0 m0 cb0)
  go_enter Try.func8, Try.ntmps8
  go_wp2_with fail
  generalize w.alloc (.cells #[.string ea.s, .string ea.t, .slice A0 n0 ca0, .slice B0 m0 cb0] 25) = w1 at *
  refine (shown_any _).mono ?_
  rintro e w2 ⟨rfl, b2⟩
  have st2 := st.below b2
  obtain ⟨k0, k1, k2, k3⟩ := st2.cells
  clear st b2
  go_wp2_with fail
  refine (few_any _ ea w _ hv0).mono ?_
  rintro e w3 ⟨u1, rfl, hv1, b3⟩
  have st3 := st2.below b3
  clear st2 b3 k0 k1 k2 k3
  have hv2 := hv1
  obtain ⟨C0, p0, cc0, D0, q0, cd0, rfl, rC, rD⟩ := hv1
  have st4 := st3.set0 (.string (fewE ea).s) (.string (fewE ea).t) (.slice C0 p0 cc0) (.slice D0 q0 cd0)
  obtain ⟨k0, k1, k2, k3⟩ := st3.cells
  have z0 := st3.e0.frozen 0
  have z1 := st3.e0.frozen 1
  have z2 := st3.e0.frozen 2
  have z3 := st3.e0.frozen 3
  clear st3
  go_upto_region 3 with (fail)
  generalize ((((w3.setCell ⟨w.heap.size, 0, none⟩ (.string (fewE ea).s)).setCell ⟨w.heap.size, 1, none⟩ (.string (fewE ea).t)).setCell ⟨w.heap.size, 2, none⟩ (.slice C0 p0 cc0)).setCell ⟨w.heap.size, 3, none⟩ (.slice D0 q0 cd0)) = w4 at *
  clear k0 k1 k2 k3 z0 z1 z2 z3
  have ht : (fewE ea).tags.length ≤ 1000 := by omega
  have hf : (fewE ea).fs.length ≤ 1000 := by omega
  have hft12 : (fewE ea).tags.length ≤ 12 := hft
  have hff12 : (fewE ea).fs.length ≤ 12 := hff
  generalize fewE ea = fa at *
  clear hft hff
  have hp12 : p0 ≤ 12 := by rw [← RdS.len rC]; exact hft12
  have hq12 : q0 ≤ 12 := by rw [← RdF.len rD]; exact hff12
  clear hft12 hff12
  have k2 := st4.e0.c2
  have al1 : Below w4.heap.size w4 (w4.alloc (.cells #[] 9)) := (Below.refl _ _).alloc (Nat.le_refl _) _
  have k2' := bcell al1 k2
  have o1 : OwnC 1 (w4.alloc (.cells #[] 9)) w4.heap.size 9 (some ⟨w4.heap.size, 0, none⟩) 0 0 [] := OwnC.empty w4 9 (Nat.le_refl _)
  have d1 := RdC.below rC (below_chain st4.bel al1)
  go_upto_region 4 with (at_builtin; refine wpList_copy_cells rfl (.tmp 12) (.tmp 14) 22 rfl 9 (.string ByteArray.empty) 16 Try.underlying22 string_info rfl (by decide) rfl rfl o1 d1 (strs_one _) (by unfold maxLen; omega) (by omega) al1.size al1 ?_; intro A10 c10 w10 o10 b10)
  have st10 := st4.below b10
  have a10 := OwnC.rd o10
  clear k2 k2' al1 o1 d1 o10 b10 st4
  have k3 := st10.e0.c3
  have al1 : Below w10.heap.size w10 (w10.alloc (.cells #[] 38)) := (Below.refl _ _).alloc (Nat.le_refl _) _
  have k3' := bcell al1 k3
  have o1 : OwnC 2 (w10.alloc (.cells #[] 38)) w10.heap.size 38 (some ⟨w10.heap.size, 0, none⟩) 0 0 [] := OwnC.empty w10 38 (Nat.le_refl _)
  have d1 := RdC.below rD (below_chain st10.bel al1)
  go_upto_region 5 with (at_builtin; refine wpList_copy_cells rfl (.tmp 16) (.tmp 18) 23 rfl 38 (.agg #[.string ⟨#[]⟩, .int .i64 0]) 24 Try.underlying23 field_info rfl (by decide) rfl rfl o1 d1 (flds_one _) (by unfold maxLen; omega) (by omega) al1.size al1 ?_; intro A11 c11 w11 o11 b11)
  have st11 := st10.below b11
  have a11 := RdC.below a10 b11
  have f11 := OwnC.rd o11
  clear k3 k3' al1 o1 d1 o11 b11 st10 a10
  have k0 := st11.e0.c0
  have k1 := st11.e0.c1
  have jc : IsEv w11 (.agg #[.string fa.s, .string fa.t, .slice A10 p0 c10, .slice A11 q0 c11]) fa := ⟨_, _, _, _, _, _, rfl, a11, f11⟩
  go_wp2_with fail
  refine (evNorm_own _ fa w11 jc hfo ht hf).mono ?_
  rintro e w12 ⟨T, nT, cT, F, nF, cF, rfl, ho, b12⟩
  clear k0 k1
  have lT6 : ∀ a, T = some a → a.block < w12.heap.size := fun a hA => (OwnC.lt ho.tags a hA).2
  have lF6 : ∀ a, F = some a → a.block < w12.heap.size := fun a hA => (OwnC.lt ho.fs a hA).2
  have leT := RdC.le (OwnC.rd ho.tags)
  have leF := RdC.le (OwnC.rd ho.fs)
  unfold maxLen at leT leF
  have al : Below w12.heap.size w12 (w12.alloc (.cells #[.string fa.s, .string fa.t, .slice T nT cT, .slice F nF cF] 25)) := (Below.refl _ _).alloc (Nat.le_refl _) _
  have sp : SpoilAt (w12.alloc (.cells #[.string fa.s, .string fa.t, .slice T nT cT, .slice F nF cF] 25)) w11 w12.heap.size (.string fa.s) (.string fa.t) (.slice T nT cT) (.slice F nF cF) T nT cT F nF cF (MemRow.strs (normE fa).tags) (normE fa).fs := ⟨below_chain b12 al, EvAt.new w12 _ _ _ _, OwnC.below ho.tags al, OwnC.below ho.fs al⟩
  have hap := ho.apart
  have HAP := Go.Lib.hid hap
  have HT6 := Go.Lib.hid lT6
  have HF6 := Go.Lib.hid lF6
  have lF : (normE fa).fs.length = nF := by have := ho.fs.1; rw [flds_length] at this; omega
  have lT : (MemRow.strs (normE fa).tags).length = nT := by have := ho.tags.1; omega
  generalize MemRow.strs (normE fa).tags = cs0 at *
  generalize (normE fa).fs = fs0 at *
  clear ho b12 hap lT6 lF6 al
  go_wp2_with fail
  generalize w12.alloc (.cells #[.string fa.s, .string fa.t, .slice T nT cT, .slice F nF cF] 25) = w13 at *
  have SP := Go.Lib.hid sp
  have LF0 := Go.Lib.hid lF
  have LT0 := Go.Lib.hid lT
  clear lF lT sp
  go_loopw [7] (fun i wr => ∃ j : Nat, j ≤ nT ∧ i = .int .i64 j ∧ ∃ cs, cs.length = nT ∧ SpoilAt wr w11 w12.heap.size (.string fa.s) (.string fa.t) (.slice T nT cT) (.slice F nF cF) T nT cT F nF cF cs fs0) (fun i _ => nT - (intOf i).toNat)
  case atStart => exact ⟨0, Nat.zero_le _, rfl, cs0, LT0.out, SP.out⟩
  case round =>
    obtain ⟨j, hj, rfl, cs, hcs, h⟩ := hrel
    have HCS := Go.Lib.hid hcs
    clear hcs
    by_cases hlt : j < nT
    · obtain ⟨gt, rfl⟩ := OwnC.shape h.tt (by omega)
      have n2 := h.en.c2
      have z := OwnC.free h.tt j
      have hjl : j < cs.length := by rw [HCS.out]; exact hlt
      obtain ⟨vz, cz⟩ : ∃ vz, wr.cell? ⟨gt, j, none⟩ = some vz := ⟨_, OwnC.cellAt h.tt (by decide) (by omega) (List.getElem?_eq_getElem hjl)⟩
      have i1 : (j : Int) < nT := by omega
      have h6 := HT6.out _ rfl
      have nx := h.setT h6 (fun b hb => HAP.out _ b rfl hb) j (.string ⟨#[115, 112, 111, 105, 108, 116]⟩)
      have HNX := Go.Lib.hid nx
      clear hjl nx h6
      go_wp2_with fail
      go_roundw
      case rel => exact ⟨j + 1, by omega, by go_num, _, by rw [List.length_set]; exact HCS.out, HNX.out⟩
      case measure => simp [intOf]; omega
    · obtain rfl : nT = j := by omega
      have n2 := h.en.c2
      go_wp2_with fail
      clear n2
      obtain ⟨wo, rfl⟩ : ∃ wo : World, wo = wr := ⟨_, rfl⟩
      have SO := Go.Lib.hid h
      clear h
      go_loopw [8] (fun i wr => ∃ j : Nat, j ≤ nF ∧ i = .int .i64 j ∧ ∃ fs, fs.length = nF ∧ SpoilAt wr w11 w12.heap.size (.string fa.s) (.string fa.t) (.slice T nT cT) (.slice F nF cF) T nT cT F nF cF cs fs) (fun i _ => nF - (intOf i).toNat)
      case atStart => exact ⟨0, Nat.zero_le _, rfl, fs0, LF0.out, SO.out⟩
      case round =>
        obtain ⟨j, hj, rfl, fs, hfs, h⟩ := hrel
        have HFS := Go.Lib.hid hfs
        clear hfs
        by_cases hlt : j < nF
        · obtain ⟨gf, rfl⟩ := OwnC.shape h.ff (by omega)
          have hd := h.drew
          have n3 := h.en.c3
          have z := OwnC.free hd.ff (j * 2 + 1)
          have hjl : j < fs.length := by rw [HFS.out]; exact hlt
          have cz := OwnC.cellAt hd.ff (by decide) (by omega) (flds_get fs j hjl).2
          have m3 := hd.en.c3
          have i1 : (j : Int) < nF := by omega
          have h6 := HF6.out _ rfl
          have nx := fun X => hd.setF h6 (fun a hA => HAP.out a _ hA rfl) hjl X
          have HNX := Go.Lib.hid nx
          clear hjl nx h6
          go_wp2_with fail
          go_region_with (fail)
          all_goals
            go_wp2_with fail
            go_roundw
            case rel => exact ⟨j + 1, by omega, by go_num, _, by rw [List.length_set]; exact HFS.out, HNX.out _⟩
            case measure => simp [intOf]; omega
        · obtain rfl : nF = j := by omega
          have n3 := h.en.c3
          have stq := st11.below h.bel
          have ja := hv2.below stq.bel
          have jq := jc.below h.bel
          obtain ⟨k0, k1, k2, k3⟩ := stq.cells
          clear h
          go_wp2_with fail
          refine (evSame_any _ _ fa fa _ ja jq).mono ?_
          rintro e wz ⟨rfl, bz⟩
          rw [sameB_refl]
          go_wp2_with fail
          go_ret
          exact ⟨rfl, below_chain stq.bel bz⟩

section
variable {H : Type} {enc : TypeId × Value → H}
set_option maxRecDepth 100000 in
theorem own_main (W : World) (base : Nat) (v0 : Value) {d0 : DataW H} {p0 : List MemPlace} (o0 : Value.okWide Try.prog W .any base 25 v0)
    (h0 : DataW.Trod enc Try.prog W 0 (fun _ => true) true 25 v0 d0 p0) :
    Calls Try.prog 8 #[v0] W fun e W' => e = .returned (.bool true) ∧ Below W.heap.size W W' := by
  obtain ⟨ea, ha, hok⟩ := op_event o0 h0
  exact own_walk v0 ea W ha hok
end

end Go.Proofs.Ytgldheeplhcmcaa.EvLaw
