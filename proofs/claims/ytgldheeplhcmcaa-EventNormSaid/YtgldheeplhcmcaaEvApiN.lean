/-
  Contracts of layer 4: Norm; its slices are the call's own.
-/
import Derived.Test.YtgldheeplhcmcaaEvApiD
import Derived.Deep.DeepCutAuto
namespace Go.Proofs.Ytgldheeplhcmcaa.EvWalk
open Go.RowKit Go.Proofs.Ytgldheeplhcmcaa.MemRow Go.Proofs.Ytgldheeplhcmcaa.Ev Go.Proofs.Ytgldheeplhcmcaa.NameMath Go.Proofs.Ytgldheeplhcmcaa.NameWalk

theorem grownBy_set (w : World) (g i : Nat) (x : Value) : w.grownBy (w.setCell ⟨g, i, none⟩ x) (some g) := by
  refine ⟨rfl, rfl, rfl, by simp [World.setCell], fun k _ hne => ?_⟩
  have : g ≠ k := fun e => hne (by rw [e])
  simp [World.setCell, Array.getElem?_modify, this]
theorem OwnC.away {k : Nat} {w : World} {base : Nat} {t : TypeId} {A : Option Addr} {n cap : Nat} {cs : List Value} {g i : Nat} (h : OwnC k w base t A n cap cs) (hg : g < base) (x : Value) : OwnC k (w.setCell ⟨g, i, none⟩ x) base t A n cap cs :=
  OwnC.grown h (grownBy_set w g i x) fun a hA e => by
    have := (OwnC.lt h a hA).1
    injection e with e
    omega
theorem OwnC.lower {k : Nat} {w : World} {base base' : Nat} {t : TypeId} {A : Option Addr} {n cap : Nat} {cs : List Value} (h : OwnC k w base t A n cap cs) (hb : base' ≤ base) : OwnC k w base' t A n cap cs := by
  refine ⟨h.1, ?_⟩
  rcases h.2 with h2 | ⟨g, c, cur, hv, hg, rest⟩
  · exact .inl h2
  · exact .inr ⟨g, c, cur, hv, Nat.le_trans hb hg, rest⟩

/-- An event whose slices are rows of a call's own, apart from each other. -/
structure OwnEv (w : World) (base : Nat) (e : Ev) (T : Option Addr) (nT cT : Nat) (F : Option Addr) (nF cF : Nat) : Prop where
  tags : OwnC 1 w base 9 T nT cT (strs e.tags)
  fs : OwnC 2 w base 38 F nF cF (flds e.fs)
  apart : ∀ a b, T = some a → F = some b → a.block ≠ b.block

set_option maxHeartbeats 8000000 in
set_option maxRecDepth 100000 in
theorem evNorm_own (v : Value) (ev : Ev) (w : World) (hv : IsEv w v ev) (hok : EvOk ev) (h1 : ev.tags.length ≤ 1000) (h2 : ev.fs.length ≤ 1000) :
    Calls Try.prog 12 #[v] w fun e w' => ∃ T nT cT F nF cF, e = .returned (.agg #[.string ev.s, .string ev.t, .slice T nT cT, .slice F nF cF]) ∧ OwnEv w' w.heap.size (normE ev) T nT cT F nF cF ∧ Below w.heap.size w w' := by
  obtain ⟨A, n, ca, B, m, cb, rfl, ha, hb⟩ := hv
  obtain ⟨s, t, ts, fs⟩ := ev
  obtain ⟨ks, kt, ktags, knames, knums⟩ := hok
  simp only at ha hb h1 h2 ktags knames knums
  have hn : n ≤ 1000 := by rw [← RdS.len ha]; exact h1
  have hm : m ≤ 1000 := by rw [← RdF.len hb]; exact h2
  have KT := Go.Lib.hid ktags
  have KN := Go.Lib.hid knames
  have KZ := Go.Lib.hid knums
  clear ktags knames knums ks kt h1 h2
  have e1 := EvAt.new w (.string s) (.string t) (.slice A n ca) (.slice B m cb)
  have b1 : Below w.heap.size w (w.alloc (.cells #[.string s, .string t, .slice A n ca, .slice B m cb] 25)) := (Below.refl _ _).alloc (Nat.le_refl _) _
  have s1 : (w.alloc (.cells #[.string s, .string t, .slice A n ca, .slice B m cb] 25)).heap.size = w.heap.size + 1 := by simp
  go_enter Try.func12, Try.ntmps12
  go_wp2_with fail
  generalize w.alloc (.cells #[.string s, .string t, .slice A n ca, .slice B m cb] 25) = w1 at *
  have e2 := EvAt.new w1 (.string ⟨#[]⟩) (.string ⟨#[]⟩) (.slice none 0 0) (.slice none 0 0)
  have b2 : Below w1.heap.size w1 (w1.alloc (.cells #[.string ⟨#[]⟩, .string ⟨#[]⟩, .slice none 0 0, .slice none 0 0] 25)) := (Below.refl _ _).alloc (Nat.le_refl _) _
  have s2 : (w1.alloc (.cells #[.string ⟨#[]⟩, .string ⟨#[]⟩, .slice none 0 0, .slice none 0 0] 25)).heap.size = w.heap.size + 1 + 1 := by simp [s1]
  rw [s1] at e2
  generalize w1.alloc (.cells #[.string ⟨#[]⟩, .string ⟨#[]⟩, .slice none 0 0, .slice none 0 0] 25) = w2 at *
  have ev2 := e1.below b2 e1.lt
  have B2 := below_chain b1 b2
  clear e1 b1 b2 s1
  have HA := Go.Lib.hid ha
  have HB := Go.Lib.hid hb
  have a2 := RdC.below ha B2
  have S2 := Go.Lib.hid s2
  clear ha hb s2
  refine (evTags_any A n ca ts w2 a2 KT.out hn).mono ?_
  rintro e w3 ⟨T, nT, cT, rfl, hT, b3⟩
  have ev3 := ev2.below b3 ev2.lt
  have r3 := e2.below b3 e2.lt
  have B3 := below_chain B2 b3
  have z3 := ev3.frozen 2
  have k3 := ev3.c2
  have ev4 := ev3.set2 (.slice T nT cT)
  have r4 := r3.far (g := w.heap.size + 1) (b := w.heap.size) (i := 2) (by omega) (.slice T nT cT)
  have B4 : Below w.heap.size w (w3.setCell ⟨w.heap.size, 2, none⟩ (.slice T nT cT)) := B3.setCell (by show w.heap.size ≤ w.heap.size; exact Nat.le_refl _) _
  have T4 := OwnC.away (i := 2) (g := w.heap.size) (OwnC.lower hT (base' := w.heap.size + 2) (by have := S2.out; omega)) (by omega) (.slice T nT cT)
  have f4 := RdC.below HB.out B4
  have k4 := ev4.c3
  clear ev2 ev3 r3 b3 B2 B3 a2 e2 hT
  go_wp2_with fail
  generalize w3.setCell ⟨w.heap.size, 2, none⟩ (.slice T nT cT) = w4 at *
  refine (evFields_any B m cb fs w4 f4 KN.out KZ.out hm).mono ?_
  rintro e w5 ⟨F, nF, cF, rfl, hF, b5⟩
  have ev5 := ev4.below b5 ev4.lt
  have r5 := r4.below b5 r4.lt
  have B5 := below_chain B4 b5
  have T5 := OwnC.below T4 b5
  have z5 := ev5.frozen 3
  have k5 := ev5.c3
  have hap : ∀ a b, T = some a → F = some b → a.block ≠ b.block := fun a b h1 h2 e => by
    have p1 := (OwnC.lt T4 a h1).2
    have p2 := (OwnC.lt hF b h2).1
    omega
  have HAP := Go.Lib.hid hap
  have lw4 := ev4.lt
  have lr4 := r4.lt
  have ev6 := ev5.set3 (.slice F nF cF)
  have r6 := r5.far (g := w.heap.size + 1) (b := w.heap.size) (i := 3) (by omega) (.slice F nF cF)
  have B6 : Below w.heap.size w (w5.setCell ⟨w.heap.size, 3, none⟩ (.slice F nF cF)) := B5.setCell (by show w.heap.size ≤ w.heap.size; exact Nat.le_refl _) _
  have T6 := OwnC.away (i := 3) (g := w.heap.size) T5 (by omega) (.slice F nF cF)
  have F6 := OwnC.away (i := 3) (g := w.heap.size) (OwnC.lower hF (base' := w.heap.size + 2) (by omega)) (by omega) (.slice F nF cF)
  clear ev4 ev5 r4 r5 b5 B4 B5 T4 T5 hF f4 hap k3 k4 z3
  go_upto_region 3 with (fail)
  generalize w5.setCell ⟨w.heap.size, 3, none⟩ (.slice F nF cF) = w6 at *
  have x0 := ev6.c0
  have x1 := ev6.c1
  have x2 := ev6.c2
  have x3 := ev6.c3
  have y0 := r6.c0
  have y1 := r6.c1
  have y2 := r6.c2
  have y3 := r6.c3
  have z0 := r6.frozen 0
  have z1 := r6.frozen 1
  have z2 := r6.frozen 2
  have z3 := r6.frozen 3
  have E8 := r6.all (.string s) (.string t) (.slice T nT cT) (.slice F nF cF)
  have T8 := OwnC.away (i := 3) (g := w.heap.size + 1) (OwnC.away (i := 2) (g := w.heap.size + 1) (OwnC.away (i := 1) (g := w.heap.size + 1) (OwnC.away (i := 0) (g := w.heap.size + 1) T6 (by omega) (.string s)) (by omega) (.string t)) (by omega) (.slice T nT cT)) (by omega) (.slice F nF cF)
  have F8 := OwnC.away (i := 3) (g := w.heap.size + 1) (OwnC.away (i := 2) (g := w.heap.size + 1) (OwnC.away (i := 1) (g := w.heap.size + 1) (OwnC.away (i := 0) (g := w.heap.size + 1) F6 (by omega) (.string s)) (by omega) (.string t)) (by omega) (.slice T nT cT)) (by omega) (.slice F nF cF)
  have B8 : Below w.heap.size w ((((w6.setCell ⟨w.heap.size + 1, 0, none⟩ (.string s)).setCell ⟨w.heap.size + 1, 1, none⟩ (.string t)).setCell ⟨w.heap.size + 1, 2, none⟩ (.slice T nT cT)).setCell ⟨w.heap.size + 1, 3, none⟩ (.slice F nF cF)) :=
    (((B6.setCell (by show w.heap.size ≤ w.heap.size + 1; omega) _).setCell (by show w.heap.size ≤ w.heap.size + 1; omega) _).setCell (by show w.heap.size ≤ w.heap.size + 1; omega) _).setCell (by show w.heap.size ≤ w.heap.size + 1; omega) _
  clear ev6 r6 B6 T6 F6
  go_wp2_with fail
  generalize ((((w6.setCell ⟨w.heap.size + 1, 0, none⟩ (.string s)).setCell ⟨w.heap.size + 1, 1, none⟩ (.string t)).setCell ⟨w.heap.size + 1, 2, none⟩ (.slice T nT cT)).setCell ⟨w.heap.size + 1, 3, none⟩ (.slice F nF cF)) = w9 at *
  have q0 := E8.c0
  have q1 := E8.c1
  have q2 := E8.c2
  have q3 := E8.c3
  exact bodyPost_ret (v := .agg #[.string s, .string t, .slice T nT cT, .slice F nF cF]) (by simp [results, Try.results12, go_sem, q0, q1, q2, q3]) rfl
    ⟨T, nT, cT, F, nF, cF, rfl, ⟨OwnC.lower T8 (by omega), OwnC.lower F8 (by omega), HAP.out⟩, B8⟩

theorem evNorm_any (v : Value) (ev : Ev) (w : World) (hv : IsEv w v ev) (hok : EvOk ev) (h1 : ev.tags.length ≤ 1000) (h2 : ev.fs.length ≤ 1000) :
    Calls Try.prog 12 #[v] w fun e w' => ∃ u, e = .returned u ∧ IsEv w' u (normE ev) ∧ Below w.heap.size w w' :=
  (evNorm_own v ev w hv hok h1 h2).mono fun _ _ ⟨T, nT, cT, F, nF, cF, he, ho, hb⟩ => ⟨_, he, ⟨T, nT, cT, F, nF, cF, rfl, OwnC.rd ho.tags, OwnC.rd ho.fs⟩, hb⟩

end Go.Proofs.Ytgldheeplhcmcaa.EvWalk
