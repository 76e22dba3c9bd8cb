/-
  Contract of the document's answer of layer 5: Take.
-/
import Derived.Test.YtjglpmakjampjaaEcRef
import Derived.Test.YtjglpmakjampjaaEcOpen
import Derived.Test.YtjglpmakjampjaaNumRef
import Derived.Test.YtjglpmakjampjaaEvRefE
import Derived.Deep.RegionLaw
namespace Go.Proofs.Ytjglpmakjampjaa.EcWalk
open Go.RowKit Go.Proofs.Ytjglpmakjampjaa.MemRow Go.Proofs.Ytjglpmakjampjaa.Ev Go.Proofs.Ytjglpmakjampjaa.NameMath Go.Proofs.Ytjglpmakjampjaa.NameWalk Go.Proofs.Ytjglpmakjampjaa.EvWalk Go.Proofs.Ytjglpmakjampjaa.NumMath Go.Proofs.Ytjglpmakjampjaa.NumMem Go.Proofs.Ytjglpmakjampjaa.NumWalk

/-! ### What is taken -/
def tx (l : List UInt8) : ByteArray := ⟨(textV l).toArray⟩
/-- At most k texts, as long as the reader is good. -/
def takeTags : Nat → List UInt8 → Bool → List ByteArray × List UInt8 × Bool
  | 0, l, b => ([], l, b)
  | k + 1, l, b => if b = true then ([], l, b) else (tx l :: (takeTags k (textL l) (textB l b)).1, (takeTags k (textL l) (textB l b)).2)
def takeFlds : Nat → List UInt8 → Bool → List (ByteArray × Int) × List UInt8 × Bool
  | 0, l, b => ([], l, b)
  | k + 1, l, b => if b = true then ([], l, b) else ((tx l, numV (textL l)) :: (takeFlds k (numL (textL l)) (numB (textL l) (textB l b))).1, (takeFlds k (numL (textL l)) (numB (textL l) (textB l b))).2)

theorem grown_set (w : World) (g i : Nat) (x : Value) : w.grownBy (w.setCell ⟨g, i, none⟩ x) (some g) := by
  refine ⟨rfl, rfl, rfl, by simp [World.setCell], fun k _ hne => ?_⟩
  have : g ≠ k := fun e => hne (by rw [e])
  simp [World.setCell, Array.getElem?_modify, this]
theorem own_away {k : Nat} {w : World} {base : Nat} {t : TypeId} {A : Option Addr} {n cap : Nat} {cs : List Value} {g i : Nat} (h : OwnC k w base t A n cap cs) (hg : g < base) (x : Value) : OwnC k (w.setCell ⟨g, i, none⟩ x) base t A n cap cs :=
  OwnC.grown h (grown_set w g i x) fun a hA e => by
    have := (OwnC.lt h a hA).1
    injection e with e
    omega
theorem rdr_apart {w w' : World} {T : TypeId} {g : Nat} {l : List UInt8} {b : Bool} {row : Option Nat} (h : Rdr w T g l b) (hg : w.grownBy w' row) (hr : ∀ r, row = some r → g < r) : Rdr w' T g l b := by
  have hlt := h.lt
  obtain ⟨A, n, cap, hh, hr', ho⟩ := h
  refine ⟨A, n, cap, (hg.block g hlt (fun e => by have := hr g e.symm; omega)).trans hh, ⟨hr'.1, hr'.2.1, hr'.2.2.1, fun hn => ?_⟩, ho⟩
  obtain ⟨c, o, hA, hc⟩ := hr'.2.2.2 hn
  exact ⟨c, o, hA, fun i hi => hg.cell (hc i hi) (fun e => by have h1 := hr c e.symm; have h2 : c < g := ho ⟨c, o, none⟩ hA; omega)⟩
theorem gr_step {w wr w' : World} {g : Nat} {row : Option Nat} (h : w.grownBy wr (some g)) (hg : wr.grownBy w' row) (hr : ∀ r, row = some r → w.heap.size ≤ r) : w.grownBy w' (some g) :=
  ⟨hg.os.trans h.os, hg.tape.trans h.tape, hg.output.trans h.output, Nat.le_trans h.size hg.size, fun k hk hne => (hg.block k (Nat.lt_of_lt_of_le hk h.size) (fun e => by have := hr k e.symm; omega)).trans (h.block k hk hne)⟩
theorem gr_step' {w wr w' : World} {g : Nat} (h : w.grownBy wr (some g)) (hg : wr.grownBy w' (some g)) : w.grownBy w' (some g) :=
  ⟨hg.os.trans h.os, hg.tape.trans h.tape, hg.output.trans h.output, Nat.le_trans h.size hg.size, fun k hk hne => (hg.block k (Nat.lt_of_lt_of_le hk h.size) hne).trans (h.block k hk hne)⟩
theorem row_low {k : Nat} {w : World} {base : Nat} {t : TypeId} {A : Option Addr} {n cap : Nat} {cs : List Value} (h : OwnC k w base t A n cap cs) {r : Nat} (e : A.map (·.block) = some r) : base ≤ r := by
  cases A with
  | none => cases e
  | some a =>
    simp only [Option.map_some, Option.some.injEq] at e
    have := (OwnC.lt h a rfl).1
    omega

/-- What stands while an event is taken: the reader, the result's cell, the event that is made. -/
structure TakeAt (wr w : World) (g : Nat) (l : List UInt8) (b : Bool) (ge : Nat) (s t : ByteArray) (T : Option Addr) (nT cT : Nat) (ts : List ByteArray) (F : Option Addr) (nF cF : Nat) (fs : List (ByteArray × Int)) : Prop where
  rd : Rdr wr 39 g l b
  res : EvAt wr w.heap.size (.string ⟨#[]⟩) (.string ⟨#[]⟩) (.slice none 0 0) (.slice none 0 0)
  ev : EvAt wr ge (.string s) (.string t) (.slice T nT cT) (.slice F nF cF)
  tt : OwnC 1 wr (ge + 1) 9 T nT cT (MemRow.strs ts)
  ff : OwnC 2 wr (ge + 1) 52 F nF cF (flds fs)
  ap : ∀ a c, T = some a → F = some c → a.block ≠ c.block
  gr : w.grownBy wr (some g)
  gw : g < w.heap.size
  we : w.heap.size < ge

section
variable {wr w w' : World} {g ge nT cT nF cF : Nat} {l l' : List UInt8} {b b' : Bool} {s t : ByteArray} {T F : Option Addr} {ts : List ByteArray} {fs : List (ByteArray × Int)}
theorem TakeAt.read (h : TakeAt wr w g l b ge s t T nT cT ts F nF cF fs) (hr : Rdr w' 39 g l' b') (hg : wr.grownBy w' (some g)) : TakeAt w' w g l' b' ge s t T nT cT ts F nF cF fs := by
  have gw := h.gw
  have we := h.we
  refine ⟨hr, h.res.grown hg (by simp; omega), h.ev.grown hg (by simp; omega), OwnC.grown h.tt hg fun a hA e => ?_, OwnC.grown h.ff hg fun a hA e => ?_, h.ap, ?_, h.gw, h.we⟩
  · have := (OwnC.lt h.tt a hA).1
    injection e with e
    omega
  · have := (OwnC.lt h.ff a hA).1
    injection e with e
    omega
  · exact ⟨hg.os.trans h.gr.os, hg.tape.trans h.gr.tape, hg.output.trans h.gr.output, Nat.le_trans h.gr.size hg.size, fun k hk hne => (hg.block k (Nat.lt_of_lt_of_le hk h.gr.size) hne).trans (h.gr.block k hk hne)⟩
theorem TakeAt.drew (h : TakeAt wr w g l b ge s t T nT cT ts F nF cF fs) : TakeAt wr.drew w g l b ge s t T nT cT ts F nF cF fs :=
  ⟨h.rd, h.res, h.ev, h.tt, h.ff, h.ap, ⟨h.gr.os, h.gr.tape, h.gr.output, h.gr.size, h.gr.block⟩, h.gw, h.we⟩
theorem TakeAt.below (h : TakeAt wr w g l b ge s t T nT cT ts F nF cF fs) (hb : Below wr.heap.size wr w') : TakeAt w' w g l b ge s t T nT cT ts F nF cF fs := by
  have hl := h.ev.lt
  have hs := h.gr.size
  exact ⟨h.rd.below hb, h.res.below hb h.res.lt, h.ev.below hb hl, OwnC.below h.tt hb, OwnC.below h.ff hb, h.ap, ⟨hb.os.trans h.gr.os, hb.tape.trans h.gr.tape, hb.output.trans h.gr.output, Nat.le_trans hs hb.size, fun k hk hne => (hb.block k (Nat.lt_of_lt_of_le hk hs)).trans (h.gr.block k hk hne)⟩, h.gw, h.we⟩
theorem ev_set1 {w : World} {g : Nat} {v0 v1 v2 v3 : Value} (h : EvAt w g v0 v1 v2 v3) (x : Value) : EvAt (w.setCell ⟨g, 1, none⟩ x) g v0 x v2 v3 := by
  unfold EvAt at h ⊢
  simp only [World.setCell, Array.getElem?_modify, h]
  rfl
theorem TakeAt.setS (h : TakeAt wr w g l b ge s t T nT cT ts F nF cF fs) (x : ByteArray) : TakeAt (wr.setCell ⟨ge, 1, none⟩ (.string x)) w g l b ge s x T nT cT ts F nF cF fs := by
  have gw := h.gw
  have we := h.we
  have hs := grown_set wr ge 1 (.string x)
  exact ⟨rdr_apart h.rd hs (fun r e => by injection e; omega), h.res.far (by omega) _, ev_set1 h.ev _, own_away h.tt (by omega) _, own_away h.ff (by omega) _, h.ap, gr_step h.gr hs (fun r e => by injection e; omega), gw, we⟩
theorem TakeAt.bad (h : TakeAt wr w g l b ge s t T nT cT ts F nF cF fs) : wr.cell? ⟨g, 1, none⟩ = some (.bool b) := by
  obtain ⟨A, n, cap, hh, _⟩ := h.rd
  exact (two_cell hh).2.1
/-- The result's cell is written. -/
theorem TakeAt.fin (h : TakeAt wr w g l b ge s t T nT cT ts F nF cF fs) (x0 x1 x2 x3 : Value) (w9 : World) (h9 : w9 = (((wr.setCell ⟨w.heap.size, 0, none⟩ x0).setCell ⟨w.heap.size, 1, none⟩ x1).setCell ⟨w.heap.size, 2, none⟩ x2).setCell ⟨w.heap.size, 3, none⟩ x3) :
    EvAt w9 w.heap.size x0 x1 x2 x3 ∧ Rdr w9 39 g l b ∧ w.grownBy w9 (some g) ∧ OwnC 1 w9 (ge + 1) 9 T nT cT (MemRow.strs ts) ∧ OwnC 2 w9 (ge + 1) 52 F nF cF (flds fs) := by
  subst h9
  have gw := h.gw
  have we := h.we
  have e := h.res.all x0 x1 x2 x3
  refine ⟨e, ?_, ?_, ?_, ?_⟩
  · exact rdr_apart (rdr_apart (rdr_apart (rdr_apart h.rd (grown_set _ _ _ _) (fun r e => by injection e; omega)) (grown_set _ _ _ _) (fun r e => by injection e; omega)) (grown_set _ _ _ _) (fun r e => by injection e; omega)) (grown_set _ _ _ _) (fun r e => by injection e; omega)
  · exact gr_step (gr_step (gr_step (gr_step h.gr (grown_set _ _ _ _) (fun r e => by injection e; omega)) (grown_set _ _ _ _) (fun r e => by injection e; omega)) (grown_set _ _ _ _) (fun r e => by injection e; omega)) (grown_set _ _ _ _) (fun r e => by injection e; omega)
  · exact own_away (own_away (own_away (own_away h.tt (by omega) _) (by omega) _) (by omega) _) (by omega) _
  · exact own_away (own_away (own_away (own_away h.ff (by omega) _) (by omega) _) (by omega) _) (by omega) _
/-- A store into a younger block. -/
theorem TakeAt.far (h : TakeAt wr w g l b ge s t T nT cT ts F nF cF fs) {r : Nat} (hr : ge < r) (hT : ∀ a, T = some a → a.block ≠ r) (hF : ∀ a, F = some a → a.block ≠ r) (i : Nat) (x : Value) : TakeAt (wr.setCell ⟨r, i, none⟩ x) w g l b ge s t T nT cT ts F nF cF fs := by
  have gw := h.gw
  have we := h.we
  have hs := grown_set wr r i x
  exact ⟨rdr_apart h.rd hs (fun q e => by injection e; omega), h.res.far (by omega) _, h.ev.far (by omega) _, OwnC.grown h.tt hs (fun a hA e => hT a hA (by injection e)), OwnC.grown h.ff hs (fun a hA e => hF a hA (by injection e)), h.ap, gr_step h.gr hs (fun q e => by injection e; omega), gw, we⟩
/-- A tag more. -/
theorem TakeAt.moreT {T' : Option Addr} {cT' : Nat} {ts' : List ByteArray} {w8 : World} (h : TakeAt wr w g l b ge s t T nT cT ts none 0 0 []) (ho : OwnC 1 w8 (ge + 1) 9 T' (nT + 1) cT' (MemRow.strs ts')) (hg : wr.grownBy w8 (T.map (·.block))) :
    w8.frozen? ⟨ge, 2, none⟩ = false ∧ w8.cell? ⟨ge, 2, none⟩ = some (.slice T nT cT) ∧ TakeAt (w8.setCell ⟨ge, 2, none⟩ (.slice T' (nT + 1) cT')) w g l b ge s t T' (nT + 1) cT' ts' none 0 0 [] := by
  have gw := h.gw
  have we := h.we
  have low := fun r e => row_low h.tt (r := r) e
  have hF : ∀ k, k < ge + 1 → some k ≠ T.map (·.block) := fun k hk e => by have := low k e.symm; omega
  have e8 := h.ev.grown hg (hF _ (by omega))
  have hs := grown_set w8 ge 2 (.slice T' (nT + 1) cT')
  refine ⟨e8.frozen 2, e8.c2, rdr_apart (rdr_apart h.rd hg fun r e => by have := low r e; omega) hs (fun r e => by injection e; omega), (h.res.grown hg (hF _ (by omega))).far (by omega) _, e8.set2 _, own_away ho (by omega) _, OwnC.nil _ _, (fun a c _ hc => by cases hc), gr_step (gr_step h.gr hg fun r e => by have := low r e; omega) hs (fun r e => by injection e; omega), gw, we⟩
/-- A number more. -/
theorem TakeAt.moreF {F' : Option Addr} {cF' : Nat} {fs' : List (ByteArray × Int)} {w8 : World} (h : TakeAt wr w g l b ge s t T nT cT ts F nF cF fs) (ho : OwnC 2 w8 (ge + 1) 52 F' (nF + 1) cF' (flds fs')) (hg : wr.grownBy w8 (F.map (·.block)))
    (hloc : F'.map (·.block) = F.map (·.block) ∨ F'.map (·.block) = some wr.heap.size) :
    w8.frozen? ⟨ge, 3, none⟩ = false ∧ w8.cell? ⟨ge, 3, none⟩ = some (.slice F nF cF) ∧ TakeAt (w8.setCell ⟨ge, 3, none⟩ (.slice F' (nF + 1) cF')) w g l b ge s t T nT cT ts F' (nF + 1) cF' fs' := by
  have gw := h.gw
  have we := h.we
  have low := fun r e => row_low h.ff (r := r) e
  have hF : ∀ k, k < ge + 1 → some k ≠ F.map (·.block) := fun k hk e => by have := low k e.symm; omega
  have e8 := h.ev.grown hg (hF _ (by omega))
  have hs := grown_set w8 ge 3 (.slice F' (nF + 1) cF')
  have hT : OwnC 1 w8 (ge + 1) 9 T nT cT (MemRow.strs ts) := OwnC.grown h.tt hg fun a hA e => by
    cases hFe : F with
    | none => rw [hFe] at e; cases e
    | some c =>
      rw [hFe] at e
      simp only [Option.map_some, Option.some.injEq] at e
      exact h.ap a c hA hFe e
  refine ⟨e8.frozen 3, e8.c3, rdr_apart (rdr_apart h.rd hg fun r e => by have := low r e; omega) hs (fun r e => by injection e; omega), (h.res.grown hg (hF _ (by omega))).far (by omega) _, e8.set3 _, own_away hT (by omega) _, own_away ho (by omega) _, fun a c hA hc e => ?_, gr_step (gr_step h.gr hg fun r e => by have := low r e; omega) hs (fun r e => by injection e; omega), gw, we⟩
  rw [hc] at hloc
  simp only [Option.map_some] at hloc
  rcases hloc with hl | hl
  · cases hFe : F with
    | none => rw [hFe] at hl; cases hl
    | some c0 =>
      rw [hFe] at hl
      simp only [Option.map_some, Option.some.injEq] at hl
      exact h.ap a c0 hA hFe (by omega)
  · simp only [Option.some.injEq] at hl
    have := (OwnC.lt h.tt a hA).2
    omega
end

end Go.Proofs.Ytjglpmakjampjaa.EcWalk
