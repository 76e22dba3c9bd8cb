/-
  Rows of clauses of a call's own, whose own rows are older.
-/
import Derived.Test.YtfbooapgjhhjmaaQuRef
namespace Go.Proofs.Ytfbooapgjhhjmaa.QuWalk
open Go.RowKit Go.Proofs.Ytfbooapgjhhjmaa.MemRow Go.Proofs.Ytfbooapgjhhjmaa.Ev Go.Proofs.Ytfbooapgjhhjmaa.NameMath Go.Proofs.Ytfbooapgjhhjmaa.NameWalk Go.Proofs.Ytfbooapgjhhjmaa.EvWalk Go.Proofs.Ytfbooapgjhhjmaa.Qu

theorem clause_info : (Try.prog.info? 36).map (fun i => (i.zero, i.size, i.bytes)) = some (some (.agg #[.slice none 0 0, .slice none 0 0]), 2, 48) := by kernel_rfl
theorem clause_size : (Try.prog.info? 36).map (·.size) = some 2 := by kernel_rfl
theorem elem_clauses : Try.prog.elem 22 = 36 := by kernel_rfl

/-- The cells cs are the clauses q, as world w0 has them. -/
def ClsR (w0 : World) : List Cl → List Value → Prop
  | [], cs => cs = []
  | c :: q, cs => ∃ T nT cT Y nY cY cs', cs = .slice T nT cT :: .slice Y nY cY :: cs' ∧ RdS w0 T nT cT c.tags ∧ RdS w0 Y nY cY c.types ∧ ClsR w0 q cs'
theorem ClsR.snoc {w : World} {c : Cl} {T Y : Option Addr} {nT cT nY cY : Nat} (o1 : RdS w T nT cT c.tags) (o2 : RdS w Y nY cY c.types) :
    ∀ (q : List Cl) (cs : List Value), ClsR w q cs → ClsR w (q ++ [c]) (cs ++ [.slice T nT cT, .slice Y nY cY])
  | [], cs, h => by
    obtain rfl : cs = [] := h
    exact ⟨T, nT, cT, Y, nY, cY, [], rfl, o1, o2, rfl⟩
  | x :: q, cs, ⟨T1, n1, c1, F1, m1, d1, cs', hc, p1, p2, h⟩ => by
    subst hc
    exact ⟨T1, n1, c1, F1, m1, d1, cs' ++ [.slice T nT cT, .slice Y nY cY], rfl, p1, p2, ClsR.snoc o1 o2 q cs' h⟩
theorem ClsR.below {w w' : World} (hb : Below w.heap.size w w') : ∀ (q : List Cl) (cs : List Value), ClsR w q cs → ClsR w' q cs
  | [], _, h => h
  | _ :: q, _, ⟨T, nT, cT, Y, nY, cY, cs', e, o1, o2, h⟩ => ⟨T, nT, cT, Y, nY, cY, cs', e, RdC.below o1 hb, RdC.below o2 hb, ClsR.below hb q cs' h⟩
theorem ClsR.at_ {w : World} : ∀ (q : List Cl) (cs : List Value), ClsR w q cs → ∀ i, i < q.length →
    ∃ T nT cT Y nY cY, cs[i * 2]? = some (.slice T nT cT) ∧ cs[i * 2 + 1]? = some (.slice Y nY cY) ∧ RdS w T nT cT (q.getD i noCl).tags ∧ RdS w Y nY cY (q.getD i noCl).types
  | [], _, _, i, hi => by simp at hi
  | c :: q, cs, ⟨T, nT, cT, Y, nY, cY, cs', hc, o1, o2, h⟩, i, hi => by
    subst hc
    cases i with
    | zero => exact ⟨T, nT, cT, Y, nY, cY, rfl, rfl, o1, o2⟩
    | succ i =>
      obtain ⟨T1, n1, c1, F1, m1, d1, q0, q1, p1, p2⟩ := ClsR.at_ q cs' h i (by simpa using hi)
      have e2 : (i + 1) * 2 = i * 2 + 2 := by omega
      rw [e2]
      exact ⟨T1, n1, c1, F1, m1, d1, by simpa using q0, by simpa using q1, by simpa using p1, by simpa using p2⟩
/-- A slice of a call's own that holds clauses, their rows as world w0 has them. -/
def OwnQ (w0 w : World) (base : Nat) (A : Option Addr) (n cap : Nat) (q : List Cl) : Prop := ∃ cs, OwnC 2 w base 36 A n cap cs ∧ q.length = n ∧ ClsR w0 q cs
theorem OwnQ.nil (w0 w : World) (base : Nat) : OwnQ w0 w base none 0 0 [] := ⟨[], OwnC.nil _ _, rfl, rfl⟩
theorem OwnQ.len {w0 w : World} {base : Nat} {A : Option Addr} {n cap : Nat} {q : List Cl} (h : OwnQ w0 w base A n cap q) : q.length = n := by
  obtain ⟨_, _, h, _⟩ := h
  exact h
theorem OwnQ.below {w0 w w' : World} {base : Nat} {A : Option Addr} {n cap : Nat} {q : List Cl} (h : OwnQ w0 w base A n cap q) (hb : Below w.heap.size w w') : OwnQ w0 w' base A n cap q := by
  obtain ⟨cs, o, hl, hc⟩ := h
  exact ⟨cs, OwnC.below o hb, hl, hc⟩
theorem OwnQ.grown {w0 w w' : World} {base : Nat} {A : Option Addr} {n cap : Nat} {q : List Cl} {g : Nat} (h : OwnQ w0 w base A n cap q) (hg : w.grownBy w' (some g)) (hb : g < base) : OwnQ w0 w' base A n cap q := by
  obtain ⟨cs, o, hl, hc⟩ := h
  exact ⟨cs, OwnC.grown o hg fun a hA e => by
    have := (OwnC.lt o a hA).1
    injection e with e
    omega, hl, hc⟩
theorem OwnQ.rd {w0 w : World} {base : Nat} {A : Option Addr} {n cap : Nat} {q : List Cl} (h : OwnQ w0 w base A n cap q) (hb : Below w0.heap.size w0 w) : RdQ w A n cap q := by
  obtain ⟨cs, o, hl, hc⟩ := h
  have r := OwnC.rd o
  refine ⟨hl, r.2.1, r.2.2.1, fun hn => ?_⟩
  obtain ⟨b, a, hA, hlt, hcell⟩ := RdC.at_ r (by omega) hn
  refine ⟨b, a, hA, hlt, fun i hi => ?_⟩
  obtain ⟨T, nT, cT, Y, nY, cY, q0, q1, p1, p2⟩ := ClsR.at_ q cs hc i (by omega)
  exact ⟨T, nT, cT, Y, nY, cY, hcell _ _ q0, by rw [Nat.add_assoc]; exact hcell _ _ q1, RdC.below p1 hb, RdC.below p2 hb⟩
/-- A clause more. -/
theorem OwnQ.more {w0 w' : World} {base : Nat} {A' : Option Addr} {n cap' : Nat} {q : List Cl} {cs : List Value} {c : Cl} {T Y : Option Addr} {nT cT nY cY : Nat} (hl : q.length = n) (hc : ClsR w0 q cs) (o1 : RdS w0 T nT cT c.tags) (o2 : RdS w0 Y nY cY c.types)
    (ho' : OwnC 2 w' base 36 A' (n + 1) cap' (cs ++ [.slice T nT cT, .slice Y nY cY])) : OwnQ w0 w' base A' (n + 1) cap' (q ++ [c]) :=
  ⟨_, ho', by rw [List.length_append, hl]; rfl, ClsR.snoc o1 o2 q cs hc⟩
theorem cl_one (T Y : Option Addr) (nT cT nY cY : Nat) : ∀ v ∈ ([.slice T nT cT, .slice Y nY cY] : List Value), v.oneCell' = true := by
  intro v hv
  simp only [List.mem_cons, List.not_mem_nil, or_false] at hv
  rcases hv with rfl | rfl <;> rfl
theorem ClAt.set0 {w : World} {g : Nat} {v0 v1 : Value} (h : ClAt w g v0 v1) (x : Value) : ClAt (w.setCell ⟨g, 0, none⟩ x) g x v1 := by
  unfold ClAt at h ⊢
  simp only [World.setCell, Array.getElem?_modify, h]
  rfl
theorem ClAt.set1 {w : World} {g : Nat} {v0 v1 : Value} (h : ClAt w g v0 v1) (x : Value) : ClAt (w.setCell ⟨g, 1, none⟩ x) g v0 x := by
  unfold ClAt at h ⊢
  simp only [World.setCell, Array.getElem?_modify, h]
  rfl
theorem ClAt.far {w : World} {g b i : Nat} {v0 v1 : Value} (h : ClAt w g v0 v1) (hne : g ≠ b) (x : Value) : ClAt (w.setCell ⟨b, i, none⟩ x) g v0 v1 := by
  unfold ClAt at h ⊢
  simp only [World.setCell, Array.getElem?_modify]
  rw [if_neg (fun e => hne e.symm)]
  exact h
theorem QAt.set {w : World} {g : Nat} {v0 : Value} (h : QAt w g v0) (x : Value) : QAt (w.setCell ⟨g, 0, none⟩ x) g x := by
  unfold QAt at h ⊢
  simp only [World.setCell, Array.getElem?_modify, h]
  rfl
theorem QAt.far {w : World} {g b i : Nat} {v0 : Value} (h : QAt w g v0) (hne : g ≠ b) (x : Value) : QAt (w.setCell ⟨b, i, none⟩ x) g v0 := by
  unfold QAt at h ⊢
  simp only [World.setCell, Array.getElem?_modify]
  rw [if_neg (fun e => hne e.symm)]
  exact h
theorem grownSet (w : World) (g i : Nat) (x : Value) : w.grownBy (w.setCell ⟨g, i, none⟩ x) (some g) := by
  refine ⟨rfl, rfl, rfl, by simp [World.setCell], fun k _ hne => ?_⟩
  have : g ≠ k := fun e => hne (by rw [e])
  simp [World.setCell, Array.getElem?_modify, this]

/-- What stands while a query is made of another one: the argument's box, the result's cell, the query that is made. -/
structure MkAt (w0 wr w : World) (vq : Value) (A : Option Addr) (n cap : Nat) (q : List Cl) : Prop where
  eq : QAt wr w.heap.size vq
  res : QAt wr (w.heap.size + 1) (.slice none 0 0)
  out : QAt wr (w.heap.size + 1 + 1) (.slice A n cap)
  own : OwnQ w0 wr (w.heap.size + 1 + 1 + 1) A n cap q
  bel : Below w.heap.size w wr
section
variable {w0 wr w w' : World} {vq : Value} {A : Option Addr} {n cap : Nat} {q : List Cl}
theorem MkAt.below (h : MkAt w0 wr w vq A n cap q) (hb : Below wr.heap.size wr w') : MkAt w0 w' w vq A n cap q := ⟨h.eq.below hb, h.res.below hb, h.out.below hb, h.own.below hb, below_chain h.bel hb⟩
theorem MkAt.far (h : MkAt w0 wr w vq A n cap q) {g : Nat} (hg : w.heap.size + 1 + 1 < g) (hA : ∀ a, A = some a → a.block ≠ g) (i : Nat) (x : Value) : MkAt w0 (wr.setCell ⟨g, i, none⟩ x) w vq A n cap q := by
  obtain ⟨cs, o, hl, hc⟩ := h.own
  exact ⟨h.eq.far (by omega) x, h.res.far (by omega) x, h.out.far (by omega) x, ⟨cs, OwnC.grown o (grownSet wr g i x) (fun a ha e => hA a ha (by injection e)), hl, hc⟩, h.bel.setCell (by show w.heap.size ≤ g; omega) x⟩
theorem MkAt.new (w0 w : World) (vq : Value) : MkAt w0 (((w.alloc (.cells #[vq] 24)).alloc (.cells #[.slice none 0 0] 24)).alloc (.cells #[.slice none 0 0] 24)) w vq none 0 0 [] := by
  have a1 := QAt.new w vq
  have b1 : Below w.heap.size w (w.alloc (.cells #[vq] 24)) := (Below.refl _ _).alloc (Nat.le_refl _) _
  generalize hw1 : w.alloc (.cells #[vq] 24) = w1 at *
  have s1 : w1.heap.size = w.heap.size + 1 := by rw [← hw1]; simp
  have a2 := QAt.new w1 (.slice none 0 0)
  have b2 : Below w1.heap.size w1 (w1.alloc (.cells #[.slice none 0 0] 24)) := (Below.refl _ _).alloc (Nat.le_refl _) _
  generalize hw2 : w1.alloc (.cells #[.slice none 0 0] 24) = w2 at *
  have s2 : w2.heap.size = w.heap.size + 1 + 1 := by rw [← hw2]; simp [s1]
  have a3 := QAt.new w2 (.slice none 0 0)
  have b3 : Below w2.heap.size w2 (w2.alloc (.cells #[.slice none 0 0] 24)) := (Below.refl _ _).alloc (Nat.le_refl _) _
  rw [s1] at a2
  rw [s2] at a3
  exact ⟨(a1.below b2).below b3, a2.below b3, a3, OwnQ.nil _ _ _, below_chain (below_chain b1 b2) b3⟩
/-- A clause is appended, and the query's cell is written. -/
theorem MkAt.more {cs : List Value} {c : Cl} {T Y : Option Addr} {nT cT nY cY : Nat} {A' : Option Addr} {cap' : Nat} {w8 : World} (h : MkAt w0 wr w vq A n cap q) (ho : OwnC 2 wr (w.heap.size + 1 + 1 + 1) 36 A n cap cs) (hc : ClsR w0 q cs) (o1 : RdS w0 T nT cT c.tags) (o2 : RdS w0 Y nY cY c.types)
    (ho8 : OwnC 2 w8 (w.heap.size + 1 + 1 + 1) 36 A' (n + 1) cap' (cs ++ [.slice T nT cT, .slice Y nY cY])) (hg : wr.grownBy w8 (A.map (·.block))) :
    w8.frozen? ⟨w.heap.size + 1 + 1, 0, none⟩ = false ∧ w8.cell? ⟨w.heap.size + 1 + 1, 0, none⟩ = some (.slice A n cap) ∧ MkAt w0 (w8.setCell ⟨w.heap.size + 1 + 1, 0, none⟩ (.slice A' (n + 1) cap')) w vq A' (n + 1) cap' (q ++ [c]) := by
  have low : ∀ r, A.map (·.block) = some r → w.heap.size + 1 + 1 + 1 ≤ r := fun r e => by
    cases A with
    | none => cases e
    | some a =>
      simp only [Option.map_some, Option.some.injEq] at e
      have := (OwnC.lt ho a rfl).1
      omega
  have hF : ∀ k, k < w.heap.size + 1 + 1 + 1 → some k ≠ A.map (·.block) := fun k hk e => by have := low k e.symm; omega
  have e8 := h.out.grown hg (hF _ (by omega))
  have hs := grownSet w8 (w.heap.size + 1 + 1) 0 (.slice A' (n + 1) cap')
  refine ⟨e8.frozen 0, e8.c0, (h.eq.grown hg (hF _ (by omega))).far (by omega) _, (h.res.grown hg (hF _ (by omega))).far (by omega) _, e8.set _, OwnQ.grown (OwnQ.more h.own.len hc o1 o2 ho8) hs (by omega), ?_⟩
  have b8 := h.bel.grown hg h.bel.size (fun r e => by have := low r e; omega)
  exact b8.setCell (by show w.heap.size ≤ w.heap.size + 1 + 1; omega) _
end

end Go.Proofs.Ytfbooapgjhhjmaa.QuWalk
