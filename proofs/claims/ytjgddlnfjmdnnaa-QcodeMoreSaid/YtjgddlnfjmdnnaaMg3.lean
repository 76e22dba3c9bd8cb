/-
  Rows of a call's own: clauses whose rows are its own, and projections.
-/
import Derived.Deep.DeepCutAuto
import Derived.BigQuiet
import Derived.Test.YtjgddlnfjmdnnaaMg2
namespace Go.Proofs.Ytjgddlnfjmdnnaa.QcWalk
open Go.RowKit Go.Proofs.Ytjgddlnfjmdnnaa.MemRow Go.Proofs.Ytjgddlnfjmdnnaa.Ev Go.Proofs.Ytjgddlnfjmdnnaa.NameMath Go.Proofs.Ytjgddlnfjmdnnaa.NameWalk Go.Proofs.Ytjgddlnfjmdnnaa.EvWalk Go.Proofs.Ytjgddlnfjmdnnaa.NumMath Go.Proofs.Ytjgddlnfjmdnnaa.NumMem Go.Proofs.Ytjgddlnfjmdnnaa.NumWalk Go.Proofs.Ytjgddlnfjmdnnaa.Qu Go.Proofs.Ytjgddlnfjmdnnaa.QuWalk Go.Proofs.Ytjgddlnfjmdnnaa.QlLaw

/-! ### Worlds that a call changed -/
theorem rdr_apart {w w' : World} {T : TypeId} {g : Nat} {l : List UInt8} {b : Bool} {row : Option Nat} (h : Rdr w T g l b) (hg : w.grownBy w' row) (hr : ∀ r, row = some r → g < r) : Rdr w' T g l b := by
  have hlt := h.lt
  obtain ⟨A, n, cap, hh, hr', ho⟩ := h
  refine ⟨A, n, cap, (hg.block g hlt (fun e => by have := hr g e.symm; omega)).trans hh, ⟨hr'.1, hr'.2.1, hr'.2.2.1, fun hn => ?_⟩, ho⟩
  obtain ⟨c, o, hA, hc⟩ := hr'.2.2.2 hn
  exact ⟨c, o, hA, fun i hi => hg.cell (hc i hi) (fun e => by have h1 := hr c e.symm; have h2 : c < g := ho ⟨c, o, none⟩ hA; omega)⟩
theorem gr_step {w wr w' : World} {g : Nat} {row : Option Nat} (h : w.grownBy wr (some g)) (hg : wr.grownBy w' row) (hr : ∀ r, row = some r → w.heap.size ≤ r) : w.grownBy w' (some g) :=
  ⟨hg.os.trans h.os, hg.tape.trans h.tape, hg.output.trans h.output, Nat.le_trans h.size hg.size, fun k hk hne => (hg.block k (Nat.lt_of_lt_of_le hk h.size) (fun e => by have := hr k e.symm; omega)).trans (h.block k hk hne)⟩
theorem gr_step' {w wr w' : World} {g : Nat} (h : w.grownBy wr (some g)) (hg : wr.grownBy w' (some g)) : w.grownBy w' (some g) :=
  ⟨hg.os.trans h.os, hg.tape.trans h.tape, hg.output.trans h.output, Nat.le_trans h.size hg.size, fun k hk hne => (hg.block k (Nat.lt_of_lt_of_le hk h.size) hne).trans (h.block k hk hne)⟩
theorem gr_below {w wr w' : World} {g : Nat} (h : w.grownBy wr (some g)) (hb : Below wr.heap.size wr w') : w.grownBy w' (some g) :=
  gr_step h (row := none) ⟨hb.os, hb.tape, hb.output, hb.size, fun k hk _ => hb.block k hk⟩ (fun _ e => by cases e)
theorem gr_refl (w : World) (g : Nat) : w.grownBy w (some g) := ⟨rfl, rfl, rfl, Nat.le_refl _, fun _ _ _ => rfl⟩
section
variable {k k' : Nat} {w w' : World} {base base' : Nat} {t t' : TypeId} {A A' : Option Addr} {n n' cap cap' : Nat} {cs cs' : List Value}
theorem row_low (h : OwnC k w base t A n cap cs) {r : Nat} (e : A.map (·.block) = some r) : base ≤ r := by
  cases A with
  | none => cases e
  | some a =>
    simp only [Option.map_some, Option.some.injEq] at e
    have := (OwnC.lt h a rfl).1
    omega
theorem own_lower (h : OwnC k w base t A n cap cs) (hb : base' ≤ base) : OwnC k w base' t A n cap cs := by
  refine ⟨h.1, ?_⟩
  rcases h.2 with h2 | ⟨g, c, cur, hv, hg, rest⟩
  · exact .inl h2
  · exact .inr ⟨g, c, cur, hv, Nat.le_trans hb hg, rest⟩
theorem own_off {g : Nat} (h : OwnC k w base t A n cap cs) (hg : w.grownBy w' (some g)) (hb : g < base) : OwnC k w' base t A n cap cs :=
  OwnC.grown h hg fun a hA e => by
    have := (OwnC.lt h a hA).1
    injection e with e
    omega
/-- Two rows of a call's own of unlike elements lie in unlike blocks. -/
theorem own_unlike (h : OwnC k w base t A n cap cs) (h' : OwnC k' w base' t' A' n' cap' cs') (ht : t ≠ t') : ∀ a, A = some a → some a.block ≠ A'.map (·.block) := by
  rintro a rfl e
  cases A' with
  | none => cases e
  | some a' =>
    simp only [Option.map_some, Option.some.injEq] at e
    rcases h.2 with ⟨hv, _⟩ | ⟨g, c, cur, hv, _, hg, _⟩
    · cases hv
    · rcases h'.2 with ⟨hv', _⟩ | ⟨g', c', cur', hv', _, hg', _⟩
      · cases hv'
      · injection hv with e1
        injection e1 with e1
        injection hv' with e2
        injection e2 with e2
        subst e1 e2
        simp only at e
        subst e
        rw [hg] at hg'
        injection hg' with hg'
        injection hg' with _ e3
        exact ht e3
end

/-! ### Clauses whose rows are the call's own -/
def ClsO (w : World) (base : Nat) : List Cl → List Value → Prop
  | [], cs => cs = []
  | c :: q, cs => ∃ T nT cT Y nY cY cs', cs = .slice T nT cT :: .slice Y nY cY :: cs' ∧ OwnC 1 w base 9 T nT cT (strs c.tags) ∧ OwnC 1 w base 9 Y nY cY (strs c.types) ∧ ClsO w base q cs'
theorem ClsO.map {w w' : World} {base base' : Nat} (h1 : ∀ (A : Option Addr) (n c : Nat) (x : List Value), OwnC 1 w base 9 A n c x → OwnC 1 w' base' 9 A n c x) : ∀ (q : List Cl) (cs : List Value), ClsO w base q cs → ClsO w' base' q cs
  | [], _, h => h
  | _ :: q, _, ⟨T, nT, cT, Y, nY, cY, cs', e, o1, o2, h⟩ => ⟨T, nT, cT, Y, nY, cY, cs', e, h1 _ _ _ _ o1, h1 _ _ _ _ o2, ClsO.map h1 q cs' h⟩
theorem ClsO.snoc {w : World} {base : Nat} {c : Cl} {T Y : Option Addr} {nT cT nY cY : Nat} (o1 : OwnC 1 w base 9 T nT cT (strs c.tags)) (o2 : OwnC 1 w base 9 Y nY cY (strs c.types)) :
    ∀ (q : List Cl) (cs : List Value), ClsO w base q cs → ClsO w base (q ++ [c]) (cs ++ [.slice T nT cT, .slice Y nY cY])
  | [], cs, h => by
    obtain rfl : cs = [] := h
    exact ⟨T, nT, cT, Y, nY, cY, [], rfl, o1, o2, rfl⟩
  | x :: q, cs, ⟨T1, n1, c1, F1, m1, d1, cs', hc, p1, p2, h⟩ => by
    subst hc
    exact ⟨T1, n1, c1, F1, m1, d1, cs' ++ [.slice T nT cT, .slice Y nY cY], rfl, p1, p2, ClsO.snoc o1 o2 q cs' h⟩
theorem ClsO.plain {w : World} {base : Nat} : ∀ (q : List Cl) (cs : List Value), ClsO w base q cs → ClsR w q cs
  | [], _, h => h
  | _ :: q, _, ⟨T, nT, cT, Y, nY, cY, cs', e, o1, o2, h⟩ => ⟨T, nT, cT, Y, nY, cY, cs', e, OwnC.rd o1, OwnC.rd o2, ClsO.plain q cs' h⟩
/-- A slice of a call's own that holds clauses, their rows its own too. -/
def OwnK (w : World) (base : Nat) (A : Option Addr) (n cap : Nat) (q : List Cl) : Prop := ∃ cs, OwnC 2 w base 60 A n cap cs ∧ q.length = n ∧ ClsO w base q cs
section
variable {w w' : World} {base base' : Nat} {A A' : Option Addr} {n cap cap' : Nat} {q : List Cl}
theorem OwnK.nil (w : World) (base : Nat) : OwnK w base none 0 0 [] := ⟨[], OwnC.nil _ _, rfl, rfl⟩
theorem OwnK.len (h : OwnK w base A n cap q) : q.length = n := by
  obtain ⟨_, _, h, _⟩ := h
  exact h
theorem OwnK.lower (h : OwnK w base A n cap q) (hb : base' ≤ base) : OwnK w base' A n cap q := by
  obtain ⟨cs, o, hl, hc⟩ := h
  exact ⟨cs, own_lower o hb, hl, ClsO.map (fun _ _ _ _ h => own_lower h hb) q cs hc⟩
theorem OwnK.below (h : OwnK w base A n cap q) (hb : Below w.heap.size w w') : OwnK w' base A n cap q := by
  obtain ⟨cs, o, hl, hc⟩ := h
  exact ⟨cs, OwnC.below o hb, hl, ClsO.map (fun _ _ _ _ h => OwnC.below h hb) q cs hc⟩
theorem OwnK.off {g : Nat} (h : OwnK w base A n cap q) (hg : w.grownBy w' (some g)) (hb : g < base) : OwnK w' base A n cap q := by
  obtain ⟨cs, o, hl, hc⟩ := h
  exact ⟨cs, own_off o hg hb, hl, ClsO.map (fun _ _ _ _ h => own_off h hg hb) q cs hc⟩
/-- A row of unlike elements grows. -/
theorem OwnK.unlike {k' n' : Nat} {t' : TypeId} {cs' : List Value} (h : OwnK w base A n cap q) (h' : OwnC k' w base' t' A' n' cap' cs') (hs : 9 ≠ t') (hc : 60 ≠ t') (hg : w.grownBy w' (A'.map (·.block))) : OwnK w' base A n cap q := by
  obtain ⟨cs, o, hl, hcs⟩ := h
  exact ⟨cs, OwnC.grown o hg (own_unlike o h' hc), hl, ClsO.map (fun _ _ _ _ h => OwnC.grown h hg (own_unlike h h' hs)) q cs hcs⟩
theorem OwnK.ofq (h : OwnK w base A n cap q) : OwnQ w w base A n cap q := by
  obtain ⟨cs, o, hl, hc⟩ := h
  exact ⟨cs, o, hl, ClsO.plain q cs hc⟩
theorem OwnK.rd (h : OwnK w base A n cap q) : RdQ w A n cap q := OwnQ.rd (OwnK.ofq h) (Below.refl _ _)
/-- A clause more. -/
theorem OwnK.more {cs : List Value} {c : Cl} {T Y : Option Addr} {nT cT nY cY : Nat} (ho : OwnC 2 w base 60 A n cap cs) (hl : q.length = n) (hc : ClsO w base q cs) (o1 : OwnC 1 w base 9 T nT cT (strs c.tags)) (o2 : OwnC 1 w base 9 Y nY cY (strs c.types))
    (ho' : OwnC 2 w' base 60 A' (n + 1) cap' (cs ++ [.slice T nT cT, .slice Y nY cY])) (hg : w.grownBy w' (A.map (·.block))) : OwnK w' base A' (n + 1) cap' (q ++ [c]) :=
  have k1 : ∀ (B : Option Addr) (m c : Nat) (x : List Value), OwnC 1 w base 9 B m c x → OwnC 1 w' base 9 B m c x := fun _ _ _ _ h => OwnC.grown h hg (own_unlike h ho (by decide))
  ⟨_, ho', by rw [List.length_append, hl]; rfl, ClsO.snoc (k1 _ _ _ _ o1) (k1 _ _ _ _ o2) q cs (ClsO.map k1 q cs hc)⟩
end

/-! ### Projections -/
theorem def_info : (Try.prog.info? 36).map (fun i => (i.zero, i.size, i.bytes)) = some (some (.agg #[.int .i64 0, .string ⟨#[]⟩, .slice none 0 0]), 3, 48) := by kernel_rfl
theorem def_size : (Try.prog.info? 36).map (·.size) = some 3 := by kernel_rfl
theorem elem_defs : Try.prog.elem 26 = 36 := by kernel_rfl
/-- The cells cs are the projections ds, their queries as Q has them. -/
def DfsP (Q : Option Addr → Nat → Nat → List Cl → Prop) : List Df → List Value → Prop
  | [], cs => cs = []
  | d :: ds, cs => ∃ A n c cs', cs = .int .i64 d.k :: .string d.f :: .slice A n c :: cs' ∧ Q A n c d.q ∧ DfsP Q ds cs'
theorem DfsP.map {Q Q' : Option Addr → Nat → Nat → List Cl → Prop} (h1 : ∀ A n c q, Q A n c q → Q' A n c q) : ∀ (ds : List Df) (cs : List Value), DfsP Q ds cs → DfsP Q' ds cs
  | [], _, h => h
  | _ :: ds, _, ⟨A, n, c, cs', e, o, h⟩ => ⟨A, n, c, cs', e, h1 _ _ _ _ o, DfsP.map h1 ds cs' h⟩
theorem DfsP.snoc {Q : Option Addr → Nat → Nat → List Cl → Prop} {d : Df} {A : Option Addr} {n c : Nat} (o : Q A n c d.q) : ∀ (ds : List Df) (cs : List Value), DfsP Q ds cs → DfsP Q (ds ++ [d]) (cs ++ [.int .i64 d.k, .string d.f, .slice A n c])
  | [], cs, h => by
    obtain rfl : cs = [] := h
    exact ⟨A, n, c, [], rfl, o, rfl⟩
  | x :: ds, cs, ⟨A1, n1, c1, cs', hc, p, h⟩ => by
    subst hc
    exact ⟨A1, n1, c1, cs' ++ [.int .i64 d.k, .string d.f, .slice A n c], rfl, p, DfsP.snoc o ds cs' h⟩
theorem DfsP.at_ {Q : Option Addr → Nat → Nat → List Cl → Prop} : ∀ (ds : List Df) (cs : List Value), DfsP Q ds cs → ∀ i, i < ds.length →
    ∃ A n c, cs[i * 3]? = some (.int .i64 (ds.getD i noDf).k) ∧ cs[i * 3 + 1]? = some (.string (ds.getD i noDf).f) ∧ cs[i * 3 + 2]? = some (.slice A n c) ∧ Q A n c (ds.getD i noDf).q
  | [], _, _, i, hi => by simp at hi
  | d :: ds, cs, ⟨A, n, c, cs', hc, o, h⟩, i, hi => by
    subst hc
    cases i with
    | zero => exact ⟨A, n, c, rfl, rfl, rfl, o⟩
    | succ i =>
      obtain ⟨A1, n1, c1, q0, q1, q2, p⟩ := DfsP.at_ ds cs' h i (by simpa using hi)
      have e3 : (i + 1) * 3 = i * 3 + 3 := by omega
      rw [e3]
      exact ⟨A1, n1, c1, by simpa using q0, by simpa using q1, by simpa using q2, by simpa using p⟩
/-- A slice of a call's own that holds projections, their queries as Q has them. -/
def OwnP (Q : Option Addr → Nat → Nat → List Cl → Prop) (w : World) (base : Nat) (A : Option Addr) (n cap : Nat) (ds : List Df) : Prop := ∃ cs, OwnC 3 w base 36 A n cap cs ∧ ds.length = n ∧ DfsP Q ds cs
section
variable {Q Q' : Option Addr → Nat → Nat → List Cl → Prop} {w w' : World} {base base' : Nat} {A A' : Option Addr} {n cap cap' : Nat} {ds : List Df}
theorem OwnP.len (h : OwnP Q w base A n cap ds) : ds.length = n := by
  obtain ⟨_, _, h, _⟩ := h
  exact h
theorem OwnP.empty (w : World) (hb : base ≤ w.heap.size) : OwnP Q (w.alloc (.cells #[] 36)) base (some ⟨w.heap.size, 0, none⟩) 0 0 [] := ⟨[], OwnC.empty w _ hb, rfl, rfl⟩
theorem OwnP.below (h : OwnP Q w base A n cap ds) (hb : Below w.heap.size w w') (hQ : ∀ A n c q, Q A n c q → Q' A n c q) : OwnP Q' w' base A n cap ds := by
  obtain ⟨cs, o, hl, hc⟩ := h
  exact ⟨cs, OwnC.below o hb, hl, DfsP.map hQ ds cs hc⟩
theorem OwnP.off {g : Nat} (h : OwnP Q w base A n cap ds) (hg : w.grownBy w' (some g)) (hb : g < base) (hQ : ∀ A n c q, Q A n c q → Q' A n c q) : OwnP Q' w' base A n cap ds := by
  obtain ⟨cs, o, hl, hc⟩ := h
  exact ⟨cs, own_off o hg hb, hl, DfsP.map hQ ds cs hc⟩
theorem OwnP.away {g : Nat} (h : OwnP Q w base A n cap ds) (hg : w.grownBy w' (some g)) (hb : ∀ a, A = some a → a.block ≠ g) (hQ : ∀ A n c q, Q A n c q → Q' A n c q) : OwnP Q' w' base A n cap ds := by
  obtain ⟨cs, o, hl, hc⟩ := h
  exact ⟨cs, OwnC.grown o hg (fun a ha e => hb a ha (by injection e)), hl, DfsP.map hQ ds cs hc⟩
theorem OwnP.rd (h : OwnP Q w base A n cap ds) (hQ : ∀ A n c q, Q A n c q → RdQ w A n c q) : RdD w A n cap ds := by
  obtain ⟨cs, o, hl, hc⟩ := h
  have r := OwnC.rd o
  refine ⟨hl, r.2.1, r.2.2.1, fun hn => ?_⟩
  obtain ⟨b, a, hA, hlt, hcell⟩ := RdC.at_ r (by omega) hn
  refine ⟨b, a, hA, hlt, fun i hi => ?_⟩
  obtain ⟨A1, n1, c1, q0, q1, q2, p⟩ := DfsP.at_ ds cs hc i (by omega)
  exact ⟨A1, n1, c1, hcell _ _ q0, by rw [Nat.add_assoc]; exact hcell _ _ q1, by rw [Nat.add_assoc]; exact hcell _ _ q2, hQ _ _ _ _ p⟩
/-- A projection more. -/
theorem OwnP.more {cs : List Value} {d : Df} {B : Option Addr} {m c : Nat} (hl : ds.length = n) (hc : DfsP Q ds cs) (o : Q B m c d.q) (ho' : OwnC 3 w' base 36 A' (n + 1) cap' (cs ++ [.int .i64 d.k, .string d.f, .slice B m c])) (hQ : ∀ A n c q, Q A n c q → Q' A n c q) : OwnP Q' w' base A' (n + 1) cap' (ds ++ [d]) :=
  ⟨_, ho', by rw [List.length_append, hl]; rfl, DfsP.snoc (hQ _ _ _ _ o) ds cs (DfsP.map hQ ds cs hc)⟩
theorem df_one (k : Int) (f : ByteArray) (B : Option Addr) (m c : Nat) : ∀ v ∈ ([.int .i64 k, .string f, .slice B m c] : List Value), v.oneCell' = true := by
  intro v hv
  simp only [List.mem_cons, List.not_mem_nil, or_false] at hv
  rcases hv with rfl | rfl | rfl <;> rfl
end

end Go.Proofs.Ytjgddlnfjmdnnaa.QcWalk

/-
  Contracts of the document's answers of layer 7: MayDef, PutDefs.
-/
namespace Go.Proofs.Ytjgddlnfjmdnnaa.QcWalk
open Go.RowKit Go.Proofs.Ytjgddlnfjmdnnaa.MemRow Go.Proofs.Ytjgddlnfjmdnnaa.Ev Go.Proofs.Ytjgddlnfjmdnnaa.NameMath Go.Proofs.Ytjgddlnfjmdnnaa.NameWalk Go.Proofs.Ytjgddlnfjmdnnaa.EvWalk Go.Proofs.Ytjgddlnfjmdnnaa.NumMath Go.Proofs.Ytjgddlnfjmdnnaa.NumMem Go.Proofs.Ytjgddlnfjmdnnaa.NumWalk Go.Proofs.Ytjgddlnfjmdnnaa.Qu Go.Proofs.Ytjgddlnfjmdnnaa.QuWalk Go.Proofs.Ytjgddlnfjmdnnaa.QlLaw

/-! ### The box of a projection -/
def DAt (w : World) (g : Nat) (v0 v1 v2 : Value) : Prop := w.heap[g]? = some (.cells #[v0, v1, v2] 36 (0, 0))
theorem DAt.new (w : World) (v0 v1 v2 : Value) : DAt (w.alloc (.cells #[v0, v1, v2] 36)) w.heap.size v0 v1 v2 := heap_alloc_new w _
section
variable {w w' : World} {g : Nat} {v0 v1 v2 : Value}
theorem DAt.lt (h : DAt w g v0 v1 v2) : g < w.heap.size := (Array.getElem?_eq_some_iff.1 h).1
theorem DAt.below (h : DAt w g v0 v1 v2) (hb : Below w.heap.size w w') : DAt w' g v0 v1 v2 := (hb.block g h.lt).trans h
theorem DAt.c0 (h : DAt w g v0 v1 v2) : w.cell? ⟨g, 0, none⟩ = some v0 := by rw [cell_of_row w g 0 _ _ _ h]; rfl
theorem DAt.c1 (h : DAt w g v0 v1 v2) : w.cell? ⟨g, 1, none⟩ = some v1 := by rw [cell_of_row w g 1 _ _ _ h]; rfl
theorem DAt.c2 (h : DAt w g v0 v1 v2) : w.cell? ⟨g, 2, none⟩ = some v2 := by rw [cell_of_row w g 2 _ _ _ h]; rfl
theorem DAt.frozen (h : DAt w g v0 v1 v2) (i : Nat) : w.frozen? ⟨g, i, none⟩ = false := by
  unfold DAt at h
  simp [World.frozen?, h]
theorem DAt.grown {row : Option Nat} (h : DAt w g v0 v1 v2) (hg : w.grownBy w' row) (hne : some g ≠ row) : DAt w' g v0 v1 v2 := (hg.block g h.lt hne).trans h
theorem DAt.set1 (h : DAt w g v0 v1 v2) (x : Value) : DAt (w.setCell ⟨g, 1, none⟩ x) g v0 x v2 := by
  unfold DAt at h ⊢
  simp only [World.setCell, Array.getElem?_modify, h]
  rfl
theorem DAt.set2 (h : DAt w g v0 v1 v2) (x : Value) : DAt (w.setCell ⟨g, 2, none⟩ x) g v0 v1 x := by
  unfold DAt at h ⊢
  simp only [World.setCell, Array.getElem?_modify, h]
  rfl
end

theorem str_eq0 {f : ByteArray} (h : f.size = 0) : f = ⟨#[]⟩ := by
  obtain ⟨a⟩ := f
  have ha : a.size = 0 := h
  rw [Array.eq_empty_of_size_eq_zero ha]
theorem str_ne0 {f : ByteArray} (h : f.size ≠ 0) : (f.toList == (⟨#[]⟩ : ByteArray).toList) = false := by
  rw [beq_eq_false_iff_ne, ByteArray.toList_eq, ByteArray.toList_eq]
  intro e
  apply h
  have h2 := size_list f
  have h3 := congrArg List.length e
  rw [h2, h3]
  rfl
theorem str_full {f : ByteArray} (h : f.size ≠ 0) : f.toList.isEmpty = false := by
  rw [ByteArray.toList_eq, List.isEmpty_eq_false_iff]
  intro e
  apply h
  rw [size_list f, e]
  rfl
theorem mayD_in {d : Df} (h1 : ¬ (d.k < 1 ∨ 4 < d.k)) (h2 : mayQ d.q = 0) : mayD d = if badF d = true then 5 else 0 := by
  unfold mayD
  rw [if_neg h1, if_neg (fun h => h h2)]

set_option maxHeartbeats 2000000 in
set_option maxRecDepth 100000 in
theorem refMayD_any (v : Value) (d : Df) (w : World) (hv : IsD w v d) (hok : DfOk d) :
    Calls Try.prog 17 #[v] w fun e w' => e = .returned (.int .i64 (mayD d)) ∧ Below w.heap.size w w' := by
  obtain ⟨A, n, ca, rfl, hq⟩ := hv
  have B1 : Below w.heap.size w (w.alloc (.cells #[.int .i64 d.k, .string d.f, .slice A n ca] 36)) := (Below.refl _ _).alloc (Nat.le_refl _) _
  have E1 := DAt.new w (.int .i64 d.k) (.string d.f) (.slice A n ca)
  have hq1 := hq.below B1
  generalize hR : mayD d = R
  have HR0 := Go.Lib.hid hR
  clear hR
  go_enter Try.func17, Try.ntmps17
  go_upto_region 1 with (fail)
  generalize w.alloc (.cells #[.int .i64 d.k, .string d.f, .slice A n ca] 36) = w1 at *
  have k0 := E1.c0
  have k1 := E1.c1
  have k2 := E1.c2
  by_cases hk : d.k < 1 ∨ 4 < d.k
  · have hr : R = 1 := by rw [← HR0.out]; unfold mayD; rw [if_pos hk]
    subst hr
    clear HR0
    generalize d.k = k at *
    rcases hk with hk | hk
    · go_wp2_with fail
      go_ret
      exact ⟨rfl, B1⟩
    · have hk1 : ¬ k < 1 := by omega
      go_wp2_with fail
      go_ret
      exact ⟨rfl, B1⟩
  have hk1 : ¬ d.k < 1 := fun h => hk (.inl h)
  have hk4 : ¬ 4 < d.k := fun h => hk (.inr h)
  have HKK := Go.Lib.hid hk
  clear hk
  have hb := hok.f
  go_wp2_with fail
  refine (refMayQ_any _ d.q w1 ⟨A, n, ca, rfl, hq1⟩ hok.q).mono ?_
  rintro e w2 ⟨rfl, b2⟩
  have E2 := E1.below b2
  have B2 := below_chain B1 b2
  clear k0 k1 k2 E1 B1 b2 hk1 hk4 hq1
  by_cases hm : mayQ d.q = 0
  case neg =>
    have hr : mayQ d.q = R := by rw [← HR0.out]; unfold mayD; rw [if_neg HKK.out, if_pos hm]
    rw [hr] at hm ⊢
    clear HR0 hr
    have m0 : (R != 0) = true := by rw [bne_iff_ne]; exact hm
    clear hm
    go_wp2_with fail
    go_ret
    exact ⟨rfl, B2⟩
  have HR := Go.Lib.hid (HR0.out.symm.trans (mayD_in HKK.out hm))
  clear HR0
  rw [hm]
  have k0 := E2.c0
  have k1 := E2.c1
  go_wp2_with fail
  refine (refMay_any d.f w2 (by unfold maxLen at hb; omega)).mono ?_
  rintro e w3 ⟨rfl, b3⟩
  have hnb : may d.f.data.toList = nameB d.f := rfl
  rw [hnb]
  have E3 := E2.below b3
  have B3 := below_chain B2 b3
  clear k0 k1 E2 B2 b3 hm hnb
  have k0 := E3.c0
  have k1 := E3.c1
  have hbad : R = if (if fieldD d.k = true then !nameB d.f else decide (d.f.size ≠ 0)) = true then 5 else 0 := HR.out
  clear HR HKK
  obtain ⟨k, f, q⟩ := d
  simp only at *
  generalize nameB f = F at *
  by_cases h2 : k = 2
  · subst h2
    have hf : fieldD 2 = true := rfl
    rw [hf] at hbad
    clear hf
    cases F with
    | true =>
      obtain rfl : R = 0 := hbad
      go_wp2_with fail
      go_ret
      exact ⟨rfl, B3⟩
    | false =>
      obtain rfl : R = 5 := hbad
      go_wp2_with fail
      go_ret
      exact ⟨rfl, B3⟩
  · have e2 : (k == 2) = false := by rw [beq_eq_false_iff_ne]; exact h2
    by_cases h3 : k = 3
    · subst h3
      have hf : fieldD 3 = true := rfl
      rw [hf] at hbad
      clear hf
      cases F with
      | true =>
        obtain rfl : R = 0 := hbad
        go_wp2_with fail
        go_ret
        exact ⟨rfl, B3⟩
      | false =>
        obtain rfl : R = 5 := hbad
        go_wp2_with fail
        go_ret
        exact ⟨rfl, B3⟩
    · have e3 : (k == 3) = false := by rw [beq_eq_false_iff_ne]; exact h3
      have hf : fieldD k = false := by unfold fieldD; rw [e2, e3]; rfl
      rw [hf] at hbad
      clear hf
      by_cases hz : f.size = 0
      · obtain rfl := str_eq0 hz
        obtain rfl : R = 0 := hbad
        go_wp2_with fail
        go_ret
        exact ⟨rfl, B3⟩
      · have n0 := str_ne0 hz
        have n1 : f.toList.isEmpty = false := str_full hz
        have hd : decide (f.size ≠ 0) = true := decide_eq_true hz
        rw [hd] at hbad
        clear hd
        obtain rfl : R = 5 := hbad
        go_wp2_with fail
        go_ret
        exact ⟨rfl, B3⟩

/-- What laying projections down comes to. -/
def PutDs (ds : List Df) (w : World) (e : Ending) (w' : World) : Prop :=
  (mayDs ds = 0 ∧ ∃ v, e = .returned (.tuple #[v, .int .i64 0]) ∧ Laid w' w.heap.size v (encDs ds)) ∨ (mayDs ds ≠ 0 ∧ e = .returned (.tuple #[.slice none 0 0, .int .i64 (mayDs ds)]))

theorem dfs_head {ds : List Df} (h : ds.length ≤ 4) {j : Nat} (hm : ∀ d ∈ ds.take j, mayD d = 0) : (enc (ds.length : Int) ++ dfsE (ds.take j)).length ≤ 140000 := by
  have h1 := enc_le (ds.length : Int) (by omega) (by omega)
  have h2 := dfsE_le hm
  have h3 : (ds.take j).length ≤ 4 := by rw [List.length_take]; omega
  rw [List.length_append]
  omega
theorem firstD_none {ds : List Df} {j : Nat} (h : j < ds.length) (h0 : firstD (ds.take j) = 0) (hd : mayD (ds.getD j noDf) ≠ 0) : firstD ds = mayD (ds.getD j noDf) := by
  have e : ds = ds.take (j + 1) ++ ds.drop (j + 1) := (List.take_append_drop _ _).symm
  have h1 : ∀ (a b : List Df), firstD a ≠ 0 → firstD (a ++ b) = firstD a := by
    intro a b
    induction a with
    | nil => intro h; exact absurd rfl h
    | cons x a ih =>
      intro h
      rw [List.cons_append]
      by_cases hx : mayD x = 0
      · simp only [firstD, hx] at h ⊢
        simpa using ih (by simpa using h)
      · simp [firstD, hx]
  have h2 : firstD (ds.take (j + 1)) = mayD (ds.getD j noDf) := by
    rw [df_take ds j h, firstD_snoc, h0]
    simp
  rw [e, h1 _ _ (by rw [h2]; exact hd), h2, ← e]

set_option maxHeartbeats 2000000 in
set_option maxRecDepth 100000 in
theorem refPutDs_any (A : Option Addr) (n cap : Nat) (ds : List Df) (w : World) (h : RdD w A n cap ds) (hok : DsOk ds) :
    Calls Try.prog 15 #[.slice A n cap] w fun e w' => PutDs ds w e w' ∧ Below w.heap.size w w' := by
  have LD := Go.Lib.hid h.len
  have HOK := Go.Lib.hid hok
  clear hok
  have hmax := h.le
  unfold maxLen at hmax
  go_enter Try.func15, Try.ntmps15
  by_cases h4 : 4 < n
  · have hr : mayDs ds = 3 := by unfold mayDs; rw [LD.out, if_pos h4]
    have i4 : (4 : Int) < n := by omega
    have HR := Go.Lib.hid hr
    clear hr
    go_wp2_with fail
    go_ret2
    exact ⟨.inr ⟨by rw [HR.out]; decide, by rw [HR.out]; exact rfl⟩, Below.refl _ _⟩
  have i4 : ¬ (4 : Int) < n := by omega
  have hrr : mayDs ds = firstD ds := by unfold mayDs; rw [LD.out, if_neg h4]
  have HRR := Go.Lib.hid hrr
  clear hrr
  have hxn : -9223372036854775808 ≤ (n : Int) ∧ (n : Int) ≤ 9223372036854775807 := by omega
  go_wp2_with fail
  refine (refPut_laid none 0 0 [] (n : Int) w (Rd.nil w) hxn (by simp)).mono ?_
  rintro e w1 ⟨u1, l1, H1, rfl, ⟨A1, c1, rfl, o1⟩, b1⟩
  have e1 : l1 = enc (ds.length : Int) ++ dfsE (ds.take 0) := by
    rw [H1.out, LD.out]
    simp [dfsE]
  have HE1 := Go.Lib.hid e1
  clear e1 hxn i4
  go_wp2_with fail
  go_loopw [4, 5] (fun o i wr => ∃ (j : Nat) (A' : Option Addr) (c' : Nat) (l' : List UInt8), j ≤ n ∧ o = .slice A' l'.length c' ∧ i = .int .i64 j ∧ Hid (l' = enc (ds.length : Int) ++ dfsE (ds.take j)) ∧ Hid (firstD (ds.take j) = 0) ∧ Own wr w.heap.size 5 A' l'.length c' l' ∧ Below w.heap.size w wr) (fun _ i _ => n - (intOf i).toNat)
  case atStart => exact ⟨0, A1, c1, l1, Nat.zero_le _, rfl, rfl, HE1, Go.Lib.hid rfl, o1, b1⟩
  case round =>
    obtain ⟨j, A', c', l', hj, rfl, rfl, HQ, HF, oq, Bq⟩ := hrel
    have hlq : l'.length ≤ 150000 := by
      have h1 := dfs_head (ds := ds) (j := j) (by rw [LD.out]; omega) ((firstD_zero _).1 HF.out)
      rw [HQ.out]
      omega
    by_cases hlt : j < n
    · obtain ⟨bt, ot, rfl, _, kt⟩ := (h.below Bq).at_ (by omega)
      obtain ⟨C, nC, cC, x0, x1, x2, rC⟩ := kt j hlt
      have i1 : (j : Int) < n := by omega
      have hjl : j < ds.length := by rw [LD.out]; exact hlt
      have TA := Go.Lib.hid (df_take ds j hjl)
      have hdo := HOK.out _ (df_get hjl)
      have HN := Go.Lib.hid (fun h => firstD_none hjl HF.out h)
      have HD : Hid (ds.getD j noDf ∈ ds) := Go.Lib.hid (df_get hjl)
      clear kt hjl
      generalize ds.getD j noDf = d at *
      go_wp2_with fail
      refine (refMayD_any _ d wr ⟨C, nC, cC, rfl, rC⟩ hdo).mono ?_
      rintro e w2 ⟨rfl, b2⟩
      have y0 := bcell b2 x0
      have y1 := bcell b2 x1
      have y2 := bcell b2 x2
      have rC2 := rC.below b2
      have oq2 := oq.below b2
      have B2 := below_chain Bq b2
      have wz2 := b2.size
      clear x0 x1 x2 rC oq b2
      by_cases h0 : mayD d = 0
      case neg =>
        have hr := HN.out h0
        have HR := Go.Lib.hid hr
        have HM := Go.Lib.hid h0
        have m0 : (mayD d != 0) = true := by rw [bne_iff_ne]; exact h0
        clear hr h0
        generalize mayD d = M at *
        go_wp2_with fail
        go_ret2
        exact ⟨.inr ⟨by rw [HRR.out, HR.out]; exact HM.out, by rw [HRR.out, HR.out]; exact rfl⟩, B2⟩
      rw [h0]
      have HM := Go.Lib.hid h0
      obtain ⟨q1, q2, q3, q4⟩ := mayD_zero h0
      have HQ3 := Go.Lib.hid q3
      have hzk : -9223372036854775808 ≤ d.k ∧ d.k ≤ 9223372036854775807 := by omega
      have hzf : d.f.size ≤ 1000 := by omega
      have hqo := hdo.q
      clear h0 hdo q1 q2 q3 q4
      have hl2 : l'.length ≤ 10000000 := by omega
      have b0 : Below w2.heap.size w2 w2.drew := bel_drew (Below.refl _ _)
      have rd := oq2.rd.below b0
      go_wp2_with fail
      go_region_held (fun w' => w'.cell? ⟨bt, ot + j * 3, none⟩ = some (.int .i64 d.k) ∧ w'.cell? ⟨bt, ot + j * 3 + 1, none⟩ = some (.string d.f) ∧ w'.cell? ⟨bt, ot + j * 3 + 2, none⟩ = some (.slice C nC cC))
        (first | exact ⟨y0, y1, y2⟩ | exact ⟨bcell b7 y0, bcell b7 y1, bcell b7 y2⟩ | exact ⟨bcell b8 y0, bcell b8 y1, bcell b8 y2⟩ | exact ⟨bcell b9 y0, bcell b9 y1, bcell b9 y2⟩)
        (first
          | (go_at_call 12; refine (refPutQ_any A8 l8.length c8 l8 _ d.q w8 o8.rd hl8 ⟨C, nC, cC, rfl, rC2.below b8⟩ hqo).mono ?_; rintro e w9 ⟨hput, bb⟩; obtain ⟨_, u9, rfl, L9⟩ := hput.resolve_right (fun h => h.1 HQ3.out); have b9 := below_chain b8 bb; clear bb hput)
          | (go_at_call 34; refine (refTxt_laid A7 l7.length c7 l7 d.f w7 o7.rd hzf hl7).mono ?_; rintro e w8 ⟨u8, l8, H8, rfl, ⟨A8, c8, rfl, o8⟩, bb⟩; have b8 := below_chain b7 bb; have hl8 : l8.length ≤ 1000000 := (by have := txt_le hzf; rw [H8.out, List.length_append]; omega); clear bb)
          | (go_at_call 30; refine (refPut_laid A' l'.length c' l' d.k w2.drew rd hzk hl2).mono ?_; rintro e w7 ⟨u7, l7, H7, rfl, ⟨A7, c7, rfl, o7⟩, bb⟩; have b7 := below_chain b0 bb; have hl7' : l7.length ≤ 160000 := (by have := enc_le d.k hzk.1 hzk.2; rw [H7.out, List.length_append]; omega); have hl7 : l7.length ≤ 10000000 := (by omega); clear bb))
      have B9 := below_chain B2 b9
      obtain ⟨A9, c9, rfl, o9⟩ := Laid.lower (base' := w.heap.size) L9 (Nat.le_trans B2.size b8.size)
      have H10 : Hid (l8 ++ encQ d.q = enc (ds.length : Int) ++ dfsE (ds.take (j + 1))) := Go.Lib.hid (by rw [H8.out, H7.out, HQ.out, TA.out, dfsE_snoc, encD]; simp only [List.append_assoc])
      have H11 : Hid (firstD (ds.take (j + 1)) = 0) := Go.Lib.hid (by rw [TA.out, firstD_snoc, HF.out, HM.out]; rfl)
      clear y0 y1 y2 b0 rd
      generalize l8 ++ encQ d.q = l9 at *
      go_wp2_with fail
      go_roundw
      case rel => exact ⟨j + 1, A9, c9, l9, by omega, rfl, by go_num, H10, H11, o9, B9⟩
      case measure => simp [intOf]; omega
    · obtain rfl : n = j := by omega
      have ht : ds.take n = ds := List.take_of_length_le (by rw [LD.out]; exact Nat.le_refl _)
      have HP := Go.Lib.hid (show l' = encDs ds by rw [HQ.out, ht, encDs])
      have HZ := Go.Lib.hid (show mayDs ds = 0 by rw [HRR.out, ← ht]; exact HF.out)
      clear ht
      go_wp2_with fail
      go_ret2
      exact ⟨.inl ⟨HZ.out, _, rfl, by rw [← HP.out]; exact ⟨_, _, rfl, oq⟩⟩, Bq⟩

end Go.Proofs.Ytjgddlnfjmdnnaa.QcWalk

/-
  Contracts of the document's own answer for layer 1 (registrarref01): length, fail, Num, Text.
-/
namespace Go.Proofs.Ytjgddlnfjmdnnaa.NumWalk
open Go.RowKit Go.Proofs.Ytjgddlnfjmdnnaa.NumMath Go.Proofs.Ytjgddlnfjmdnnaa.NumMem
open Go.Lib (uvarint zigzag)

/-- length's state at the head of round k. -/
structure LenAt (l : List UInt8) (k : Nat) : Prop where
  le : k ≤ l.length
  le10 : k ≤ 10
  all : ∀ j, j < k → 128 ≤ (l.getD j 0).toNat

theorem lenAt_next {l : List UInt8} {k : Nat} (h : LenAt l k) (hk : k < l.length) (h10 : k < 10) (hc : 128 ≤ (l.getD k 0).toNat) : LenAt l (k + 1) :=
  ⟨hk, h10, fun j hj => by
    rcases Nat.lt_or_ge j k with hjk | hjk
    · exact h.all j hjk
    · obtain rfl : j = k := by omega
      exact hc⟩

set_option maxRecDepth 100000 in
set_option maxHeartbeats 1000000 in
theorem refLength_some (b o n cap : Nat) (l : List UInt8) (w : World) (h : Rd w (some ⟨b, o, none⟩) n cap l) (hn : 0 < n) (hc : ∀ i, i < n → w.cell? ⟨b, o + i, none⟩ = some (.int .u8 ((l.getD i 0).toNat : Int))) :
    Calls Try.prog 65 #[.slice (some ⟨b, o, none⟩) n cap] w fun e w' => e = .returned (.int .i64 (lenV l : Int)) ∧ w = w' := by
  have hl := h.len
  have hm := h.le
  unfold maxLen at hm
  have HL := Go.Lib.hid hl
  clear hl
  go_enter Try.func65, Try.ntmps65
  go_wp2
  go_loop [3] (fun i => ∃ k : Nat, i = .int .i64 k ∧ LenAt l k) (fun i => 10 - (intOf i).toNat)
  case atStart => exact ⟨0, rfl, ⟨by omega, by omega, by omega⟩⟩
  case round =>
    obtain ⟨k, rfl, hd⟩ := hrel
    have hk10 := hd.le10
    have hkl := hd.le
    rw [HL.out] at hkl
    by_cases hlt : k < n ∧ k < 10
    · obtain ⟨hkn, hk⟩ := hlt
      have hck := hc k hkn
      have hkl' : k < l.length := by rw [HL.out]; exact hkn
      generalize hcc : (l.getD k 0).toNat = c at hck
      have hc256 : c < 256 := by rw [← hcc]; exact UInt8.toNat_lt _
      by_cases h128 : 128 ≤ c
      · have hs := lenAt_next hd hkl' hk (by omega)
        clear hcc hc
        go_wp2
        go_round
        case rel => exact ⟨k + 1, by go_num, hs⟩
        case measure => simp [intOf]; omega
      · have r1 := lenV_end hd.all hkl' hk (by omega)
        rw [hcc] at r1
        have R1 := Go.Lib.hid r1
        clear hcc hc r1
        by_cases hk0 : 0 < k
        · by_cases hc0 : c = 0
          · have hb : ((c : Int) == 0) = true := by simp; omega
            go_wp2
            go_ret
            exact ⟨ret_int (by rw [R1.out, if_pos (by omega)]; rfl), rfl⟩
          · have hb : ((c : Int) == 0) = false := by simp; omega
            by_cases hk9 : k = 9
            · have hb9 : ((k : Int) == 9) = true := by simp; omega
              by_cases hc1 : 1 < c
              · clear hk9
                go_wp2
                go_ret
                exact ⟨ret_int (by rw [R1.out, if_pos (by simp at hb9; omega)]; rfl), rfl⟩
              · clear hk9
                go_wp2
                go_ret
                exact ⟨ret_int (by rw [R1.out, if_neg (by omega)]; rfl), rfl⟩
            · have hb9 : ((k : Int) == 9) = false := by simp; omega
              go_wp2
              go_ret
              exact ⟨ret_int (by rw [R1.out, if_neg (by omega)]; rfl), rfl⟩
        · have hb9 : ((k : Int) == 9) = false := by simp; omega
          go_wp2
          go_ret
          exact ⟨ret_int (by rw [R1.out, if_neg (by omega)]; rfl), rfl⟩
    · have r1 : lenV l = 0 := lenV_none fun j hj => hd.all j (by rw [HL.out] at hj; omega)
      have R1 := Go.Lib.hid r1
      clear r1 hc
      by_cases hkn : k < n
      · have hk : ¬ k < 10 := by omega
        clear hlt
        go_wp2
        go_ret
        exact ⟨ret_int (by rw [R1.out]; rfl), rfl⟩
      · clear hlt
        go_wp2
        go_ret
        exact ⟨ret_int (by rw [R1.out]; rfl), rfl⟩

set_option maxRecDepth 100000 in
theorem refLength_none (A : Option Addr) (cap : Nat) (w : World) :
    Calls Try.prog 65 #[.slice A 0 cap] w fun e w' => e = .returned (.int .i64 0) ∧ w = w' := by
  go_enter Try.func65, Try.ntmps65
  go_wp2
  go_loop [3] (fun i => i = .int .i64 0) (fun _ => 0)
  case atStart => rfl
  case round =>
    subst hrel
    go_wp2
    go_ret
    exact ⟨rfl, rfl⟩

theorem refLength_any (A : Option Addr) (n cap : Nat) (l : List UInt8) (w : World) (h : Rd w A n cap l) :
    Calls Try.prog 65 #[.slice A n cap] w fun e w' => e = .returned (.int .i64 (lenV l : Int)) ∧ w = w' := by
  rcases Nat.eq_zero_or_pos n with h0 | h0
  · subst h0
    have hl : l = [] := List.eq_nil_of_length_eq_zero h.len
    subst hl
    exact refLength_none A cap w
  · obtain ⟨b, o, rfl, _, hc⟩ := h.at_ h0
    exact refLength_some b o n cap l w h h0 hc

set_option maxRecDepth 100000 in
theorem refFail_any (g : Nat) (l : List UInt8) (bad : Bool) (w : World) (h : Rdr w 44 g l bad) :
    Calls Try.prog 66 #[.pointer (some ⟨g, 0, none⟩)] w fun e w' => e = .returned (.tuple #[]) ∧ Rdr w' 44 g [] true ∧ w.grownBy w' (some g) := by
  obtain ⟨A, n, cap, hh, hr, ho⟩ := h
  have HO := Go.Lib.hid ho
  clear ho
  obtain ⟨c0, c1, hf⟩ := two_cell hh
  have f0 := hf 0
  have f1 := hf 1
  have HH := Go.Lib.hid hh
  clear hf hh
  go_enter Try.func66, Try.ntmps66
  go_wp2
  go_end0
  exact ⟨rfl, ⟨none, 0, 0, two_set0 (two_set1 HH.out), Rd.nil _, Old.none _⟩, grown_setCell (grown_setCell ⟨rfl, rfl, rfl, Nat.le_refl _, fun _ _ _ => rfl⟩ _ _) _ _⟩

/-- Bytes from the k-th on, of the first n. -/
theorem valV_step (l : List UInt8) (n k : Nat) (hk : k < n) (hn : n ≤ l.length) : valV ((l.take n).drop k) = valV ((l.take n).drop (k + 1)) * 128 + (l.getD k 0).toNat % 128 := by
  have hk' : k < (l.take n).length := by simp; omega
  rw [List.drop_eq_getElem_cons hk']
  simp only [valV, List.getElem_take]
  have e : l.getD k 0 = l[k] := by simp [List.getD, List.getElem?_eq_getElem (show k < l.length by omega)]
  rw [e]
  omega
theorem valV_drop_le (l : List UInt8) (k : Nat) : valV (l.drop k) ≤ valV l := by
  rcases Nat.lt_or_ge l.length k with hk | hk
  · rw [List.drop_eq_nil_of_le (by omega)]
    simp [valV]
  · have h := valV_append (l.take k) (l.drop k)
    rw [List.take_append_drop] at h
    have h1 : 0 < 128 ^ (l.take k).length := Nat.pow_pos (by omega)
    have h2 := Nat.le_mul_of_pos_left (valV (l.drop k)) h1
    omega

set_option maxRecDepth 100000 in
theorem refNum_none (g : Nat) (l : List UInt8) (bad : Bool) (w : World) (h : Rdr w 44 g l bad) (hl : lenV l = 0) :
    Calls Try.prog 40 #[.pointer (some ⟨g, 0, none⟩)] w fun e w' => e = .returned (.int .i64 0) ∧ Rdr w' 44 g [] true ∧ w.grownBy w' (some g) := by
  have H := Go.Lib.hid h
  obtain ⟨A, n, cap, hh, hr, ho⟩ := h
  have HO := Go.Lib.hid ho
  clear ho
  obtain ⟨c0, c1, hf⟩ := two_cell hh
  have HLV := Go.Lib.hid hl
  clear hf hh hl
  go_enter Try.func40, Try.ntmps40
  go_wp2_with fail
  refine (refLength_any A n cap l _ hr).mono ?_
  rintro e w' ⟨rfl, rfl⟩
  rw [HLV.out]
  go_wp2_with (go_at_call 66; refine (refFail_any g l bad _ H.out).mono ?_; rintro e w' ⟨rfl, hr2, hg2⟩)
  go_ret
  exact ⟨rfl, hr2, hg2⟩

set_option maxHeartbeats 1000000 in
set_option maxRecDepth 100000 in
theorem refNum_some (g : Nat) (l : List UInt8) (bad : Bool) (w : World) (h : Rdr w 44 g l bad) (hl : 0 < lenV l) :
    Calls Try.prog 40 #[.pointer (some ⟨g, 0, none⟩)] w fun e w' => e = .returned (.int .i64 (numV l)) ∧ Rdr w' 44 g (l.drop (lenV l)) bad ∧ w.grownBy w' (some g) := by
  have hno := h.no_byte
  obtain ⟨A, n, cap, hh, hr, ho⟩ := h
  have HO := Go.Lib.hid ho
  clear ho
  obtain ⟨c0, c1, hf⟩ := two_cell hh
  have f0 := hf 0
  have HH := Go.Lib.hid hh
  have hle := lenV_le l
  have hle' := hle
  rw [hr.len] at hle
  have hc := hr.cut hle
  have hcap := hr.le_cap
  have hmax := hr.2.2.1
  unfold maxLen at hmax
  have hu := decU_lt l
  have hv : unzig (decU l) = numV l := by
    unfold numV decU
    rw [if_neg (by omega), if_neg (by omega)]
  have hdec : decU l = valV (l.take (lenV l)) := by unfold decU; rw [if_neg (by omega)]
  have HV := Go.Lib.hid hv
  obtain ⟨b, o, rfl, hb, hcell⟩ := hr.at_ (by omega)
  have HB : Hid (∀ k, k < lenV l → valV ((l.take (lenV l)).drop k) = valV ((l.take (lenV l)).drop (k + 1)) * 128 + (l.getD k 0).toNat % 128) := fun k hk => valV_step l (lenV l) k hk hle'
  have HD : Hid (∀ k, valV ((l.take (lenV l)).drop k) ≤ decU l) := fun k => by rw [hdec]; exact valV_drop_le _ k
  have H0 : Hid (valV ((l.take (lenV l)).drop 0) = decU l) := by show _ = _; rw [List.drop_zero, hdec]
  have HE : Hid (valV ((l.take (lenV l)).drop (lenV l)) = 0) := by
    show _ = _
    rw [List.drop_eq_nil_of_le (List.length_take_le _ _)]
    rfl
  have HCL := Go.Lib.hid hcell
  clear hf hh hv hdec hle' hcell
  go_enter Try.func40, Try.ntmps40
  go_wp2_with fail
  refine (refLength_any _ n cap l _ hr).mono ?_
  rintro e w' ⟨rfl, rfl⟩
  generalize hq : lenV l = q at *
  have hne : ((q : Int) == 0) = false := by simp; omega
  go_wp2_with fail
  go_loop [4, 5] (fun u i => ∃ k : Nat, k ≤ q ∧ i = .int .i64 ((k : Int) - 1) ∧ u = .int .u64 (valV ((l.take q).drop k) : Nat)) (fun _ i => (intOf i + 1).toNat)
  case atStart => exact ⟨q, by omega, rfl, by rw [HE.out]; rfl⟩
  case round =>
    obtain ⟨k, hk, rfl, rfl⟩ := hrel
    by_cases h0 : 0 < k
    · obtain ⟨j, rfl⟩ : ∃ j, k = j + 1 := ⟨k - 1, by omega⟩
      have e1 := HB.out j (by omega)
      have e2 := HD.out j
      have e3 := HD.out (j + 1)
      have hcj := HCL.out j (by omega)
      have hj : ((j + 1 : Nat) : Int) - 1 = (j : Int) := by omega
      rw [hj]
      have HE1 := Go.Lib.hid e1
      have hb0 : 0 ≤ ((l.getD j 0).toNat : Int) := by omega
      have hb1 : (l.getD j 0).toNat < 256 := UInt8.toNat_lt _
      have hlt : valV ((l.take q).drop (j + 1)) * 128 + (l.getD j 0).toNat % 128 < 18446744073709551616 := by omega
      clear e1 e2 HB HD HCL H0 HE hc
      generalize (l.getD j 0).toNat = c at *
      generalize valV ((l.take q).drop (j + 1)) = v at *
      go_wp2
      go_round
      case rel => exact ⟨j, by omega, rfl, by rw [HE1.out]; go_num⟩
      case measure => simp [intOf]
    · obtain rfl : k = 0 := by omega
      rw [H0.out]
      clear HB HD HCL H0 HE h0
      generalize hd : decU l = d at *
      have hz : ∀ (A' : Option Addr) (n' c' : Nat), Rd w A' n' c' (l.drop q) → Old A' g → Rdr (w.setCell ⟨g, 0, none⟩ (.slice A' n' c')) 44 g (l.drop q) bad ∧ w.grownBy (w.setCell ⟨g, 0, none⟩ (.slice A' n' c')) (some g) := by
        intro A' n' c' hr' ho'
        have hg := grown_setCell (g := g) (a := w) ⟨rfl, rfl, rfl, Nat.le_refl _, fun _ _ _ => rfl⟩ 0 (.slice A' n' c')
        exact ⟨⟨_, _, _, two_set0 HH.out, hr'.grown hg hno, ho'⟩, hg⟩
      have HZ := Go.Lib.hid hz
      clear hz hd
      by_cases hcq : cap = q
      · rw [if_pos hcq] at hc
        have hn : n = q := by omega
        subst hn hcq
        simp only [Nat.sub_self] at hc
        by_cases ho : d % 2 = 1
        · have hb : ((d : Int) % 2 == 1) = true := by simp; omega
          have hval : -((d : Int) / 2) - 1 = numV l := by rw [← HV.out]; unfold unzig; rw [if_pos ho]; omega
          have HVAL := Go.Lib.hid hval
          clear hval ho HV
          go_wp2
          go_ret
          exact ⟨ret_int HVAL.out, HZ.out _ _ _ hc HO.out⟩
        · have hb : ((d : Int) % 2 == 1) = false := by simp; omega
          have hval : (d : Int) / 2 = numV l := by rw [← HV.out]; unfold unzig; rw [if_neg ho]; omega
          have HVAL := Go.Lib.hid hval
          clear hval ho HV
          go_wp2
          go_ret
          exact ⟨ret_int HVAL.out, HZ.out _ _ _ hc HO.out⟩
      · rw [if_neg hcq] at hc
        simp only [Option.map_some] at hc
        have hadd : (⟨b, o, none⟩ : Addr).add q = ⟨b, o + q, none⟩ := by unfold Addr.add; split <;> simp_all
        rw [hadd] at hc
        by_cases ho : d % 2 = 1
        · have hb : ((d : Int) % 2 == 1) = true := by simp; omega
          have hval : -((d : Int) / 2) - 1 = numV l := by rw [← HV.out]; unfold unzig; rw [if_pos ho]; omega
          have HVAL := Go.Lib.hid hval
          clear hval ho HV hadd
          go_wp2
          go_ret
          exact ⟨ret_int HVAL.out, HZ.out _ _ _ hc (fun a h => by cases h; exact HO.out ⟨b, o, none⟩ rfl)⟩
        · have hb : ((d : Int) % 2 == 1) = false := by simp; omega
          have hval : (d : Int) / 2 = numV l := by rw [← HV.out]; unfold unzig; rw [if_neg ho]; omega
          have HVAL := Go.Lib.hid hval
          clear hval ho HV hadd
          go_wp2
          go_ret
          exact ⟨ret_int HVAL.out, HZ.out _ _ _ hc (fun a h => by cases h; exact HO.out ⟨b, o, none⟩ rfl)⟩

theorem refNum_any (g : Nat) (l : List UInt8) (bad : Bool) (w : World) (h : Rdr w 44 g l bad) :
    Calls Try.prog 40 #[.pointer (some ⟨g, 0, none⟩)] w fun e w' => e = .returned (.int .i64 (numV l)) ∧ Rdr w' 44 g (numL l) (numB l bad) ∧ w.grownBy w' (some g) := by
  by_cases hl : lenV l = 0
  · have e1 : numV l = 0 := by unfold numV; rw [if_pos hl]
    have e2 : numL l = [] := by unfold numL; rw [if_pos hl]
    have e3 : numB l bad = true := by unfold numB; rw [if_pos hl]
    rw [e1, e2, e3]
    exact refNum_none g l bad w h hl
  · have e2 : numL l = l.drop (lenV l) := by unfold numL; rw [if_neg hl]
    have e3 : numB l bad = bad := by unfold numB; rw [if_neg hl]
    rw [e2, e3]
    exact refNum_some g l bad w h (by omega)

set_option maxRecDepth 100000 in
theorem refText_bad (g : Nat) (l : List UInt8) (bad : Bool) (w : World) (h : Rdr w 44 g l bad) (hn : ¬ textOk l) :
    Calls Try.prog 45 #[.pointer (some ⟨g, 0, none⟩)] w fun e w' => e = .returned (.string ByteArray.empty) ∧ Rdr w' 44 g [] true ∧ w.grownBy w' (some g) := by
  unfold textOk at hn
  generalize hv : numV l = v at *
  have HV := Go.Lib.hid hv
  clear hv
  go_enter Try.func45, Try.ntmps45
  go_wp2_with fail
  refine (refNum_any g l bad _ h).mono ?_
  rintro e w1 ⟨rfl, hr1, hg1⟩
  rw [HV.out]
  have H1 := Go.Lib.hid hr1
  obtain ⟨A, n, cap, hh, hr, ho⟩ := hr1
  have HO := Go.Lib.hid ho
  clear ho
  obtain ⟨c0, c1, hf⟩ := two_cell hh
  have hlen := hr.len
  rw [hlen] at hn
  clear hf hh hlen
  by_cases hv0 : v < 0
  · go_wp2_with (go_at_call 66; refine (refFail_any g _ _ _ H1.out).mono ?_; rintro e w' ⟨rfl, hr2, hg2⟩)
    go_ret
    exact ⟨rfl, hr2, hg1.trans hg2⟩
  · have hv1 : (n : Int) < v := by omega
    go_wp2_with (go_at_call 66; refine (refFail_any g _ _ _ H1.out).mono ?_; rintro e w' ⟨rfl, hr2, hg2⟩)
    go_ret
    exact ⟨rfl, hr2, hg1.trans hg2⟩

set_option maxRecDepth 100000 in
theorem refText_good (g : Nat) (l : List UInt8) (bad : Bool) (w : World) (h : Rdr w 44 g l bad) (hn : textOk l) :
    Calls Try.prog 45 #[.pointer (some ⟨g, 0, none⟩)] w fun e w' => e = .returned (.string ⟨((numL l).take (numV l).toNat).toArray⟩) ∧ Rdr w' 44 g ((numL l).drop (numV l).toNat) (numB l bad) ∧ w.grownBy w' (some g) := by
  unfold textOk at hn
  generalize hv : numV l = v at *
  have HV := Go.Lib.hid hv
  clear hv
  obtain ⟨hn0, hn1⟩ := hn
  obtain ⟨k, rfl⟩ := Int.eq_ofNat_of_zero_le hn0
  simp only [Int.toNat_natCast] at *
  generalize hl1 : numL l = l1 at *
  generalize hb1 : numB l bad = bad1 at *
  go_enter Try.func45, Try.ntmps45
  go_wp2_with fail
  refine (refNum_any g l bad _ h).mono ?_
  rintro e w1 ⟨rfl, hr1, hg1⟩
  rw [HV.out]
  rw [hl1, hb1] at hr1
  have hno := hr1.no_byte
  obtain ⟨A, n, cap, hh, hr, ho⟩ := hr1
  have HO := Go.Lib.hid ho
  clear ho
  obtain ⟨c0, c1, hf⟩ := two_cell hh
  have f0 := hf 0
  have HH := Go.Lib.hid hh
  have hlen := hr.len
  rw [hlen] at hn1
  have hkn : k ≤ n := by omega
  have hcap := hr.le_cap
  have hmax := hr.2.2.1
  unfold maxLen at hmax
  have hst := (hr.first hkn).string (P := Try.prog) 22 9 5 Try.underlying22 Try.underlying5 Try.underlying9
  have hc := hr.cut hkn
  clear hf hh hlen hl1 hb1
  go_wp2
  · go_ret
    rw [if_pos h] at hc
    have hg := grown_setCell (g := g) (a := w1) ⟨rfl, rfl, rfl, Nat.le_refl _, fun _ _ _ => rfl⟩ 0 (.slice A (n - k) (cap - k))
    have h0 : cap - k = 0 := by omega
    rw [h0] at hc hg
    exact ⟨rfl, ⟨_, _, _, two_set0 HH.out, hc.grown hg hno, HO.out⟩, hg1.trans hg⟩
  · go_ret
    rw [if_neg h] at hc
    have hg := grown_setCell (g := g) (a := w1) ⟨rfl, rfl, rfl, Nat.le_refl _, fun _ _ _ => rfl⟩ 0 (.slice (A.map (·.add k)) (n - k) (cap - k))
    exact ⟨rfl, ⟨_, _, _, two_set0 HH.out, hc.grown hg hno, HO.out.add _⟩, hg1.trans hg⟩

theorem refText_any (g : Nat) (l : List UInt8) (bad : Bool) (w : World) (h : Rdr w 44 g l bad) :
    Calls Try.prog 45 #[.pointer (some ⟨g, 0, none⟩)] w fun e w' => e = .returned (.string ⟨(textV l).toArray⟩) ∧ Rdr w' 44 g (textL l) (textB l bad) ∧ w.grownBy w' (some g) := by
  by_cases hl : textOk l
  · have e1 : textV l = (numL l).take (numV l).toNat := by unfold textV; rw [if_pos hl]
    have e2 : textL l = (numL l).drop (numV l).toNat := by unfold textL; rw [if_pos hl]
    have e3 : textB l bad = numB l bad := by unfold textB; rw [if_pos hl]
    rw [e1, e2, e3]
    exact refText_good g l bad w h hl
  · have e1 : textV l = [] := by unfold textV; rw [if_neg hl]
    have e2 : textL l = [] := by unfold textL; rw [if_neg hl]
    have e3 : textB l bad = true := by unfold textB; rw [if_neg hl]
    rw [e1, e2, e3]
    exact refText_bad g l bad w h hl

end Go.Proofs.Ytjgddlnfjmdnnaa.NumWalk

/-
  Contracts of the document's answers of layer 7: taken, Take.
-/
namespace Go.Proofs.Ytjgddlnfjmdnnaa.QcWalk
open Go.RowKit Go.Proofs.Ytjgddlnfjmdnnaa.MemRow Go.Proofs.Ytjgddlnfjmdnnaa.Ev Go.Proofs.Ytjgddlnfjmdnnaa.NameMath Go.Proofs.Ytjgddlnfjmdnnaa.NameWalk Go.Proofs.Ytjgddlnfjmdnnaa.EvWalk Go.Proofs.Ytjgddlnfjmdnnaa.NumMath Go.Proofs.Ytjgddlnfjmdnnaa.NumMem Go.Proofs.Ytjgddlnfjmdnnaa.NumWalk Go.Proofs.Ytjgddlnfjmdnnaa.Qu Go.Proofs.Ytjgddlnfjmdnnaa.QuWalk Go.Proofs.Ytjgddlnfjmdnnaa.QlLaw

/-! ### Sizes -/
theorem numL_le (l : List UInt8) : (numL l).length ≤ l.length := by
  unfold numL
  split
  · simp
  · rw [List.length_drop]; omega
theorem textL_le (l : List UInt8) : (textL l).length ≤ l.length := by
  unfold textL
  split
  · have := numL_le l
    rw [List.length_drop]; omega
  · simp
theorem tx_size (l : List UInt8) : (tx l).size ≤ l.length := by
  have e : (tx l).size = (textV l).length := by simp [tx, ByteArray.size]
  rw [e]
  unfold textV
  split
  · have := numL_le l
    rw [List.length_take]
    omega
  · simp
theorem takeK_size : ∀ (k : Nat) (l : List UInt8) (b : Bool), (takeK k l b).2.1.length ≤ l.length ∧ ∀ x ∈ (takeK k l b).1, x.size ≤ l.length
  | 0, l, b => ⟨Nat.le_refl _, by simp [takeK]⟩
  | k + 1, l, b => by
    obtain ⟨h1, h2⟩ := takeK_size k (textL l) (textB l b)
    have h3 := textL_le l
    have h4 := tx_size l
    rw [takeK]
    refine ⟨Nat.le_trans h1 h3, fun x hx => ?_⟩
    rcases List.mem_cons.1 hx with rfl | hx
    · exact h4
    · exact Nat.le_trans (h2 x hx) h3
theorem takeT_size (l : List UInt8) (b : Bool) : (takeT l b).2.1.length ≤ l.length ∧ ∀ x ∈ (takeT l b).1, x.size ≤ l.length := by
  unfold takeT
  split
  · exact ⟨Nat.zero_le _, by simp⟩
  · have h1 := takeK_size (numV l).toNat (numL l) (numB l b)
    have h2 := numL_le l
    exact ⟨Nat.le_trans h1.1 h2, fun x hx => Nat.le_trans (h1.2 x hx) h2⟩
theorem takeC_size (l : List UInt8) (b : Bool) : (takeC l b).2.1.length ≤ l.length ∧ (∀ x ∈ (takeC l b).1.tags, x.size ≤ l.length) ∧ ∀ x ∈ (takeC l b).1.types, x.size ≤ l.length := by
  have h1 := takeT_size l b
  have h2 := takeT_size (takeT l b).2.1 (takeT l b).2.2
  exact ⟨Nat.le_trans h2.1 h1.1, h1.2, fun x hx => Nat.le_trans (h2.2 x hx) h1.1⟩
theorem takeCs_size : ∀ (k : Nat) (l : List UInt8) (b : Bool), l.length ≤ maxLen → QOk (takeCs k l b).1
  | 0, l, b, _ => by intro c hc; simp [takeCs] at hc
  | k + 1, l, b, h => by
    have h1 := takeC_size l b
    have ih := takeCs_size k (takeC l b).2.1 (takeC l b).2.2 (Nat.le_trans h1.1 h)
    rw [takeCs]
    intro c hc
    rcases List.mem_cons.1 hc with rfl | hc
    · exact ⟨fun x hx => Nat.le_trans (h1.2.1 x hx) h, fun x hx => Nat.le_trans (h1.2.2 x hx) h⟩
    · exact ih c hc
theorem rdr_len {w : World} {T : TypeId} {g : Nat} {l : List UInt8} {b : Bool} (h : Rdr w T g l b) : l.length ≤ maxLen := by
  obtain ⟨A, n, cap, _, hr, _⟩ := h
  have h1 := hr.le
  have h2 := hr.len
  omega
theorem numV_range (l : List UInt8) : -9223372036854775808 ≤ numV l ∧ numV l ≤ 9223372036854775807 := by
  have hu := decU_lt l
  have hv : numV l = unzig (decU l) ∨ numV l = 0 := by
    unfold numV decU
    by_cases h : lenV l = 0
    · right
      rw [if_pos h]
    · left
      rw [if_neg h, if_neg h]
  rcases hv with hv | hv
  · rw [hv]
    unfold unzig
    split <;> omega
  · rw [hv]
    omega

/-- What taking texts comes to. -/
def TakenT (R : TypeId) (l : List UInt8) (b : Bool) (g : Nat) (w : World) (e : Ending) (w' : World) : Prop :=
  ∃ A n c, e = .returned (.slice A n c) ∧ OwnC 1 w' w.heap.size 9 A n c (strs (takeT l b).1) ∧ Rdr w' R g (takeT l b).2.1 (takeT l b).2.2 ∧ w.grownBy w' (some g)

set_option maxHeartbeats 4000000 in
set_option maxRecDepth 100000 in
theorem refTaken_any (g : Nat) (l : List UInt8) (b : Bool) (w : World) (h : Rdr w 44 g l b) :
    Calls Try.prog 41 #[.pointer (some ⟨g, 0, none⟩), .int .i64 4] w (TakenT 44 l b g w) := by
  have gw := h.lt
  go_enter Try.func41, Try.ntmps41
  go_wp2_with fail
  refine (refNum_any g l b w h).mono ?_
  rintro e w1 ⟨rfl, h1, g1⟩
  have hr := numV_range l
  have b2 : Below w1.heap.size w1 (w1.alloc (.cells #[] 9)) := (Below.refl _ _).alloc (Nat.le_refl _) _
  have o2 : OwnC 1 (w1.alloc (.cells #[] 9)) w.heap.size 9 (some ⟨w1.heap.size, 0, none⟩) 0 0 (strs []) := OwnC.empty w1 _ g1.size
  have h2 := h1.below b2
  have g2 := gr_below g1 b2
  clear h h1 g1
  go_upto_region 3 with (fail)
  generalize w1.heap.size = z at *
  generalize w1.alloc (.cells #[] 9) = w2 at *
  clear b2
  by_cases hx : numV l < 0 ∨ 4 < numV l
  · have hT : takeT l b = ([], [], true) := by unfold takeT; rw [if_pos hx]
    have HT := Go.Lib.hid hT
    clear hT
    obtain ⟨Ar, nr, cr, hh, hrr, hold⟩ := h2
    obtain ⟨y0, y1, hf⟩ := two_cell hh
    have f0 := hf 0
    have f1 := hf 1
    have hh1 := two_set1 (v := .bool true) hh
    have hh2 := two_set0 (v := .slice none 0 0) hh1
    have s1 := gr_step' (gr_step' g2 (grownSet w2 g 1 (.bool true))) (grownSet (w2.setCell ⟨g, 1, none⟩ (.bool true)) g 0 (.slice none 0 0))
    have o3 := own_off (own_off o2 (grownSet w2 g 1 (.bool true)) gw) (grownSet (w2.setCell ⟨g, 1, none⟩ (.bool true)) g 0 (.slice none 0 0)) gw
    have ho : TakenT 44 l b g w (.returned (.slice (some ⟨z, 0, none⟩) 0 0)) ((w2.setCell ⟨g, 1, none⟩ (.bool true)).setCell ⟨g, 0, none⟩ (.slice none 0 0)) := by
      refine ⟨_, _, _, rfl, ?_, ?_, s1⟩
      · rw [HT.out]; exact o3
      · rw [HT.out]; exact ⟨none, 0, 0, hh2, Rd.nil _, Old.none _⟩
    have HO := Go.Lib.hid ho
    clear hold hrr hh hf hh1 hh2 s1 o3 ho o2 g2 HT
    rcases hx with hx | hx
    · go_wp2_with fail
      go_ret
      exact HO.out
    · have hn0 : ¬ numV l < 0 := by omega
      go_wp2_with fail
      go_ret
      exact HO.out
  · have hn0 : ¬ numV l < 0 := fun h => hx (.inl h)
    have hn4 : ¬ 4 < numV l := fun h => hx (.inr h)
    have hT : takeT l b = takeK (numV l).toNat (numL l) (numB l b) := by unfold takeT; rw [if_neg hx]
    have HT := Go.Lib.hid hT
    obtain ⟨N, hN⟩ : ∃ N : Nat, numV l = N := ⟨(numV l).toNat, by omega⟩
    rw [hN] at hn0 hn4 HT ⊢
    clear hT hx hr hN
    rw [Int.toNat_natCast] at HT
    generalize numL l = L at *
    generalize numB l b = B at *
    go_wp2_with fail
    go_loopw [6, 7] (fun o i wr => ∃ (j : Nat) (A : Option Addr) (c : Nat), j ≤ N ∧ o = .slice A j c ∧ i = .int .i64 j ∧ OwnC 1 wr w.heap.size 9 A j c (strs (takeK j L B).1) ∧ Rdr wr 44 g (takeK j L B).2.1 (takeK j L B).2.2 ∧ w.grownBy wr (some g)) (fun _ i _ => N - (intOf i).toNat)
    case atStart => exact ⟨0, _, 0, Nat.zero_le _, rfl, rfl, o2, h2, g2⟩
    case round =>
      obtain ⟨j, A, c, hj, rfl, rfl, oq, rq, gq⟩ := hrel
      by_cases hlt : j < N
      · have i1 : (j : Int) < N := by omega
        have HS := Go.Lib.hid (takeK_snoc j L B)
        generalize takeK j L B = p at *
        obtain ⟨ts, l', b'⟩ := p
        go_wp2_with fail
        refine (refText_any g l' b' wr rq).mono ?_
        rintro e w3 ⟨rfl, r3, g3⟩
        have o3 := own_off oq g3 gw
        have gq3 := gr_step' gq g3
        have al : Below w3.heap.size w3 (w3.alloc (.cells #[.string ⟨(textV l').toArray⟩] 9)) := (Below.refl _ _).alloc (Nat.le_refl _) _
        have o4 := OwnC.below o3 al
        have r4 := r3.below al
        have gq4 := gr_below gq3 al
        have d4 : RdC 1 (w3.alloc (.cells #[.string ⟨(textV l').toArray⟩] 9)) (some ⟨w3.heap.size, 0, none⟩) 1 1 (strs [tx l']) := RdC.new w3 9 (strs [tx l']) rfl (by decide)
        have big : w.heap.size ≤ (w3.alloc (.cells #[.string ⟨(textV l').toArray⟩] 9)).heap.size := gq4.size
        have h63 : j + 1 ≤ maxLen := by unfold maxLen; omega
        have hsz : (j + 1) * 16 ≤ 140737488355328 := by omega
        clear o3 r3 gq3 g3 oq rq gq al
        go_wp2_with (at_builtin; refine wpList_append_cells rfl (.tmp 30) (.tmp 33) 58 rfl 9 (.string ByteArray.empty) 16 Try.underlying58 string_info rfl (by decide) rfl rfl o4 d4 (strs_one [tx l']) h63 hsz big ?_; intro A8 c8 w8 o8 g8 _)
        go_roundw
        case rel =>
          have low := fun r e => row_low o4 (r := r) e
          refine ⟨j + 1, A8, c8, by omega, rfl, by go_num, ?_, ?_, gr_step gq4 g8 (fun r e => low r e)⟩
          · rw [HS.out, strs_append]; exact o8
          · rw [HS.out]; exact rdr_apart r4 g8 (fun r e => by have := low r e; omega)
        case measure => simp [intOf]; omega
      · obtain rfl : N = j := by omega
        have HO := Go.Lib.hid (show TakenT 44 l b g w (.returned (.slice A N c)) wr from ⟨A, N, c, rfl, by rw [HT.out]; exact oq, by rw [HT.out]; exact rq, gq⟩)
        clear oq rq gq HT
        go_wp2_with fail
        go_ret
        exact HO.out

end Go.Proofs.Ytjgddlnfjmdnnaa.QcWalk

/-
  Contract of the document's answer of layer 7: Take.
-/
namespace Go.Proofs.Ytjgddlnfjmdnnaa.QcWalk
open Go.RowKit Go.Proofs.Ytjgddlnfjmdnnaa.MemRow Go.Proofs.Ytjgddlnfjmdnnaa.Ev Go.Proofs.Ytjgddlnfjmdnnaa.NameMath Go.Proofs.Ytjgddlnfjmdnnaa.NameWalk Go.Proofs.Ytjgddlnfjmdnnaa.EvWalk Go.Proofs.Ytjgddlnfjmdnnaa.NumMath Go.Proofs.Ytjgddlnfjmdnnaa.NumMem Go.Proofs.Ytjgddlnfjmdnnaa.NumWalk Go.Proofs.Ytjgddlnfjmdnnaa.Qu Go.Proofs.Ytjgddlnfjmdnnaa.QuWalk Go.Proofs.Ytjgddlnfjmdnnaa.QlLaw

/-- What stands while a query is taken: the reader, the result's cell, the query that is made. -/
structure TkAt (R : TypeId) (wr w : World) (g : Nat) (l : List UInt8) (b : Bool) (ge : Nat) (A : Option Addr) (n c : Nat) (q : List Cl) : Prop where
  rd : Rdr wr R g l b
  res : QAt wr w.heap.size (.slice none 0 0)
  out : QAt wr ge (.slice A n c)
  own : OwnK wr (ge + 1) A n c q
  gr : w.grownBy wr (some g)
  gw : g < w.heap.size
  we : w.heap.size < ge
section
variable {R : TypeId} {wr w w' : World} {g ge n c : Nat} {l l' : List UInt8} {b b' : Bool} {A : Option Addr} {q : List Cl}
theorem TkAt.read (h : TkAt R wr w g l b ge A n c q) (hr : Rdr w' R g l' b') (hg : wr.grownBy w' (some g)) : TkAt R w' w g l' b' ge A n c q := by
  have gw := h.gw
  have we := h.we
  exact ⟨hr, h.res.grown hg (by simp; omega), h.out.grown hg (by simp; omega), h.own.off hg (by omega), gr_step' h.gr hg, gw, we⟩
theorem TkAt.below (h : TkAt R wr w g l b ge A n c q) (hb : Below wr.heap.size wr w') : TkAt R w' w g l b ge A n c q :=
  ⟨h.rd.below hb, h.res.below hb, h.out.below hb, h.own.below hb, gr_below h.gr hb, h.gw, h.we⟩
theorem TkAt.bad (h : TkAt R wr w g l b ge A n c q) : wr.cell? ⟨g, 1, none⟩ = some (.bool b) := by
  obtain ⟨_, _, _, hh, _⟩ := h.rd
  exact (two_cell hh).2.1
/-- A clause more. -/
theorem TkAt.more {A' : Option Addr} {c' : Nat} {cs : List Value} {cl : Cl} {T Y : Option Addr} {nT cT nY cY : Nat} {w8 : World} (h : TkAt R wr w g l b ge A n c q) (oc : OwnC 2 wr (ge + 1) 60 A n c cs) (hl : q.length = n) (hc : ClsO wr (ge + 1) q cs)
    (oT : OwnC 1 wr (ge + 1) 9 T nT cT (strs cl.tags)) (oY : OwnC 1 wr (ge + 1) 9 Y nY cY (strs cl.types)) (ho : OwnC 2 w8 (ge + 1) 60 A' (n + 1) c' (cs ++ [.slice T nT cT, .slice Y nY cY])) (hg : wr.grownBy w8 (A.map (·.block))) :
    w8.frozen? ⟨ge, 0, none⟩ = false ∧ w8.cell? ⟨ge, 0, none⟩ = some (.slice A n c) ∧ TkAt R (w8.setCell ⟨ge, 0, none⟩ (.slice A' (n + 1) c')) w g l b ge A' (n + 1) c' (q ++ [cl]) := by
  have gw := h.gw
  have we := h.we
  have low := fun r e => row_low oc (r := r) e
  have hF : ∀ k, k < ge + 1 → some k ≠ A.map (·.block) := fun k hk e => by have := low k e.symm; omega
  have e8 := h.out.grown hg (hF _ (by omega))
  have hs := grownSet w8 ge 0 (.slice A' (n + 1) c')
  exact ⟨e8.frozen 0, e8.c0, rdr_apart (rdr_apart h.rd hg fun r e => by have := low r e; omega) hs (fun r e => by injection e; omega), (h.res.grown hg (hF _ (by omega))).far (by omega) _, e8.set _,
    (OwnK.more oc hl hc oT oY ho hg).off hs (by omega), gr_step (gr_step h.gr hg fun r e => by have := low r e; omega) hs (fun r e => by injection e; omega), gw, we⟩
/-- The result's cell is written. -/
theorem TkAt.fin (h : TkAt R wr w g l b ge A n c q) (x : Value) : QAt (wr.setCell ⟨w.heap.size, 0, none⟩ x) w.heap.size x ∧ Rdr (wr.setCell ⟨w.heap.size, 0, none⟩ x) R g l b ∧ w.grownBy (wr.setCell ⟨w.heap.size, 0, none⟩ x) (some g) ∧ OwnK (wr.setCell ⟨w.heap.size, 0, none⟩ x) w.heap.size A n c q := by
  have gw := h.gw
  have we := h.we
  have hs := grownSet wr w.heap.size 0 x
  exact ⟨h.res.set x, rdr_apart h.rd hs (fun r e => by injection e; omega), gr_step h.gr hs (fun r e => by injection e; omega), (h.own.off hs (by omega)).lower (by omega)⟩
end

/-- What taking a query comes to. -/
def TakeOutQ (R : TypeId) (l : List UInt8) (b : Bool) (g : Nat) (w : World) (e : Ending) (w' : World) : Prop :=
  w.grownBy w' (some g) ∧ ((∃ q l', takeQ l b = some (q, l') ∧ ∃ A n c, e = .returned (.tuple #[.agg #[.slice A n c], .int .i64 0]) ∧ OwnK w' w.heap.size A n c q ∧ Rdr w' R g l' false) ∨
    (takeQ l b = none ∧ e = .returned (.tuple #[.agg #[.slice none 0 0], .int .i64 2]) ∧ ∃ l' b', Rdr w' R g l' b'))

set_option maxHeartbeats 4000000 in
set_option maxRecDepth 100000 in
theorem refTakeQ_any (g : Nat) (l : List UInt8) (b : Bool) (w : World) (h : Rdr w 44 g l b) :
    Calls Try.prog 20 #[.pointer (some ⟨g, 0, none⟩)] w (TakeOutQ 44 l b g w) := by
  have gw := h.lt
  have e1 := QAt.new w (.slice none 0 0)
  have b1 : Below w.heap.size w (w.alloc (.cells #[.slice none 0 0] 25)) := (Below.refl _ _).alloc (Nat.le_refl _) _
  have h1 := h.below b1
  have g1 := gr_below (gr_refl w g) b1
  clear h b1
  go_enter Try.func20, Try.ntmps20
  go_upto_region 1 with (fail)
  generalize w.alloc (.cells #[.slice none 0 0] 25) = w1 at *
  go_wp2_with fail
  refine (refNum_any g l b w1 h1).mono ?_
  rintro e w2 ⟨rfl, h2, gg⟩
  have e2 := e1.grown gg (by simp; omega)
  have g2 := gr_step' g1 gg
  clear h1 e1 g1 gg
  go_upto_region 3 with (fail)
  have e3 := QAt.new w2 (.slice none 0 0)
  have al : Below w2.heap.size w2 (w2.alloc (.cells #[.slice none 0 0] 25)) := (Below.refl _ _).alloc (Nat.le_refl _) _
  have t3 : TkAt 44 (w2.alloc (.cells #[.slice none 0 0] 25)) w g (numL l) (numB l b) w2.heap.size none 0 0 [] :=
    ⟨h2.below al, e2.below al, e3, OwnK.nil _ _, gr_below g2 al, gw, e2.lt⟩
  generalize w2.alloc (.cells #[.slice none 0 0] 25) = w3 at *
  generalize w2.heap.size = ge at *
  clear h2 e2 g2 e3 al
  have HTQ : Hid (takeQ l b = if numV l < 0 ∨ (takeCs (min (numV l) 5).toNat (numL l) (numB l b)).2.2 = true ∨ mayQ (takeCs (min (numV l) 5).toNat (numL l) (numB l b)).1 ≠ 0 then none else some ((takeCs (min (numV l) 5).toNat (numL l) (numB l b)).1, (takeCs (min (numV l) 5).toNat (numL l) (numB l b)).2.1)) := Go.Lib.hid rfl
  have HOK := Go.Lib.hid (fun k => takeCs_size k (numL l) (numB l b) (rdr_len t3.rd))
  generalize numV l = n at *
  generalize numL l = L at *
  generalize numB l b = B at *
  generalize hK : (min n 5).toNat = K at *
  have hK1 : ∀ j : Nat, j < K ↔ ((j : Int) < n ∧ (j : Int) ≤ 4) := fun j => by omega
  have HK1 := Go.Lib.hid hK1
  clear hK1 hK
  go_wp2_with fail
  go_loopw [6] (fun i wr => ∃ (j : Nat) (A : Option Addr) (c : Nat), j ≤ K ∧ i = .int .i64 j ∧ TkAt 44 wr w g (takeCs j L B).2.1 (takeCs j L B).2.2 ge A j c (takeCs j L B).1) (fun i _ => K - (intOf i).toNat)
  case atStart => exact ⟨0, none, 0, Nat.zero_le _, rfl, t3⟩
  case round =>
    obtain ⟨j, A, c, hj, rfl, ta⟩ := hrel
    clear t3
    by_cases hlt : j < K
    · obtain ⟨i1, i2⟩ := (HK1.out j).1 hlt
      have HS := Go.Lib.hid (takeCs_snoc j L B)
      generalize takeCs j L B = p at *
      obtain ⟨q, l', b'⟩ := p
      simp only at ta
      have we := ta.out.lt
      have gsz := ta.gr.size
      go_wp2_with fail
      refine (refTaken_any g l' b' wr ta.rd).mono ?_
      rintro e w3 ⟨T, nT, cT, rfl, oT, r3, g3⟩
      generalize hc3 : takeT l' b' = p3 at *
      have al : Below w3.heap.size w3 (w3.alloc (.cells #[.slice T nT cT, .slice none 0 0] 60)) := (Below.refl _ _).alloc (Nat.le_refl _) _
      have c4 := ClAt.new w3 (.slice T nT cT) (.slice none 0 0)
      have r4 := r3.below al
      have g4 := gr_below g3 al
      have g34 := gr_below (gr_refl w3 g) al
      have s4 : (w3.alloc (.cells #[.slice T nT cT, .slice none 0 0] 60)).heap.size = w3.heap.size + 1 := by simp
      go_upto_region 7 with (fail)
      generalize w3.alloc (.cells #[.slice T nT cT, .slice none 0 0] 60) = w4 at *
      clear r3 al
      go_wp2_with fail
      refine (refTaken_any g p3.2.1 p3.2.2 w4 r4).mono ?_
      rintro e w5 ⟨Y, nY, cY, rfl, oY, r5, g5⟩
      generalize hc5 : takeT p3.2.1 p3.2.2 = p5 at *
      have hcl : takeC l' b' = (⟨p3.1, p5.1⟩, p5.2) := by unfold takeC; rw [hc3, hc5]
      have HCL := Go.Lib.hid hcl
      have sz3 := g3.size
      have c5 := c4.grown g5 (by simp; omega)
      have z5 := c5.frozen 1
      have y5 := c5.c1
      have c6 := c5.set1 (.slice Y nY cY)
      have hs := grownSet w5 w3.heap.size 1 (.slice Y nY cY)
      have r6 := rdr_apart r5 hs (fun r e => by injection e; omega)
      have g6 := gr_step (gr_step' g4 g5) hs (fun r e => by injection e; omega)
      have oT6 := own_off oT (gr_step (gr_step' g34 g5) hs (fun r e => by injection e; omega)) ta.rd.lt
      have oY6 := own_off oY hs (by omega)
      have t6 := ta.read r6 g6
      have oT7 := own_lower oT6 (base' := ge + 1) (by omega)
      have oY7 := own_lower oY6 (base' := ge + 1) (by omega)
      clear r4 oT oY r5 g5 c4 c5 g4 g34 hs r6 g6 oT6 oY6 ta hc3 hc5 hcl s4 g3
      go_upto_region 8 with (fail)
      generalize w5.setCell ⟨w3.heap.size, 1, none⟩ (.slice Y nY cY) = w6 at *
      generalize w3.heap.size = gc at *
      have k0 := c6.c0
      have k1 := c6.c1
      have o0 := t6.out.c0
      clear z5 y5
      have al : Below w6.heap.size w6 (w6.alloc (.cells #[.slice T nT cT, .slice Y nY cY] 60)) := (Below.refl _ _).alloc (Nat.le_refl _) _
      have t8 := t6.below al
      have oT8 := OwnC.below oT7 al
      have oY8 := OwnC.below oY7 al
      have d8 : RdC 2 (w6.alloc (.cells #[.slice T nT cT, .slice Y nY cY] 60)) (some ⟨w6.heap.size, 0, none⟩) 1 1 [.slice T nT cT, .slice Y nY cY] := RdC.new w6 60 [.slice T nT cT, .slice Y nY cY] rfl (by decide)
      have big : ge + 1 ≤ (w6.alloc (.cells #[.slice T nT cT, .slice Y nY cY] 60)).heap.size := t8.out.lt
      have h63 : j + 1 ≤ maxLen := by unfold maxLen; omega
      have hsz : (j + 1) * 48 ≤ 140737488355328 := by omega
      obtain ⟨cs, oc, hcl, hcs⟩ := t8.own
      clear t6 c6 al oT7 oY7
      go_wp2_with (at_builtin; refine wpList_append_cells rfl (.tmp 27) (.tmp 29) 23 rfl 60 (.agg #[.slice none 0 0, .slice none 0 0]) 48 Try.underlying23 clause_info rfl (by decide) rfl rfl oc d8 (cl_one _ _ _ _ _ _) h63 hsz big ?_; intro A9 c9 w9 o9 g9 _; obtain ⟨z9, k9, n9⟩ := t8.more (cl := ⟨p3.1, p5.1⟩) oc hcl hcs oT8 oY8 o9 g9)
      go_roundw
      case rel =>
        refine ⟨j + 1, A9, c9, by omega, by go_num, ?_⟩
        rw [HS.out, HCL.out]
        exact n9
      case measure => simp [intOf]; omega
    · obtain rfl : K = j := by omega
      have hok := HOK.out K
      clear HOK
      generalize takeCs K L B = p at *
      obtain ⟨q, l', b'⟩ := p
      simp only at ta hok
      have kb := ta.bad
      have hout : ¬ ((K : Int) < n ∧ (K : Int) ≤ 4) := fun h => by have := (HK1.out K).2 h; omega
      have hfin := ta.fin (.slice none 0 0)
      have HFIN := Go.Lib.hid hfin
      clear hfin
      have z0 := ta.res.frozen 0
      have r0 := ta.res.c0
      have hway : ¬ (K : Int) < n ∨ ((K : Int) < n ∧ ¬ (K : Int) ≤ 4) := by omega
      clear hout hj hlt
      rcases hway with i1 | ⟨i1, i2⟩
      all_goals
        go_upto_region 9 with (fail)
        by_cases hn : n < 0
        · first
          | (exfalso; omega)
          | (have hno : takeQ l b = none := by rw [HTQ.out, if_pos (.inl hn)]
             have HNO := Go.Lib.hid hno
             clear hno HTQ
             go_wp2_with fail
             obtain ⟨E9, R9, G9, _⟩ := HFIN.out
             generalize wr.setCell ⟨w.heap.size, 0, none⟩ (.slice none 0 0) = w9 at *
             have q0 := E9.c0
             exact bodyPost_ret (v := .tuple #[.agg #[.slice none 0 0], .int .i64 2]) (by simp [results, Try.results20, go_sem, q0]) rfl ⟨G9, .inr ⟨HNO.out, rfl, _, _, R9⟩⟩)
        · cases b' with
          | true =>
            have hno : takeQ l b = none := by rw [HTQ.out, if_pos (.inr (.inl rfl))]
            have HNO := Go.Lib.hid hno
            clear hno HTQ
            go_wp2_with fail
            obtain ⟨E9, R9, G9, _⟩ := HFIN.out
            generalize wr.setCell ⟨w.heap.size, 0, none⟩ (.slice none 0 0) = w9 at *
            have q0 := E9.c0
            exact bodyPost_ret (v := .tuple #[.agg #[.slice none 0 0], .int .i64 2]) (by simp [results, Try.results20, go_sem, q0]) rfl ⟨G9, .inr ⟨HNO.out, rfl, _, _, R9⟩⟩
          | false =>
            have o0 := ta.out.c0
            clear HFIN z0 r0
            go_wp2_with fail
            refine (refMayQ_any _ q wr ⟨_, _, _, rfl, ta.own.rd⟩ hok).mono ?_
            rintro e w4 ⟨rfl, b4⟩
            have t4 := ta.below b4
            have z0 := t4.res.frozen 0
            have r0 := t4.res.c0
            clear ta o0 kb b4
            by_cases hm : mayQ q = 0
            · have hyes : takeQ l b = some (q, l') := by
                rw [HTQ.out, if_neg]
                rintro (h1 | h1 | h1)
                · omega
                · cases h1
                · exact h1 hm
              have HYES := Go.Lib.hid hyes
              clear hyes HTQ
              rw [hm]
              have o0 := t4.out.c0
              have HFIN := Go.Lib.hid (t4.fin (.slice A K c))
              clear t4 hm
              go_wp2_with fail
              obtain ⟨E9, R9, G9, O9⟩ := HFIN.out
              generalize w4.setCell ⟨w.heap.size, 0, none⟩ (.slice A K c) = w9 at *
              have q0 := E9.c0
              exact bodyPost_ret (v := .tuple #[.agg #[.slice A K c], .int .i64 0]) (by simp [results, Try.results20, go_sem, q0]) rfl ⟨G9, .inl ⟨_, _, HYES.out, _, _, _, rfl, O9, R9⟩⟩
            · have hno : takeQ l b = none := by rw [HTQ.out, if_pos (.inr (.inr hm))]
              have HNO := Go.Lib.hid hno
              have m0 : (mayQ q != 0) = true := by rw [bne_iff_ne]; exact hm
              have HFIN := Go.Lib.hid (t4.fin (.slice none 0 0))
              clear hno HTQ hm t4
              generalize mayQ q = M at *
              go_wp2_with fail
              obtain ⟨E9, R9, G9, _⟩ := HFIN.out
              generalize w4.setCell ⟨w.heap.size, 0, none⟩ (.slice none 0 0) = w9 at *
              have q0 := E9.c0
              exact bodyPost_ret (v := .tuple #[.agg #[.slice none 0 0], .int .i64 2]) (by simp [results, Try.results20, go_sem, q0]) rfl ⟨G9, .inr ⟨HNO.out, rfl, _, _, R9⟩⟩

end Go.Proofs.Ytjgddlnfjmdnnaa.QcWalk

/-
  Contract of the document's answer of layer 7: TakeDefs.
-/
namespace Go.Proofs.Ytjgddlnfjmdnnaa.QcWalk
open Go.RowKit Go.Proofs.Ytjgddlnfjmdnnaa.MemRow Go.Proofs.Ytjgddlnfjmdnnaa.Ev Go.Proofs.Ytjgddlnfjmdnnaa.NameMath Go.Proofs.Ytjgddlnfjmdnnaa.NameWalk Go.Proofs.Ytjgddlnfjmdnnaa.EvWalk Go.Proofs.Ytjgddlnfjmdnnaa.NumMath Go.Proofs.Ytjgddlnfjmdnnaa.NumMem Go.Proofs.Ytjgddlnfjmdnnaa.NumWalk Go.Proofs.Ytjgddlnfjmdnnaa.Qu Go.Proofs.Ytjgddlnfjmdnnaa.QuWalk Go.Proofs.Ytjgddlnfjmdnnaa.QlLaw

theorem rd_str {w : World} {A : Option Addr} {n cap : Nat} {l : List UInt8} (h : Rd w A n cap l) : (convert 22 9 (.slice A n cap)).run Try.prog w = .ok (.string ⟨l.toArray⟩) w :=
  h.string (P := Try.prog) 22 9 5 Try.underlying22 Try.underlying5 Try.underlying9
theorem bytes_ne {a b : List UInt8} (h : a ≠ b) : (a == b) = false := by rw [beq_eq_false_iff_ne]; exact h
theorem few_okQ {q : List Cl} (h : FewQs q) : QOk q := fun c hc =>
  ⟨fun x hx => Nat.le_trans ((h.2 c hc).1.2 x hx) (by decide), fun x hx => Nat.le_trans ((h.2 c hc).2.2 x hx) (by decide)⟩
theorem takeFs_zero {k : Nat} (h : k = 0) (l : List UInt8) (b : Bool) : takeFs k l b = some ([], l, b) := by
  subst h
  rfl
theorem takeFs_some {k : Nat} {l l' : List UInt8} {b : Bool} {q : List Cl} (h : takeQ (textL (numL l)) (textB (numL l) (numB l b)) = some (q, l')) : takeFs (k + 1) l b = (takeFs k l' false).map fun p => (⟨numV l, tx (numL l), q⟩ :: p.1, p.2) := by
  rw [takeFs, h]
theorem takeFs_none {k : Nat} {l : List UInt8} {b : Bool} (h : takeQ (textL (numL l)) (textB (numL l) (numB l b)) = none) : takeFs (k + 1) l b = none := by
  rw [takeFs, h]

/-- What all projections of some bytes come to. -/
def TakeDsOut (l : List UInt8) (w : World) (e : Ending) (w' : World) : Prop :=
  Below w.heap.size w w' ∧ ((∃ ds A n c, takeDs l = some ds ∧ e = .returned (.tuple #[.slice A n c, .int .i64 0]) ∧ RdD w' A n c ds) ∨ (takeDs l = none ∧ e = .returned (.tuple #[.slice none 0 0, .int .i64 2])))

set_option maxHeartbeats 8000000 in
set_option maxRecDepth 100000 in
theorem refTakeDs_any (A0 : Option Addr) (n0 cap0 : Nat) (l : List UInt8) (w : World) (h : Rd w A0 n0 cap0 l) (hl : l.length ≤ 10000000) :
    Calls Try.prog 22 #[.slice A0 n0 cap0] w (TakeDsOut l w) := by
  have hn0 : n0 ≤ 10000000 := by rw [← h.len]; exact hl
  clear hl
  go_enter Try.func22, Try.ntmps22
  have ba : Below w.heap.size w (w.alloc (.cells #[] 5)) := (Below.refl _ _).alloc (Nat.le_refl _) _
  have ra := h.below ba
  go_upto_region 2 with (at_builtin; refine wpList_append_fresh rfl (.tmp 13) (.tmp 14) 22 rfl 5 Try.underlying22 u8_info rfl rfl (Own.empty w 5 (Nat.le_refl _)) ra (by omega) ba.size w ba ?_; intro A1 c1 w1 o1 b1)
  have al : Below w1.heap.size w1 (w1.alloc (.cells #[.slice A1 n0 c1, .bool false] 44)) := (Below.refl _ _).alloc (Nat.le_refl _) _
  have r2 : Rdr (w1.alloc (.cells #[.slice A1 n0 c1, .bool false] 44)) 44 w1.heap.size l false := ⟨_, _, _, heap_alloc_new w1 _, o1.rd.below al, fun a h => by subst h; exact (World.ownsRow.lt o1 a.block rfl).2⟩
  have B2 := below_chain b1 al
  have hg := b1.size
  generalize w1.alloc (.cells #[.slice A1 n0 c1, .bool false] 44) = w2 at *
  generalize w1.heap.size = g at *
  clear ba ra o1 b1 al
  go_wp2_with fail
  refine (refNum_any g l false w2 r2).mono ?_
  rintro e w3 ⟨rfl, r3, g3⟩
  have B3 := B2.grown g3 B2.size (by rintro q ⟨rfl⟩; exact hg)
  clear r2 g3 B2
  go_upto_region 4 with (fail)
  have al : Below w3.heap.size w3 (w3.alloc (.cells #[] 36)) := (Below.refl _ _).alloc (Nat.le_refl _) _
  have r4 := r3.below al
  have B4 := below_chain B3 al
  have p4 : OwnP (OwnK (w3.alloc (.cells #[] 36)) (g + 1)) (w3.alloc (.cells #[] 36)) (g + 1) (some ⟨w3.heap.size, 0, none⟩) 0 0 [] := OwnP.empty w3 r3.lt
  have HTD : Hid (rawDs l = takeFs (min (numV l) 5).toNat (numL l) (numB l false)) := Go.Lib.hid rfl
  generalize w3.alloc (.cells #[] 36) = w4 at *
  generalize w3.heap.size = z at *
  clear r3 B3 al
  generalize numV l = n at *
  generalize numL l = L at *
  generalize numB l false = B at *
  generalize hK : (min n 5).toNat = K at *
  have hK1 : ∀ j : Nat, j < K ↔ ((j : Int) < n ∧ (j : Int) ≤ 4) := fun j => by omega
  have HK1 := Go.Lib.hid hK1
  have hK5 : K ≤ 5 := by omega
  clear hK1 hK
  go_wp2_with fail
  go_loopw [6, 7] (fun o i wr => ∃ (j : Nat) (A : Option Addr) (c : Nat) (ds : List Df) (l' : List UInt8) (b' : Bool), j ≤ K ∧ o = .slice A j c ∧ i = .int .i64 j ∧ Hid (rawDs l = (takeFs (K - j) l' b').map fun p => (ds ++ p.1, p.2)) ∧ Hid (DsOk ds) ∧ OwnP (OwnK wr (g + 1)) wr (g + 1) A j c ds ∧ Rdr wr 44 g l' b' ∧ Below w.heap.size w wr) (fun _ i _ => K - (intOf i).toNat)
  case atStart => exact ⟨0, _, 0, [], L, B, Nat.zero_le _, rfl, rfl, Go.Lib.hid (by rw [HTD.out]; simp), Go.Lib.hid (fun d hd => by simp at hd), p4, r4, B4⟩
  case round =>
    obtain ⟨j, A, c, ds, l', b', hj, rfl, rfl, HQ, HOK, op, rq, Bq⟩ := hrel
    clear p4 r4 B4 HTD
    by_cases hlt : j < K
    · obtain ⟨i1, i2⟩ := (HK1.out j).1 hlt
      have hKj : K - j = K - (j + 1) + 1 := by omega
      rw [hKj] at HQ
      have gwr := rq.lt
      have hsz0 := Nat.le_trans (tx_size (numL l')) (Nat.le_trans (numL_le l') (rdr_len rq))
      have HSZ := Go.Lib.hid hsz0
      have HNR := Go.Lib.hid (numV_range l')
      clear hKj hsz0
      go_wp2_with fail
      refine (refNum_any g l' b' wr rq).mono ?_
      rintro e w5 ⟨rfl, r5, g5⟩
      have al : Below w5.heap.size w5 (w5.alloc (.cells #[.int .i64 (numV l'), .string ⟨#[]⟩, .slice none 0 0] 36)) := (Below.refl _ _).alloc (Nat.le_refl _) _
      have d6 := DAt.new w5 (.int .i64 (numV l')) (.string ⟨#[]⟩) (.slice none 0 0)
      have r6 := r5.below al
      have g6 := gr_below g5 al
      have wz5 := g5.size
      go_upto_region 8 with (fail)
      generalize w5.alloc (.cells #[.int .i64 (numV l'), .string ⟨#[]⟩, .slice none 0 0] 36) = w6 at *
      generalize w5.heap.size = gd at *
      clear r5 g5 al
      go_wp2_with fail
      refine (refText_any g _ _ w6 r6).mono ?_
      rintro e w7 ⟨rfl, r7, g7⟩
      have htx : (⟨(textV (numL l')).toArray⟩ : ByteArray) = tx (numL l') := rfl
      rw [htx]
      have d7 := d6.grown g7 (by simp; omega)
      have zf := d7.frozen 1
      have y1 := d7.c1
      have d8 := d7.set1 (.string (tx (numL l')))
      have hs := grownSet w7 gd 1 (.string (tx (numL l')))
      have r8 := rdr_apart r7 hs (fun r e => by injection e; omega)
      have g8 := gr_step (gr_step' g6 g7) hs (fun r e => by injection e; omega)
      go_upto_region 9 with (fail)
      generalize w7.setCell ⟨gd, 1, none⟩ (.string (tx (numL l'))) = w8 at *
      clear r6 g6 g7 r7 d6 d7 hs htx
      go_wp2_with fail
      refine (refTakeQ_any g _ _ w8 r8).mono ?_
      rintro e w9 ⟨g9, ht⟩
      have gr9 := gr_step' g8 g9
      have B9 := Bq.grown gr9 Bq.size (by rintro q ⟨rfl⟩; exact hg)
      have d9 := d8.grown g9 (by simp; omega)
      have gd8 := d8.lt
      rcases ht with ⟨q, l'', htk, C, nC, cC, rfl, oK, r9⟩ | ⟨htk, rfl, _⟩
      · have hmq := (takeQ_may htk).1
        have HQ' : Hid (rawDs l = (takeFs (K - (j + 1)) l'' false).map fun p => ((ds ++ [⟨numV l', tx (numL l'), q⟩]) ++ p.1, p.2)) := Go.Lib.hid (by
          rw [HQ.out, takeFs_some htk]
          simp [Option.map_map, Function.comp_def])
        have HOK' : Hid (DsOk (ds ++ [⟨numV l', tx (numL l'), q⟩])) := Go.Lib.hid (by
          intro d hd
          rcases List.mem_append.1 hd with hd | hd
          · exact HOK.out d hd
          · rw [List.mem_singleton.1 hd]
            exact ⟨HNR.out, HSZ.out, few_okQ (may_few hmq)⟩)
        clear HQ HOK htk hmq HSZ HNR
        generalize numV l' = kv at *
        generalize tx (numL l') = fv at *
        have al : Below w9.heap.size w9 (w9.alloc (.cells #[.slice C nC cC] 25)) := (Below.refl _ _).alloc (Nat.le_refl _) _
        have q10 := QAt.new w9 (.slice C nC cC)
        have d10 := d9.below al
        have oK10 := oK.below al
        have r10 := r9.below al
        have gr10 := gr_below gr9 al
        go_upto_region 10 with (fail)
        generalize w9.alloc (.cells #[.slice C nC cC] 25) = w10 at *
        generalize w9.heap.size = gq at *
        clear d8 d9 oK r9 al g8 gr9 r8 g9 zf y1
        have k0 := q10.c0
        have z2 := d10.frozen 2
        have y2 := d10.c2
        have d11 := d10.set2 (.slice C nC cC)
        have hs := grownSet w10 gd 2 (.slice C nC cC)
        have r11 := rdr_apart r10 hs (fun r e => by injection e; omega)
        have gr11 := gr_step gr10 hs (fun r e => by injection e; omega)
        have oK11 := (oK10.off hs gd8).lower (base' := g + 1) (by omega)
        have op11 := op.off gr11 (Nat.lt_succ_self _) (fun A n c q h => OwnK.off h gr11 (Nat.lt_succ_self _))
        have B11 := Bq.grown gr11 Bq.size (by rintro q ⟨rfl⟩; exact hg)
        go_upto_region 13 with (fail)
        generalize w10.setCell ⟨gd, 2, none⟩ (.slice C nC cC) = w11 at *
        clear q10 k0 d10 z2 y2 hs r10 gr10 oK10 op gr11 B9 Bq
        have k0 := d11.c0
        have k1 := d11.c1
        have k2 := d11.c2
        have al : Below w11.heap.size w11 (w11.alloc (.cells #[.int .i64 kv, .string fv, .slice C nC cC] 36)) := (Below.refl _ _).alloc (Nat.le_refl _) _
        have r12 := r11.below al
        have B12 := below_chain B11 al
        have oK12 := oK11.below al
        obtain ⟨cs, oc, hlen, hcs⟩ := op11.below al (fun A n c q h => OwnK.below h al)
        have big : g + 1 ≤ (w11.alloc (.cells #[.int .i64 kv, .string fv, .slice C nC cC] 36)).heap.size := r12.lt
        have d12 : RdC 3 (w11.alloc (.cells #[.int .i64 kv, .string fv, .slice C nC cC] 36)) (some ⟨w11.heap.size, 0, none⟩) 1 1 [.int .i64 kv, .string fv, .slice C nC cC] := RdC.new w11 36 [.int .i64 kv, .string fv, .slice C nC cC] rfl (by decide)
        have h63 : j + 1 ≤ maxLen := by unfold maxLen; omega
        have hsz : (j + 1) * 48 ≤ 140737488355328 := by omega
        clear r11 B11 oK11 op11 al
        go_wp2_with (at_builtin; refine wpList_append_cells rfl (.tmp 45) (.tmp 47) 26 rfl 36 (.agg #[.int .i64 0, .string ⟨#[]⟩, .slice none 0 0]) 48 Try.underlying26 def_info rfl (by decide) rfl rfl oc d12 (df_one _ _ _ _ _) h63 hsz big ?_; intro A8 c8 w13 o8 g13 _)
        go_roundw
        case rel =>
          have low := fun r e => row_low oc (r := r) e
          refine ⟨j + 1, A8, c8, _, l'', false, by omega, rfl, by go_num, HQ', HOK', ?_, rdr_apart r12 g13 (fun r e => by have := low r e; omega), B12.grown g13 B12.size (fun r e => by have := low r e; omega)⟩
          exact OwnP.more (d := ⟨kv, fv, q⟩) hlen hcs oK12 o8 (fun A n c q h => OwnK.unlike h oc (by decide) (by decide) g13)
        case measure => simp [intOf]; omega
      · have hno : rawDs l = none := by
          rw [HQ.out, takeFs_none htk]
          rfl
        have hno2 : takeDs l = none := by
          unfold takeDs
          rw [hno]
        have HNO := Go.Lib.hid hno2
        have B10 := B9.alloc B9.size (.cells #[.slice none 0 0] 25)
        clear hno hno2 HQ HOK htk HSZ HNR op rq
        go_wp2_with fail
        go_ret2
        exact ⟨B10, .inr ⟨HNO.out, rfl⟩⟩
    · obtain rfl : K = j := by omega
      have hraw : rawDs l = some (ds, l', b') := by
        rw [HQ.out, takeFs_zero (Nat.sub_self _)]
        simp
      have htd : takeDs l = if mayDs ds = 0 ∧ encDs ds = l then some ds else none := by
        unfold takeDs
        rw [hraw]
      have HTD := Go.Lib.hid htd
      have hway : ¬ (K : Int) < n ∨ ((K : Int) < n ∧ ¬ (K : Int) ≤ 4) := by
        have := HK1.out K
        omega
      have rA := op.rd (fun A n c q h => OwnK.rd h)
      clear HQ hraw htd hlt hj
      have r0 := h.below Bq
      rcases hway with i1 | ⟨i1, i2⟩
      all_goals
        go_wp2_with fail
        refine (refPutDs_any A K c ds wr rA HOK.out).mono ?_
        rintro e w5 ⟨hput, b5⟩
        have B5 := below_chain Bq b5
        have rA5 := rA.below b5
        have r5 := r0.below b5
        rcases hput with ⟨h0, v, rfl, E5, c5, rfl, o5⟩ | ⟨h0, rfl⟩
        · have sx := rd_str o5.rd
          have sy := rd_str r5
          by_cases he : encDs ds = l
          · have hyes : takeDs l = some ds := by rw [HTD.out, if_pos ⟨h0, he⟩]
            have HYES := Go.Lib.hid hyes
            rw [he] at sx ⊢
            clear hyes he h0 HTD o5 r5
            go_wp2_with fail
            go_ret2
            exact ⟨B5, .inl ⟨ds, _, _, _, HYES.out, rfl, rA5⟩⟩
          · have hno : takeDs l = none := by rw [HTD.out, if_neg (fun h => he h.2)]
            have HNO := Go.Lib.hid hno
            have hb := bytes_ne he
            clear hno he h0 HTD o5 r5
            generalize encDs ds = X at *
            go_wp2_with fail
            go_ret2
            exact ⟨B5, .inr ⟨HNO.out, rfl⟩⟩
        · have hno : takeDs l = none := by rw [HTD.out, if_neg (fun h => h0 h.1)]
          have HNO := Go.Lib.hid hno
          have m0 : (mayDs ds != 0) = true := by rw [bne_iff_ne]; exact h0
          clear hno h0 HTD
          generalize mayDs ds = M at *
          go_wp2_with fail
          go_ret2
          exact ⟨B5, .inr ⟨HNO.out, rfl⟩⟩

end Go.Proofs.Ytjgddlnfjmdnnaa.QcWalk

/-
  The laws' words of layer 6: few.
-/
namespace Go.Proofs.Ytjgddlnfjmdnnaa.QuWalk
open Go.RowKit Go.Proofs.Ytjgddlnfjmdnnaa.MemRow Go.Proofs.Ytjgddlnfjmdnnaa.Ev Go.Proofs.Ytjgddlnfjmdnnaa.NameMath Go.Proofs.Ytjgddlnfjmdnnaa.NameWalk Go.Proofs.Ytjgddlnfjmdnnaa.EvWalk Go.Proofs.Ytjgddlnfjmdnnaa.Qu

/-- At most eight clauses, of eight tags and eight types each. -/
def fewC (c : Cl) : Cl := ⟨c.tags.take 8, c.types.take 8⟩
def fewQ (q : List Cl) : List Cl := (q.take 8).map fewC
theorem fewC_ok {c : Cl} (h : ClOk c) : ClOk (fewC c) := ⟨fun x hx => h.tags x (List.mem_of_mem_take hx), fun x hx => h.types x (List.mem_of_mem_take hx)⟩
theorem fewQ_ok {q : List Cl} (h : QOk q) : QOk (fewQ q) := fun c hc => by
  obtain ⟨d, hd, rfl⟩ := List.mem_map.1 hc
  exact fewC_ok (h d (List.mem_of_mem_take hd))
theorem fewQ_len (q : List Cl) : (fewQ q).length ≤ 8 := by simp only [fewQ, List.length_map, List.length_take]; omega
theorem fewQ_terms (q : List Cl) : ∀ c ∈ fewQ q, c.tags.length ≤ 8 ∧ c.types.length ≤ 8 := fun c hc => by
  obtain ⟨d, hd, rfl⟩ := List.mem_map.1 hc
  simp only [fewC, List.length_take]
  omega
theorem fewQ_snoc (q : List Cl) (j : Nat) (h : j < q.length) (h8 : j < 8) : fewQ (q.take (j + 1)) = fewQ (q.take j) ++ [fewC (q.getD j noCl)] := by
  unfold fewQ
  rw [List.take_take, List.take_take, Nat.min_eq_right (by omega), Nat.min_eq_right (by omega), cl_take q j h, List.map_append]
  rfl
theorem fewQ_take (q : List Cl) (j : Nat) (h : q.length ≤ j ∨ 8 ≤ j) : fewQ (q.take j) = fewQ q := by
  unfold fewQ
  rw [List.take_take]
  rcases h with h | h
  · congr 1
    rcases Nat.le_total 8 j with h8 | h8
    · rw [Nat.min_eq_left h8]
    · rw [Nat.min_eq_right h8, List.take_of_length_le h, List.take_of_length_le (by omega)]
  · rw [Nat.min_eq_left h]

end Go.Proofs.Ytjgddlnfjmdnnaa.QuWalk

/-
  The laws' words of layer 7: few, some.
-/
namespace Go.Proofs.Ytjgddlnfjmdnnaa.QcWalk
open Go.RowKit Go.Proofs.Ytjgddlnfjmdnnaa.MemRow Go.Proofs.Ytjgddlnfjmdnnaa.Ev Go.Proofs.Ytjgddlnfjmdnnaa.NameMath Go.Proofs.Ytjgddlnfjmdnnaa.NameWalk Go.Proofs.Ytjgddlnfjmdnnaa.EvWalk Go.Proofs.Ytjgddlnfjmdnnaa.NumMath Go.Proofs.Ytjgddlnfjmdnnaa.NumMem Go.Proofs.Ytjgddlnfjmdnnaa.NumWalk Go.Proofs.Ytjgddlnfjmdnnaa.Qu Go.Proofs.Ytjgddlnfjmdnnaa.QuWalk Go.Proofs.Ytjgddlnfjmdnnaa.QlLaw

set_option maxHeartbeats 8000000 in
set_option maxRecDepth 100000 in
theorem fewQ7_any (v : Value) (q : List Cl) (w0 w : World) (hv : IsQ w0 v q) (hb0 : Below w0.heap.size w0 w) :
    Calls Try.prog 11 #[v] w fun e w' => ∃ A n ca, e = .returned (.agg #[.slice A n ca]) ∧ OwnQ w0 w' (w.heap.size + 1 + 1 + 1) A n ca (fewQ q) ∧ Below w.heap.size w w' := by
  obtain ⟨C, n, cap, rfl, rC⟩ := hv
  have LC := Go.Lib.hid rC.len
  have hn := rC.le
  unfold maxLen at hn
  have s1 := MkAt.new w0 w (.slice C n cap)
  go_enter Try.func11, Try.ntmps11
  go_upto_region 2 with (fail)
  generalize ((w.alloc (.cells #[.slice C n cap] 25)).alloc (.cells #[.slice none 0 0] 25)).alloc (.cells #[.slice none 0 0] 25) = w1 at *
  go_wp2_with fail
  go_loopw [4, 5] (fun i _ wr => ∃ (j : Nat) (A : Option Addr) (ca : Nat), j ≤ n ∧ j ≤ 8 ∧ i = .int .i64 j ∧ MkAt w0 wr w (.slice C n cap) A j ca (fewQ (q.take j))) (fun i _ _ => n - (intOf i).toNat)
  case atStart => exact ⟨0, none, 0, Nat.zero_le _, by omega, rfl, s1⟩
  case round =>
    obtain ⟨j, A, ca, hjn, hj8, rfl, sr⟩ := hrel
    clear s1
    have k0 := sr.eq.c0
    by_cases hlt : j < n ∧ j < 8
    · obtain ⟨h1, h2⟩ := hlt
      obtain ⟨bt, ot, rfl, _, kt⟩ := rC.at_ (by omega)
      obtain ⟨T, nT, cT, Y, nY, cY, x0', x1', rT, rY⟩ := kt j h1
      have x0 := bcell (below_chain hb0 sr.bel) x0'
      have x1 := bcell (below_chain hb0 sr.bel) x1'
      have i1 : (j : Int) < n := by omega
      have i2 : (j : Int) < 8 := by omega
      have HS := Go.Lib.hid (fewQ_snoc q j (by rw [LC.out]; exact h1) h2)
      clear kt x0' x1'
      generalize q.getD j noCl = c at *
      go_upto_region 6 with (fail)
      have al : Below wr.heap.size wr (wr.alloc (.cells #[.slice T nT cT, .slice Y nY cY] 60)) := (Below.refl _ _).alloc (Nat.le_refl _) _
      have c5 := ClAt.new wr (.slice T nT cT) (.slice Y nY cY)
      have s5 := sr.below al
      have glt : w.heap.size + 1 + 1 < wr.heap.size := sr.out.lt
      have gA : ∀ a, A = some a → a.block ≠ wr.heap.size := fun a hA => by
        obtain ⟨cs, o, _, _⟩ := sr.own
        have := (OwnC.lt o a hA).2
        omega
      have GA := Go.Lib.hid gA
      generalize wr.alloc (.cells #[.slice T nT cT, .slice Y nY cY] 60) = w5 at *
      generalize wr.heap.size = g at *
      have LT := Go.Lib.hid rT.len
      have LY := Go.Lib.hid rY.len
      have hnT := RdC.le rT
      have hnY := RdC.le rY
      unfold maxLen at hnT hnY
      clear sr k0 x0 x1 al gA
      have k5 := c5.c0
      go_upto_if 26 with (fail)
      go_cut [5] (fun p wx => p = .pointer (some ⟨g, 0, none⟩) ∧ ∃ nT', ClAt wx g (.slice T nT' cT) (.slice Y nY cY) ∧ RdS w0 T nT' cT (c.tags.take 8) ∧ MkAt w0 wx w (.slice (some ⟨bt, ot, none⟩) n cap) A j ca (fewQ (q.take j)))
      case first =>
        by_cases h8 : 8 < nT
        · obtain ⟨q1, d1⟩ := slice_hi (P := Try.prog) 58 9 Try.underlying58 elem_strs string_size rT (m := 8) (by omega)
          rw [strs_take] at d1
          have q1' : ∀ W, (Instr.slice 58 (.slice T nT cT) none (some (.int .i64 8)) none).run Try.prog W = .ok (.slice T 8 cT) W := q1
          have i3 : (8 : Int) < nT := by omega
          have z5 := c5.frozen 0
          have c6 := c5.set0 (.slice T 8 cT)
          have s6 := s5.far glt GA.out 0 (.slice T 8 cT)
          have C6 := Go.Lib.hid c6
          have S6 := Go.Lib.hid s6
          clear q1 c6 s6
          go_wp2_with fail
          go_meet
          exact ⟨rfl, 8, C6.out, d1, S6.out⟩
        · have i3 : ¬ (8 : Int) < nT := by omega
          have d1 : RdS w0 T nT cT (c.tags.take 8) := by rw [List.take_of_length_le (by rw [LT.out]; omega)]; exact rT
          go_wp2_with fail
          go_meet
          exact ⟨rfl, nT, c5, d1, s5⟩
      case rest =>
        obtain ⟨rfl, nT', c6, d6, s6⟩ := hcut
        clear k5 c5 s5
        have k6 := c6.c1
        go_upto_if 34 with (fail)
        go_cut [5] (fun p wx => p = .pointer (some ⟨g, 0, none⟩) ∧ ∃ nY', ClAt wx g (.slice T nT' cT) (.slice Y nY' cY) ∧ RdS w0 Y nY' cY (c.types.take 8) ∧ MkAt w0 wx w (.slice (some ⟨bt, ot, none⟩) n cap) A j ca (fewQ (q.take j)))
        case first =>
          by_cases h8 : 8 < nY
          · obtain ⟨q1, d1⟩ := slice_hi (P := Try.prog) 58 9 Try.underlying58 elem_strs string_size rY (m := 8) (by omega)
            rw [strs_take] at d1
            have q1' : ∀ W, (Instr.slice 58 (.slice Y nY cY) none (some (.int .i64 8)) none).run Try.prog W = .ok (.slice Y 8 cY) W := q1
            have i3 : (8 : Int) < nY := by omega
            have z5 := c6.frozen 1
            have c7 := c6.set1 (.slice Y 8 cY)
            have s7 := s6.far glt GA.out 1 (.slice Y 8 cY)
            have C7 := Go.Lib.hid c7
            have S7 := Go.Lib.hid s7
            clear q1 c7 s7
            go_wp2_with fail
            go_meet
            exact ⟨rfl, 8, C7.out, d1, S7.out⟩
          · have i3 : ¬ (8 : Int) < nY := by omega
            have d1 : RdS w0 Y nY cY (c.types.take 8) := by rw [List.take_of_length_le (by rw [LY.out]; omega)]; exact rY
            go_wp2_with fail
            go_meet
            exact ⟨rfl, nY, c6, d1, s6⟩
        case rest =>
          obtain ⟨rfl, nY', c7, d7, s7⟩ := hcut
          clear k6 c6 s6
          have k0 := c7.c0
          have k1 := c7.c1
          have o0 := s7.out.c0
          have al : Below wc.heap.size wc (wc.alloc (.cells #[.slice T nT' cT, .slice Y nY' cY] 60)) := (Below.refl _ _).alloc (Nat.le_refl _) _
          have s8 := s7.below al
          have d8 : RdC 2 (wc.alloc (.cells #[.slice T nT' cT, .slice Y nY' cY] 60)) (some ⟨wc.heap.size, 0, none⟩) 1 1 [.slice T nT' cT, .slice Y nY' cY] := RdC.new wc 60 [.slice T nT' cT, .slice Y nY' cY] rfl (by decide)
          have big : w.heap.size + 1 + 1 + 1 ≤ (wc.alloc (.cells #[.slice T nT' cT, .slice Y nY' cY] 60)).heap.size := s8.out.lt
          have h63 : j + 1 ≤ maxLen := by unfold maxLen; omega
          have hsz : (j + 1) * 48 ≤ 140737488355328 := by omega
          obtain ⟨cs, oc, hcl, hcs⟩ := s8.own
          clear s7 c7 GA al LT LY hnT hnY
          go_wp2_with (at_builtin; refine wpList_append_cells rfl (.tmp 40) (.tmp 42) 23 rfl 60 (.agg #[.slice none 0 0, .slice none 0 0]) 48 Try.underlying23 clause_info rfl (by decide) rfl rfl oc d8 (cl_one _ _ _ _ _ _) h63 hsz big ?_; intro A9 c9 w9 o9 g9 _; obtain ⟨z9, k9, n9⟩ := s8.more (c := fewC c) oc hcs d6 d7 o9 g9)
          go_roundw
          case rel => exact ⟨j + 1, A9, c9, by omega, by omega, by go_num, by rw [HS.out]; exact n9⟩
          case measure => simp [intOf]; omega
    · have hq : fewQ (q.take j) = fewQ q := fewQ_take q j (by rw [LC.out]; omega)
      rw [hq] at sr
      have HQ := Go.Lib.hid hq
      have o0 := sr.out.c0
      have r0 := sr.res.c0
      have z0 := sr.res.frozen 0
      have e9 := sr.res.set (.slice A j ca)
      have rq9 : OwnQ w0 (wr.setCell ⟨w.heap.size + 1, 0, none⟩ (.slice A j ca)) (w.heap.size + 1 + 1 + 1) A j ca (fewQ q) :=
        OwnQ.grown sr.own (grownSet wr (w.heap.size + 1) 0 (.slice A j ca)) (by omega)
      have b9 : Below w.heap.size w (wr.setCell ⟨w.heap.size + 1, 0, none⟩ (.slice A j ca)) := sr.bel.setCell (by show w.heap.size ≤ w.heap.size + 1; omega) _
      have E9 := Go.Lib.hid e9
      have RQ := Go.Lib.hid rq9
      have BQ := Go.Lib.hid b9
      clear hq e9 rq9 b9
      by_cases h1 : j < n
      · have i2 : ¬ (j : Int) < 8 := by omega
        have i1 : (j : Int) < n := by omega
        clear hlt
        go_wp2_with fail
        have e9 := E9.out
        have rq9 := RQ.out
        have b9 := BQ.out
        generalize wr.setCell ⟨w.heap.size + 1, 0, none⟩ (.slice A j ca) = w9 at *
        have q0 := e9.c0
        exact bodyPost_ret (v := .agg #[.slice A j ca]) (by simp [results, Try.results11, go_sem, q0]) rfl ⟨_, _, _, rfl, rq9, b9⟩
      · have i1 : ¬ (j : Int) < n := by omega
        clear hlt
        go_wp2_with fail
        have e9 := E9.out
        have rq9 := RQ.out
        have b9 := BQ.out
        generalize wr.setCell ⟨w.heap.size + 1, 0, none⟩ (.slice A j ca) = w9 at *
        have q0 := e9.c0
        exact bodyPost_ret (v := .agg #[.slice A j ca]) (by simp [results, Try.results11, go_sem, q0]) rfl ⟨_, _, _, rfl, rq9, b9⟩

/-- A projection whose query has few clauses. -/
def fewD (d : Df) : Df := ⟨d.k, d.f, fewQ d.q⟩
def someD (ds : List Df) : List Df := (ds.take 6).map fewD
theorem fewD_ok {d : Df} (h : DfOk d) : DfOk (fewD d) := ⟨h.k, h.f, fewQ_ok h.q⟩
theorem someD_ok {ds : List Df} (h : DsOk ds) : DsOk (someD ds) := fun d hd => by
  obtain ⟨e, he, rfl⟩ := List.mem_map.1 hd
  exact fewD_ok (h e (List.mem_of_mem_take he))
theorem someD_len (ds : List Df) : (someD ds).length ≤ 6 := by simp only [someD, List.length_map, List.length_take]; omega
theorem someD_size (ds : List Df) : (someD ds).length = min 6 ds.length := by simp only [someD, List.length_map, List.length_take]
theorem someD_snoc (ds : List Df) (j : Nat) (h : j < ds.length) (h6 : j < 6) : someD (ds.take (j + 1)) = someD (ds.take j) ++ [fewD (ds.getD j noDf)] := by
  unfold someD
  rw [List.take_take, List.take_take, Nat.min_eq_right (by omega), Nat.min_eq_right (by omega), df_take ds j h, List.map_append]
  rfl
theorem someD_take (ds : List Df) (j : Nat) (h : ds.length ≤ j ∨ 6 ≤ j) : someD (ds.take j) = someD ds := by
  unfold someD
  rw [List.take_take]
  rcases h with h | h
  · congr 1
    rcases Nat.le_total 6 j with h6 | h6
    · rw [Nat.min_eq_left h6]
    · rw [Nat.min_eq_right h6, List.take_of_length_le h, List.take_of_length_le (by omega)]
  · rw [Nat.min_eq_left h]
theorem OwnQ.unlike {w0 w w' : World} {base base' : Nat} {A A' : Option Addr} {n cap n' cap' k' : Nat} {q : List Cl} {t' : TypeId} {cs' : List Value} (h : OwnQ w0 w base A n cap q) (h' : OwnC k' w base' t' A' n' cap' cs') (hc : 60 ≠ t') (hg : w.grownBy w' (A'.map (·.block))) : OwnQ w0 w' base A n cap q := by
  obtain ⟨cs, o, hl, hcs⟩ := h
  exact ⟨cs, OwnC.grown o hg (own_unlike o h' hc), hl, hcs⟩
theorem OwnQ.lower {w0 w : World} {base base' : Nat} {A : Option Addr} {n cap : Nat} {q : List Cl} (h : OwnQ w0 w base A n cap q) (hb : base' ≤ base) : OwnQ w0 w base' A n cap q := by
  obtain ⟨cs, o, hl, hcs⟩ := h
  exact ⟨cs, own_lower o hb, hl, hcs⟩

set_option maxHeartbeats 8000000 in
set_option maxRecDepth 100000 in
theorem some_any (A : Option Addr) (n ca : Nat) (ds : List Df) (w : World) (h : RdD w A n ca ds) :
    Calls Try.prog 14 #[.slice A n ca] w fun e w' => ∃ A' n' c', e = .returned (.slice A' n' c') ∧ RdD w' A' n' c' (someD ds) ∧ Below w.heap.size w w' := by
  have LD := Go.Lib.hid h.len
  have hmax := h.le
  unfold maxLen at hmax
  go_enter Try.func14, Try.ntmps14
  go_upto_region 2 with (fail)
  have b1 : Below w.heap.size w (w.alloc (.cells #[] 36)) := (Below.refl _ _).alloc (Nat.le_refl _) _
  have p1 : OwnP (OwnQ w (w.alloc (.cells #[] 36)) w.heap.size) (w.alloc (.cells #[] 36)) w.heap.size (some ⟨w.heap.size, 0, none⟩) 0 0 [] := OwnP.empty w (Nat.le_refl _)
  generalize w.alloc (.cells #[] 36) = w1 at *
  go_wp2_with fail
  go_loopw [3, 4] (fun o i wr => ∃ (j : Nat) (A' : Option Addr) (c : Nat), j ≤ n ∧ j ≤ 6 ∧ o = .slice A' j c ∧ i = .int .i64 j ∧ OwnP (OwnQ w wr w.heap.size) wr w.heap.size A' j c (someD (ds.take j)) ∧ Below w.heap.size w wr) (fun _ i _ => n - (intOf i).toNat)
  case atStart => exact ⟨0, _, 0, Nat.zero_le _, by omega, rfl, rfl, p1, b1⟩
  case round =>
    obtain ⟨j, A', c, hjn, hj6, rfl, rfl, op, Bq⟩ := hrel
    clear p1 b1
    by_cases hlt : j < n ∧ j < 6
    · obtain ⟨h1, h2⟩ := hlt
      obtain ⟨bt, ot, rfl, _, kt⟩ := h.at_ (by omega)
      obtain ⟨C, nC, cC, x0', x1', x2', rC⟩ := kt j h1
      have x0 := bcell Bq x0'
      have x1 := bcell Bq x1'
      have x2 := bcell Bq x2'
      have i1 : (j : Int) < n := by omega
      have i2 : (j : Int) < 6 := by omega
      have HS := Go.Lib.hid (someD_snoc ds j (by rw [LD.out]; exact h1) h2)
      clear kt x0' x1' x2'
      generalize ds.getD j noDf = d at *
      have wz := Bq.size
      have al : Below wr.heap.size wr (wr.alloc (.cells #[.int .i64 d.k, .string d.f, .slice C nC cC] 36)) := (Below.refl _ _).alloc (Nat.le_refl _) _
      have d5 := DAt.new wr (.int .i64 d.k) (.string d.f) (.slice C nC cC)
      go_upto_region 6 with (fail)
      generalize wr.alloc (.cells #[.int .i64 d.k, .string d.f, .slice C nC cC] 36) = w5 at *
      generalize hgd : wr.heap.size = gd at *
      have k2 := d5.c2
      have B5 := below_chain Bq (by rw [hgd]; exact al)
      go_wp2_with fail
      refine (fewQ7_any (.agg #[.slice C nC cC]) d.q w w5 ⟨_, _, _, rfl, rC⟩ B5).mono ?_
      rintro e w6 ⟨E, nE, cE, rfl, oE, b6⟩
      have d6 := d5.below b6
      have z2 := d6.frozen 2
      have y2 := d6.c2
      have d7 := d6.set2 (.slice E nE cE)
      have hs := grownSet w6 gd 2 (.slice E nE cE)
      have glt := d5.lt
      have oE7 := OwnQ.lower (OwnQ.grown oE hs (by omega)) (base' := w.heap.size) (by omega)
      rw [← hgd] at al
      have al7' : Below wr.heap.size wr (w6.setCell ⟨gd, 2, none⟩ (.slice E nE cE)) := (below_chain al b6).setCell (by rw [hgd]; exact Nat.le_refl _) _
      have op7 := op.below al7' (fun A n c q h => OwnQ.below h al7')
      have B7 := below_chain Bq al7'
      go_upto_region 7 with (fail)
      generalize w6.setCell ⟨gd, 2, none⟩ (.slice E nE cE) = w7 at *
      clear d5 d6 k2 B5 b6 al z2 y2 hs oE al7' op Bq x0 x1 x2
      have k0 := d7.c0
      have k1 := d7.c1
      have k2 := d7.c2
      have al : Below w7.heap.size w7 (w7.alloc (.cells #[.int .i64 d.k, .string d.f, .slice E nE cE] 36)) := (Below.refl _ _).alloc (Nat.le_refl _) _
      have B8 := below_chain B7 al
      have oE8 := OwnQ.below oE7 al
      obtain ⟨cs, oc, hlen, hcs⟩ := op7.below al (fun A n c q h => OwnQ.below h al)
      have big : w.heap.size ≤ (w7.alloc (.cells #[.int .i64 d.k, .string d.f, .slice E nE cE] 36)).heap.size := B8.size
      have d8 : RdC 3 (w7.alloc (.cells #[.int .i64 d.k, .string d.f, .slice E nE cE] 36)) (some ⟨w7.heap.size, 0, none⟩) 1 1 [.int .i64 d.k, .string d.f, .slice E nE cE] := RdC.new w7 36 [.int .i64 d.k, .string d.f, .slice E nE cE] rfl (by decide)
      have h63 : j + 1 ≤ maxLen := by unfold maxLen; omega
      have hsz : (j + 1) * 48 ≤ 140737488355328 := by omega
      clear B7 oE7 op7 al
      go_wp2_with (at_builtin; refine wpList_append_cells rfl (.tmp 25) (.tmp 27) 26 rfl 36 (.agg #[.int .i64 0, .string ⟨#[]⟩, .slice none 0 0]) 48 Try.underlying26 def_info rfl (by decide) rfl rfl oc d8 (df_one _ _ _ _ _) h63 hsz big ?_; intro A9 c9 w9 o9 g9 _)
      go_roundw
      case rel =>
        have low := fun r e => row_low oc (r := r) e
        refine ⟨j + 1, A9, c9, by omega, by omega, rfl, by go_num, ?_, B8.grown g9 B8.size (fun r e => low r e)⟩
        rw [HS.out]
        exact OwnP.more (d := fewD d) hlen hcs oE8 o9 (fun A n c q h => OwnQ.unlike h oc (by decide) g9)
      case measure => simp [intOf]; omega
    · have hq : someD (ds.take j) = someD ds := someD_take ds j (by rw [LD.out]; omega)
      rw [hq] at op
      have rA := op.rd (fun A n c q h => OwnQ.rd h Bq)
      have hway : ¬ (j : Int) < n ∨ ((j : Int) < n ∧ ¬ (j : Int) < 6) := by omega
      clear hq op hlt
      rcases hway with i1 | ⟨i1, i2⟩
      all_goals
        go_wp2_with fail
        go_ret
        exact ⟨_, _, _, rfl, rA, Bq⟩

end Go.Proofs.Ytjgddlnfjmdnnaa.QcWalk

/-
  Words of the walks of layer 7's statements: what is asked of the program's qcode; shown.
-/
namespace Go.Proofs.Ytjgddlnfjmdnnaa.QkLaw
open Go.RowKit Go.WideShapes Go.ChangeShapes Go.Proofs.Ytjgddlnfjmdnnaa.MemRow Go.Proofs.Ytjgddlnfjmdnnaa.Ev Go.Proofs.Ytjgddlnfjmdnnaa.NameMath Go.Proofs.Ytjgddlnfjmdnnaa.NameWalk Go.Proofs.Ytjgddlnfjmdnnaa.EvWalk Go.Proofs.Ytjgddlnfjmdnnaa.NumMath Go.Proofs.Ytjgddlnfjmdnnaa.NumMem Go.Proofs.Ytjgddlnfjmdnnaa.NumWalk Go.Proofs.Ytjgddlnfjmdnnaa.Qu Go.Proofs.Ytjgddlnfjmdnnaa.QuWalk Go.Proofs.Ytjgddlnfjmdnnaa.QlLaw Go.Proofs.Ytjgddlnfjmdnnaa.QcWalk Go.Proofs.Ytjgddlnfjmdnnaa.Open

/-! ### What calls come to, whichever way they are made -/
def PutOne (l : List UInt8) (q : List Cl) (w : World) (e : Ending) (w' : World) : Prop :=
  ∃ (A' : Option Addr) (m c' : Nat) (x : List UInt8), e = .returned (.tuple #[.slice A' m c', .int .i64 (mayQ q)]) ∧ Rd w' A' m c' x ∧ Hid (x = if mayQ q = 0 then l ++ encQ q else []) ∧ Below w.heap.size w w'
theorem put_one {l : List UInt8} {q : List Cl} {w : World} {e : Ending} {w' : World} (h : PutQ l q w e w' ∧ Below w.heap.size w w') : PutOne l q w e w' := by
  obtain ⟨h, hb⟩ := h
  rcases h with ⟨h0, v, rfl, A', c', rfl, ho⟩ | ⟨h0, rfl⟩
  · exact ⟨A', _, c', _, by rw [h0], ho.rd, Go.Lib.hid (by rw [if_pos h0]), hb⟩
  · exact ⟨none, 0, 0, [], rfl, Rd.nil _, Go.Lib.hid (by rw [if_neg h0]), hb⟩
def DsOne (ds : List Df) (w : World) (e : Ending) (w' : World) : Prop :=
  ∃ (A' : Option Addr) (m c' : Nat) (x : List UInt8), e = .returned (.tuple #[.slice A' m c', .int .i64 (mayDs ds)]) ∧ Rd w' A' m c' x ∧ Hid (x = if mayDs ds = 0 then encDs ds else []) ∧ Below w.heap.size w w'
theorem ds_one {ds : List Df} {w : World} {e : Ending} {w' : World} (h : PutDs ds w e w' ∧ Below w.heap.size w w') : DsOne ds w e w' := by
  obtain ⟨h, hb⟩ := h
  rcases h with ⟨h0, v, rfl, A', c', rfl, ho⟩ | ⟨h0, rfl⟩
  · exact ⟨A', _, c', _, by rw [h0], ho.rd, Go.Lib.hid (by rw [if_pos h0]), hb⟩
  · exact ⟨none, 0, 0, [], rfl, Rd.nil _, Go.Lib.hid (by rw [if_neg h0]), hb⟩
def tkQ (l : List UInt8) : List Cl := match takeQ l false with | some p => p.1 | none => []
def tkC (l : List UInt8) : Int := match takeQ l false with | some _ => 0 | none => 2
def tkL (l : List UInt8) : List UInt8 := match takeQ l false with | some p => p.2 | none => []
theorem tk_some {l l' : List UInt8} {q : List Cl} (h : takeQ l false = some (q, l')) : tkQ l = q ∧ tkC l = 0 ∧ tkL l = l' := by
  unfold tkQ tkC tkL
  rw [h]
  exact ⟨rfl, rfl, rfl⟩
theorem tk_none {l : List UInt8} (h : takeQ l false = none) : tkQ l = [] ∧ tkC l = 2 := by
  unfold tkQ tkC
  rw [h]
  exact ⟨rfl, rfl⟩
def TkOne (R : TypeId) (l : List UInt8) (g : Nat) (w : World) (e : Ending) (w' : World) : Prop :=
  ∃ (A : Option Addr) (n c : Nat), e = .returned (.tuple #[.agg #[.slice A n c], .int .i64 (tkC l)]) ∧ RdQ w' A n c (tkQ l) ∧ Hid (tkC l = 0 → Rdr w' R g (tkL l) false) ∧ w.grownBy w' (some g)
theorem tk_one {R : TypeId} {l : List UInt8} {g : Nat} {w w' : World} {e : Ending} (h : TakeOutQ R l false g w e w') : TkOne R l g w e w' := by
  obtain ⟨hg, h⟩ := h
  rcases h with ⟨q, l', ht, A, n, c, rfl, o, hr⟩ | ⟨ht, rfl, _⟩
  · obtain ⟨e1, e2, e3⟩ := tk_some ht
    exact ⟨A, n, c, by rw [e2], by rw [e1]; exact o.rd, Go.Lib.hid (fun _ => by rw [e3]; exact hr), hg⟩
  · obtain ⟨e1, e2⟩ := tk_none ht
    exact ⟨none, 0, 0, by rw [e2], by rw [e1]; exact RdQ.nil _, Go.Lib.hid (fun h => by rw [e2] at h; cases h), hg⟩
def tdD (l : List UInt8) : List Df := match takeDs l with | some ds => ds | none => []
def tdC (l : List UInt8) : Int := match takeDs l with | some _ => 0 | none => 2
theorem td_some {l : List UInt8} {ds : List Df} (h : takeDs l = some ds) : tdD l = ds ∧ tdC l = 0 := by
  unfold tdD tdC
  rw [h]
  exact ⟨rfl, rfl⟩
theorem td_none {l : List UInt8} (h : takeDs l = none) : tdD l = [] ∧ tdC l = 2 := by
  unfold tdD tdC
  rw [h]
  exact ⟨rfl, rfl⟩
def TdOne (l : List UInt8) (w : World) (e : Ending) (w' : World) : Prop :=
  ∃ (A : Option Addr) (n c : Nat), e = .returned (.tuple #[.slice A n c, .int .i64 (tdC l)]) ∧ RdD w' A n c (tdD l) ∧ Below w.heap.size w w'
theorem td_one {l : List UInt8} {w w' : World} {e : Ending} (h : TakeDsOut l w e w') : TdOne l w e w' := by
  obtain ⟨hb, h⟩ := h
  rcases h with ⟨ds, A, n, c, ht, rfl, hr⟩ | ⟨ht, rfl⟩
  · obtain ⟨e1, e2⟩ := td_some ht
    exact ⟨A, n, c, by rw [e2], by rw [e1]; exact hr, hb⟩
  · obtain ⟨e1, e2⟩ := td_none ht
    exact ⟨none, 0, 0, by rw [e2], by rw [e1]; exact RdD.nil _, hb⟩

/-- Few clauses, of few terms. -/
def LimQ (q : List Cl) : Prop := q.length ≤ 8 ∧ ∀ c ∈ q, c.tags.length ≤ 8 ∧ c.types.length ≤ 8
theorem fewQ_lim (q : List Cl) : LimQ (fewQ q) := ⟨fewQ_len q, fewQ_terms q⟩
def LimD (ds : List Df) : Prop := ds.length ≤ 6 ∧ ∀ d ∈ ds, LimQ d.q
theorem someD_lim (ds : List Df) : LimD (someD ds) := ⟨someD_len ds, fun d hd => by
  obtain ⟨e, _, rfl⟩ := List.mem_map.1 hd
  exact fewQ_lim e.q⟩

/-- What is asked of the program's calls of layer 7. -/
structure CApi : Prop where
  put : ∀ (A : Option Addr) (n cap : Nat) (l : List UInt8) (v : Value) (q : List Cl) (w : World), Rd w A n cap l → l.length ≤ 1000 → IsQ w v q → QOk q → LimQ q → Calls Try.prog 10 #[.slice A n cap, v] w (PutOne l q w)
  take : ∀ (g : Nat) (l : List UInt8) (w : World), Rdr w 72 g l false → l.length ≤ 100000 → Calls Try.prog 19 #[.pointer (some ⟨g, 0, none⟩)] w (TkOne 72 l g w)
  mayD : ∀ (v : Value) (d : Df) (w : World), IsD w v d → DfOk d → LimQ d.q → Calls Try.prog 16 #[v] w fun e w' => e = .returned (.int .i64 (mayD d)) ∧ Below w.heap.size w w'
  putD : ∀ (A : Option Addr) (n ca : Nat) (ds : List Df) (w : World), RdD w A n ca ds → DsOk ds → LimD ds → Calls Try.prog 13 #[.slice A n ca] w (DsOne ds w)
  takeD : ∀ (A : Option Addr) (n cap : Nat) (l : List UInt8) (w : World), Rd w A n cap l → l.length ≤ 200000 → Calls Try.prog 21 #[.slice A n cap] w (TdOne l w)

theorem OwnQ.is_ {w0 w : World} {base : Nat} {A : Option Addr} {n cap : Nat} {q : List Cl} (h : OwnQ w0 w base A n cap q) (hb : Below w0.heap.size w0 w) : IsQ w (.agg #[.slice A n cap]) q := ⟨A, n, cap, rfl, OwnQ.rd h hb⟩
theorem mayQ_one : mayQ [noCl] = 0 := rfl

set_option maxHeartbeats 8000000 in
set_option maxRecDepth 100000 in
theorem shown7_any (api : CApi) (w : World) :
    Calls Try.prog 9 #[] w fun e w' => e = .returned (.bool true) ∧ Below w.heap.size w w' := by
  have B1 : Below w.heap.size w (w.alloc (.cells #[.slice none 0 0, .slice none 0 0] 60)) := (Below.refl _ _).alloc (Nat.le_refl _) _
  have c1 := ClAt.new w (.slice none 0 0) (.slice none 0 0)
  have hq : RdQ (w.alloc (.cells #[.slice none 0 0, .slice none 0 0] 60)) (some ⟨w.heap.size, 0, none⟩) 1 1 [noCl] := ⟨rfl, Nat.le_refl _, by decide, fun _ => ⟨w.heap.size, 0, rfl, c1.lt, fun i hi => by
    obtain rfl : i = 0 := by omega
    exact ⟨none, 0, 0, none, 0, 0, c1.c0, c1.c1, RdC.nil _, RdC.nil _⟩⟩⟩
  go_enter Try.func9, Try.ntmps9
  go_wp2_with fail
  refine (api.put none 0 0 [] _ [noCl] _ (Rd.nil _) (by decide) ⟨_, _, _, rfl, hq⟩ (fun c hc => by rw [List.mem_singleton.1 hc]; exact ⟨by simp [noCl], by simp [noCl]⟩) ⟨by decide, fun c hc => by rw [List.mem_singleton.1 hc]; decide⟩).mono ?_
  rintro e w2 ⟨A2, m2, c2, x2, rfl, r2, H2, b2⟩
  have hx : x2 = [2, 0, 0] := by rw [H2.out, mayQ_one, encQ_one]; rfl
  subst hx
  have B2 := below_chain B1 b2
  have sx := rd_str r2
  rw [mayQ_one]
  clear r2 H2 b2 B1 hq c1
  go_wp2_with fail
  go_ret
  exact ⟨by simp, B2⟩

end Go.Proofs.Ytjgddlnfjmdnnaa.QkLaw

/-
  Walk of a statement of layer 7: QcodeRefuses.
-/
namespace Go.Proofs.Ytjgddlnfjmdnnaa.QkLaw
open Go.RowKit Go.WideShapes Go.ChangeShapes Go.Proofs.Ytjgddlnfjmdnnaa.MemRow Go.Proofs.Ytjgddlnfjmdnnaa.Ev Go.Proofs.Ytjgddlnfjmdnnaa.NameMath Go.Proofs.Ytjgddlnfjmdnnaa.NameWalk Go.Proofs.Ytjgddlnfjmdnnaa.EvWalk Go.Proofs.Ytjgddlnfjmdnnaa.NumMath Go.Proofs.Ytjgddlnfjmdnnaa.NumMem Go.Proofs.Ytjgddlnfjmdnnaa.NumWalk Go.Proofs.Ytjgddlnfjmdnnaa.Qu Go.Proofs.Ytjgddlnfjmdnnaa.QuWalk Go.Proofs.Ytjgddlnfjmdnnaa.QlLaw Go.Proofs.Ytjgddlnfjmdnnaa.QcWalk Go.Proofs.Ytjgddlnfjmdnnaa.Open

theorem firstD_drop {ds : List Df} {j : Nat} (h : j < ds.length) : firstD (ds.drop j) = if mayD (ds.getD j noDf) ≠ 0 then mayD (ds.getD j noDf) else firstD (ds.drop (j + 1)) := by
  have e : ds.getD j noDf = ds[j] := by rw [List.getD_eq_getElem?_getD, List.getElem?_eq_getElem h]; rfl
  rw [List.drop_eq_getElem_cons h, e]
  rfl

set_option maxHeartbeats 8000000 in
set_option maxRecDepth 100000 in
theorem refuses_walk (api : CApi) (A : Option Addr) (n ca : Nat) (ds : List Df) (w : World) (h : RdD w A n ca ds) (hok : DsOk ds) :
    Calls Try.prog 7 #[.slice A n ca] w fun e w' => e = .returned (.bool true) ∧ Below w.heap.size w w' := by
  go_enter Try.func7, Try.ntmps7
  go_wp2_with fail
  refine (shown7_any api w).mono ?_
  rintro e w1 ⟨rfl, B1⟩
  go_wp2_with fail
  refine (some_any A n ca ds w1 (h.below B1)).mono ?_
  rintro e w2 ⟨A2, n2, c2, rfl, r2, b2⟩
  have B2 := below_chain B1 b2
  have hok2 := someD_ok hok
  have hlim := someD_lim ds
  generalize someD ds = fs at *
  have L2 := Go.Lib.hid r2.len
  have hn2 : n2 ≤ 6 := by rw [← r2.len]; exact hlim.1
  clear h hok B1 b2
  go_wp2_with fail
  refine (api.putD A2 n2 c2 fs w2 r2 hok2 hlim).mono ?_
  rintro e w3 ⟨A3, m3, c3, x3, rfl, _, _, b3⟩
  have B3 := below_chain B2 b3
  have r3 := r2.below b3
  have HOK := Go.Lib.hid hok2
  have HLIM := Go.Lib.hid hlim
  have HMD : Hid (mayDs fs = if 4 < n2 then 3 else firstD fs) := Go.Lib.hid (by unfold mayDs; rw [L2.out])
  generalize mayDs fs = M at *
  clear hok2 hlim r2 b3 B2
  go_wp2_with fail
  go_loopw [6, 7] (fun o i wr => ∃ (k : Nat) (z : Int), k ≤ n2 ∧ z = (k : Int) - 1 ∧ o = .int .i64 (firstD (fs.drop k)) ∧ i = .int .i64 z ∧ Below w3.heap.size w3 wr) (fun _ i _ => (intOf i + 1).toNat)
  case atStart =>
    refine ⟨n2, (n2 : Int) - 1, Nat.le_refl _, rfl, ?_, by go_num, Below.refl _ _⟩
    rw [List.drop_eq_nil_of_le (by rw [L2.out]; exact Nat.le_refl _)]
    rfl
  case round =>
    obtain ⟨k, z, hk, hz, rfl, rfl, bq⟩ := hrel
    cases k with
    | zero =>
      have hz0 : ¬ (0 : Int) ≤ z := by omega
      have h0 : fs.drop 0 = fs := rfl
      rw [h0]
      clear hz hk
      have B4 := below_chain B3 bq
      by_cases h4 : 4 < n2
      · have i4 : (4 : Int) < n2 := by omega
        obtain rfl : M = 3 := by rw [HMD.out, if_pos h4]
        clear HMD
        go_wp2_with fail
        go_ret
        exact ⟨rfl, B4⟩
      · have i4 : ¬ (4 : Int) < n2 := by omega
        obtain rfl : M = firstD fs := by rw [HMD.out, if_neg h4]
        clear HMD
        generalize firstD fs = F at *
        go_wp2_with fail
        go_ret
        exact ⟨by simp, B4⟩
    | succ j =>
      have hzj : z = (j : Int) := by omega
      clear hz
      subst hzj
      have hjn : j < n2 := by omega
      obtain ⟨bt, ot, rfl, _, kt⟩ := (r3.below bq).at_ (by omega)
      obtain ⟨C, nC, cC, x0, x1, x2, rC⟩ := kt j hjn
      have hjl : j < fs.length := by rw [L2.out]; exact hjn
      have HF := Go.Lib.hid (firstD_drop hjl)
      generalize hF0 : firstD (fs.drop (j + 1)) = F0 at *
      generalize hF1 : firstD (fs.drop j) = F1 at *
      have HF0 := Go.Lib.hid hF0
      have HF1 := Go.Lib.hid hF1
      clear hF0 hF1
      have hd := HOK.out _ (df_get hjl)
      have hl := HLIM.out.2 _ (df_get hjl)
      have i0 : (0 : Int) ≤ j := by omega
      have i1 : (j : Int) < n2 := by omega
      clear kt hjl
      generalize fs.getD j noDf = d at *
      go_wp2_with fail
      refine (api.mayD _ d wr ⟨C, nC, cC, rfl, rC⟩ hd hl).mono ?_
      rintro e w5 ⟨rfl, b5⟩
      have bq5 := below_chain bq b5
      clear x0 x1 x2 rC hd hl b5 bq
      by_cases h0 : mayD d = 0
      · have hF : F0 = F1 := by rw [HF.out, if_neg (fun h => h h0)]
        have HF2 := Go.Lib.hid (hF.trans HF1.out.symm)
        rw [h0]
        clear h0 hF HF HF0 HF1
        go_wp2_with fail
        go_roundw
        case rel => exact ⟨j, (j : Int) - 1, by omega, rfl, by rw [← HF2.out], by go_num, bq5⟩
        case measure => simp [intOf]
      · have hF : F1 = mayD d := by rw [HF.out, if_pos h0]
        have HF2 := Go.Lib.hid (HF1.out.trans hF)
        have m0 : (mayD d != 0) = true := by rw [bne_iff_ne]; exact h0
        clear h0 hF HF HF0 HF1
        generalize mayD d = Md at *
        go_wp2_with fail
        go_roundw
        case rel => exact ⟨j, (j : Int) - 1, by omega, rfl, by rw [HF2.out], by go_num, bq5⟩
        case measure => simp [intOf]

section
variable {H : Type} {enc : TypeId × Value → H}
set_option maxRecDepth 100000 in
theorem refuses_main' (api : CApi) (W : World) (base : Nat) (v0 : Value) {d0 : DataW H} {p0 : List MemPlace} (o0 : Value.okWide Try.prog W .any base 26 v0)
    (h0 : DataW.Trod enc Try.prog W 0 (fun _ => true) true 26 v0 d0 p0) :
    Calls Try.prog 7 #[v0] W fun e W' => e = .returned (.bool true) ∧ Below W.heap.size W W' := by
  obtain ⟨A, n, ca, ds, rfl, r, hok⟩ := op_defs o0 h0
  exact refuses_walk api A n ca ds W r hok
end

end Go.Proofs.Ytjgddlnfjmdnnaa.QkLaw

/-
  Mathematics of layer 7: queries, and projections, parsed one item behind the other; it comes to the same as they are taken.
-/
namespace Go.Proofs.Ytjgddlnfjmdnnaa.QeWalk
open Go.RowKit Go.Proofs.Ytjgddlnfjmdnnaa.MemRow Go.Proofs.Ytjgddlnfjmdnnaa.Ev Go.Proofs.Ytjgddlnfjmdnnaa.NameMath Go.Proofs.Ytjgddlnfjmdnnaa.NameWalk Go.Proofs.Ytjgddlnfjmdnnaa.EvWalk Go.Proofs.Ytjgddlnfjmdnnaa.NumMath Go.Proofs.Ytjgddlnfjmdnnaa.NumMem Go.Proofs.Ytjgddlnfjmdnnaa.NumWalk Go.Proofs.Ytjgddlnfjmdnnaa.Qu Go.Proofs.Ytjgddlnfjmdnnaa.QuWalk Go.Proofs.Ytjgddlnfjmdnnaa.QlLaw Go.Proofs.Ytjgddlnfjmdnnaa.QcWalk

/-! ### A reader that is bad has nothing left -/
def Dry (l : List UInt8) (b : Bool) : Prop := b = true → l = []
theorem Dry.num {l : List UInt8} {b : Bool} (h : Dry l b) : Dry (numL l) (numB l b) := by
  intro hb
  unfold numB at hb
  unfold numL
  split at hb
  · next h0 => rw [if_pos h0]
  · next h0 =>
    obtain rfl := h hb
    exact absurd rfl h0
theorem Dry.text {l : List UInt8} {b : Bool} (h : Dry l b) : Dry (textL l) (textB l b) := by
  intro hb
  unfold textB at hb
  unfold textL
  split at hb
  · next h0 =>
    rw [if_pos h0, h.num hb]
    simp
  · next h0 => rw [if_neg h0]
theorem Dry.good (l : List UInt8) : Dry l false := fun h => by cases h
theorem lenV_nil : lenV [] = 0 := rfl
/-- Of a dry reader's number: it is bad just if there is none. -/
theorem Dry.numB {l : List UInt8} {b : Bool} (h : Dry l b) : numB l b = decide (lenV l = 0) := by
  unfold NumWalk.numB
  by_cases h0 : lenV l = 0
  · rw [if_pos h0, decide_eq_true h0]
  · rw [if_neg h0, decide_eq_false h0]
    cases b with
    | false => rfl
    | true =>
      obtain rfl := h rfl
      exact absurd rfl h0
theorem numV_none {l : List UInt8} (h : lenV l = 0) : numV l = 0 := by unfold numV; rw [if_pos h]

/-! ### Items, one behind the other -/
section
variable {α : Type}
def many (P : List UInt8 → Option (α × List UInt8)) : Nat → List UInt8 → Option (List α × List UInt8)
  | 0, l => some ([], l)
  | k + 1, l => match P l with
    | none => none
    | some (x, l') => (many P k l').map fun p => (x :: p.1, p.2)
/-- A number, and as many items; M of them are kept. -/
def listP (P : List UInt8 → Option (α × List UInt8)) (M : Nat) (l : List UInt8) : Option (List α × List UInt8) :=
  if lenV l = 0 ∨ numV l < 0 then none else (many P (numV l).toNat (numL l)).map fun p => (p.1.take M, p.2)
variable {P : List UInt8 → Option (α × List UInt8)} {M : Nat} {l l' : List UInt8}
theorem many_zero {k : Nat} (h : k = 0) : many P k l = some ([], l) := by
  subst h
  rfl
theorem many_some {k : Nat} {x : α} (h : P l = some (x, l')) : many P (k + 1) l = (many P k l').map fun p => (x :: p.1, p.2) := by
  rw [many, h]
theorem many_none {k : Nat} (h : P l = none) : many P (k + 1) l = none := by
  rw [many, h]
theorem many_len : ∀ (k : Nat) (l : List UInt8) (xs : List α) (l' : List UInt8), many P k l = some (xs, l') → xs.length = k
  | 0, l, xs, l', h => by
    simp only [many, Option.some.injEq, Prod.mk.injEq] at h
    rw [← h.1]
    rfl
  | k + 1, l, xs, l', h => by
    rw [many] at h
    split at h
    · cases h
    · next x l1 hp =>
      simp only [Option.map_eq_some_iff, Prod.mk.injEq] at h
      obtain ⟨⟨ys, l2⟩, hm, h1, _⟩ := h
      rw [← h1, List.length_cons, many_len k _ _ _ hm]
theorem many_le (hP : ∀ l x l', P l = some (x, l') → l'.length ≤ l.length) : ∀ (k : Nat) (l : List UInt8) (xs : List α) (l' : List UInt8), many P k l = some (xs, l') → l'.length ≤ l.length
  | 0, l, xs, l', h => by
    simp only [many, Option.some.injEq, Prod.mk.injEq] at h
    rw [← h.2]
    exact Nat.le_refl _
  | k + 1, l, xs, l', h => by
    rw [many] at h
    split at h
    · cases h
    · next x l1 hp =>
      simp only [Option.map_eq_some_iff, Prod.mk.injEq] at h
      obtain ⟨⟨ys, l2⟩, hm, _, h2⟩ := h
      rw [← h2]
      exact Nat.le_trans (many_le hP k _ _ _ hm) (hP _ _ _ hp)
theorem many_all {φ : α → Prop} {N : Nat} (hP : ∀ l x l', P l = some (x, l') → l'.length ≤ l.length ∧ (l.length ≤ N → φ x)) : ∀ (k : Nat) (l : List UInt8) (xs : List α) (l' : List UInt8), many P k l = some (xs, l') → l.length ≤ N → ∀ x ∈ xs, φ x
  | 0, l, xs, l', h, _ => by
    simp only [many, Option.some.injEq, Prod.mk.injEq] at h
    rw [← h.1]
    simp
  | k + 1, l, xs, l', h, hn => by
    rw [many] at h
    split at h
    · cases h
    · next x l1 hp =>
      simp only [Option.map_eq_some_iff, Prod.mk.injEq] at h
      obtain ⟨⟨ys, l2⟩, hm, h1, _⟩ := h
      obtain ⟨p1, p2⟩ := hP _ _ _ hp
      have ih := many_all hP k _ _ _ hm (Nat.le_trans p1 hn)
      rw [← h1]
      intro y hy
      rcases List.mem_cons.1 hy with rfl | hy
      · exact p2 hn
      · exact ih y hy
theorem listP_none (h : lenV l = 0) : listP P M l = none := by unfold listP; rw [if_pos (.inl h)]
theorem listP_neg (h : numV l < 0) : listP P M l = none := by unfold listP; rw [if_pos (.inr h)]
theorem listP_nil : listP P M [] = none := listP_none rfl
theorem listP_in (h0 : lenV l ≠ 0) (h1 : 0 ≤ numV l) : listP P M l = (many P (numV l).toNat (numL l)).map fun p => (p.1.take M, p.2) := by
  unfold listP
  rw [if_neg]
  rintro (h | h)
  · exact h0 h
  · omega
/-- What a list was taken of. -/
theorem listP_some {xs : List α} (h : listP P M l = some (xs, l')) : lenV l ≠ 0 ∧ 0 ≤ numV l ∧ ∃ ys, many P (numV l).toNat (numL l) = some (ys, l') ∧ xs = ys.take M ∧ ys.length = (numV l).toNat := by
  unfold listP at h
  split at h
  · cases h
  · next h0 =>
    simp only [Option.map_eq_some_iff, Prod.mk.injEq] at h
    obtain ⟨⟨ys, l2⟩, hm, h1, h2⟩ := h
    simp only at h1 h2
    subst h2
    exact ⟨fun h => h0 (.inl h), by omega, ys, hm, h1.symm, many_len _ _ _ _ hm⟩
theorem listP_le (hP : ∀ l x l', P l = some (x, l') → l'.length ≤ l.length) {xs : List α} (h : listP P M l = some (xs, l')) : l'.length ≤ l.length := by
  obtain ⟨_, _, ys, hm, _, _⟩ := listP_some h
  exact Nat.le_trans (many_le hP _ _ _ _ hm) (numL_le l)
theorem listP_all {φ : α → Prop} {N : Nat} (hP : ∀ l x l', P l = some (x, l') → l'.length ≤ l.length ∧ (l.length ≤ N → φ x)) {xs : List α} (h : listP P M l = some (xs, l')) (hn : l.length ≤ N) : ∀ x ∈ xs, φ x := by
  obtain ⟨_, _, ys, hm, rfl, _⟩ := listP_some h
  intro x hx
  exact many_all hP _ _ _ _ hm (Nat.le_trans (numL_le l) hn) x (List.mem_of_mem_take hx)
end

/-! ### Texts, clauses, queries, projections -/
def parS (l : List UInt8) : Option (ByteArray × List UInt8) := if textB l false = true then none else some (tx l, textL l)
def parT (l : List UInt8) : Option (List ByteArray × List UInt8) := listP parS 5 l
def parC (l : List UInt8) : Option (Cl × List UInt8) := match parT l with
  | none => none
  | some (a, l1) => match parT l1 with
    | none => none
    | some (b, l2) => some (⟨a, b⟩, l2)
def parQ (l : List UInt8) : Option (List Cl × List UInt8) := listP parC 5 l
def parD (l : List UInt8) : Option (Df × List UInt8) := match parQ (textL (numL l)) with
  | none => none
  | some (q, l') => some (⟨numV l, tx (numL l), q⟩, l')
def parDs (l : List UInt8) : Option (List Df × List UInt8) := listP parD 5 l

theorem parS_size (l : List UInt8) (x : ByteArray) (l' : List UInt8) (h : parS l = some (x, l')) : l'.length ≤ l.length ∧ (l.length ≤ maxLen → x.size ≤ maxLen) := by
  unfold parS at h
  split at h
  · cases h
  · simp only [Option.some.injEq, Prod.mk.injEq] at h
    obtain ⟨rfl, rfl⟩ := h
    exact ⟨textL_le l, Nat.le_trans (tx_size l)⟩
theorem parT_le {l l' : List UInt8} {ts : List ByteArray} (h : parT l = some (ts, l')) : l'.length ≤ l.length := listP_le (fun l x l' h => (parS_size l x l' h).1) h
theorem parT_size {l l' : List UInt8} {ts : List ByteArray} (h : parT l = some (ts, l')) (hn : l.length ≤ maxLen) : ∀ x ∈ ts, x.size ≤ maxLen := listP_all parS_size h hn
theorem parC_some {l l' : List UInt8} {c : Cl} (h : parC l = some (c, l')) : ∃ l1, parT l = some (c.tags, l1) ∧ parT l1 = some (c.types, l') := by
  unfold parC at h
  split at h
  · cases h
  · next a l1 h1 =>
    split at h
    · cases h
    · next b l2 h2 =>
      simp only [Option.some.injEq, Prod.mk.injEq] at h
      obtain ⟨rfl, rfl⟩ := h
      exact ⟨l1, h1, h2⟩
theorem parC_of {l l1 l' : List UInt8} {a b : List ByteArray} (h1 : parT l = some (a, l1)) (h2 : parT l1 = some (b, l')) : parC l = some (⟨a, b⟩, l') := by
  unfold parC
  rw [h1]
  simp only
  rw [h2]
theorem parC_no1 {l : List UInt8} (h1 : parT l = none) : parC l = none := by
  unfold parC
  rw [h1]
theorem parC_no2 {l l1 : List UInt8} {a : List ByteArray} (h1 : parT l = some (a, l1)) (h2 : parT l1 = none) : parC l = none := by
  unfold parC
  rw [h1]
  simp only
  rw [h2]
theorem parC_size (l : List UInt8) (c : Cl) (l' : List UInt8) (h : parC l = some (c, l')) : l'.length ≤ l.length ∧ (l.length ≤ maxLen → ClOk c) := by
  obtain ⟨l1, h1, h2⟩ := parC_some h
  have e1 := parT_le h1
  exact ⟨Nat.le_trans (parT_le h2) e1, fun hn => ⟨parT_size h1 hn, parT_size h2 (Nat.le_trans e1 hn)⟩⟩
theorem parQ_le {l l' : List UInt8} {q : List Cl} (h : parQ l = some (q, l')) : l'.length ≤ l.length := listP_le (fun l x l' h => (parC_size l x l' h).1) h
theorem parQ_ok {l l' : List UInt8} {q : List Cl} (h : parQ l = some (q, l')) (hn : l.length ≤ maxLen) : QOk q := fun c hc => listP_all parC_size h hn c hc
theorem parD_some {l l' : List UInt8} {d : Df} (h : parD l = some (d, l')) : parQ (textL (numL l)) = some (d.q, l') ∧ d = ⟨numV l, tx (numL l), d.q⟩ := by
  unfold parD at h
  split at h
  · cases h
  · next q l1 h1 =>
    simp only [Option.some.injEq, Prod.mk.injEq] at h
    obtain ⟨rfl, rfl⟩ := h
    exact ⟨h1, rfl⟩
theorem parD_of {l l' : List UInt8} {q : List Cl} (h : parQ (textL (numL l)) = some (q, l')) : parD l = some (⟨numV l, tx (numL l), q⟩, l') := by
  unfold parD
  rw [h]
theorem parD_no {l : List UInt8} (h : parQ (textL (numL l)) = none) : parD l = none := by
  unfold parD
  rw [h]
theorem parD_size (l : List UInt8) (d : Df) (l' : List UInt8) (h : parD l = some (d, l')) : l'.length ≤ l.length ∧ (l.length ≤ maxLen → DfOk d) := by
  obtain ⟨h1, h2⟩ := parD_some h
  have e1 := numL_le l
  have e2 := textL_le (numL l)
  have e3 := tx_size (numL l)
  refine ⟨Nat.le_trans (parQ_le h1) (Nat.le_trans e2 e1), fun hn => ?_⟩
  rw [h2]
  exact ⟨numV_range l, by simp only; omega, parQ_ok h1 (by omega)⟩
theorem parDs_ok {l l' : List UInt8} {ds : List Df} (h : parDs l = some (ds, l')) (hn : l.length ≤ maxLen) : DsOk ds := fun d hd => listP_all parD_size h hn d hd

/-! ### It comes to the same as what is taken -/
theorem textB_ok {l : List UInt8} (h : textB l false = false) : lenV l ≠ 0 := by
  have h1 := (textB_le h).1
  exact (numB_le h1).2
theorem many_takeK : ∀ (k : Nat) (l : List UInt8), (takeK k l false).2.2 = false → many parS k l = some ((takeK k l false).1, (takeK k l false).2.1)
  | 0, _, _ => rfl
  | k + 1, l, h => by
    rw [takeK] at h
    have hb : textB l false = false := takeK_le _ _ _ h
    have hp : parS l = some (tx l, textL l) := by
      unfold parS
      rw [hb]
      rfl
    rw [hb] at h
    simp only at h
    rw [many_some hp, many_takeK k _ h, takeK, hb]
    rfl
theorem takeK_many : ∀ (k : Nat) (l : List UInt8) (ts : List ByteArray) (l' : List UInt8), many parS k l = some (ts, l') → takeK k l false = (ts, l', false)
  | 0, l, ts, l', h => by
    simp only [many, Option.some.injEq, Prod.mk.injEq] at h
    obtain ⟨rfl, rfl⟩ := h
    rfl
  | k + 1, l, ts, l', h => by
    rw [many] at h
    split at h
    · cases h
    · next x l1 hp =>
      simp only [Option.map_eq_some_iff, Prod.mk.injEq] at h
      obtain ⟨⟨ys, l2⟩, hm, rfl, rfl⟩ := h
      unfold parS at hp
      split at hp
      · cases hp
      · next hb =>
        simp only [Option.some.injEq, Prod.mk.injEq] at hp
        obtain ⟨rfl, rfl⟩ := hp
        have hb' : textB l false = false := by
          cases hh : textB l false with
          | false => rfl
          | true => exact absurd hh hb
        rw [takeK, hb', takeK_many k _ _ _ hm]
theorem numB_good {l : List UInt8} (h : lenV l ≠ 0) : numB l false = false := by
  unfold numB
  rw [if_neg h]
/-- Texts that are taken are parsed; those that are parsed, and not too many, are taken. -/
theorem parT_takeT {l : List UInt8} (h : (takeT l false).2.2 = false) : parT l = some ((takeT l false).1, (takeT l false).2.1) ∧ (takeT l false).1.length ≤ 4 := by
  obtain ⟨_, h1, h2, h3⟩ := takeT_le h
  have h0 := (numB_le h1).2
  have e : takeT l false = takeK (numV l).toNat (numL l) (numB l false) := by
    unfold takeT
    rw [if_neg h2]
  rw [numB_good h0] at e h3
  have hl : (takeK (numV l).toNat (numL l) false).1.length ≤ 4 := by
    rw [takeK_len]
    omega
  rw [e]
  refine ⟨?_, hl⟩
  unfold parT
  rw [listP_in h0 (by omega), many_takeK _ _ h3]
  simp only [Option.map_some]
  rw [List.take_of_length_le (by omega)]
theorem takeT_parT {l l' : List UInt8} {ts : List ByteArray} (h : parT l = some (ts, l')) (hn : ts.length ≤ 4) : takeT l false = (ts, l', false) := by
  obtain ⟨h0, h1, ys, hm, rfl, hl⟩ := listP_some h
  have hy : ys.length ≤ 4 := by rw [List.length_take] at hn; omega
  have e : ys.take 5 = ys := List.take_of_length_le (by omega)
  rw [e]
  unfold takeT
  rw [if_neg (by omega), numB_good h0]
  exact takeK_many _ _ _ _ hm
theorem parC_takeC {l : List UInt8} (h : (takeC l false).2.2 = false) : parC l = some ((takeC l false).1, (takeC l false).2.1) := by
  have h1 := takeC_le h
  obtain ⟨h2, _⟩ := parT_takeT h1
  unfold takeC at h ⊢
  simp only at h ⊢
  rw [h1] at h ⊢
  obtain ⟨h3, _⟩ := parT_takeT h
  exact parC_of h2 h3
theorem takeC_parC {l l' : List UInt8} {c : Cl} (h : parC l = some (c, l')) (h1 : c.tags.length ≤ 4) (h2 : c.types.length ≤ 4) : takeC l false = (c, l', false) := by
  obtain ⟨l1, p1, p2⟩ := parC_some h
  have t1 := takeT_parT p1 h1
  have t2 := takeT_parT p2 h2
  unfold takeC
  rw [t1]
  simp only
  rw [t2]
theorem many_takeCs : ∀ (k : Nat) (l : List UInt8), (takeCs k l false).2.2 = false → many parC k l = some ((takeCs k l false).1, (takeCs k l false).2.1)
  | 0, _, _ => rfl
  | k + 1, l, h => by
    rw [takeCs] at h
    have hb : (takeC l false).2.2 = false := takeCs_le _ _ _ h
    have hp := parC_takeC hb
    rw [hb] at h
    simp only at h
    rw [many_some hp, many_takeCs k _ h, takeCs, hb]
    rfl
theorem takeCs_many : ∀ (k : Nat) (l : List UInt8) (q : List Cl) (l' : List UInt8), many parC k l = some (q, l') → (∀ c ∈ q, c.tags.length ≤ 4 ∧ c.types.length ≤ 4) → takeCs k l false = (q, l', false)
  | 0, l, q, l', h, _ => by
    simp only [many, Option.some.injEq, Prod.mk.injEq] at h
    obtain ⟨rfl, rfl⟩ := h
    rfl
  | k + 1, l, q, l', h, hf => by
    rw [many] at h
    split at h
    · cases h
    · next x l1 hp =>
      simp only [Option.map_eq_some_iff, Prod.mk.injEq] at h
      obtain ⟨⟨ys, l2⟩, hm, rfl, rfl⟩ := h
      have hx := hf x (by simp)
      rw [takeCs, takeC_parC hp hx.1 hx.2]
      simp only
      rw [takeCs_many k _ _ _ hm fun c hc => hf c (by simp [hc])]
/-- A query is taken just if it is parsed, and may be. -/
theorem takeQ_parQ (l : List UInt8) : takeQ l false = match parQ l with
    | none => none
    | some (q, l') => if mayQ q = 0 then some (q, l') else none := by
  cases hq : takeQ l false with
  | some p =>
    obtain ⟨q, l'⟩ := p
    obtain ⟨h1, h2, h3⟩ := takeQ_may hq
    have hf := may_few h1
    have h2' := h2
    unfold rawQ at h2
    have hb : (takeCs (min (numV l) 5).toNat (numL l) (numB l false)).2.2 = false := by rw [h2]
    have hnb := takeCs_le _ _ _ hb
    have h0 := (numB_le hnb).2
    have hlen := takeCs_len (min (numV l) 5).toNat (numL l) (numB l false)
    rw [h2] at hlen
    simp only at hlen
    have hk : (min (numV l) 5).toNat = (numV l).toNat := by have := hf.1; omega
    rw [numB_good h0, hk] at h2
    have hm := many_takeCs (numV l).toNat (numL l) (by rw [h2])
    rw [h2] at hm
    simp only at hm
    have hp : parQ l = some (q, l') := by
      unfold parQ
      rw [listP_in h0 (by omega), hm]
      simp only [Option.map_some]
      rw [List.take_of_length_le (by have := hf.1; omega)]
    rw [hp]
    simp only
    rw [if_pos h1]
  | none =>
    cases hp : parQ l with
    | none => rfl
    | some p =>
      obtain ⟨q, l'⟩ := p
      simp only
      by_cases h1 : mayQ q = 0
      · exfalso
        obtain ⟨h0, hn, ys, hm, rfl, hl⟩ := listP_some hp
        have hf := may_few h1
        have hy : ys.length ≤ 4 := by have := hf.1; rw [List.length_take] at this; omega
        have e : ys.take 5 = ys := List.take_of_length_le (by omega)
        rw [e] at hf h1
        have ht := takeCs_many _ _ _ _ hm fun c hc => ⟨(hf.2 c hc).1.1, (hf.2 c hc).2.1⟩
        have hk : (min (numV l) 5).toNat = (numV l).toNat := by omega
        unfold takeQ rawQ at hq
        rw [numB_good h0, hk, ht, if_neg] at hq
        · cases hq
        · rintro (h | h | h)
          · omega
          · cases h
          · exact h h1
      · rw [if_neg h1]

/-! ### What was laid down is parsed as it was -/
theorem many_dfsE (ds : List Df) (h : ∀ d ∈ ds, mayD d = 0) (rest : List UInt8) : many parD ds.length (dfsE ds ++ rest) = some (ds, rest) := by
  induction ds with
  | nil => simp [many, dfsE]
  | cons d ds ih =>
    obtain ⟨h1, h2, h3, h4⟩ := mayD_zero (h d (by simp))
    have e : dfsE (d :: ds) ++ rest = enc d.k ++ (txt d.f ++ (encQ d.q ++ (dfsE ds ++ rest))) := by simp [dfsE, encD, List.append_assoc]
    obtain ⟨a1, a2, a3⟩ := num_enc d.k (by omega) (txt d.f ++ (encQ d.q ++ (dfsE ds ++ rest))) false
    obtain ⟨b1, b2, b3⟩ := text_txt d.f (by omega) (encQ d.q ++ (dfsE ds ++ rest)) false
    have hq : parQ (encQ d.q ++ (dfsE ds ++ rest)) = some (d.q, dfsE ds ++ rest) := by
      have h5 := takeQ_encQ h3 (dfsE ds ++ rest)
      rw [takeQ_parQ] at h5
      split at h5
      · cases h5
      · next q l' hp =>
        split at h5
        · rw [hp, h5]
        · cases h5
    have hd : parD (dfsE (d :: ds) ++ rest) = some (d, dfsE ds ++ rest) := by
      have h6 : parQ (textL (numL (dfsE (d :: ds) ++ rest))) = some (d.q, dfsE ds ++ rest) := by rw [e, a2, b2, hq]
      rw [parD_of h6, e, a1, a2, b1]
    rw [List.length_cons, many_some hd, ih fun x hx => h x (by simp [hx])]
    rfl
theorem parDs_encDs {ds : List Df} (h : mayDs ds = 0) (rest : List UInt8) : parDs (encDs ds ++ rest) = some (ds, rest) := by
  obtain ⟨h4, h5⟩ := (mayDs_zero ds).1 h
  have e : encDs ds ++ rest = enc (ds.length : Int) ++ (dfsE ds ++ rest) := by rw [encDs, List.append_assoc]
  obtain ⟨h1, h2, h3⟩ := num_enc (ds.length : Int) (by omega) (dfsE ds ++ rest) false
  have h0 : lenV (enc (ds.length : Int) ++ (dfsE ds ++ rest)) ≠ 0 := (numB_le h3).2
  unfold parDs
  rw [e, listP_in h0 (by rw [h1]; omega), h1, h2, Int.toNat_natCast, many_dfsE ds h5]
  simp only [Option.map_some]
  rw [List.take_of_length_le (by omega)]
/-- Projections are taken just if they are parsed, may be, and are laid down as these bytes. -/
theorem takeDs_parDs (l : List UInt8) : takeDs l = match parDs l with
    | none => none
    | some (ds, _) => if mayDs ds = 0 ∧ encDs ds = l then some ds else none := by
  cases hp : parDs l with
  | none =>
    simp only
    refine takeDs_none fun ds h0 e => ?_
    have h1 := parDs_encDs h0 []
    rw [List.append_nil, e, hp] at h1
    cases h1
  | some p =>
    obtain ⟨ds, l'⟩ := p
    simp only
    split
    · next h => exact (takeDs_iff l ds).2 h
    · next h =>
      refine takeDs_none fun es h0 e => ?_
      have h1 := parDs_encDs h0 []
      rw [List.append_nil, e, hp] at h1
      simp only [Option.some.injEq, Prod.mk.injEq] at h1
      rw [h1.1] at h
      exact h ⟨h0, e⟩

end Go.Proofs.Ytjgddlnfjmdnnaa.QeWalk

/-
  Contracts of layer 7: takeText; takeList, of texts.
-/
namespace Go.Proofs.Ytjgddlnfjmdnnaa.QeWalk
open Go.RowKit Go.Proofs.Ytjgddlnfjmdnnaa.MemRow Go.Proofs.Ytjgddlnfjmdnnaa.Ev Go.Proofs.Ytjgddlnfjmdnnaa.NameMath Go.Proofs.Ytjgddlnfjmdnnaa.NameWalk Go.Proofs.Ytjgddlnfjmdnnaa.EvWalk Go.Proofs.Ytjgddlnfjmdnnaa.NumMath Go.Proofs.Ytjgddlnfjmdnnaa.NumMem Go.Proofs.Ytjgddlnfjmdnnaa.NumWalk Go.Proofs.Ytjgddlnfjmdnnaa.Qu Go.Proofs.Ytjgddlnfjmdnnaa.QuWalk Go.Proofs.Ytjgddlnfjmdnnaa.QlLaw Go.Proofs.Ytjgddlnfjmdnnaa.QcWalk

/-- What the next text comes to. -/
def TextOut (l : List UInt8) (g : Nat) (w : World) (e : Ending) (w' : World) : Prop :=
  w.grownBy w' (some g) ∧ ((∃ s l', Hid (parS l = some (s, l')) ∧ e = .returned (.tuple #[.string s, .bool true]) ∧ Rdr w' 72 g l' false) ∨
    (∃ s l' b', Hid (parS l = none) ∧ e = .returned (.tuple #[.string s, .bool false]) ∧ Rdr w' 72 g l' b'))

set_option maxHeartbeats 2000000 in
set_option maxRecDepth 100000 in
theorem takeX_any (g : Nat) (l : List UInt8) (w : World) (h : Rdr w 72 g l false) :
    Calls Try.prog 84 #[.pointer (some ⟨g, 0, none⟩)] w (TextOut l g w) := by
  go_enter Try.func84, Try.ntmps84
  go_wp2_with fail
  refine (text_any g l false w h).mono ?_
  rintro e w1 ⟨rfl, r1, g1⟩
  have htx : (⟨(textV l).toArray⟩ : ByteArray) = tx l := rfl
  rw [htx]
  have hp : parS l = if textB l false = true then none else some (tx l, textL l) := rfl
  generalize tx l = s at *
  generalize textL l = l1 at *
  generalize textB l false = b1 at *
  clear htx h
  cases b1 with
  | true =>
    have HP := Go.Lib.hid (hp.trans (if_pos rfl))
    clear hp
    go_wp2_with fail
    refine (bad_any g _ _ w1 r1).mono ?_
    rintro e w' ⟨rfl, rfl⟩
    go_wp2_with fail
    go_ret2
    exact ⟨g1, .inr ⟨_, _, _, HP, rfl, r1⟩⟩
  | false =>
    have HP := Go.Lib.hid (hp.trans (if_neg (by simp)))
    clear hp
    go_wp2_with fail
    refine (bad_any g _ _ w1 r1).mono ?_
    rintro e w' ⟨rfl, rfl⟩
    go_wp2_with fail
    go_ret2
    exact ⟨g1, .inl ⟨_, _, HP, rfl, r1⟩⟩

/-- What a list comes to: its items, in a slice of the call's own; or nothing. -/
def ListOut {α : Type} (O : World → Nat → Option Addr → Nat → Nat → List α → Prop) (p : Option (List α × List UInt8)) (g : Nat) (w : World) (e : Ending) (w' : World) : Prop :=
  w.grownBy w' (some g) ∧ ((∃ xs l', Hid (p = some (xs, l')) ∧ ∃ A m c, e = .returned (.tuple #[.slice A m c, .bool true]) ∧ O w' w.heap.size A m c xs ∧ Rdr w' 72 g l' false) ∨
    (Hid (p = none) ∧ e = .returned (.tuple #[.slice none 0 0, .bool false]) ∧ ∃ l' b', Rdr w' 72 g l' b'))

/-- What stands while a list is taken: j items were, ts are kept. -/
theorem many_go {α : Type} {P : List UInt8 → Option (α × List UInt8)} {K j : Nat} {L l' l'' : List UInt8} {ts : List α} {x : α} (hj : j < K) (hq : many P K L = (many P (K - j) l').map fun p => (ts ++ p.1, p.2)) (hx : P l' = some (x, l'')) :
    many P K L = (many P (K - (j + 1)) l'').map fun p => ((ts ++ [x]) ++ p.1, p.2) := by
  have e : K - j = K - (j + 1) + 1 := by omega
  rw [hq, e, many_some hx]
  simp [Option.map_map, Function.comp_def]
theorem many_stop {α : Type} {P : List UInt8 → Option (α × List UInt8)} {K j : Nat} {L l' : List UInt8} {ts : List α} (hj : j < K) (hq : many P K L = (many P (K - j) l').map fun p => (ts ++ p.1, p.2)) (hx : P l' = none) : many P K L = none := by
  have e : K - j = K - (j + 1) + 1 := by omega
  rw [hq, e, many_none hx]
  rfl
theorem many_end {α : Type} {P : List UInt8 → Option (α × List UInt8)} {K : Nat} {L l' : List UInt8} {ts : List α} (hq : many P K L = (many P (K - K) l').map fun p => (ts ++ p.1, p.2)) : many P K L = some (ts, l') := by
  rw [hq, many_zero (Nat.sub_self _)]
  simp
theorem take_snoc5 {α : Type} {ts : List α} {x : α} {j : Nat} (hl : ts.length = j) (h : j ≤ 4) : ts.take 5 = ts ∧ (ts ++ [x]).take 5 = ts ++ [x] :=
  ⟨List.take_of_length_le (by omega), List.take_of_length_le (by rw [List.length_append]; simp; omega)⟩
theorem take_keep5 {α : Type} {ts : List α} {x : α} {j : Nat} (hl : ts.length = j) (h : 5 ≤ j) : (ts ++ [x]).take 5 = ts.take 5 := List.take_append_of_le_length (by omega)

set_option maxHeartbeats 4000000 in
set_option maxRecDepth 100000 in
theorem listS7_any (g : Nat) (l : List UInt8) (b : Bool) (w : World) (h : Rdr w 72 g l b) (hd : Dry l b) :
    Calls Try.prog 83 #[.pointer (some ⟨g, 0, none⟩), .int .i64 4, .func (.func 84) #[] #[]] w (ListOut (fun w' base A m c ts => OwnC 1 w' base 9 A m c (strs ts)) (parT l) g w) := by
  have gw := h.lt
  have hb := hd.numB
  have hrange := numV_range l
  have hpt : parT l = if lenV l = 0 ∨ numV l < 0 then none else (many parS (numV l).toNat (numL l)).map fun p => (p.1.take 5, p.2) := rfl
  have hv0 : lenV l = 0 → numV l = 0 := numV_none
  have HB := Go.Lib.hid hb
  have HPT := Go.Lib.hid hpt
  have HV0 := Go.Lib.hid hv0
  clear hb hpt hv0
  generalize parT l = R at *
  generalize hn : numV l = n at *
  generalize hl0 : numL l = L at *
  generalize hb0 : numB l b = b0 at *
  obtain ⟨K, hK⟩ : ∃ K, K = n.toNat := ⟨_, rfl⟩
  rw [← hK] at HPT
  have HK := Go.Lib.hid hK
  have HN := Go.Lib.hid hn
  have HL := Go.Lib.hid hl0
  have HB0 := Go.Lib.hid hb0
  clear hK hn hl0 hb0
  go_enter Try.func83, Try.ntmps83
  go_wp2_with fail
  refine (num_any g l b w h).mono ?_
  rintro e w1 ⟨rfl, r1, g1⟩
  clear h
  rw [HN.out]
  rw [HL.out, HB0.out] at r1
  go_wp2_with fail
  go_loopw [8, 10, 11, 15] (fun lv _ _ i wr => ∃ (j : Nat) (A : Option Addr) (m cap : Nat) (ts : List ByteArray) (l' : List UInt8), j ≤ K ∧ i = .int .i64 j ∧ lv = .slice A m cap ∧ Hid (many parS K L = (many parS (K - j) l').map (fun p => (ts ++ p.1, p.2)) ∧ ts.length = j) ∧ Hid (m = min j 5 ∧ (j = 0 → A = none ∧ cap = 0)) ∧ OwnC 1 wr w.heap.size 9 A m cap (strs (ts.take 5)) ∧ Rdr wr 72 g l' b0 ∧ w.grownBy wr (some g)) (fun _ _ _ i _ => K - (intOf i).toNat)
  case atStart => exact ⟨0, none, 0, 0, [], L, Nat.zero_le _, rfl, rfl, Go.Lib.hid ⟨by simp, rfl⟩, Go.Lib.hid ⟨rfl, fun _ => ⟨rfl, rfl⟩⟩, OwnC.nil _ _, r1, g1⟩
  case round =>
    obtain ⟨j, A, m, cap, ts, l', hj, rfl, rfl, HQ, HM, ow, rd, gr⟩ := hrel
    clear r1 g1
    by_cases hlt : (j : Int) < n
    · have hjK : j < K := by have := HK.out; omega
      have h0 : lenV l ≠ 0 := fun h => by have := HV0.out h; omega
      obtain rfl : b0 = false := by rw [HB.out, decide_eq_false h0]
      have HR := Go.Lib.hid (HPT.out.trans (if_neg (by rintro (h | h) <;> omega)))
      clear h0
      go_wp2_with fail
      refine (takeX_any g l' wr rd).mono ?_
      rintro e v1 ⟨hg, ht⟩
      have ow1 := own_off ow hg gw
      have gr1 := gr_step' gr hg
      clear ow rd gr hg
      rcases ht with ⟨s, l'', HP, rfl, hr⟩ | ⟨s, l'', b'', HP, rfl, hr⟩
      · have hgo := many_go hjK HQ.out.1 HP.out
        have HGO := Go.Lib.hid hgo
        have hlen := HQ.out.2
        have HLEN := Go.Lib.hid hlen
        clear hgo hlen HQ HP
        by_cases h6 : j ≤ 4
        · obtain rfl : m = j := by have := HM.out.1; omega
          have i1 : (m : Int) ≤ 4 := by omega
          obtain ⟨htk, htk2⟩ := take_snoc5 (x := s) HLEN.out h6
          rw [htk] at ow1
          have HTK2 := Go.Lib.hid htk2
          have al : Below v1.heap.size v1 (v1.alloc (.cells #[.string s] 9)) := (Below.refl _ _).alloc (Nat.le_refl _) _
          have d1 : RdC 1 (v1.alloc (.cells #[.string s] 9)) (some ⟨v1.heap.size, 0, none⟩) 1 1 (strs [s]) := RdC.new v1 9 (strs [s]) rfl (by decide)
          have ow2 := OwnC.below ow1 al
          have big : w.heap.size ≤ (v1.alloc (.cells #[.string s] 9)).heap.size := Nat.le_trans gr1.size al.size
          have h63 : m + 1 ≤ maxLen := by unfold maxLen; omega
          have hsz : (m + 1) * 16 ≤ 140737488355328 := by omega
          have rd2 := hr.below al
          have gr2 := gr_below gr1 al
          clear htk htk2 al ow1
          go_wp2_with (at_builtin; refine wpList_append_cells rfl (.tmp 29) (.tmp 31) 58 rfl 9 (.string ByteArray.empty) 16 Try.underlying58 string_info rfl (by decide) rfl rfl ow2 d1 (strs_one [s]) h63 hsz big ?_; intro T8 c8 w8 o8 g8 _)
          go_roundw
          case rel =>
            have low := fun r e => row_low ow2 (r := r) e
            refine ⟨m + 1, T8, m + 1, c8, ts ++ [s], l'', by omega, by go_num, rfl, Go.Lib.hid ⟨HGO.out, by rw [List.length_append, HLEN.out]; rfl⟩, Go.Lib.hid ⟨by omega, fun h => absurd h (by omega)⟩, ?_, rdr_apart rd2 g8 (fun r e => by have := low r e; omega), gr_step gr2 g8 (fun r e => low r e)⟩
            rw [HTK2.out, strs_append]
            exact o8
          case measure => simp [intOf]; omega
        · obtain rfl : m = 5 := by have := HM.out.1; omega
          have i1 : ¬ (5 : Int) ≤ 4 := by omega
          have htk := take_keep5 (x := s) HLEN.out (by omega)
          have HTK := Go.Lib.hid htk
          clear htk
          go_wp2_with fail
          go_roundw
          case rel =>
            refine ⟨j + 1, A, 5, cap, ts ++ [s], l'', by omega, by go_num, rfl, Go.Lib.hid ⟨HGO.out, by rw [List.length_append, HLEN.out]; rfl⟩, Go.Lib.hid ⟨by omega, fun h => absurd h (by omega)⟩, ?_, hr, gr1⟩
            rw [HTK.out]
            exact ow1
          case measure => simp [intOf]; omega
      · have hno : R = none := by rw [HR.out, many_stop hjK HQ.out.1 HP.out]; rfl
        have HNO := Go.Lib.hid hno
        clear hno HQ HP HR
        go_wp2_with fail
        go_ret2
        exact ⟨gr1, .inr ⟨HNO, rfl, _, _, hr⟩⟩
    · obtain rfl : K = j := by have := HK.out; omega
      have hend := many_end HQ.out.1
      have HEND := Go.Lib.hid hend
      clear hend HQ
      by_cases hn0 : 0 ≤ n
      · cases b0 with
        | true =>
          have h0 : lenV l = 0 := of_decide_eq_true HB.out.symm
          have hno : R = none := by rw [HPT.out, if_pos (.inl h0)]
          have hK0 : K = 0 := by have := HV0.out h0; have := HK.out; omega
          subst hK0
          obtain ⟨rfl, rfl⟩ := HM.out.2 rfl
          obtain rfl : m = 0 := HM.out.1
          have HNO := Go.Lib.hid hno
          clear hno h0
          go_wp2_with fail
          refine (bad_any g _ _ wr rd).mono ?_
          rintro e w' ⟨rfl, rfl⟩
          go_wp2_with fail
          go_ret2
          exact ⟨gr, .inr ⟨HNO, rfl, _, _, rd⟩⟩
        | false =>
          have h0 : lenV l ≠ 0 := of_decide_eq_false HB.out.symm
          have hyes : R = some (ts.take 5, l') := by
            rw [HPT.out, if_neg (by rintro (h | h) <;> omega), HEND.out]
            rfl
          have HYES := Go.Lib.hid hyes
          clear hyes h0
          go_wp2_with fail
          refine (bad_any g _ _ wr rd).mono ?_
          rintro e w' ⟨rfl, rfl⟩
          go_wp2_with fail
          go_ret2
          exact ⟨gr, .inl ⟨_, _, HYES, _, _, _, rfl, ow, rd⟩⟩
      · have hno : R = none := by rw [HPT.out, if_pos (.inr (by omega))]
        have HNO := Go.Lib.hid hno
        have hK0 : K = 0 := by have := HK.out; omega
        subst hK0
        obtain ⟨rfl, rfl⟩ := HM.out.2 rfl
        obtain rfl : m = 0 := HM.out.1
        clear hno
        go_wp2_with fail
        go_ret2
        exact ⟨gr, .inr ⟨HNO, rfl, _, _, rd⟩⟩

end Go.Proofs.Ytjgddlnfjmdnnaa.QeWalk

/-
  Contracts of layer 7: takeClause; takeList, of clauses; takeQuery.
-/
namespace Go.Proofs.Ytjgddlnfjmdnnaa.QeWalk
open Go.RowKit Go.Proofs.Ytjgddlnfjmdnnaa.MemRow Go.Proofs.Ytjgddlnfjmdnnaa.Ev Go.Proofs.Ytjgddlnfjmdnnaa.NameMath Go.Proofs.Ytjgddlnfjmdnnaa.NameWalk Go.Proofs.Ytjgddlnfjmdnnaa.EvWalk Go.Proofs.Ytjgddlnfjmdnnaa.NumMath Go.Proofs.Ytjgddlnfjmdnnaa.NumMem Go.Proofs.Ytjgddlnfjmdnnaa.NumWalk Go.Proofs.Ytjgddlnfjmdnnaa.Qu Go.Proofs.Ytjgddlnfjmdnnaa.QuWalk Go.Proofs.Ytjgddlnfjmdnnaa.QlLaw Go.Proofs.Ytjgddlnfjmdnnaa.QcWalk

/-- The result's cells are written: a clause, a query. -/
theorem cl_fin {w w3 : World} {g : Nat} {l : List UInt8} {b : Bool} {v0 v1 : Value} (c : ClAt w3 w.heap.size v0 v1) (rd : Rdr w3 72 g l b) (gr : w.grownBy w3 (some g)) (gw : g < w.heap.size) (x0 x1 : Value) :
    ClAt ((w3.setCell ⟨w.heap.size, 0, none⟩ x0).setCell ⟨w.heap.size, 1, none⟩ x1) w.heap.size x0 x1 ∧ Rdr ((w3.setCell ⟨w.heap.size, 0, none⟩ x0).setCell ⟨w.heap.size, 1, none⟩ x1) 72 g l b ∧ w.grownBy ((w3.setCell ⟨w.heap.size, 0, none⟩ x0).setCell ⟨w.heap.size, 1, none⟩ x1) (some g) ∧ w3.grownBy ((w3.setCell ⟨w.heap.size, 0, none⟩ x0).setCell ⟨w.heap.size, 1, none⟩ x1) (some w.heap.size) := by
  have s0 := grownSet w3 w.heap.size 0 x0
  have s1 := grownSet (w3.setCell ⟨w.heap.size, 0, none⟩ x0) w.heap.size 1 x1
  exact ⟨(c.set0 x0).set1 x1, rdr_apart (rdr_apart rd s0 (fun r e => by injection e; omega)) s1 (fun r e => by injection e; omega), gr_step (gr_step gr s0 (fun r e => by injection e; omega)) s1 (fun r e => by injection e; omega), gr_step' s0 s1⟩
theorem q_fin {w w3 : World} {g : Nat} {l : List UInt8} {b : Bool} {v0 : Value} (c : QAt w3 w.heap.size v0) (rd : Rdr w3 72 g l b) (gr : w.grownBy w3 (some g)) (gw : g < w.heap.size) (x0 : Value) :
    QAt (w3.setCell ⟨w.heap.size, 0, none⟩ x0) w.heap.size x0 ∧ Rdr (w3.setCell ⟨w.heap.size, 0, none⟩ x0) 72 g l b ∧ w.grownBy (w3.setCell ⟨w.heap.size, 0, none⟩ x0) (some g) ∧ w3.grownBy (w3.setCell ⟨w.heap.size, 0, none⟩ x0) (some w.heap.size) := by
  have s0 := grownSet w3 w.heap.size 0 x0
  exact ⟨c.set x0, rdr_apart rd s0 (fun r e => by injection e; omega), gr_step gr s0 (fun r e => by injection e; omega), s0⟩

/-- What the next clause comes to. -/
def ClOut (l : List UInt8) (g : Nat) (w : World) (e : Ending) (w' : World) : Prop :=
  w.grownBy w' (some g) ∧ ∃ (ok : Bool) (T : Option Addr) (nT cT : Nat) (Y : Option Addr) (nY cY : Nat) (l' : List UInt8) (b' : Bool), e = .returned (.tuple #[.agg #[.slice T nT cT, .slice Y nY cY], .bool ok]) ∧ Rdr w' 72 g l' b' ∧
    (ok = true → b' = false ∧ ∃ c, Hid (parC l = some (c, l')) ∧ OwnC 1 w' w.heap.size 9 T nT cT (strs c.tags) ∧ OwnC 1 w' w.heap.size 9 Y nY cY (strs c.types)) ∧ (ok = false → Hid (parC l = none))

set_option maxHeartbeats 4000000 in
set_option maxRecDepth 100000 in
theorem takeC_any (g : Nat) (l : List UInt8) (w : World) (h : Rdr w 72 g l false) :
    Calls Try.prog 64 #[.pointer (some ⟨g, 0, none⟩)] w (ClOut l g w) := by
  have gw := h.lt
  have c1 := ClAt.new w (.slice none 0 0) (.slice none 0 0)
  have b1 : Below w.heap.size w (w.alloc (.cells #[.slice none 0 0, .slice none 0 0] 60)) := (Below.refl _ _).alloc (Nat.le_refl _) _
  have s1 : (w.alloc (.cells #[.slice none 0 0, .slice none 0 0] 60)).heap.size = w.heap.size + 1 := by simp
  have h1 := h.below b1
  have g1 := gr_below (gr_refl w g) b1
  clear h b1
  go_enter Try.func64, Try.ntmps64
  go_upto_region 1 with (fail)
  generalize w.alloc (.cells #[.slice none 0 0, .slice none 0 0] 60) = w1 at *
  go_wp2_with fail
  refine (listS7_any g l false w1 h1 (Dry.good l)).mono ?_
  rintro e w2 ⟨g2, ht⟩
  have c2 := c1.grown g2 (by simp; omega)
  have gr2 := gr_step' g1 g2
  have sz2 := g2.size
  clear c1 g1 h1 g2
  rcases ht with ⟨a, l1, H1, T, nT, cT, rfl, oT, r2⟩ | ⟨H1, rfl, l1, b', r2⟩
  · go_upto_region 4 with (fail)
    go_wp2_with fail
    refine (listS7_any g l1 false w2 r2 (Dry.good l1)).mono ?_
    rintro e w3 ⟨g3, ht⟩
    have c3 := c2.grown g3 (by simp; omega)
    have gr3 := gr_step' gr2 g3
    have oT3 := own_off oT g3 (by omega)
    clear c2 gr2 oT r2 g3
    have r0 := c3.c0
    have r1 := c3.c1
    have z0 := c3.frozen 0
    have z1 := c3.frozen 1
    rcases ht with ⟨b, l2, H2, Y, nY, cY, rfl, oY, r3⟩ | ⟨H2, rfl, l2, b', r3⟩
    · have HP := Go.Lib.hid (parC_of H1.out H2.out)
      have HFIN := Go.Lib.hid (cl_fin c3 r3 gr3 gw (.slice T nT cT) (.slice Y nY cY))
      clear c3 r3 gr3 H1 H2
      go_wp2_with fail
      obtain ⟨E9, R9, G9, S9⟩ := HFIN.out
      have p1 := own_lower (own_off oT3 S9 (by omega)) (base' := w.heap.size) (by omega)
      have p2 := own_lower (own_off oY S9 (by omega)) (base' := w.heap.size) (by omega)
      generalize (w3.setCell ⟨w.heap.size, 0, none⟩ (.slice T nT cT)).setCell ⟨w.heap.size, 1, none⟩ (.slice Y nY cY) = w9 at *
      have q0 := E9.c0
      have q1 := E9.c1
      exact bodyPost_ret (v := .tuple #[.agg #[.slice T nT cT, .slice Y nY cY], .bool true]) (by simp [results, Try.results64, go_sem, q0, q1]) rfl ⟨G9, true, _, _, _, _, _, _, _, _, rfl, R9, fun _ => ⟨rfl, _, HP, p1, p2⟩, fun h => by cases h⟩
    · have HP := Go.Lib.hid (parC_no2 H1.out H2.out)
      have HFIN := Go.Lib.hid (cl_fin c3 r3 gr3 gw (.slice T nT cT) (.slice none 0 0))
      clear c3 r3 gr3 H1 H2 oT3
      go_wp2_with fail
      obtain ⟨E9, R9, G9, S9⟩ := HFIN.out
      generalize (w3.setCell ⟨w.heap.size, 0, none⟩ (.slice T nT cT)).setCell ⟨w.heap.size, 1, none⟩ (.slice none 0 0) = w9 at *
      have q0 := E9.c0
      have q1 := E9.c1
      exact bodyPost_ret (v := .tuple #[.agg #[.slice T nT cT, .slice none 0 0], .bool false]) (by simp [results, Try.results64, go_sem, q0, q1]) rfl ⟨G9, false, _, _, _, _, _, _, _, _, rfl, R9, (fun h => by cases h), fun _ => HP⟩
  · have HP := Go.Lib.hid (parC_no1 H1.out)
    have r0 := c2.c0
    have r1 := c2.c1
    have z0 := c2.frozen 0
    have z1 := c2.frozen 1
    have HFIN := Go.Lib.hid (cl_fin c2 r2 gr2 gw (.slice none 0 0) (.slice none 0 0))
    clear c2 r2 gr2 H1
    go_wp2_with fail
    obtain ⟨E9, R9, G9, S9⟩ := HFIN.out
    generalize (w2.setCell ⟨w.heap.size, 0, none⟩ (.slice none 0 0)).setCell ⟨w.heap.size, 1, none⟩ (.slice none 0 0) = w9 at *
    have q0 := E9.c0
    have q1 := E9.c1
    exact bodyPost_ret (v := .tuple #[.agg #[.slice none 0 0, .slice none 0 0], .bool false]) (by simp [results, Try.results64, go_sem, q0, q1]) rfl ⟨G9, false, _, _, _, _, _, _, _, _, rfl, R9, (fun h => by cases h), fun _ => HP⟩

set_option maxHeartbeats 4000000 in
set_option maxRecDepth 100000 in
theorem listC7_any (g : Nat) (l : List UInt8) (b : Bool) (w : World) (h : Rdr w 72 g l b) (hd : Dry l b) :
    Calls Try.prog 63 #[.pointer (some ⟨g, 0, none⟩), .int .i64 4, .func (.func 64) #[] #[]] w (ListOut (fun w' base A m c q => OwnK w' base A m c q) (parQ l) g w) := by
  have gw := h.lt
  have hb := hd.numB
  have hrange := numV_range l
  have hpt : parQ l = if lenV l = 0 ∨ numV l < 0 then none else (many parC (numV l).toNat (numL l)).map fun p => (p.1.take 5, p.2) := rfl
  have hv0 : lenV l = 0 → numV l = 0 := numV_none
  have HB := Go.Lib.hid hb
  have HPT := Go.Lib.hid hpt
  have HV0 := Go.Lib.hid hv0
  clear hb hpt hv0
  generalize parQ l = R at *
  generalize hn : numV l = n at *
  generalize hl0 : numL l = L at *
  generalize hb0 : numB l b = b0 at *
  obtain ⟨K, hK⟩ : ∃ K, K = n.toNat := ⟨_, rfl⟩
  rw [← hK] at HPT
  have HK := Go.Lib.hid hK
  have HN := Go.Lib.hid hn
  have HL := Go.Lib.hid hl0
  have HB0 := Go.Lib.hid hb0
  clear hK hn hl0 hb0
  go_enter Try.func63, Try.ntmps63
  go_wp2_with fail
  refine (num_any g l b w h).mono ?_
  rintro e w1 ⟨rfl, r1, g1⟩
  clear h
  rw [HN.out]
  rw [HL.out, HB0.out] at r1
  go_wp2_with fail
  go_loopw [8, 10, 11, 15] (fun lv _ _ i wr => ∃ (j : Nat) (A : Option Addr) (m cap : Nat) (ts : List Cl) (l' : List UInt8), j ≤ K ∧ i = .int .i64 j ∧ lv = .slice A m cap ∧ Hid (many parC K L = (many parC (K - j) l').map (fun p => (ts ++ p.1, p.2)) ∧ ts.length = j) ∧ Hid (m = min j 5 ∧ (j = 0 → A = none ∧ cap = 0)) ∧ OwnK wr w.heap.size A m cap (ts.take 5) ∧ Rdr wr 72 g l' b0 ∧ w.grownBy wr (some g)) (fun _ _ _ i _ => K - (intOf i).toNat)
  case atStart => exact ⟨0, none, 0, 0, [], L, Nat.zero_le _, rfl, rfl, Go.Lib.hid ⟨by simp, rfl⟩, Go.Lib.hid ⟨rfl, fun _ => ⟨rfl, rfl⟩⟩, OwnK.nil _ _, r1, g1⟩
  case round =>
    obtain ⟨j, A, m, cap, ts, l', hj, rfl, rfl, HQ, HM, ow, rd, gr⟩ := hrel
    clear r1 g1
    by_cases hlt : (j : Int) < n
    · have hjK : j < K := by have := HK.out; omega
      have h0 : lenV l ≠ 0 := fun h => by have := HV0.out h; omega
      obtain rfl : b0 = false := by rw [HB.out, decide_eq_false h0]
      have HR := Go.Lib.hid (HPT.out.trans (if_neg (by rintro (h | h) <;> omega)))
      clear h0
      have gsz := gr.size
      go_wp2_with fail
      refine (takeC_any g l' wr rd).mono ?_
      rintro e v1 ⟨hg, ok, T, nT, cT, Y, nY, cY, l'', b'', rfl, hr, hyes, hno⟩
      have ow1 := ow.off hg gw
      have gr1 := gr_step' gr hg
      have c2 := ClAt.new v1 (.slice T nT cT) (.slice Y nY cY)
      have al : Below v1.heap.size v1 (v1.alloc (.cells #[.slice T nT cT, .slice Y nY cY] 60)) := (Below.refl _ _).alloc (Nat.le_refl _) _
      have ow2 := ow1.below al
      have gr2 := gr_below gr1 al
      have hr2 := hr.below al
      have HYES := Go.Lib.hid hyes
      have HNO' := Go.Lib.hid hno
      have AL := Go.Lib.hid al
      clear ow rd gr hg ow1 gr1 hr hyes hno al
      go_upto_region 6 with (fail)
      generalize v1.alloc (.cells #[.slice T nT cT, .slice Y nY cY] 60) = v2 at *
      cases ok with
      | true =>
        obtain ⟨rfl, c, HP, oT1, oY1⟩ := HYES.out rfl
        have oT := own_lower (OwnC.below oT1 AL.out) (base' := w.heap.size) gsz
        have oY := own_lower (OwnC.below oY1 AL.out) (base' := w.heap.size) gsz
        have hgo := many_go hjK HQ.out.1 HP.out
        have HGO := Go.Lib.hid hgo
        have hlen := HQ.out.2
        have HLEN := Go.Lib.hid hlen
        clear hgo hlen HQ HP oT1 oY1 HYES HNO' AL
        by_cases h6 : j ≤ 4
        · obtain rfl : m = j := by have := HM.out.1; omega
          have i1 : (m : Int) ≤ 4 := by omega
          obtain ⟨htk, htk2⟩ := take_snoc5 (x := c) HLEN.out h6
          rw [htk] at ow2
          have HTK2 := Go.Lib.hid htk2
          have k0 := c2.c0
          have k1 := c2.c1
          have al : Below v2.heap.size v2 (v2.alloc (.cells #[.slice T nT cT, .slice Y nY cY] 60)) := (Below.refl _ _).alloc (Nat.le_refl _) _
          have d1 : RdC 2 (v2.alloc (.cells #[.slice T nT cT, .slice Y nY cY] 60)) (some ⟨v2.heap.size, 0, none⟩) 1 1 [.slice T nT cT, .slice Y nY cY] := RdC.new v2 60 [.slice T nT cT, .slice Y nY cY] rfl (by decide)
          obtain ⟨cs, oc, hl, hcs⟩ := ow2.below al
          have oT8 := OwnC.below oT al
          have oY8 := OwnC.below oY al
          have big : w.heap.size ≤ (v2.alloc (.cells #[.slice T nT cT, .slice Y nY cY] 60)).heap.size := Nat.le_trans gr2.size al.size
          have h63 : m + 1 ≤ maxLen := by unfold maxLen; omega
          have hsz : (m + 1) * 48 ≤ 140737488355328 := by omega
          have rd2 := hr2.below al
          have gr3 := gr_below gr2 al
          clear htk htk2 al ow2 oT oY
          go_wp2_with (at_builtin; refine wpList_append_cells rfl (.tmp 29) (.tmp 31) 23 rfl 60 (.agg #[.slice none 0 0, .slice none 0 0]) 48 Try.underlying23 clause_info rfl (by decide) rfl rfl oc d1 (cl_one _ _ _ _ _ _) h63 hsz big ?_; intro T8 c8 w8 o8 g8 _)
          go_roundw
          case rel =>
            have low := fun r e => row_low oc (r := r) e
            refine ⟨m + 1, T8, m + 1, c8, ts ++ [c], l'', by omega, by go_num, rfl, Go.Lib.hid ⟨HGO.out, by rw [List.length_append, HLEN.out]; rfl⟩, Go.Lib.hid ⟨by omega, fun h => absurd h (by omega)⟩, ?_, rdr_apart rd2 g8 (fun r e => by have := low r e; omega), gr_step gr3 g8 (fun r e => low r e)⟩
            rw [HTK2.out]
            exact OwnK.more oc hl hcs oT8 oY8 o8 g8
          case measure => simp [intOf]; omega
        · obtain rfl : m = 5 := by have := HM.out.1; omega
          have i1 : ¬ (5 : Int) ≤ 4 := by omega
          have htk := take_keep5 (x := c) HLEN.out (by omega)
          have HTK := Go.Lib.hid htk
          clear htk
          go_wp2_with fail
          go_roundw
          case rel =>
            refine ⟨j + 1, A, 5, cap, ts ++ [c], l'', by omega, by go_num, rfl, Go.Lib.hid ⟨HGO.out, by rw [List.length_append, HLEN.out]; rfl⟩, Go.Lib.hid ⟨by omega, fun h => absurd h (by omega)⟩, ?_, hr2, gr2⟩
            rw [HTK.out]
            exact ow2
          case measure => simp [intOf]; omega
      | false =>
        have hnone : R = none := by rw [HR.out, many_stop hjK HQ.out.1 (HNO'.out rfl).out]; rfl
        have HNO := Go.Lib.hid hnone
        clear hnone HQ HNO' HYES HR
        go_wp2_with fail
        go_ret2
        exact ⟨gr2, .inr ⟨HNO, rfl, _, _, hr2⟩⟩
    · obtain rfl : K = j := by have := HK.out; omega
      have hend := many_end HQ.out.1
      have HEND := Go.Lib.hid hend
      clear hend HQ
      by_cases hn0 : 0 ≤ n
      · cases b0 with
        | true =>
          have h0 : lenV l = 0 := of_decide_eq_true HB.out.symm
          have hno : R = none := by rw [HPT.out, if_pos (.inl h0)]
          have hK0 : K = 0 := by have := HV0.out h0; have := HK.out; omega
          subst hK0
          obtain ⟨rfl, rfl⟩ := HM.out.2 rfl
          obtain rfl : m = 0 := HM.out.1
          have HNO := Go.Lib.hid hno
          clear hno h0
          go_wp2_with fail
          refine (bad_any g _ _ wr rd).mono ?_
          rintro e w' ⟨rfl, rfl⟩
          go_wp2_with fail
          go_ret2
          exact ⟨gr, .inr ⟨HNO, rfl, _, _, rd⟩⟩
        | false =>
          have h0 : lenV l ≠ 0 := of_decide_eq_false HB.out.symm
          have hyes : R = some (ts.take 5, l') := by
            rw [HPT.out, if_neg (by rintro (h | h) <;> omega), HEND.out]
            rfl
          have HYES := Go.Lib.hid hyes
          clear hyes h0
          go_wp2_with fail
          refine (bad_any g _ _ wr rd).mono ?_
          rintro e w' ⟨rfl, rfl⟩
          go_wp2_with fail
          go_ret2
          exact ⟨gr, .inl ⟨_, _, HYES, _, _, _, rfl, ow, rd⟩⟩
      · have hno : R = none := by rw [HPT.out, if_pos (.inr (by omega))]
        have HNO := Go.Lib.hid hno
        have hK0 : K = 0 := by have := HK.out; omega
        subst hK0
        obtain ⟨rfl, rfl⟩ := HM.out.2 rfl
        obtain rfl : m = 0 := HM.out.1
        clear hno
        go_wp2_with fail
        go_ret2
        exact ⟨gr, .inr ⟨HNO, rfl, _, _, rd⟩⟩

/-- What the next query comes to. -/
def QryOut (l : List UInt8) (g : Nat) (w : World) (e : Ending) (w' : World) : Prop :=
  w.grownBy w' (some g) ∧ ((∃ q l', Hid (parQ l = some (q, l')) ∧ ∃ A m c, e = .returned (.tuple #[.agg #[.slice A m c], .bool true]) ∧ OwnK w' w.heap.size A m c q ∧ Rdr w' 72 g l' false) ∨
    (Hid (parQ l = none) ∧ e = .returned (.tuple #[.agg #[.slice none 0 0], .bool false]) ∧ ∃ l' b', Rdr w' 72 g l' b'))

set_option maxHeartbeats 4000000 in
set_option maxRecDepth 100000 in
theorem qry7_any (g : Nat) (l : List UInt8) (b : Bool) (w : World) (h : Rdr w 72 g l b) (hd : Dry l b) :
    Calls Try.prog 38 #[.pointer (some ⟨g, 0, none⟩)] w (QryOut l g w) := by
  have gw := h.lt
  have c1 := QAt.new w (.slice none 0 0)
  have b1 : Below w.heap.size w (w.alloc (.cells #[.slice none 0 0] 25)) := (Below.refl _ _).alloc (Nat.le_refl _) _
  have s1 : (w.alloc (.cells #[.slice none 0 0] 25)).heap.size = w.heap.size + 1 := by simp
  have h1 := h.below b1
  have g1 := gr_below (gr_refl w g) b1
  clear h b1
  go_enter Try.func38, Try.ntmps38
  go_upto_region 1 with (fail)
  generalize w.alloc (.cells #[.slice none 0 0] 25) = w1 at *
  go_wp2_with fail
  refine (listC7_any g l b w1 h1 hd).mono ?_
  rintro e w2 ⟨g2, ht⟩
  have c2 := c1.grown g2 (by simp; omega)
  have gr2 := gr_step' g1 g2
  have r0 := c2.c0
  have z0 := c2.frozen 0
  clear c1 g1 h1 g2
  rcases ht with ⟨q, l', H1, A, m, c, rfl, oK, r2⟩ | ⟨H1, rfl, l', b', r2⟩
  · have HFIN := Go.Lib.hid (q_fin c2 r2 gr2 gw (.slice A m c))
    clear c2 r2 gr2
    go_wp2_with fail
    obtain ⟨E9, R9, G9, S9⟩ := HFIN.out
    have o9 := (oK.off S9 (by omega)).lower (base' := w.heap.size) (by omega)
    generalize w2.setCell ⟨w.heap.size, 0, none⟩ (.slice A m c) = w9 at *
    have q0 := E9.c0
    exact bodyPost_ret (v := .tuple #[.agg #[.slice A m c], .bool true]) (by simp [results, Try.results38, go_sem, q0]) rfl ⟨G9, .inl ⟨_, _, H1, _, _, _, rfl, o9, R9⟩⟩
  · have HFIN := Go.Lib.hid (q_fin c2 r2 gr2 gw (.slice none 0 0))
    clear c2 r2 gr2
    go_wp2_with fail
    obtain ⟨E9, R9, G9, S9⟩ := HFIN.out
    generalize w2.setCell ⟨w.heap.size, 0, none⟩ (.slice none 0 0) = w9 at *
    have q0 := E9.c0
    exact bodyPost_ret (v := .tuple #[.agg #[.slice none 0 0], .bool false]) (by simp [results, Try.results38, go_sem, q0]) rfl ⟨G9, .inr ⟨H1, rfl, _, _, R9⟩⟩

end Go.Proofs.Ytjgddlnfjmdnnaa.QeWalk

/-
  Contracts of the library's slices functions, over texts and over numbers with a name: Index, Contains, Equal, IndexFunc, ContainsFunc.
-/
namespace Go.Proofs.Ytjgddlnfjmdnnaa.EvWalk
open Go.RowKit Go.Proofs.Ytjgddlnfjmdnnaa.MemRow Go.Proofs.Ytjgddlnfjmdnnaa.Ev Go.Proofs.Ytjgddlnfjmdnnaa.NameMath Go.Proofs.Ytjgddlnfjmdnnaa.NameWalk

theorem any_miss {α : Type} {p : α → Bool} {l : List α} {j : Nat} {d : α} (hj : j < l.length) (h : (l.take j).any p = false) (hp : p (l.getD j d) = false) : (l.take (j + 1)).any p = false := by
  rw [List.take_succ_eq_append_getElem hj, List.any_append, h]
  simp only [List.getD, List.getElem?_eq_getElem hj, Option.getD_some] at hp
  simp [hp]
theorem any_hit {α : Type} {p : α → Bool} {l : List α} {j : Nat} {d : α} (hj : j < l.length) (hp : p (l.getD j d) = true) : l.any p = true := by
  simp only [List.getD, List.getElem?_eq_getElem hj, Option.getD_some] at hp
  rw [List.any_eq_true]
  exact ⟨_, List.getElem_mem hj, hp⟩
theorem dec_ge0 (j : Nat) : decide ((0 : Int) ≤ (j : Int)) = true := decide_eq_true (by omega)

/-- A place of a slice, or -1. -/
def Found (b : Bool) (e : Ending) : Prop := ∃ i : Int, e = .returned (.int .i64 i) ∧ decide (0 ≤ i) = b

/-- A predicate on texts, handed to the library. -/
def PredS (g : Nat) (p : ByteArray → Bool) (ss : List ByteArray) (w : World) : Prop :=
  ∀ W, Below w.heap.size w W → ∀ x ∈ ss, Calls Try.prog g #[.string x] W fun e W' => e = .returned (.bool (p x)) ∧ Below W.heap.size W W'
/-- A predicate on numbers with a name, handed to the library. -/
def PredF (g : Nat) (p : ByteArray × Int → Bool) (fs : List (ByteArray × Int)) (w : World) : Prop :=
  ∀ W, Below w.heap.size w W → ∀ x ∈ fs, Calls Try.prog g #[.agg #[.string x.1, .int .i64 x.2]] W fun e W' => e = .returned (.bool (p x)) ∧ Below W.heap.size W W'



set_option maxHeartbeats 4000000 in
set_option maxRecDepth 100000 in
theorem idxFuncS_any (A : Option Addr) (n ca : Nat) (ss : List ByteArray) (g : Nat) (p : ByteArray → Bool) (w : World) (ha : RdS w A n ca ss) (eg : ∀ args w, (callFunc g args).run Try.prog w = .ok (.enter g args) w) (hp : PredS g p ss w) :
    Calls Try.prog 88 #[.slice A n ca, .func (.func g) #[] #[]] w fun e w' => Found (ss.any p) e ∧ Below w.heap.size w w' := by
  have hn := RdC.le ha
  unfold maxLen at hn
  have la := ha.len
  generalize hR : ss.any p = R
  have HR := Go.Lib.hid hR
  have LA := Go.Lib.hid la
  have HP := Go.Lib.hid hp
  clear hR la hp
  go_enter Try.func88, Try.ntmps88
  go_wp2_with fail
  go_loopw [5, 8] (fun _ i wr => ∃ j : Nat, j ≤ n ∧ i = .int .i64 j ∧ (ss.take j).any p = false ∧ Below w.heap.size w wr) (fun _ i _ => n - (intOf i).toNat)
  case atStart => exact ⟨0, Nat.zero_le _, rfl, rfl, Below.refl _ _⟩
  case round =>
    obtain ⟨j, hj, rfl, hq, hb⟩ := hrel
    have HQ := Go.Lib.hid hq
    clear hq
    have a1 := RdC.below ha hb
    by_cases hlt : j < n
    · obtain ⟨ba, oa, rfl, _, ka⟩ := RdS.at_ a1 (by omega)
      have ka1 := ka j hlt
      have i1 : (j : Int) < n := by omega
      have hjl : j < ss.length := by rw [LA.out]; exact hlt
      have HM := Go.Lib.hid (fun h => any_miss (p := p) (d := ByteArray.empty) hjl HQ.out h)
      have HH := Go.Lib.hid (fun h => any_hit (p := p) (d := ByteArray.empty) hjl h)
      have c := Go.Lib.hid (HP.out wr hb _ (mem_getD ss j hjl))
      clear ka hjl a1
      generalize hy : ss.getD j ByteArray.empty = y at *
      clear hy
      cases hpy : p y with
      | true =>
        have hR : R = true := by rw [← HR.out]; exact HH.out hpy
        subst hR
        rw [hpy] at c
        clear HM HH hpy
        go_wp2_with (refine (c.out).mono ?_; rintro e w1 ⟨rfl, b1⟩)
        go_ret
        exact ⟨⟨j, rfl, dec_ge0 j⟩, below_chain hb b1⟩
      | false =>
        rw [hpy] at c
        have HN := Go.Lib.hid (HM.out hpy)
        clear HM HH hpy
        go_wp2_with (refine (c.out).mono ?_; rintro e w1 ⟨rfl, b1⟩)
        go_roundw
        case rel => exact ⟨j + 1, by omega, by go_num, HN.out, below_chain hb b1⟩
        case measure => simp [intOf]; omega
    · obtain rfl : n = j := by omega
      have hR : R = false := by
        rw [← HR.out]
        have h1 := HQ.out
        rwa [List.take_of_length_le (by rw [LA.out]; exact Nat.le_refl _)] at h1
      subst hR
      go_wp2_with fail
      go_ret
      exact ⟨⟨-1, rfl, by decide⟩, hb⟩

set_option maxHeartbeats 2000000 in
set_option maxRecDepth 100000 in
theorem hasFuncS_any (A : Option Addr) (n ca : Nat) (ss : List ByteArray) (g : Nat) (p : ByteArray → Bool) (w : World) (ha : RdS w A n ca ss) (eg : ∀ args w, (callFunc g args).run Try.prog w = .ok (.enter g args) w) (hp : PredS g p ss w) :
    Calls Try.prog 71 #[.slice A n ca, .func (.func g) #[] #[]] w fun e w' => e = .returned (.bool (ss.any p)) ∧ Below w.heap.size w w' := by
  have c := Go.Lib.hid (idxFuncS_any A n ca ss g p w ha eg hp)
  clear ha eg hp
  generalize ss.any p = R at c ⊢
  go_enter Try.func71, Try.ntmps71
  go_wp2_with (refine (c.out).mono ?_; rintro e w' ⟨⟨i, rfl, rfl⟩, b1⟩)
  go_ret
  exact ⟨rfl, b1⟩

end Go.Proofs.Ytjgddlnfjmdnnaa.EvWalk

/-
  Contracts of the library's IndexFunc, ContainsFunc over texts and over clauses, with a function value that holds what it captured.
-/
namespace Go.Proofs.Ytjgddlnfjmdnnaa.QuWalk
open Go.RowKit Go.Proofs.Ytjgddlnfjmdnnaa.MemRow Go.Proofs.Ytjgddlnfjmdnnaa.Ev Go.Proofs.Ytjgddlnfjmdnnaa.NameMath Go.Proofs.Ytjgddlnfjmdnnaa.NameWalk Go.Proofs.Ytjgddlnfjmdnnaa.EvWalk Go.Proofs.Ytjgddlnfjmdnnaa.Qu

/-- A function number that the program has. -/
def Runs (g : Nat) : Prop := ∀ args w, (callFunc g args).run Try.prog w = .ok (.enter g args) w

/-- A predicate on texts that holds what it captured, handed to the library. -/
def PredSc (g : Nat) (caps : Array Value) (p : ByteArray → Bool) (ss : List ByteArray) (w : World) : Prop :=
  ∀ W, Below w.heap.size w W → ∀ x ∈ ss, Calls Try.prog g (#[.string x] ++ caps) W fun e W' => e = .returned (.bool (p x)) ∧ Below W.heap.size W W'
/-- A predicate on clauses that holds what it captured, handed to the library. -/
def PredCc (g : Nat) (caps : Array Value) (p : Cl → Bool) (q : List Cl) (w : World) : Prop :=
  ∀ W, Below w.heap.size w W → ∀ v, ∀ c ∈ q, IsCl W v c → Calls Try.prog g (#[v] ++ caps) W fun e W' => e = .returned (.bool (p c)) ∧ Below W.heap.size W W'

theorem anyC_miss {p : Cl → Bool} {l : List Cl} {j : Nat} (hj : j < l.length) (h : (l.take j).any p = false) (hp : p (l.getD j noCl) = false) : (l.take (j + 1)).any p = false := any_miss (d := noCl) hj h hp

set_option maxHeartbeats 4000000 in
set_option maxRecDepth 100000 in
theorem idxFuncSc_any (A : Option Addr) (n ca : Nat) (ss : List ByteArray) (g : Nat) (caps : Array Value) (p : ByteArray → Bool) (w : World) (ha : RdS w A n ca ss) (eg : Runs g) (hp : PredSc g caps p ss w) :
    Calls Try.prog 88 #[.slice A n ca, .func (.func g) #[] caps] w fun e w' => EvWalk.Found (ss.any p) e ∧ Below w.heap.size w w' := by
  unfold Runs at eg
  have hn := RdC.le ha
  unfold maxLen at hn
  have la := ha.len
  generalize hR : ss.any p = R
  have HR := Go.Lib.hid hR
  have LA := Go.Lib.hid la
  have HP := Go.Lib.hid hp
  clear hR la hp
  go_enter Try.func88, Try.ntmps88
  go_wp2_with fail
  go_loopw [5, 8] (fun _ i wr => ∃ j : Nat, j ≤ n ∧ i = .int .i64 j ∧ (ss.take j).any p = false ∧ Below w.heap.size w wr) (fun _ i _ => n - (intOf i).toNat)
  case atStart => exact ⟨0, Nat.zero_le _, rfl, rfl, Below.refl _ _⟩
  case round =>
    obtain ⟨j, hj, rfl, hq, hb⟩ := hrel
    have HQ := Go.Lib.hid hq
    clear hq
    have a1 := RdC.below ha hb
    by_cases hlt : j < n
    · obtain ⟨ba, oa, rfl, _, ka⟩ := RdS.at_ a1 (by omega)
      have ka1 := ka j hlt
      have i1 : (j : Int) < n := by omega
      have hjl : j < ss.length := by rw [LA.out]; exact hlt
      have HM := Go.Lib.hid (fun h => any_miss (p := p) (d := ByteArray.empty) hjl HQ.out h)
      have HH := Go.Lib.hid (fun h => any_hit (p := p) (d := ByteArray.empty) hjl h)
      have c := Go.Lib.hid (HP.out wr hb _ (mem_getD ss j hjl))
      clear ka hjl a1
      generalize hy : ss.getD j ByteArray.empty = y at *
      clear hy
      cases hpy : p y with
      | true =>
        have hR : R = true := by rw [← HR.out]; exact HH.out hpy
        subst hR
        rw [hpy] at c
        clear HM HH hpy
        go_wp2_with (refine (c.out).mono ?_; rintro e w1 ⟨rfl, b1⟩)
        go_ret
        exact ⟨⟨j, rfl, dec_ge0 j⟩, below_chain hb b1⟩
      | false =>
        rw [hpy] at c
        have HN := Go.Lib.hid (HM.out hpy)
        clear HM HH hpy
        go_wp2_with (refine (c.out).mono ?_; rintro e w1 ⟨rfl, b1⟩)
        go_roundw
        case rel => exact ⟨j + 1, by omega, by go_num, HN.out, below_chain hb b1⟩
        case measure => simp [intOf]; omega
    · obtain rfl : n = j := by omega
      have hR : R = false := by
        rw [← HR.out]
        have h1 := HQ.out
        rwa [List.take_of_length_le (by rw [LA.out]; exact Nat.le_refl _)] at h1
      subst hR
      go_wp2_with fail
      go_ret
      exact ⟨⟨-1, rfl, by decide⟩, hb⟩

set_option maxHeartbeats 2000000 in
set_option maxRecDepth 100000 in
theorem hasFuncSc_any (A : Option Addr) (n ca : Nat) (ss : List ByteArray) (g : Nat) (caps : Array Value) (p : ByteArray → Bool) (w : World) (ha : RdS w A n ca ss) (eg : Runs g) (hp : PredSc g caps p ss w) :
    Calls Try.prog 71 #[.slice A n ca, .func (.func g) #[] caps] w fun e w' => e = .returned (.bool (ss.any p)) ∧ Below w.heap.size w w' := by
  have c := Go.Lib.hid (idxFuncSc_any A n ca ss g caps p w ha eg hp)
  clear ha eg hp
  generalize ss.any p = R at c ⊢
  go_enter Try.func71, Try.ntmps71
  go_wp2_with (refine (c.out).mono ?_; rintro e w' ⟨⟨i, rfl, rfl⟩, b1⟩)
  go_ret
  exact ⟨rfl, b1⟩

set_option maxHeartbeats 4000000 in
set_option maxRecDepth 100000 in
theorem idxFuncC_any (A : Option Addr) (n ca : Nat) (q : List Cl) (g : Nat) (caps : Array Value) (p : Cl → Bool) (w : World) (ha : RdQ w A n ca q) (eg : Runs g) (hp : PredCc g caps p q w) :
    Calls Try.prog 69 #[.slice A n ca, .func (.func g) #[] caps] w fun e w' => EvWalk.Found (q.any p) e ∧ Below w.heap.size w w' := by
  unfold Runs at eg
  have hn := ha.le
  unfold maxLen at hn
  have la := ha.len
  generalize hR : q.any p = R
  have HR := Go.Lib.hid hR
  have LA := Go.Lib.hid la
  have HP := Go.Lib.hid hp
  clear hR la hp
  go_enter Try.func69, Try.ntmps69
  go_wp2_with fail
  go_loopw [5, 8] (fun _ i wr => ∃ j : Nat, j ≤ n ∧ i = .int .i64 j ∧ (q.take j).any p = false ∧ Below w.heap.size w wr) (fun _ i _ => n - (intOf i).toNat)
  case atStart => exact ⟨0, Nat.zero_le _, rfl, rfl, Below.refl _ _⟩
  case round =>
    obtain ⟨j, hj, rfl, hq, hb⟩ := hrel
    have HQ := Go.Lib.hid hq
    clear hq
    have a1 := ha.below hb
    by_cases hlt : j < n
    · obtain ⟨ba, oa, rfl, _, ka⟩ := a1.at_ (by omega)
      obtain ⟨T, nT, cT, Y, nY, cY, x0, x1, rT, rY⟩ := ka j hlt
      have i1 : (j : Int) < n := by omega
      have hjl : j < q.length := by rw [LA.out]; exact hlt
      have HM := Go.Lib.hid (fun h => anyC_miss (p := p) hjl HQ.out h)
      have HH := Go.Lib.hid (fun h => any_hit (p := p) (d := noCl) hjl h)
      have c := Go.Lib.hid (HP.out wr hb (.agg #[.slice T nT cT, .slice Y nY cY]) _ (cl_get hjl) ⟨T, nT, cT, Y, nY, cY, rfl, rT, rY⟩)
      clear ka hjl a1 rT rY
      generalize q.getD j noCl = y at *
      cases hpy : p y with
      | true =>
        have hR : R = true := by rw [← HR.out]; exact HH.out hpy
        subst hR
        rw [hpy] at c
        clear HM HH hpy
        go_wp2_with (refine (c.out).mono ?_; rintro e w1 ⟨rfl, b1⟩)
        go_ret
        exact ⟨⟨j, rfl, dec_ge0 j⟩, below_chain hb b1⟩
      | false =>
        rw [hpy] at c
        have HN := Go.Lib.hid (HM.out hpy)
        clear HM HH hpy
        go_wp2_with (refine (c.out).mono ?_; rintro e w1 ⟨rfl, b1⟩)
        go_roundw
        case rel => exact ⟨j + 1, by omega, by go_num, HN.out, below_chain hb b1⟩
        case measure => simp [intOf]; omega
    · obtain rfl : n = j := by omega
      have hR : R = false := by
        rw [← HR.out]
        have h1 := HQ.out
        rwa [List.take_of_length_le (by rw [LA.out]; exact Nat.le_refl _)] at h1
      subst hR
      go_wp2_with fail
      go_ret
      exact ⟨⟨-1, rfl, by decide⟩, hb⟩

set_option maxHeartbeats 2000000 in
set_option maxRecDepth 100000 in
theorem hasFuncC_any (A : Option Addr) (n ca : Nat) (q : List Cl) (g : Nat) (caps : Array Value) (p : Cl → Bool) (w : World) (ha : RdQ w A n ca q) (eg : Runs g) (hp : PredCc g caps p q w) :
    Calls Try.prog 48 #[.slice A n ca, .func (.func g) #[] caps] w fun e w' => e = .returned (.bool (q.any p)) ∧ Below w.heap.size w w' := by
  have c := Go.Lib.hid (idxFuncC_any A n ca q g caps p w ha eg hp)
  clear ha eg hp
  generalize q.any p = R at c ⊢
  go_enter Try.func48, Try.ntmps48
  go_wp2_with (refine (c.out).mono ?_; rintro e w' ⟨⟨i, rfl, rfl⟩, b1⟩)
  go_ret
  exact ⟨rfl, b1⟩

end Go.Proofs.Ytjgddlnfjmdnnaa.QuWalk

/-
  Contract of layer 3: MayTag.
-/
namespace Go.Proofs.Ytjgddlnfjmdnnaa.NameWalk
open Go.RowKit Go.Proofs.Ytjgddlnfjmdnnaa.NameMath

set_option maxRecDepth 100000 in
theorem mayTag_any (s : ByteArray) (w : World) (hs : s.size ≤ 9223372036854775807) :
    Calls Try.prog 52 #[.string s] w fun e w' => e = .returned (.bool (parts s.data.toList).2.2) ∧ Below w.heap.size w w' := by
  have hc := parts_any s w hs
  generalize parts s.data.toList = p at *
  go_enter Try.func52, Try.ntmps52
  go_wp2_with (go_at_call 73; refine hc.mono ?_; rintro e w' ⟨rfl, b1⟩)
  go_ret
  exact ⟨rfl, b1⟩

end Go.Proofs.Ytjgddlnfjmdnnaa.NameWalk

