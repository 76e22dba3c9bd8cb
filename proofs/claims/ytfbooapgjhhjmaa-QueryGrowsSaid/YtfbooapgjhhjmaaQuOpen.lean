/-
  Layer 6's readings: clauses and queries as data; arguments that are ones.
-/
import Derived.Test.YtfbooapgjhhjmaaEvOpen
import Derived.Deep.Slices
import Derived.Lib.SmallJoins
import Derived.ChangeSame
namespace Go.Proofs.Ytfbooapgjhhjmaa.Qu
open Go.RowKit Go.ChangeShapes Go.WideShapes Go.Joins Go.Deep Go.Proofs.Ytfbooapgjhhjmaa.MemRow Go.Proofs.Ytfbooapgjhhjmaa.Ev Go.Proofs.Ytfbooapgjhhjmaa.Open

/-- A clause as data. -/
structure Cl where
  tags : List ByteArray
  types : List ByteArray
def noCl : Cl := ⟨[], []⟩

/-- The two cells at an address read as a clause. -/
def ClCells (w : World) (b o : Nat) (c : Cl) : Prop :=
  ∃ T nT cT Y nY cY, w.cell? ⟨b, o, none⟩ = some (.slice T nT cT) ∧ w.cell? ⟨b, o + 1, none⟩ = some (.slice Y nY cY) ∧ RdS w T nT cT c.tags ∧ RdS w Y nY cY c.types
theorem ClCells.below {w w' : World} {b o : Nat} {c : Cl} (h : ClCells w b o c) (hb : Below w.heap.size w w') : ClCells w' b o c := by
  obtain ⟨T, nT, cT, Y, nY, cY, h0, h1, h2, h3⟩ := h
  exact ⟨T, nT, cT, Y, nY, cY, bcell hb h0, bcell hb h1, RdC.below h2 hb, RdC.below h3 hb⟩

/-- A slice that reads as clauses. -/
def RdQ (w : World) (A : Option Addr) (n cap : Nat) (q : List Cl) : Prop :=
  q.length = n ∧ n ≤ cap ∧ cap ≤ maxLen ∧ (0 < n → ∃ b o, A = some ⟨b, o, none⟩ ∧ b < w.heap.size ∧ ∀ i, i < n → ClCells w b (o + i * 2) (q.getD i noCl))
theorem RdQ.nil (w : World) : RdQ w none 0 0 [] := ⟨rfl, Nat.le_refl _, Nat.zero_le _, fun h => absurd h (by omega)⟩
theorem RdQ.empty (w : World) (A : Option Addr) {cap : Nat} (h : cap ≤ maxLen) : RdQ w A 0 cap [] := ⟨rfl, Nat.zero_le _, h, fun h => absurd h (by omega)⟩
theorem RdQ.len {w : World} {A : Option Addr} {n cap : Nat} {q : List Cl} (h : RdQ w A n cap q) : q.length = n := h.1
theorem RdQ.le {w : World} {A : Option Addr} {n cap : Nat} {q : List Cl} (h : RdQ w A n cap q) : n ≤ maxLen := Nat.le_trans h.2.1 h.2.2.1
theorem RdQ.at_ {w : World} {A : Option Addr} {n cap : Nat} {q : List Cl} (h : RdQ w A n cap q) (hn : 0 < n) : ∃ b o, A = some ⟨b, o, none⟩ ∧ b < w.heap.size ∧ ∀ i, i < n → ClCells w b (o + i * 2) (q.getD i noCl) := h.2.2.2 hn
theorem RdQ.below {w w' : World} {A : Option Addr} {n cap : Nat} {q : List Cl} (h : RdQ w A n cap q) (hb : Below w.heap.size w w') : RdQ w' A n cap q :=
  ⟨h.1, h.2.1, h.2.2.1, fun hn => by
    obtain ⟨b, o, hA, hlt, hc⟩ := h.2.2.2 hn
    exact ⟨b, o, hA, Nat.lt_of_lt_of_le hlt hb.size, fun i hi => (hc i hi).below hb⟩⟩

/-- The value v is the clause c. -/
def IsCl (w : World) (v : Value) (c : Cl) : Prop := ∃ T nT cT Y nY cY, v = .agg #[.slice T nT cT, .slice Y nY cY] ∧ RdS w T nT cT c.tags ∧ RdS w Y nY cY c.types
theorem IsCl.below {w w' : World} {v : Value} {c : Cl} (h : IsCl w v c) (hb : Below w.heap.size w w') : IsCl w' v c := by
  obtain ⟨T, nT, cT, Y, nY, cY, rfl, h1, h2⟩ := h
  exact ⟨T, nT, cT, Y, nY, cY, rfl, RdC.below h1 hb, RdC.below h2 hb⟩
/-- The value v is the query q. -/
def IsQ (w : World) (v : Value) (q : List Cl) : Prop := ∃ A n ca, v = .agg #[.slice A n ca] ∧ RdQ w A n ca q
theorem IsQ.below {w w' : World} {v : Value} {q : List Cl} (h : IsQ w v q) (hb : Below w.heap.size w w') : IsQ w' v q := by
  obtain ⟨A, n, ca, rfl, h1⟩ := h
  exact ⟨A, n, ca, rfl, h1.below hb⟩

/-- All of it is of a size that a machine has. -/
structure ClOk (c : Cl) : Prop where
  tags : ∀ x ∈ c.tags, x.size ≤ maxLen
  types : ∀ x ∈ c.types, x.size ≤ maxLen
def QOk (q : List Cl) : Prop := ∀ c ∈ q, ClOk c

section
variable {H : Type} {enc : TypeId × Value → H} {P : Program} {W : World} {base : Nat} {t e : TypeId} {v : Value} {d : DataW H} {p : List MemPlace}
/-- A struct of one field of one cell, opened. -/
theorem open_agg1 {w : World} {b : Nat} {spare : Nat → Bool} {held : Bool} {r : Reach} {b0 : Nat} {f0 : Field} (hs : P.underlying t = some (.struct #[f0])) (hone : oneCellFields P #[f0] = true) (hC : P.cellsOf t = 1)
    (hv : Value.okWide P w r b0 t v) (h : DataW.Trod enc P w b spare held t v d p) :
    ∃ (v0 : Value) (y0 : DataW H × List MemPlace) (n : Nat), v = .agg #[v0] ∧ DataW.trod enc P w b spare held n f0.type [v0] = some y0 := by
  obtain ⟨cs, rfl, hsz⟩ := okWide_struct hs hv
  have h1 : cs.size = 1 := hsz.trans hC
  obtain ⟨c0, rfl⟩ : ∃ c0, cs = #[c0] := by
    match cs, h1 with
    | ⟨[c0]⟩, _ => exact ⟨c0, rfl⟩
  obtain ⟨fuel, hf⟩ := h
  obtain ⟨y0, n, _, _, h0⟩ := trod_struct1 hs hf
  obtain ⟨o0, k0⟩ := hone_of hone 0 f0 rfl
  exact ⟨c0, y0, n, rfl, by simpa [Value.cells, o0, k0] using h0⟩

/-- A slice of clauses that came in. -/
theorem tr_clauses {f0 f1 : Field} {tS tU : TypeId} {fuel : Nat} {y : DataW H × List MemPlace} (ht : P.underlying t = some (.slice e)) (he : P.underlying e = some (.struct #[f0, f1]))
    (ce : P.cellsOf e = 2) (o0 : f0.offset = 0) (o1 : f1.offset = 1) (c0 : P.cellsOf f0.type = 1) (c1 : P.cellsOf f1.type = 1) (t0 : P.underlying f0.type = some (.slice tS)) (t1 : P.underlying f1.type = some (.slice tU)) (hS : P.underlying tS = some .string) (cS : P.cellsOf tS = 1) (hU : P.underlying tU = some .string) (cU : P.cellsOf tU = 1)
    (h : DataW.trod enc P W 0 (fun _ => true) true fuel t [v] = some y) :
    ∃ A n ca q, v = .slice A n ca ∧ RdQ W A n ca q ∧ QOk q := by
  rcases open_slice_pairs ht he ce o0 o1 c0 c1 h with ⟨hcs, _⟩ | ⟨a, l, c, m, nn, V0, V1, D0, D1, P0, P1, hcs, _, hl, hm, hmm, _, hx⟩
  · simp only [List.cons.injEq, and_true] at hcs
    subst hcs
    exact ⟨none, 0, 0, [], rfl, RdQ.nil W, fun c hc => by simp at hc⟩
  · simp only [List.cons.injEq, and_true] at hcs
    subst hcs
    have hm' : m = c := by simpa using hmm
    subst hm'
    have each : ∀ i, i < m → ∃ f : Cl, ClOk f ∧ ∃ T nT cT Y nY cY, V0 i = .slice T nT cT ∧ V1 i = .slice Y nY cY ∧ RdS W T nT cT f.tags ∧ RdS W Y nY cY f.types := by
      intro i hi
      obtain ⟨_, _, h0, h1⟩ := hx i hi
      obtain ⟨T, nT, cT, ss, e0, r0, w0⟩ := tr_strs t0 hS cS h0
      obtain ⟨Y, nY, cY, us, e1, r1, w1⟩ := tr_strs t1 hU cU h1
      exact ⟨⟨ss, us⟩, ⟨w0, w1⟩, T, nT, cT, Y, nY, cY, e0, e1, r0, r1⟩
    have hex : ∃ F : Nat → Cl, ∀ i, i < m → ClOk (F i) ∧ ∃ T nT cT Y nY cY, V0 i = .slice T nT cT ∧ V1 i = .slice Y nY cY ∧ RdS W T nT cT (F i).tags ∧ RdS W Y nY cY (F i).types :=
      ⟨fun i => if hi : i < m then (each i hi).choose else noCl, fun i hi => by simp only [hi, dif_pos]; exact (each i hi).choose_spec⟩
    obtain ⟨F, hF⟩ := hex
    refine ⟨_, l, m, (List.range l).map F, rfl, ⟨by simp, hl, hm, fun hn => ?_⟩, ?_⟩
    · have hc0 := (hx 0 (by omega)).1
      rw [Nat.zero_mul] at hc0
      have e0 := spot_none hc0
      have hb := World.block_lt_of_cell? W _ hc0
      rw [e0, add_at] at hb
      refine ⟨a.block, a.off, by rw [← e0], hb, fun i hi => ?_⟩
      have hFj : ((List.range l).map F).getD i noCl = F i := by simp [List.getD, hi]
      rw [hFj]
      obtain ⟨_, T, nT, cT, Y, nY, cY, v0, v1, r0, r1⟩ := hF i (by omega)
      obtain ⟨h0, h1, _, _⟩ := hx i (by omega)
      rw [e0, add_at, v0] at h0
      rw [e0, add_at, v1] at h1
      exact ⟨T, nT, cT, Y, nY, cY, h0, h1, r0, r1⟩
    · intro x hxm
      obtain ⟨j, hj, rfl⟩ := List.mem_map.1 hxm
      exact (hF j (by have := List.mem_range.1 hj; omega)).1
end

section
variable {H : Type} {enc : TypeId × Value → H}
set_option maxRecDepth 100000 in
/-- A query that came in. -/
theorem op_query {W : World} {base : Nat} {v : Value} {d : DataW H} {p : List MemPlace} (ho : Value.okWide Try.prog W .any base 24 v) (h : DataW.Trod enc Try.prog W 0 (fun _ => true) true 24 v d p) :
    ∃ q, IsQ W v q ∧ QOk q := by
  obtain ⟨v0, y0, n, rfl, h0⟩ := open_agg1 Try.underlying24 (by kernel_rfl) (by kernel_rfl) ho h
  obtain ⟨A, n, ca, q, rfl, hq, hok⟩ := tr_clauses Try.underlying22 Try.underlying36 (by kernel_rfl) rfl rfl (by kernel_rfl) (by kernel_rfl) Try.underlying30 Try.underlying30 Try.underlying9 (by kernel_rfl) Try.underlying9 (by kernel_rfl) h0
  exact ⟨q, ⟨A, n, ca, rfl, hq⟩, hok⟩
set_option maxRecDepth 100000 in
/-- A clause that came in. -/
theorem op_clause {W : World} {base : Nat} {v : Value} {d : DataW H} {p : List MemPlace} (ho : Value.okWide Try.prog W .any base 36 v) (h : DataW.Trod enc Try.prog W 0 (fun _ => true) true 36 v d p) :
    ∃ c, IsCl W v c ∧ ClOk c := by
  obtain ⟨v0, v1, y0, y1, n, rfl, _, _, h0, h1⟩ := open_agg2 Try.underlying36 (by kernel_rfl) (by kernel_rfl) ho h
  obtain ⟨T, nT, cT, ss, rfl, r0, w0⟩ := tr_strs Try.underlying30 Try.underlying9 (by kernel_rfl) h0
  obtain ⟨Y, nY, cY, us, rfl, r1, w1⟩ := tr_strs Try.underlying30 Try.underlying9 (by kernel_rfl) h1
  exact ⟨⟨ss, us⟩, ⟨T, nT, cT, Y, nY, cY, rfl, r0, r1⟩, w0, w1⟩
end

end Go.Proofs.Ytfbooapgjhhjmaa.Qu
