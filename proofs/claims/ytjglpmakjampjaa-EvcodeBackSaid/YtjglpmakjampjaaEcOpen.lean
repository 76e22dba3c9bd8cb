/-
  Layer 5's readings: slices of events, and an argument that is one.
-/
import Derived.Test.YtjglpmakjampjaaEvOpen
import Derived.Deep.Slices
import Derived.Lib.SmallJoins
namespace Go.Proofs.Ytjglpmakjampjaa.Ev
open Go.RowKit Go.ChangeShapes Go.WideShapes Go.Joins Go.Deep Go.Proofs.Ytjglpmakjampjaa.MemRow Go.Proofs.Ytjglpmakjampjaa.Open

def noEv : Ev := ⟨ByteArray.empty, ByteArray.empty, [], []⟩

/-- The four cells at an address read as an event. -/
def EvCells (w : World) (b o : Nat) (e : Ev) : Prop :=
  ∃ A n ca B m cb, w.cell? ⟨b, o, none⟩ = some (.string e.s) ∧ w.cell? ⟨b, o + 1, none⟩ = some (.string e.t) ∧ w.cell? ⟨b, o + 2, none⟩ = some (.slice A n ca) ∧ w.cell? ⟨b, o + 3, none⟩ = some (.slice B m cb) ∧ RdS w A n ca e.tags ∧ RdF w B m cb e.fs
theorem EvCells.below {w w' : World} {b o : Nat} {e : Ev} (h : EvCells w b o e) (hb : Below w.heap.size w w') : EvCells w' b o e := by
  obtain ⟨A, n, ca, B, m, cb, h0, h1, h2, h3, h4, h5⟩ := h
  exact ⟨A, n, ca, B, m, cb, bcell hb h0, bcell hb h1, bcell hb h2, bcell hb h3, RdC.below h4 hb, RdC.below h5 hb⟩
theorem EvCells.drew {w : World} {b o : Nat} {e : Ev} (h : EvCells w b o e) (k : Nat) : EvCells (w.drewN k) b o e := h

/-- A slice that reads as events. -/
def RdE (w : World) (A : Option Addr) (n cap : Nat) (es : List Ev) : Prop :=
  es.length = n ∧ n ≤ cap ∧ cap ≤ maxLen ∧ (0 < n → ∃ b o, A = some ⟨b, o, none⟩ ∧ b < w.heap.size ∧ ∀ i, i < n → EvCells w b (o + i * 4) (es.getD i noEv))
theorem RdE.nil (w : World) : RdE w none 0 0 [] := ⟨rfl, Nat.le_refl _, Nat.zero_le _, fun h => absurd h (by omega)⟩
theorem RdE.len {w : World} {A : Option Addr} {n cap : Nat} {es : List Ev} (h : RdE w A n cap es) : es.length = n := h.1
theorem RdE.le {w : World} {A : Option Addr} {n cap : Nat} {es : List Ev} (h : RdE w A n cap es) : n ≤ maxLen := Nat.le_trans h.2.1 h.2.2.1
theorem RdE.at_ {w : World} {A : Option Addr} {n cap : Nat} {es : List Ev} (h : RdE w A n cap es) (hn : 0 < n) : ∃ b o, A = some ⟨b, o, none⟩ ∧ b < w.heap.size ∧ ∀ i, i < n → EvCells w b (o + i * 4) (es.getD i noEv) := h.2.2.2 hn
theorem RdE.below {w w' : World} {A : Option Addr} {n cap : Nat} {es : List Ev} (h : RdE w A n cap es) (hb : Below w.heap.size w w') : RdE w' A n cap es :=
  ⟨h.1, h.2.1, h.2.2.1, fun hn => by
    obtain ⟨b, o, hA, hlt, hc⟩ := h.2.2.2 hn
    exact ⟨b, o, hA, Nat.lt_of_lt_of_le hlt hb.size, fun i hi => (hc i hi).below hb⟩⟩

section
variable {H : Type} {enc : TypeId × Value → H} {P : Program} {W : World} {base : Nat} {t e : TypeId} {v : Value} {d : DataW H} {p : List MemPlace}
/-- A slice of events that came in. -/
theorem tr_events {f0 f1 f2 f3 g0 g1 : Field} {tS tF : TypeId} {fuel : Nat} {y : DataW H × List MemPlace} (ht : P.underlying t = some (.slice e)) (he : P.underlying e = some (.struct #[f0, f1, f2, f3])) (ce : P.cellsOf e = 4) (hone : oneCellFields P #[f0, f1, f2, f3] = true)
    (t0 : P.underlying f0.type = some .string) (t1 : P.underlying f1.type = some .string) (t2 : P.underlying f2.type = some (.slice tS)) (hS : P.underlying tS = some .string) (cS : P.cellsOf tS = 1)
    (t3 : P.underlying f3.type = some (.slice tF)) (hF : P.underlying tF = some (.struct #[g0, g1])) (cF : P.cellsOf tF = 2) (o0 : g0.offset = 0) (o1 : g1.offset = 1) (c0 : P.cellsOf g0.type = 1) (c1 : P.cellsOf g1.type = 1) (u0 : P.underlying g0.type = some .string) (u1 : P.underlying g1.type = some (.int .i64))
    (h : DataW.trod enc P W 0 (fun _ => true) true fuel t [v] = some y) :
    ∃ A n ca es, v = .slice A n ca ∧ RdE W A n ca es ∧ ∀ x ∈ es, EvOk x := by
  rcases open_slice ht h with ⟨hcs, _⟩ | ⟨a, l, c, m, nn, D, Pl, hcs, _, hl, hm, hmm, _, hx⟩
  · simp only [List.cons.injEq, and_true] at hcs
    subst hcs
    exact ⟨none, 0, 0, [], rfl, RdE.nil W, by simp⟩
  · simp only [List.cons.injEq, and_true] at hcs
    subst hcs
    have hm' : m = c := by simpa using hmm
    subst hm'
    have each : ∀ i, i < m → ∃ ev : Ev, EvOk ev ∧ ∃ A1 n1 k1 B1 m1 k2, W.cell? (a.add (i * 4)) = some (.string ev.s) ∧ W.cell? (a.add (i * 4 + 1)) = some (.string ev.t) ∧ W.cell? (a.add (i * 4 + 2)) = some (.slice A1 n1 k1) ∧ W.cell? (a.add (i * 4 + 3)) = some (.slice B1 m1 k2) ∧ RdS W A1 n1 k1 ev.tags ∧ RdF W B1 m1 k2 ev.fs := by
      intro i hi
      obtain ⟨cs', h1, h2⟩ := hx i hi
      rw [ce] at h1
      obtain ⟨_, hlen, hcell⟩ := World.cells?_some h1
      obtain ⟨y0, y1, y2, y3, n, _, _, q0, q1, q2, q3⟩ := trod_struct4 he h2
      obtain ⟨z0, k0⟩ := hone_of hone 0 f0 rfl
      obtain ⟨z1, k1⟩ := hone_of hone 1 f1 rfl
      obtain ⟨z2, k2⟩ := hone_of hone 2 f2 rfl
      obtain ⟨z3, k3⟩ := hone_of hone 3 f3 rfl
      match cs', hlen with
      | [v0, v1, v2, v3], _ =>
        have z0q : DataW.trod enc P W 0 (fun _ => true) true n f0.type [v0] = some y0 := by simpa [z0, k0] using q0
        have z1q : DataW.trod enc P W 0 (fun _ => true) true n f1.type [v1] = some y1 := by simpa [z1, k1] using q1
        have z2q : DataW.trod enc P W 0 (fun _ => true) true n f2.type [v2] = some y2 := by simpa [z2, k2] using q2
        have z3q : DataW.trod enc P W 0 (fun _ => true) true n f3.type [v3] = some y3 := by simpa [z3, k3] using q3
        have e0 := hcell 0 (by omega)
        have e1 := hcell 1 (by omega)
        have e2 := hcell 2 (by omega)
        have e3 := hcell 3 (by omega)
        rw [add_add] at e0 e1 e2 e3
        obtain ⟨s, x0, _, ws⟩ := DataW.trod_string t0 z0q
        obtain ⟨s', x1, _, wt⟩ := DataW.trod_string t1 z1q
        injection x0 with x0
        injection x1 with x1
        obtain ⟨A1, n1, k1', ss, rfl, r1, w1⟩ := tr_strs t2 hS cS z2q
        obtain ⟨B1, m1, k2', fs, rfl, r2, w2, w3⟩ := tr_flds t3 hF cF o0 o1 c0 c1 u0 u1 z3q
        subst x0 x1
        exact ⟨⟨s, s', ss, fs⟩, ⟨ws, wt, w1, w2, w3⟩, A1, n1, k1', B1, m1, k2', by simpa using e0, by simpa using e1, by simpa using e2, by simpa using e3, r1, r2⟩
    have hex : ∃ F : Nat → Ev, ∀ i, i < m → EvOk (F i) ∧ ∃ A1 n1 k1 B1 m1 k2, W.cell? (a.add (i * 4)) = some (.string (F i).s) ∧ W.cell? (a.add (i * 4 + 1)) = some (.string (F i).t) ∧ W.cell? (a.add (i * 4 + 2)) = some (.slice A1 n1 k1) ∧ W.cell? (a.add (i * 4 + 3)) = some (.slice B1 m1 k2) ∧ RdS W A1 n1 k1 (F i).tags ∧ RdF W B1 m1 k2 (F i).fs :=
      ⟨fun i => if hi : i < m then (each i hi).choose else noEv, fun i hi => by simp only [hi, dif_pos]; exact (each i hi).choose_spec⟩
    obtain ⟨F, hF'⟩ := hex
    refine ⟨_, l, m, (List.range l).map F, rfl, ⟨by simp, hl, hm, fun hn => ?_⟩, ?_⟩
    · obtain ⟨_, _, _, _, _, _, _, hc0, _⟩ := hF' 0 (by omega)
      rw [Nat.zero_mul] at hc0
      have e0 := spot_none hc0
      have hb := World.block_lt_of_cell? W _ hc0
      rw [e0, add_at] at hb
      refine ⟨a.block, a.off, by rw [← e0], hb, fun i hi => ?_⟩
      have hFj : ((List.range l).map F).getD i noEv = F i := by simp [List.getD, hi]
      rw [hFj]
      obtain ⟨_, A1, n1, k1, B1, m1, k2, h0, h1, h2, h3, r1, r2⟩ := hF' i (by omega)
      rw [e0, add_at] at h0 h1 h2 h3
      exact ⟨A1, n1, k1, B1, m1, k2, h0, h1, h2, h3, r1, r2⟩
    · intro x hxm
      obtain ⟨j, hj, rfl⟩ := List.mem_map.1 hxm
      exact (hF' j (by have := List.mem_range.1 hj; omega)).1
end

end Go.Proofs.Ytjglpmakjampjaa.Ev
