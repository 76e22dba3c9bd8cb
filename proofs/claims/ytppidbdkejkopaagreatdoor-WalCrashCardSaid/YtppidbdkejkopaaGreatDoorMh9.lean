/-
  Joined texts: WlOps, WlFew, WgCom, WgShown, WgIn, WgRound.
-/
import Derived.Deep.DeepCutAuto
import Derived.Deep.CutBlock
import Derived.Test.YtppidbdkejkopaaGreatDoorMh8
namespace Go.Proofs.YtppidbdkejkopaaGreatDoor.BtWalk
open Go.RowKit Go.WideShapes Go.ChangeShapes Go.Joins Go.Deep MemRow Ev NameMath NameWalk EvWalk NumMath NumMem NumWalk EcWalk EdWalk EeLaw Go.Proofs.YtppidbdkejkopaaGreatDoor.Open
structure Wop where
  kind : Int
  n : Int
  file : Int
  x : Bat
def noWop : Wop := ⟨0, 0, 0, noBat⟩
structure WopOk (d : Wop) : Prop where
  kind : -9223372036854775808 ≤ d.kind ∧ d.kind ≤ 9223372036854775807
  n : -9223372036854775808 ≤ d.n ∧ d.n ≤ 9223372036854775807
  file : -9223372036854775808 ≤ d.file ∧ d.file ≤ 9223372036854775807
  x : BOk d.x
def IsWop (w : World) (v : Value) (d : Wop) : Prop := ∃ A n ca, v = .agg #[.int .i64 d.kind, .int .i64 d.n, .int .i64 d.file, .int .i64 d.x.a, .slice A n ca] ∧ RdE w A n ca d.x.es
def WopCells (w : World) (b o : Nat) (d : Wop) : Prop :=
  ∃ A n ca, w.cell? ⟨b, o, none⟩ = some (.int .i64 d.kind) ∧ w.cell? ⟨b, o + 1, none⟩ = some (.int .i64 d.n) ∧ w.cell? ⟨b, o + 2, none⟩ = some (.int .i64 d.file) ∧ w.cell? ⟨b, o + 3, none⟩ = some (.int .i64 d.x.a) ∧ w.cell? ⟨b, o + 4, none⟩ = some (.slice A n ca) ∧ RdE w A n ca d.x.es
theorem WopCells.below {w w' : World} {b o : Nat} {d : Wop} (h : WopCells w b o d) (hb : Below w.heap.size w w') : WopCells w' b o d := by
  obtain ⟨A, n, ca, h0, h1, h2, h3, h4, h5⟩ := h
  exact ⟨A, n, ca, bcell hb h0, bcell hb h1, bcell hb h2, bcell hb h3, bcell hb h4, h5.below hb⟩
def RdW (w : World) (A : Option Addr) (n cap : Nat) (ds : List Wop) : Prop :=
  ds.length = n ∧ n ≤ cap ∧ cap ≤ maxLen ∧ (0 < n → ∃ b o, A = some ⟨b, o, none⟩ ∧ b < w.heap.size ∧ ∀ i, i < n → WopCells w b (o + i * 5) (ds.getD i noWop))
theorem RdW.nil (w : World) : RdW w none 0 0 [] := ⟨rfl, Nat.le_refl _, Nat.zero_le _, fun h => absurd h (by omega)⟩
theorem RdW.len {w : World} {A : Option Addr} {n cap : Nat} {ds : List Wop} (h : RdW w A n cap ds) : ds.length = n := h.1
theorem RdW.le {w : World} {A : Option Addr} {n cap : Nat} {ds : List Wop} (h : RdW w A n cap ds) : n ≤ maxLen := Nat.le_trans h.2.1 h.2.2.1
theorem RdW.at_ {w : World} {A : Option Addr} {n cap : Nat} {ds : List Wop} (h : RdW w A n cap ds) (hn : 0 < n) : ∃ b o, A = some ⟨b, o, none⟩ ∧ b < w.heap.size ∧ ∀ i, i < n → WopCells w b (o + i * 5) (ds.getD i noWop) := h.2.2.2 hn
theorem RdW.below {w w' : World} {A : Option Addr} {n cap : Nat} {ds : List Wop} (h : RdW w A n cap ds) (hb : Below w.heap.size w w') : RdW w' A n cap ds :=
  ⟨h.1, h.2.1, h.2.2.1, fun hn => by
    obtain ⟨b, o, hA, hlt, hc⟩ := h.2.2.2 hn
    exact ⟨b, o, hA, Nat.lt_of_lt_of_le hlt hb.size, fun i hi => (hc i hi).below hb⟩⟩
theorem wop_get {ds : List Wop} {j : Nat} (h : j < ds.length) : ds.getD j noWop ∈ ds := by
  rw [List.getD_eq_getElem?_getD, List.getElem?_eq_getElem h]
  exact List.getElem_mem h
section
variable {H : Type} {enc : TypeId × Value → H} {P : Program} {W : World} {base : Nat} {t e : TypeId} {v : Value} {d : DataW H} {p : List MemPlace}
theorem trod_struct4 {spare : Nat → Bool} {held : Bool} {f0 f1 f2 f3 : Field} {fuel : Nat} {cs : List Value} {x : DataW H × List MemPlace} (ht : P.underlying t = some (.struct #[f0, f1, f2, f3])) (h : DataW.trod enc P W base spare held fuel t cs = some x) :
    ∃ y0 y1 y2 y3 n, DataW.trod enc P W base spare held n f0.type ((cs.drop f0.offset).take (P.cellsOf f0.type)) = some y0 ∧ DataW.trod enc P W base spare held n f1.type ((cs.drop f1.offset).take (P.cellsOf f1.type)) = some y1 ∧ DataW.trod enc P W base spare held n f2.type ((cs.drop f2.offset).take (P.cellsOf f2.type)) = some y2 ∧ DataW.trod enc P W base spare held n f3.type ((cs.drop f3.offset).take (P.cellsOf f3.type)) = some y3 := by
  obtain ⟨xs, n, _, rfl, hl, hlen, hf⟩ := DataW.trod_struct ht h
  match xs, hlen with
  | [y0, y1, y2, y3], _ => exact ⟨y0, y1, y2, y3, n, by simpa using hf 0 f0 rfl, by simpa using hf 1 f1 rfl, by simpa using hf 2 f2 rfl, by simpa using hf 3 f3 rfl⟩
theorem trod_struct2 {spare : Nat → Bool} {held : Bool} {f0 f1 : Field} {fuel : Nat} {cs : List Value} {x : DataW H × List MemPlace} (ht : P.underlying t = some (.struct #[f0, f1])) (h : DataW.trod enc P W base spare held fuel t cs = some x) :
    ∃ y0 y1 n, DataW.trod enc P W base spare held n f0.type ((cs.drop f0.offset).take (P.cellsOf f0.type)) = some y0 ∧ DataW.trod enc P W base spare held n f1.type ((cs.drop f1.offset).take (P.cellsOf f1.type)) = some y1 := by
  obtain ⟨xs, n, _, rfl, hl, hlen, hf⟩ := DataW.trod_struct ht h
  match xs, hlen with
  | [y0, y1], _ => exact ⟨y0, y1, n, by simpa using hf 0 f0 rfl, by simpa using hf 1 f1 rfl⟩
end
section
variable {H : Type} {enc : TypeId × Value → H}
set_option maxRecDepth 100000 in
theorem tr_wop {W : World} {fuel : Nat} {v0 v1 v2 v3 v4 : Value} {y : DataW H × List MemPlace} (h : DataW.trod enc Tryz.prog W 0 (fun _ => true) true fuel 41 [v0, v1, v2, v3, v4] = some y) :
    ∃ d : Wop, WopOk d ∧ ∃ A n ca, v0 = .int .i64 d.kind ∧ v1 = .int .i64 d.n ∧ v2 = .int .i64 d.file ∧ v3 = .int .i64 d.x.a ∧ v4 = .slice A n ca ∧ RdE W A n ca d.x.es := by
  obtain ⟨y0, y1, y2, y3, n, q0, q1, q2, q3⟩ := trod_struct4 Tryz.underlying41 h
  have c0 : Tryz.prog.cellsOf 3 = 1 := by kernel_rfl
  have c3 : Tryz.prog.cellsOf 39 = 2 := by kernel_rfl
  have c4 : Tryz.prog.cellsOf 37 = 1 := by kernel_rfl
  have z0 : DataW.trod enc Tryz.prog W 0 (fun _ => true) true n 3 [v0] = some y0 := by simpa [c0] using q0
  have z1 : DataW.trod enc Tryz.prog W 0 (fun _ => true) true n 3 [v1] = some y1 := by simpa [c0] using q1
  have z2 : DataW.trod enc Tryz.prog W 0 (fun _ => true) true n 3 [v2] = some y2 := by simpa [c0] using q2
  have z3 : DataW.trod enc Tryz.prog W 0 (fun _ => true) true n 39 [v3, v4] = some y3 := by simpa [c3] using q3
  obtain ⟨za, x0, _, w0⟩ := DataW.trod_int Tryz.underlying3 z0
  obtain ⟨zb, x1, _, w1⟩ := DataW.trod_int Tryz.underlying3 z1
  obtain ⟨zc, x2, _, w2⟩ := DataW.trod_int Tryz.underlying3 z2
  obtain ⟨u0, u1, m, b0, b1⟩ := trod_struct2 Tryz.underlying39 z3
  have b0' : DataW.trod enc Tryz.prog W 0 (fun _ => true) true m 3 [v3] = some u0 := by simpa [c0] using b0
  have b1' : DataW.trod enc Tryz.prog W 0 (fun _ => true) true m 37 [v4] = some u1 := by simpa [c4] using b1
  obtain ⟨zd, x3, _, w3⟩ := DataW.trod_int Tryz.underlying3 b0'
  obtain ⟨A, k, ca, es, rfl, r, ok⟩ := tr_events Tryz.underlying37 Tryz.underlying69 (by kernel_rfl) (by kernel_rfl) Tryz.underlying9 Tryz.underlying9 Tryz.underlying61 Tryz.underlying9 (by kernel_rfl) Tryz.underlying67 Tryz.underlying132 (by kernel_rfl) rfl rfl (by kernel_rfl) (by kernel_rfl) Tryz.underlying9 Tryz.underlying3 b1'
  injection x0 with x0
  injection x1 with x1
  injection x2 with x2
  injection x3 with x3
  subst x0 x1 x2 x3
  exact ⟨⟨za, zb, zc, ⟨zd, es⟩⟩, ⟨bounds_i64 w0, bounds_i64 w1, bounds_i64 w2, ok, (bounds_i64 w3).1, (bounds_i64 w3).2⟩, A, k, ca, rfl, rfl, rfl, rfl, rfl, r⟩
set_option maxRecDepth 100000 in
theorem tr_wops {W : World} {v : Value} {fuel : Nat} {y : DataW H × List MemPlace} (hf : DataW.trod enc Tryz.prog W 0 (fun _ => true) true fuel 22 [v] = some y) :
    ∃ A n ca ds, v = .slice A n ca ∧ RdW W A n ca ds ∧ ∀ d ∈ ds, WopOk d := by
  have ce : Tryz.prog.cellsOf 41 = 5 := by kernel_rfl
  rcases open_slice Tryz.underlying22 hf with ⟨hcs, _⟩ | ⟨a, l, c, m, nn, D, Pl, hcs, _, hl, hm, hmm, _, hx⟩
  · simp only [List.cons.injEq, and_true] at hcs
    subst hcs
    exact ⟨none, 0, 0, [], rfl, RdW.nil W, fun d hd => by simp at hd⟩
  · simp only [List.cons.injEq, and_true] at hcs
    subst hcs
    have hm' : m = c := by simpa using hmm
    subst hm'
    have each : ∀ i, i < m → ∃ d : Wop, WopOk d ∧ ∃ A n ca, W.cell? (a.add (i * 5)) = some (.int .i64 d.kind) ∧ W.cell? (a.add (i * 5 + 1)) = some (.int .i64 d.n) ∧ W.cell? (a.add (i * 5 + 2)) = some (.int .i64 d.file) ∧ W.cell? (a.add (i * 5 + 3)) = some (.int .i64 d.x.a) ∧ W.cell? (a.add (i * 5 + 4)) = some (.slice A n ca) ∧ RdE W A n ca d.x.es := by
      intro i hi
      obtain ⟨cs', h1, h2⟩ := hx i hi
      rw [ce] at h1
      obtain ⟨_, hlen, hcell⟩ := World.cells?_some h1
      match cs', hlen with
      | [v0, v1, v2, v3, v4], _ =>
        have e0 := hcell 0 (by omega)
        have e1 := hcell 1 (by omega)
        have e2 := hcell 2 (by omega)
        have e3 := hcell 3 (by omega)
        have e4 := hcell 4 (by omega)
        rw [add_add] at e0 e1 e2 e3 e4
        obtain ⟨d, ok, A, n, ca, rfl, rfl, rfl, rfl, rfl, r⟩ := tr_wop h2
        exact ⟨d, ok, A, n, ca, by simpa using e0, by simpa using e1, by simpa using e2, by simpa using e3, by simpa using e4, r⟩
    have hex : ∃ F : Nat → Wop, ∀ i, i < m → WopOk (F i) ∧ ∃ A n ca, W.cell? (a.add (i * 5)) = some (.int .i64 (F i).kind) ∧ W.cell? (a.add (i * 5 + 1)) = some (.int .i64 (F i).n) ∧ W.cell? (a.add (i * 5 + 2)) = some (.int .i64 (F i).file) ∧ W.cell? (a.add (i * 5 + 3)) = some (.int .i64 (F i).x.a) ∧ W.cell? (a.add (i * 5 + 4)) = some (.slice A n ca) ∧ RdE W A n ca (F i).x.es :=
      ⟨fun i => if hi : i < m then (each i hi).choose else noWop, fun i hi => by simp only [hi, dif_pos]; exact (each i hi).choose_spec⟩
    obtain ⟨F, hF'⟩ := hex
    refine ⟨_, l, m, (List.range l).map F, rfl, ⟨by simp, hl, hm, fun hn => ?_⟩, ?_⟩
    · obtain ⟨_, _, _, _, hc0, _⟩ := hF' 0 (by omega)
      rw [Nat.zero_mul] at hc0
      have e0 := spot_none hc0
      have hb := World.block_lt_of_cell? W _ hc0
      rw [e0, add_at] at hb
      refine ⟨a.block, a.off, by rw [← e0], hb, fun i hi => ?_⟩
      have hFj : ((List.range l).map F).getD i noWop = F i := by simp [List.getD, hi]
      rw [hFj]
      obtain ⟨_, A, n, ca, h0, h1, h2, h3, h4, r⟩ := hF' i (by omega)
      rw [e0, add_at] at h0 h1 h2 h3 h4
      exact ⟨A, n, ca, h0, h1, h2, h3, h4, r⟩
    · intro x hxm
      obtain ⟨j, hj, rfl⟩ := List.mem_map.1 hxm
      exact (hF' j (by have := List.mem_range.1 hj; omega)).1
set_option maxRecDepth 100000 in
theorem op_wops {W : World} {base : Nat} {v : Value} {d : DataW H} {p : List MemPlace} (ho : Value.okWide Tryz.prog W .any base 22 v) (h : DataW.Trod enc Tryz.prog W 0 (fun _ => true) true 22 v d p) :
    ∃ A n ca ds, v = .slice A n ca ∧ RdW W A n ca ds ∧ ∀ d ∈ ds, WopOk d := by
  obtain ⟨a, len, cap, rfl⟩ := okWide_slice Tryz.underlying22 ho
  obtain ⟨fuel, hf⟩ := h
  exact tr_wops hf
end
def few6 (es : List Ev) : List Ev := (es.take 6).map fewE
theorem few6_snoc (es : List Ev) (j : Nat) (h : j < es.length) (h6 : j < 6) : few6 (es.take (j + 1)) = few6 (es.take j) ++ [fewE (es.getD j noEv)] := by
  unfold few6
  rw [List.take_take, List.take_take, Nat.min_eq_right (by omega), Nat.min_eq_right (by omega), ev_take es j h, List.map_append]
  rfl
theorem few6_take (es : List Ev) (j : Nat) (h : es.length ≤ j ∨ 6 ≤ j) : few6 (es.take j) = few6 es := by
  unfold few6
  rw [List.take_take]
  rcases h with h | h
  · congr 1
    rcases Nat.le_total 6 j with h8 | h8
    · rw [Nat.min_eq_left h8]
    · rw [Nat.min_eq_right h8, List.take_of_length_le h, List.take_of_length_le (by omega)]
  · rw [Nat.min_eq_left h]
def W5At (w : World) (g : Nat) (v0 v1 v2 v3 v4 : Value) : Prop := w.heap[g]? = some (.cells #[v0, v1, v2, v3, v4] 41 (0, 0))
section
variable {w w' : World} {g : Nat} {v0 v1 v2 v3 v4 : Value}
theorem W5At.lt (h : W5At w g v0 v1 v2 v3 v4) : g < w.heap.size := (Array.getElem?_eq_some_iff.1 h).1
theorem W5At.below (h : W5At w g v0 v1 v2 v3 v4) (hb : Below w.heap.size w w') : W5At w' g v0 v1 v2 v3 v4 := (hb.block g h.lt).trans h
theorem W5At.c0 (h : W5At w g v0 v1 v2 v3 v4) : w.cell? ⟨g, 0, none⟩ = some v0 := by rw [cell_of_row w g 0 _ _ _ h]; rfl
theorem W5At.c1 (h : W5At w g v0 v1 v2 v3 v4) : w.cell? ⟨g, 1, none⟩ = some v1 := by rw [cell_of_row w g 1 _ _ _ h]; rfl
theorem W5At.c2 (h : W5At w g v0 v1 v2 v3 v4) : w.cell? ⟨g, 2, none⟩ = some v2 := by rw [cell_of_row w g 2 _ _ _ h]; rfl
theorem W5At.c3 (h : W5At w g v0 v1 v2 v3 v4) : w.cell? ⟨g, 3, none⟩ = some v3 := by rw [cell_of_row w g 3 _ _ _ h]; rfl
theorem W5At.c4 (h : W5At w g v0 v1 v2 v3 v4) : w.cell? ⟨g, 4, none⟩ = some v4 := by rw [cell_of_row w g 4 _ _ _ h]; rfl
theorem W5At.frozen (h : W5At w g v0 v1 v2 v3 v4) (i : Nat) : w.frozen? ⟨g, i, none⟩ = false := by
  unfold W5At at h
  simp [World.frozen?, h]
theorem W5At.grown {row : Option Nat} (h : W5At w g v0 v1 v2 v3 v4) (hg : w.grownBy w' row) (hne : some g ≠ row) : W5At w' g v0 v1 v2 v3 v4 := (hg.block g h.lt hne).trans h
theorem W5At.far {b i : Nat} (h : W5At w g v0 v1 v2 v3 v4) (hne : g ≠ b) (x : Value) : W5At (w.setCell ⟨b, i, none⟩ x) g v0 v1 v2 v3 v4 := by
  unfold W5At at h ⊢
  simp only [World.setCell, Array.getElem?_modify]
  rw [if_neg (fun e => hne e.symm)]
  exact h
theorem W5At.set3 (h : W5At w g v0 v1 v2 v3 v4) (x : Value) : W5At (w.setCell ⟨g, 3, none⟩ x) g v0 v1 v2 x v4 := by
  unfold W5At at h ⊢
  simp only [World.setCell, Array.getElem?_modify, h]
  rfl
theorem W5At.set4 (h : W5At w g v0 v1 v2 v3 v4) (x : Value) : W5At (w.setCell ⟨g, 4, none⟩ x) g v0 v1 v2 v3 x := by
  unfold W5At at h ⊢
  simp only [World.setCell, Array.getElem?_modify, h]
  rfl
theorem W5At.all (h : W5At w g v0 v1 v2 v3 v4) (x0 x1 x2 x3 x4 : Value) : W5At (((((w.setCell ⟨g, 0, none⟩ x0).setCell ⟨g, 1, none⟩ x1).setCell ⟨g, 2, none⟩ x2).setCell ⟨g, 3, none⟩ x3).setCell ⟨g, 4, none⟩ x4) g x0 x1 x2 x3 x4 := by
  unfold W5At at h ⊢
  simp only [World.setCell, Array.getElem?_modify, h]
  rfl
end
theorem wop_bel (w : World) (v0 v1 v2 v3 v4 : Value) : Below w.heap.size w (w.alloc (.cells #[v0, v1, v2, v3, v4] 41)) := (Below.refl _ _).alloc (Nat.le_refl _) _
structure MkO (w0 wr w : World) (kd nn fl a : Int) (vs : Value) (A : Option Addr) (n cap : Nat) (es : List Ev) : Prop where
  eq : W5At wr w.heap.size (.int .i64 kd) (.int .i64 nn) (.int .i64 fl) (.int .i64 a) vs
  res : W5At wr (w.heap.size + 1) (.int .i64 0) (.int .i64 0) (.int .i64 0) (.int .i64 0) (.slice none 0 0)
  out : BxAt wr (w.heap.size + 1 + 1) (.int .i64 a) (.slice A n cap)
  own : OwnO w0 wr (w.heap.size + 1 + 1 + 1) A n cap es
  bel : Below w.heap.size w wr
section
variable {w0 wr w w' : World} {kd nn fl a : Int} {vs : Value} {A : Option Addr} {n cap : Nat} {es : List Ev}
theorem MkO.below (h : MkO w0 wr w kd nn fl a vs A n cap es) (hb : Below wr.heap.size wr w') : MkO w0 w' w kd nn fl a vs A n cap es := ⟨h.eq.below hb, h.res.below hb, h.out.below hb, h.own.below hb, below_chain h.bel hb⟩
theorem MkO.far (h : MkO w0 wr w kd nn fl a vs A n cap es) {g : Nat} (hg : w.heap.size + 1 + 1 < g) (hA : ∀ a, A = some a → a.block ≠ g) (i : Nat) (x : Value) : MkO w0 (wr.setCell ⟨g, i, none⟩ x) w kd nn fl a vs A n cap es := by
  obtain ⟨cs, o, hl, hc⟩ := h.own
  exact ⟨h.eq.far (by omega) x, h.res.far (by omega) x, h.out.far (by omega) x, ⟨cs, OwnC.grown o (grown_set wr g i x) (fun a ha e => hA a ha (by injection e)), hl, hc⟩, h.bel.setCell (by show w.heap.size ≤ g; omega) x⟩
theorem MkO.new (w0 w : World) (kd nn fl a : Int) (vs : Value) : MkO w0 (((w.alloc (.cells #[.int .i64 kd, .int .i64 nn, .int .i64 fl, .int .i64 a, vs] 41)).alloc (.cells #[.int .i64 0, .int .i64 0, .int .i64 0, .int .i64 0, .slice none 0 0] 41)).alloc (.cells #[.int .i64 a, .slice none 0 0] 39)) w kd nn fl a vs none 0 0 [] := by
  have a1 : W5At (w.alloc (.cells #[.int .i64 kd, .int .i64 nn, .int .i64 fl, .int .i64 a, vs] 41)) w.heap.size (.int .i64 kd) (.int .i64 nn) (.int .i64 fl) (.int .i64 a) vs := heap_alloc_new w _
  have b1 := wop_bel w (.int .i64 kd) (.int .i64 nn) (.int .i64 fl) (.int .i64 a) vs
  generalize hw1 : w.alloc (.cells #[.int .i64 kd, .int .i64 nn, .int .i64 fl, .int .i64 a, vs] 41) = w1 at *
  have s1 : w1.heap.size = w.heap.size + 1 := by rw [← hw1]; simp
  have a2 : W5At (w1.alloc (.cells #[.int .i64 0, .int .i64 0, .int .i64 0, .int .i64 0, .slice none 0 0] 41)) w1.heap.size (.int .i64 0) (.int .i64 0) (.int .i64 0) (.int .i64 0) (.slice none 0 0) := heap_alloc_new w1 _
  have b2 := wop_bel w1 (.int .i64 0) (.int .i64 0) (.int .i64 0) (.int .i64 0) (.slice none 0 0)
  generalize hw2 : w1.alloc (.cells #[.int .i64 0, .int .i64 0, .int .i64 0, .int .i64 0, .slice none 0 0] 41) = w2 at *
  have s2 : w2.heap.size = w.heap.size + 1 + 1 := by rw [← hw2]; simp [s1]
  have a3 := BxAt.new w2 (.int .i64 a) (.slice none 0 0)
  have b3 := batch_bel w2 (.int .i64 a) (.slice none 0 0)
  rw [s1] at a2
  rw [s2] at a3
  exact ⟨(a1.below b2).below b3, a2.below b3, a3, OwnO.nil _ _ _, below_chain (below_chain b1 b2) b3⟩
theorem MkO.more {cs : List Value} {e : Ev} {T F : Option Addr} {nT cT nF cF : Nat} {A' : Option Addr} {cap' : Nat} {w8 : World} (h : MkO w0 wr w kd nn fl a vs A n cap es) (ho : OwnC 4 wr (w.heap.size + 1 + 1 + 1) 69 A n cap cs) (hc : EvsO w0 es cs) (o1 : RdS w0 T nT cT e.tags) (o2 : RdF w0 F nF cF e.fs)
    (ho8 : OwnC 4 w8 (w.heap.size + 1 + 1 + 1) 69 A' (n + 1) cap' (cs ++ [.string e.s, .string e.t, .slice T nT cT, .slice F nF cF])) (hg : wr.grownBy w8 (A.map (·.block))) :
    w8.frozen? ⟨w.heap.size + 1 + 1, 1, none⟩ = false ∧ w8.cell? ⟨w.heap.size + 1 + 1, 1, none⟩ = some (.slice A n cap) ∧ MkO w0 (w8.setCell ⟨w.heap.size + 1 + 1, 1, none⟩ (.slice A' (n + 1) cap')) w kd nn fl a vs A' (n + 1) cap' (es ++ [e]) := by
  have low := fun r e => row_low ho (r := r) e
  have hF : ∀ k, k < w.heap.size + 1 + 1 + 1 → some k ≠ A.map (·.block) := fun k hk e => by have := low k e.symm; omega
  have e8 := h.out.grown hg (hF _ (by omega))
  have hs := grown_set w8 (w.heap.size + 1 + 1) 1 (.slice A' (n + 1) cap')
  have o8 : OwnO w0 w8 (w.heap.size + 1 + 1 + 1) A' (n + 1) cap' (es ++ [e]) := ⟨_, ho8, by rw [List.length_append, h.own.len]; rfl, EvsO.snoc o1 o2 es cs hc⟩
  refine ⟨e8.frozen 1, e8.c1, (h.eq.grown hg (hF _ (by omega))).far (by omega) _, (h.res.grown hg (hF _ (by omega))).far (by omega) _, e8.set1 _, o8.grown hs (by omega), ?_⟩
  have b8 := h.bel.grown hg h.bel.size (fun r e => by have := low r e; omega)
  exact b8.setCell (by show w.heap.size ≤ w.heap.size + 1 + 1; omega) _
theorem MkO.lay (h : MkO w0 wr w kd nn fl a vs A n cap es) : MkO w0 ((wr.setCell ⟨w.heap.size, 3, none⟩ (.int .i64 a)).setCell ⟨w.heap.size, 4, none⟩ (.slice A n cap)) w kd nn fl a (.slice A n cap) A n cap es := by
  refine ⟨(h.eq.set3 _).set4 _, (h.res.far (by omega) _).far (by omega) _, (h.out.far (by omega) _).far (by omega) _, (h.own.grown (grown_set wr w.heap.size 3 _) (by omega)).grown (grown_set _ w.heap.size 4 _) (by omega), ?_⟩
  exact (h.bel.setCell (by show w.heap.size ≤ w.heap.size; omega) _).setCell (by show w.heap.size ≤ w.heap.size; omega) _
def resO (w : World) (g : Nat) (x0 x1 x2 x3 x4 : Value) : World := ((((w.setCell ⟨g, 0, none⟩ x0).setCell ⟨g, 1, none⟩ x1).setCell ⟨g, 2, none⟩ x2).setCell ⟨g, 3, none⟩ x3).setCell ⟨g, 4, none⟩ x4
theorem MkO.fin (h : MkO w0 wr w kd nn fl a vs A n cap es) (x0 x1 x2 x3 x4 : Value) : W5At (resO wr (w.heap.size + 1) x0 x1 x2 x3 x4) (w.heap.size + 1) x0 x1 x2 x3 x4 ∧ OwnO w0 (resO wr (w.heap.size + 1) x0 x1 x2 x3 x4) (w.heap.size + 1 + 1 + 1) A n cap es ∧ Below w.heap.size w (resO wr (w.heap.size + 1) x0 x1 x2 x3 x4) := by
  refine ⟨h.res.all _ _ _ _ _, ((((h.own.grown (grown_set _ _ 0 _) (by omega)).grown (grown_set _ _ 1 _) (by omega)).grown (grown_set _ _ 2 _) (by omega)).grown (grown_set _ _ 3 _) (by omega)).grown (grown_set _ _ 4 _) (by omega), ?_⟩
  have hle : w.heap.size ≤ w.heap.size + 1 := by omega
  exact ((((h.bel.setCell hle _).setCell hle _).setCell hle _).setCell hle _).setCell hle _
end
end Go.Proofs.YtppidbdkejkopaaGreatDoor.BtWalk
namespace Go.Proofs.YtppidbdkejkopaaGreatDoor.BtWalk
open Go.RowKit MemRow Ev NameMath NameWalk EvWalk NumMath NumMem NumWalk EcWalk EdWalk EeLaw
set_option maxHeartbeats 8000000 in
set_option maxRecDepth 100000 in
theorem few11_any (v : Value) (q : Wop) (w0 w : World) (hv : IsWop w0 v q) (hb0 : Below w0.heap.size w0 w) :
    Calls Tryz.prog 15 #[v] w fun e w' => ∃ A n ca, e = .returned (.agg #[.int .i64 q.kind, .int .i64 q.n, .int .i64 q.file, .int .i64 q.x.a, .slice A n ca]) ∧ OwnO w0 w' (w.heap.size + 1 + 1 + 1) A n ca (few6 q.x.es) ∧ Below w.heap.size w w' := by
  obtain ⟨C, n, cap, rfl, rC⟩ := hv
  obtain ⟨kd, nn, fl, ⟨a, es⟩⟩ := q
  simp only at rC
  have LC := Go.Lib.hid rC.len
  have hn := rC.le
  unfold maxLen at hn
  have s1 := MkO.new w0 w kd nn fl a (.slice C n cap)
  go_enter Tryz.func15, Tryz.ntmps15
  go_upto_region 2 with (fail)
  generalize ((w.alloc (.cells #[.int .i64 kd, .int .i64 nn, .int .i64 fl, .int .i64 a, .slice C n cap] 41)).alloc (.cells #[.int .i64 0, .int .i64 0, .int .i64 0, .int .i64 0, .slice none 0 0] 41)).alloc (.cells #[.int .i64 a, .slice none 0 0] 39) = w1 at *
  go_wp2_with fail
  go_loopw [4, 5] (fun i _ wr => ∃ (j : Nat) (A : Option Addr) (ca : Nat), j ≤ n ∧ j ≤ 6 ∧ i = .int .i64 j ∧ MkO w0 wr w kd nn fl a (.slice C n cap) A j ca (few6 (es.take j))) (fun i _ _ => n - (intOf i).toNat)
  case atStart => exact ⟨0, none, 0, Nat.zero_le _, by omega, rfl, s1⟩
  case round =>
    obtain ⟨j, A, ca, hjn, hj20, rfl, sr⟩ := hrel
    clear s1
    have k1 := sr.eq.c4
    by_cases hlt : j < n ∧ j < 6
    · obtain ⟨h1, h2⟩ := hlt
      obtain ⟨bt, ot, rfl, _, kt⟩ := rC.at_ (by omega)
      obtain ⟨T, nT, cT, Y, nY, cY, x0', x1', x2', x3', rT, rY⟩ := kt j h1
      have bb := below_chain hb0 sr.bel
      have x0 := bcell bb x0'
      have x1 := bcell bb x1'
      have x2 := bcell bb x2'
      have x3 := bcell bb x3'
      have i1 : (j : Int) < n := by omega
      have i2 : (j : Int) < 6 := by omega
      have HS := Go.Lib.hid (few6_snoc es j (by rw [LC.out]; exact h1) h2)
      clear kt x0' x1' x2' x3' bb
      generalize es.getD j noEv = ev at *
      go_upto_region 6 with (fail)
      have al : Below wr.heap.size wr (wr.alloc (.cells #[.string ev.s, .string ev.t, .slice T nT cT, .slice Y nY cY] 69)) := (Below.refl _ _).alloc (Nat.le_refl _) _
      have c5 := EvAt.new wr (.string ev.s) (.string ev.t) (.slice T nT cT) (.slice Y nY cY)
      have s5 := sr.below al
      have glt : w.heap.size + 1 + 1 < wr.heap.size := sr.out.lt
      have gA : ∀ a, A = some a → a.block ≠ wr.heap.size := fun a hA => by
        obtain ⟨cs, o, _, _⟩ := sr.own
        have := (OwnC.lt o a hA).2
        omega
      have GA := Go.Lib.hid gA
      generalize wr.alloc (.cells #[.string ev.s, .string ev.t, .slice T nT cT, .slice Y nY cY] 69) = w5 at *
      generalize wr.heap.size = g at *
      have LT := Go.Lib.hid rT.len
      have LY := Go.Lib.hid rY.len
      have hnT := RdC.le rT
      have hnY := RdC.le rY
      unfold maxLen at hnT hnY
      clear sr k1 x0 x1 x2 x3 al gA
      have k2 := c5.c2
      go_upto_if 31 with (fail)
      go_cut [5] (fun p wx => p = .pointer (some ⟨g, 0, none⟩) ∧ ∃ nT', EvAt wx g (.string ev.s) (.string ev.t) (.slice T nT' cT) (.slice Y nY cY) ∧ RdS w0 T nT' cT (ev.tags.take 12) ∧ MkO w0 wx w kd nn fl a (.slice (some ⟨bt, ot, none⟩) n cap) A j ca (few6 (es.take j)))
      case first =>
        by_cases h8 : 12 < nT
        · obtain ⟨q1, d1⟩ := slice_hi (P := Tryz.prog) 61 9 Tryz.underlying61 elem_strs string_size rT (m := 12) (by omega)
          rw [strs_take] at d1
          have q1' : ∀ W, (Instr.slice 61 (.slice T nT cT) none (some (.int .i64 12)) none).run Tryz.prog W = .ok (.slice T 12 cT) W := q1
          have i3 : (12 : Int) < nT := by omega
          have z5 := c5.frozen 2
          have c6 := c5.set2 (.slice T 12 cT)
          have s6 := s5.far glt GA.out 2 (.slice T 12 cT)
          have C6 := Go.Lib.hid c6
          have S6 := Go.Lib.hid s6
          clear q1 c6 s6
          go_wp2_with fail
          go_meet
          exact ⟨rfl, 12, C6.out, d1, S6.out⟩
        · have i3 : ¬ (12 : Int) < nT := by omega
          have d1 : RdS w0 T nT cT (ev.tags.take 12) := by rw [List.take_of_length_le (by rw [LT.out]; omega)]; exact rT
          go_wp2_with fail
          go_meet
          exact ⟨rfl, nT, c5, d1, s5⟩
      case rest =>
        obtain ⟨rfl, nT', c6, d6, s6⟩ := hcut
        clear k2 c5 s5
        have k3 := c6.c3
        go_upto_if 39 with (fail)
        go_cut [5] (fun p wx => p = .pointer (some ⟨g, 0, none⟩) ∧ ∃ nY', EvAt wx g (.string ev.s) (.string ev.t) (.slice T nT' cT) (.slice Y nY' cY) ∧ RdF w0 Y nY' cY (ev.fs.take 12) ∧ MkO w0 wx w kd nn fl a (.slice (some ⟨bt, ot, none⟩) n cap) A j ca (few6 (es.take j)))
        case first =>
          by_cases h8 : 12 < nY
          · obtain ⟨q1, d1⟩ := slice_hi (P := Tryz.prog) 67 132 Tryz.underlying67 elem_flds field_size rY (m := 12) (by omega)
            rw [flds_take] at d1
            have q1' : ∀ W, (Instr.slice 67 (.slice Y nY cY) none (some (.int .i64 12)) none).run Tryz.prog W = .ok (.slice Y 12 cY) W := q1
            have i3 : (12 : Int) < nY := by omega
            have z5 := c6.frozen 3
            have c7 := c6.set3 (.slice Y 12 cY)
            have s7 := s6.far glt GA.out 3 (.slice Y 12 cY)
            have C7 := Go.Lib.hid c7
            have S7 := Go.Lib.hid s7
            clear q1 c7 s7
            go_wp2_with fail
            go_meet
            exact ⟨rfl, 12, C7.out, d1, S7.out⟩
          · have i3 : ¬ (12 : Int) < nY := by omega
            have d1 : RdF w0 Y nY cY (ev.fs.take 12) := by rw [List.take_of_length_le (by rw [LY.out]; omega)]; exact rY
            go_wp2_with fail
            go_meet
            exact ⟨rfl, nY, c6, d1, s6⟩
        case rest =>
          obtain ⟨rfl, nY', c7, d7, s7⟩ := hcut
          clear k3 c6 s6
          have k0 := c7.c0
          have k1 := c7.c1
          have k2 := c7.c2
          have k3 := c7.c3
          have o1 := s7.out.c1
          have al : Below wc.heap.size wc (wc.alloc (.cells #[.string ev.s, .string ev.t, .slice T nT' cT, .slice Y nY' cY] 69)) := (Below.refl _ _).alloc (Nat.le_refl _) _
          have s8 := s7.below al
          have d8 : RdC 4 (wc.alloc (.cells #[.string ev.s, .string ev.t, .slice T nT' cT, .slice Y nY' cY] 69)) (some ⟨wc.heap.size, 0, none⟩) 1 1 [.string ev.s, .string ev.t, .slice T nT' cT, .slice Y nY' cY] := RdC.new wc 69 [.string ev.s, .string ev.t, .slice T nT' cT, .slice Y nY' cY] rfl (by decide)
          have big : w.heap.size + 1 + 1 + 1 ≤ (wc.alloc (.cells #[.string ev.s, .string ev.t, .slice T nT' cT, .slice Y nY' cY] 69)).heap.size := s8.out.lt
          have h63 : j + 1 ≤ maxLen := by unfold maxLen; omega
          have hsz : (j + 1) * 80 ≤ 140737488355328 := by omega
          obtain ⟨cs, oc, hcl, hcs⟩ := s8.own
          clear s7 c7 GA al LT LY hnT hnY
          go_wp2_with (at_builtin; refine wpList_append_cells rfl (.tmp 45) (.tmp 47) 37 rfl 69 (.agg #[.string ⟨#[]⟩, .string ⟨#[]⟩, .slice none 0 0, .slice none 0 0]) 80 Tryz.underlying37 event_info rfl (by decide) rfl rfl oc d8 (ev_one ev _ _ _ _ _ _) h63 hsz big ?_; intro A9 c9 w9 o9 g9 _; obtain ⟨z9, k9, n9⟩ := s8.more (e := fewE ev) oc hcs d6 d7 o9 g9)
          go_roundw
          case rel => exact ⟨j + 1, A9, c9, by omega, by omega, by go_num, by rw [HS.out]; exact n9⟩
          case measure => simp [intOf]; omega
    · have hq : few6 (es.take j) = few6 es := few6_take es j (by rw [LC.out]; omega)
      rw [hq] at sr
      clear hq
      have o0 := sr.out.c0
      have o1 := sr.out.c1
      have z3 := sr.eq.frozen 3
      have z4 := sr.eq.frozen 4
      have e3 := sr.eq.c3
      have e4 := sr.eq.c4
      have L9 := Go.Lib.hid sr.lay
      by_cases h1 : j < n
      · have i2 : ¬ (j : Int) < 6 := by omega
        have i1 : (j : Int) < n := by omega
        clear hlt
        go_upto_region 12 with (fail)
        have l9 := L9.out
        clear L9 o0 o1 z3 z4 e3 e4
        generalize (wr.setCell ⟨w.heap.size, 3, none⟩ (.int .i64 a)).setCell ⟨w.heap.size, 4, none⟩ (.slice A j ca) = w9 at *
        have e0 := l9.eq.c0
        have e1 := l9.eq.c1
        have e2 := l9.eq.c2
        have e3 := l9.eq.c3
        have e4 := l9.eq.c4
        have r0 := l9.res.c0
        have r1 := l9.res.c1
        have r2 := l9.res.c2
        have r3 := l9.res.c3
        have r4 := l9.res.c4
        have z0 := l9.res.frozen 0
        have z1 := l9.res.frozen 1
        have z2 := l9.res.frozen 2
        have z3 := l9.res.frozen 3
        have z4 := l9.res.frozen 4
        obtain ⟨f1, f2, f3⟩ := l9.fin (.int .i64 kd) (.int .i64 nn) (.int .i64 fl) (.int .i64 a) (.slice A j ca)
        have F1 := Go.Lib.hid f1
        have F2 := Go.Lib.hid f2
        have F3 := Go.Lib.hid f3
        unfold resO at F1 F2 F3
        clear f1 f2 f3 l9 sr
        go_wp2_with fail
        have q9 := F1.out
        have rq9 := F2.out
        have b9 := F3.out
        generalize ((((w9.setCell ⟨w.heap.size + 1, 0, none⟩ (.int .i64 kd)).setCell ⟨w.heap.size + 1, 1, none⟩ (.int .i64 nn)).setCell ⟨w.heap.size + 1, 2, none⟩ (.int .i64 fl)).setCell ⟨w.heap.size + 1, 3, none⟩ (.int .i64 a)).setCell ⟨w.heap.size + 1, 4, none⟩ (.slice A j ca) = w10 at *
        have y0 := q9.c0
        have y1 := q9.c1
        have y2 := q9.c2
        have y3 := q9.c3
        have y4 := q9.c4
        exact bodyPost_ret (v := .agg #[.int .i64 kd, .int .i64 nn, .int .i64 fl, .int .i64 a, .slice A j ca]) (by simp [results, Tryz.results15, go_sem, y0, y1, y2, y3, y4]) rfl ⟨_, _, _, rfl, rq9, b9⟩
      · have i1 : ¬ (j : Int) < n := by omega
        clear hlt
        go_upto_region 12 with (fail)
        have l9 := L9.out
        clear L9 o0 o1 z3 z4 e3 e4
        generalize (wr.setCell ⟨w.heap.size, 3, none⟩ (.int .i64 a)).setCell ⟨w.heap.size, 4, none⟩ (.slice A j ca) = w9 at *
        have e0 := l9.eq.c0
        have e1 := l9.eq.c1
        have e2 := l9.eq.c2
        have e3 := l9.eq.c3
        have e4 := l9.eq.c4
        have r0 := l9.res.c0
        have r1 := l9.res.c1
        have r2 := l9.res.c2
        have r3 := l9.res.c3
        have r4 := l9.res.c4
        have z0 := l9.res.frozen 0
        have z1 := l9.res.frozen 1
        have z2 := l9.res.frozen 2
        have z3 := l9.res.frozen 3
        have z4 := l9.res.frozen 4
        obtain ⟨f1, f2, f3⟩ := l9.fin (.int .i64 kd) (.int .i64 nn) (.int .i64 fl) (.int .i64 a) (.slice A j ca)
        have F1 := Go.Lib.hid f1
        have F2 := Go.Lib.hid f2
        have F3 := Go.Lib.hid f3
        unfold resO at F1 F2 F3
        clear f1 f2 f3 l9 sr
        go_wp2_with fail
        have q9 := F1.out
        have rq9 := F2.out
        have b9 := F3.out
        generalize ((((w9.setCell ⟨w.heap.size + 1, 0, none⟩ (.int .i64 kd)).setCell ⟨w.heap.size + 1, 1, none⟩ (.int .i64 nn)).setCell ⟨w.heap.size + 1, 2, none⟩ (.int .i64 fl)).setCell ⟨w.heap.size + 1, 3, none⟩ (.int .i64 a)).setCell ⟨w.heap.size + 1, 4, none⟩ (.slice A j ca) = w10 at *
        have y0 := q9.c0
        have y1 := q9.c1
        have y2 := q9.c2
        have y3 := q9.c3
        have y4 := q9.c4
        exact bodyPost_ret (v := .agg #[.int .i64 kd, .int .i64 nn, .int .i64 fl, .int .i64 a, .slice A j ca]) (by simp [results, Tryz.results15, go_sem, y0, y1, y2, y3, y4]) rfl ⟨_, _, _, rfl, rq9, b9⟩
end Go.Proofs.YtppidbdkejkopaaGreatDoor.BtWalk
namespace Go.Proofs.YtppidbdkejkopaaGreatDoor.WlWalk
open Go.RowKit MemRow Ev NameMath NameWalk EvWalk NumMem DkWalk FrMath BtWalk EdWalk
set_option maxRecDepth 100000 in
theorem kind11_any (c : Int) (n : Nat) (w : World) (hc : -9223372036854775808 ≤ c ∧ c ≤ 9223372036854775807) (h0 : 0 < n) (h1 : n ≤ 1000000) :
    Calls Tryz.prog 11 #[.int .i64 c, .int .i64 n] w fun e w' => e = .returned (.int .i64 (kindN c n)) ∧ w = w' := by
  have hk := kindN_eq c h0
  have hn0 : (n : Int) ≠ 0 := by omega
  have hn1 : (n : Int) ≠ -1 := by omega
  by_cases hneg : c < 0
  · rw [if_pos hneg] at hk
    have ht : Int.tmod (-(c + 1)) n = ((kindN c n : Nat) : Int) := by rw [hk]; exact Int.tmod_eq_emod_of_nonneg (by omega)
    have hl := kindN_lt c h0
    generalize kindN c n = k at *
    clear hk
    go_enter Tryz.func11, Tryz.ntmps11
    go_wp2_with fail
    go_ret
    exact ⟨by simp, rfl⟩
  · rw [if_neg hneg] at hk
    have ht : Int.tmod c n = ((kindN c n : Nat) : Int) := by rw [hk]; exact Int.tmod_eq_emod_of_nonneg (by omega)
    have hl := kindN_lt c h0
    generalize kindN c n = k at *
    clear hk
    go_enter Tryz.func11, Tryz.ntmps11
    go_wp2_with fail
    go_ret
    exact ⟨by simp, rfl⟩
section
variable {base : Nat} {w : World} {P Q : Thing} {gl g many : Nat} {last : Int}
set_option maxRecDepth 100000 in
theorem lastL_any (h : Pair base w P (With Q (LlT gl g many last))) :
    Calls Tryz.prog 18 #[.pointer (some ⟨gl, 0, none⟩)] w fun e w' => e = .returned (.int .i64 last) ∧ w = w' := by
  obtain ⟨_, l1, l2, _, _, _⟩ := ll_cells h
  go_enter Tryz.func18, Tryz.ntmps18
  go_wp2_with fail
  go_ret
  exact ⟨rfl, rfl⟩
set_option maxRecDepth 100000 in
theorem segsL_any (h : Pair base w P (With Q (LlT gl g many last))) :
    Calls Tryz.prog 19 #[.pointer (some ⟨gl, 0, none⟩)] w fun e w' => e = .returned (.int .i64 (many : Int)) ∧ w = w' := by
  obtain ⟨_, l1, l2, _, _, _⟩ := ll_cells h
  go_enter Tryz.func19, Tryz.ntmps19
  go_wp2_with fail
  go_ret
  exact ⟨rfl, rfl⟩
end
theorem chained_le : ∀ (xs : List Bat) (l : Int), Chained xs l → (0 ≤ l) → l ≤ 1048576 → l + (tot xs : Int) ≤ 1048576
  | [], l, _, _, h => by simp [tot]; exact h
  | x :: xs, l, ⟨h1, _, h3, h4⟩, h0, _ => by
    obtain ⟨_, _, _, _, z5⟩ := (mayX_zero x).1 h1
    have := chained_le xs (l + (x.es.length : Int)) h4 (by omega) (by rw [← h3]; exact z5)
    rw [tot_cons]
    push_cast
    omega
theorem LogD.tot_le {D : Dk} {ss : List (List Bat)} (h : LogD D ss) : (tot ss.flatten : Int) ≤ 1048576 := by
  have := chained_le ss.flatten 0 h.ch (by omega) (by omega)
  omega
theorem LogD.many_le {D : Dk} {ss : List (List Bat)} (h : LogD D ss) : ss.length ≤ 200 := by
  have := h.segs.le
  rwa [safed_len, List.length_map] at this
theorem appendW_can {D : Dk} {ss : List (List Bat)} {x : Bat} (h : LogD D ss) (hl : D.left = -1) (hx : mayX x = 0) (ha : x.a = (tot ss.flatten : Int)) (he : (encX x).length ≤ maxF) (hn : ss.length < 200) (hq : ((usedF D.fs + (frameF (encX x)).length : Nat) : Int) ≤ D.quota) :
    (appendW D ss.length (tot ss.flatten : Int) x).1 = 0 := by
  have hl0 : D.left ≠ 0 := by omega
  have hfl := frameF_length (encX x)
  have hnx : 1 ≤ nextW D ss.length ∧ nextW D ss.length ≤ 200 := by unfold nextW; split <;> omega
  have hlen := h.len
  have hA : (appendD D (segN (nextW D ss.length)) (frameF (encX x))).1 = 0 := by
    refine append_ok_if hl0 _ _ (segN_may hnx.1 hnx.2) ?_ (.inr (by omega)) hq
    have hm : maxF = 16384 := rfl
    by_cases hc : ss.length = 0 ∨ 2048 ≤ (readB D (segN ss.length)).length
    · have e : nextW D ss.length = ss.length + 1 := by unfold nextW; rw [if_pos hc]
      rw [e, h.segs.no (i := ss.length) (by rw [safed_len, List.length_map]; exact Nat.le_refl _)]
      simp only [Option.map_none, Option.getD_none, List.length_nil]
      omega
    · have e : nextW D ss.length = ss.length := by unfold nextW; rw [if_neg hc]
      have := (read_lk D (segN ss.length)).2
      rw [e, ← this]
      omega
  rcases appendW_log x h with ⟨h1, _⟩ | ⟨h1, _⟩ | ⟨_, h2, _⟩
  · exfalso
    apply h1
    unfold appendW
    rw [if_neg (by simpa using hx), if_neg (by simpa using ha), if_neg (by omega), if_neg (by simpa using hA)]
    obtain ⟨_, a2, _, a4⟩ := append_yes h.go hl0 _ _ hA
    have hg := append_go h.go (segN (nextW D ss.length)) (frameF (encX x))
    have hl2 : (appendD D (segN (nextW D ss.length)) (frameF (encX x))).2.left ≠ 0 := by rw [a2.left, left_off hl]; decide
    have hs := a4 (segN (nextW D ss.length))
    rw [if_pos rfl] at hs
    rw [if_neg (by rw [(sync_yes hg hl2 hs).1]; decide)]
  · exact h1
  · exact absurd hl h2
theorem openW_log {D : Dk} {ss : List (List Bat)} (h : LogD D ss) (hl : D.left = -1) : (openW D).1 = 0 ∧ LogD (openW D).2.1 ss ∧ (openW D).2.1.left = -1 ∧ (openW D).2.1.quota = D.quota ∧ (openW D).2.2.all = ss.flatten ∧ (openW D).2.2.many = ss.length ∧ (openW D).2.2.last = (tot ss.flatten : Int) := by
  obtain ⟨o1, o2, o3, o4, o5, o6, o7, o8⟩ := openW_segs h.go hl h.segs
  have hr := h.read
  rw [hr] at o6 o7 o8
  have hf : fixW (bts (safed (ss.map bytesW))) 0 = ss.map bytesW := by
    rw [bts_safed]
    have := fixW_of ss 0 [] h.ch
    rw [List.append_nil] at this
    rw [this]
    simp [fixW]
  rw [hf] at o2
  exact ⟨o1, ⟨o3, o2, h.ch⟩, o4, o5, o6, o7, o8⟩
theorem LogD.crash {D : Dk} {ss : List (List Bat)} (h : LogD D ss) (keep : Int) : LogD (crashD D keep) ss ∧ (crashD D keep).left = -1 ∧ (crashD D keep).quota = D.quota := by
  have hs := h.segs.crash h.go keep
  rw [cut_same (safed_safe _)] at hs
  exact ⟨⟨crash_go h.go keep, hs, h.ch⟩, rfl, rfl⟩
def exB (a : Int) : Bat := ⟨a, [exE]⟩
theorem exB_may {a : Int} (h0 : 0 ≤ a) (h1 : a ≤ 1048575) : mayX (exB a) = 0 := (mayX_zero _).2 ⟨Nat.le_refl 1, (by show 1 ≤ 16; decide), by intro e he; rw [exB, List.mem_singleton] at he; subst he; exact exE_may, h0, by show a + ((1 : Nat) : Int) ≤ 1048576; omega⟩
theorem exB_ok {a : Int} (h : -9223372036854775808 ≤ a ∧ a ≤ 9223372036854775807) : BOk (exB a) := ⟨by intro e he; rw [exB, List.mem_singleton] at he; subst he; exact exE_ok, h.1, h.2⟩
end Go.Proofs.YtppidbdkejkopaaGreatDoor.WlWalk
namespace Go.Proofs.YtppidbdkejkopaaGreatDoor.WlWalk
open Go.RowKit MemRow Ev NameMath NameWalk EvWalk NumMem NumMath DkWalk FrMath BtWalk EcWalk EdWalk
open Go.Lib (decDigits)
theorem exB_len {a : Int} (h0 : 0 ≤ a) (h1 : a ≤ 1048575) : (encX (exB a)).length ≤ 30 := by
  have e0 := exE_enc
  rw [List.nil_append] at e0
  have e1 := enc_le a (by omega) (by omega)
  have e2 : enc ((([exE] : List Ev).length : Nat) : Int) = [2] := by rw [enc_small (by decide) (by decide)]; rfl
  unfold encX exB evsE
  simp only [List.flatMap_cons, List.flatMap_nil]
  rw [e0, e2]
  simp only [List.length_append, List.length_cons, List.length_nil]
  omega
theorem exB_isb (w : World) (a : Int) : IsB (w.alloc (.cells #[.string ⟨#[115]⟩, .string ⟨#[116]⟩, .slice none 0 0, .slice none 0 0] 69)) (.agg #[.int .i64 a, .slice (some ⟨w.heap.size, 0, none⟩) 1 1]) (exB a) := by
  have e1 := EvAt.new w (.string ⟨#[115]⟩) (.string ⟨#[116]⟩) (.slice none 0 0) (.slice none 0 0)
  exact ⟨_, _, _, rfl, rfl, Nat.le_refl _, by decide, fun _ => ⟨w.heap.size, 0, rfl, e1.lt, fun i hi => by
      obtain rfl : i = 0 := by omega
      exact ⟨none, 0, 0, none, 0, 0, e1.c0, e1.c1, e1.c2, e1.c3, RdC.nil _, RdC.nil _⟩⟩⟩
theorem seg12 : segN 12 = ⟨#[108, 111, 103, 95, 49, 50]⟩ := by
  rw [segN_in (by decide) (by decide)]
  have e : decDigits 12 = [49, 50] := by first | rfl | (rw [decDigits, if_neg (by decide), decDigits, if_pos (by decide)]; rfl) | simp [decDigits]
  rw [e]
  rfl
theorem openL_log {base : Nat} {w : World} {Q : Thing} {g : Nat} {D : Dk} {ss : List (List Bat)} (hp : Pair base w (LdT g D) Q) (kq : Keeps Q) (hb : base ≤ w.heap.size) (ht : TabB base w) (h : LogD D ss) (hl : D.left = -1) :
    Calls Tryz.prog 13 #[.pointer (some ⟨g, 0, none⟩)] w fun e w' => ∃ D' gl A n c, e = .returned (.tuple #[.pointer (some ⟨gl, 0, none⟩), .slice A n c, .int .i64 0]) ∧ LogD D' ss ∧ D'.left = -1 ∧ D'.quota = D.quota ∧ Pair base w' (LdT g D') (With (With Q (LlT gl g ss.length (tot ss.flatten : Int))) (BsT base A n c ss.flatten)) ∧ Below base w w' := by
  obtain ⟨o1, o2, o3, o4, o5, o6, o7⟩ := openW_log h hl
  refine (openL_any hp kq hb h.go ht).mono ?_
  rintro e w' ⟨⟨_, gl, A, n, c, rfl, p⟩ | ⟨h1, _⟩, b⟩
  · rw [o5, o6, o7] at p
    exact ⟨_, gl, A, n, c, rfl, o2, o3, o4, p, b⟩
  · exact absurd o1 h1
set_option maxHeartbeats 8000000 in
set_option maxRecDepth 100000 in
theorem shown11_any (w : World) (ht : TabB w.heap.size w) : Calls Tryz.prog 9 #[] w fun e w' => e = .returned (.bool true) ∧ Below w.heap.size w w' := by
  go_enter Tryz.func9, Tryz.ntmps9
  go_wp2_with fail
  refine (pr_alone w 1000).mono ?_
  rintro e w1 ⟨g, rfl, p1, b1⟩
  have hL : LogD (newD 1000) [] := LogD.new (by decide)
  have hb1 := b1.size
  go_wp2_with fail
  refine (openL_log p1 noT_keeps hb1 (ht.on b1) hL rfl).mono ?_
  rintro e w2 ⟨D2, gl, A, n, c, rfl, l2, f2, q2, p2, b2⟩
  have B2 := b1.trans b2
  have hb2 := Nat.le_trans hb1 b2.size
  have hn : n = 0 := by
    obtain ⟨_, _, _, ⟨_, _, _, hbs, _⟩, _⟩ := p2
    exact hbs.own.len.symm
  subst hn
  have p3 := pair_first p2
  have k3 : Keeps (With NoT (LlT gl g ([] : List (List Bat)).length (tot ([] : List (List Bat)).flatten : Int))) := with_keeps noT_keeps (bxT_keeps _ _ _)
  have al : Below w2.heap.size w2 (w2.alloc (.cells #[.string ⟨#[115]⟩, .string ⟨#[116]⟩, .slice none 0 0, .slice none 0 0] 69)) := (Below.refl _ _).alloc (Nat.le_refl _) _
  have p4 := p3.below (ldT_keeps g D2) k3 al
  have B4 := B2.trans (bel_up hb2 al)
  have hb4 := Nat.le_trans hb2 al.size
  have iv := exB_isb w2 0
  have hu : usedF D2.fs = 0 := by rw [l2.used]; rfl
  have hfl := frameF_length (encX (exB 0))
  have hxl := exB_len (a := 0) (by omega) (by omega)
  have hcan := appendW_can (x := exB 0) l2 f2 (exB_may (by omega) (by omega)) rfl (by unfold maxF; omega) (by simp) (by rw [hu, q2]; show ((0 + (frameF (encX (exB 0))).length : Nat) : Int) ≤ 1000; omega)
  obtain ⟨a1, a2, a3, a4⟩ := appendL_eq D2 ([] : List (List Bat)).length (tot ([] : List (List Bat)).flatten : Int) (exB 0)
  have happ : (appendL D2 ([] : List (List Bat)).length (tot ([] : List (List Bat)).flatten : Int) (exB 0)).1 = 0 ∧ (appendL D2 ([] : List (List Bat)).length (tot ([] : List (List Bat)).flatten : Int) (exB 0)).2.2.2 = 1 := by
    refine ⟨a1.trans hcan, ?_⟩
    rw [a3]
    rcases appendW_log (exB 0) l2 with ⟨h1, _⟩ | ⟨_, ss', _, h2, h3, _⟩ | ⟨_, h2, _⟩
    · exact absurd hcan h1
    · rw [h3, h2]
      rfl
    · exact absurd f2 h2
  clear p1 p2 p3 b1 b2 B2 hb1 hu hfl hxl hcan a1 a2 a3 a4 hL
  go_wp2_with fail
  generalize w2.alloc (.cells #[.string ⟨#[115]⟩, .string ⟨#[116]⟩, .slice none 0 0, .slice none 0 0] 69) = w4 at *
  refine (appL_any p4 noT_keeps hb4 l2.go (ht.on B4) iv (exB_ok (by omega)) (by simp) (by simp [tot])).mono ?_
  rw [happ.1, happ.2]
  generalize (appendL D2 ([] : List (List Bat)).length (tot ([] : List (List Bat)).flatten : Int) (exB 0)) = R at *
  rintro e w5 ⟨rfl, p5, b5⟩
  have B5 := B4.trans b5
  have hs := segL_any 12 w5 (ht.on B5).here
  have e12 : segZ 12 = ⟨#[108, 111, 103, 95, 49, 50]⟩ := seg12
  rw [e12] at hs
  have hlast := lastL_any p5
  have hb5 := Nat.le_trans hb4 b5.size
  clear p4 iv B4 al hb4 b5 l2 f2 q2 happ
  go_wp2_with (first
    | (go_at_call 18; refine hlast.mono ?_; rintro e w6 ⟨rfl, rfl⟩)
    | (go_at_call 23; refine hs.mono ?_; rintro e w7 ⟨rfl, b7⟩))
  go_ret
  exact ⟨rfl, B5.trans (bel_up hb5 b7)⟩
end Go.Proofs.YtppidbdkejkopaaGreatDoor.WlWalk
namespace Go.Proofs.YtppidbdkejkopaaGreatDoor.WlWalk
open Go.RowKit MemRow Ev NameMath NameWalk EvWalk NumMem DkWalk FrMath BtWalk EcWalk EdWalk
def EvT (W0 : World) (E : Option Addr) (i d : Nat) (es : List Ev) : Thing := fun w G => (∀ w', Below W0.heap.size W0 w' → (∀ k, G k → w'.heap[k]? = w.heap[k]?) → RdE w' E i d es) ∧ ∀ k, G k → k < w.heap.size
theorem evT_keeps (W0 : World) (E : Option Addr) (i d : Nat) (es : List Ev) : Keeps (EvT W0 E i d es) :=
  ⟨fun h hs hk => ⟨fun w2 hb h2 => h.1 w2 hb fun k hf => (h2 k hf).trans (hk k hf), fun k hf => Nat.lt_of_lt_of_le (h.2 k hf) hs⟩, fun h => h.2⟩
theorem EvT.now {W0 w : World} {E : Option Addr} {i d : Nat} {es : List Ev} {G : Nat → Prop} (h : EvT W0 E i d es w G) (hb : Below W0.heap.size W0 w) : RdE w E i d es := h.1 w hb fun _ _ => rfl
theorem evT_of {W0 w w' : World} {lo : Nat} {E : Option Addr} {i d : Nat} {es : List Ev} (h : OwnO W0 w' lo E i d es) (hlo : w.heap.size ≤ lo) : EvT W0 E i d es w' (fun k => w.heap.size ≤ k ∧ k < w'.heap.size) := by
  refine ⟨fun w2 hb hk => ?_, fun k hk => hk.2⟩
  obtain ⟨cs, o, hl, hc⟩ := h
  have o2 : OwnC 4 w2 lo 69 E i d cs := own_keep o fun a ha => hk _ ⟨Nat.le_trans hlo (OwnC.lt o a ha).1, (OwnC.lt o a ha).2⟩
  exact OwnO.rd (base := lo) ⟨cs, o2, hl, hc⟩ hb
def InsC (w : World) : List Bat → List Value → Prop
  | [], cs => cs = []
  | x :: xs, cs => ∃ E i d cs', cs = .int .i64 x.a :: .slice E i d :: cs' ∧ RdE w E i d x.es ∧ InsC w xs cs'
theorem InsC.snoc {w : World} {x : Bat} {E : Option Addr} {i d : Nat} (o : RdE w E i d x.es) : ∀ (xs : List Bat) (cs : List Value), InsC w xs cs → InsC w (xs ++ [x]) (cs ++ [.int .i64 x.a, .slice E i d])
  | [], cs, h => by
    obtain rfl : cs = [] := h
    exact ⟨E, i, d, [], rfl, o, rfl⟩
  | y :: xs, cs, ⟨E1, i1, d1, cs', hc, o1, h⟩ => by
    subst hc
    exact ⟨E1, i1, d1, cs' ++ [.int .i64 x.a, .slice E i d], rfl, o1, InsC.snoc o xs cs' h⟩
theorem InsC.at_ {w : World} : ∀ (xs : List Bat) (cs : List Value), InsC w xs cs → ∀ j, j < xs.length → ∃ E i d, cs[j * 2]? = some (.int .i64 (xs.getD j noBat).a) ∧ cs[j * 2 + 1]? = some (.slice E i d) ∧ RdE w E i d (xs.getD j noBat).es
  | [], _, _, j, hj => by simp at hj
  | x :: xs, cs, ⟨E, i, d, cs', hc, o, h⟩, j, hj => by
    subst hc
    cases j with
    | zero => exact ⟨E, i, d, rfl, rfl, o⟩
    | succ j =>
      obtain ⟨E1, i1, d1, q0, q1, p⟩ := InsC.at_ xs cs' h j (by simpa using hj)
      have e : (j + 1) * 2 = j * 2 + 2 := by omega
      rw [e]
      exact ⟨E1, i1, d1, by simpa using q0, by simpa using q1, by simpa using p⟩
def InT (W0 : World) (A : Option Addr) (n c : Nat) (xs : List Bat) : Thing := fun w G => ∃ (cs : List Value) (G1 : Nat → Prop), OwnC 2 w W0.heap.size 39 A n c cs ∧ xs.length = n ∧ ((∀ w', Below W0.heap.size W0 w' → (∀ k, G1 k → w'.heap[k]? = w.heap[k]?) → InsC w' xs cs) ∧ ∀ k, G1 k → k < w.heap.size) ∧ (∀ a, A = some a → G a.block ∧ ¬ G1 a.block) ∧ (∀ k, G1 k → G k) ∧ ∀ k, G k → k < w.heap.size
theorem inT_keeps (W0 : World) (A : Option Addr) (n c : Nat) (xs : List Bat) : Keeps (InT W0 A n c xs) :=
  ⟨fun ⟨cs, G1, o, hl, ⟨hb, hb2⟩, ha, hi, hlt⟩ hs hk => ⟨cs, G1, own_keep o fun a e => hk _ (ha a e).1, hl, ⟨fun w2 hB h2 => hb w2 hB fun k h => (h2 k h).trans (hk k (hi k h)), fun k h => Nat.lt_of_lt_of_le (hb2 k h) hs⟩, ha, hi, fun k h => Nat.lt_of_lt_of_le (hlt k h) hs⟩, fun ⟨_, _, _, _, _, _, _, hlt⟩ => hlt⟩
theorem InT.rd {W0 w : World} {A : Option Addr} {n c : Nat} {xs : List Bat} {G : Nat → Prop} (h : InT W0 A n c xs w G) (hB : Below W0.heap.size W0 w) : RdBs w A n c xs := by
  obtain ⟨cs, G1, o, hl, ⟨hb, _⟩, _⟩ := h
  have hr := OwnC.rd o
  refine ⟨hl, hr.2.1, hr.2.2.1, fun hn => ?_⟩
  obtain ⟨b, oo, hA, hlt, hc⟩ := RdC.at_ hr (by omega) hn
  refine ⟨b, oo, hA, hlt, fun j hj => ?_⟩
  obtain ⟨E, i, d, q0, q1, r⟩ := InsC.at_ xs cs (hb w hB fun _ _ => rfl) j (by omega)
  exact ⟨E, i, d, hc _ _ q0, by have := hc _ _ q1; rwa [← Nat.add_assoc] at this, r⟩
theorem inT_new (W0 w : World) (h : W0.heap.size ≤ w.heap.size) : InT W0 (some ⟨w.heap.size, 0, none⟩) 0 0 [] (w.alloc (.cells #[] 39)) (fun k => w.heap.size ≤ k ∧ k < (w.alloc (.cells #[] 39)).heap.size) :=
  ⟨[], fun _ => False, OwnC.empty w _ h, rfl, ⟨fun _ _ _ => rfl, fun _ h => h.elim⟩, fun a ha => by
    injection ha with ha
    subst ha
    exact ⟨⟨Nat.le_refl _, by simp⟩, fun h => h⟩, fun _ h => h.elim, fun k hk => hk.2⟩
theorem pair_in {W0 w : World} {P Z : Thing} {A E : Option Addr} {n c i d : Nat} {xs : List Bat} {x : Bat} (hp : Pair W0.heap.size w P (With (With Z (InT W0 A n c xs)) (EvT W0 E i d x.es))) (kp : Keeps P) (kz : Keeps Z) (hb : W0.heap.size ≤ w.heap.size) :
    ∃ cs, OwnC 2 w W0.heap.size 39 A n c cs ∧ xs.length = n ∧ ∀ A' c' w', OwnC 2 w' W0.heap.size 39 A' (n + 1) c' (cs ++ [.int .i64 x.a, .slice E i d]) → w.grownBy w' (A.map (·.block)) → (A'.map (·.block) = A.map (·.block) ∨ A'.map (·.block) = some w.heap.size) →
      Pair W0.heap.size w' P (With Z (InT W0 A' (n + 1) c' (xs ++ [x]))) ∧ Below W0.heap.size w w' := by
  obtain ⟨F, G, hpF, ⟨G1, G2, ⟨H1, H2, hz, ⟨cs, K1, o, hl, ⟨hK, hK2⟩, ha, hi, hlt2⟩, a1, a2, a3, a4⟩, ⟨hE, hE2⟩, i1, i2, hlt, hx⟩, hF, hG, hd⟩ := hp
  refine ⟨cs, o, hl, fun A' c' w' oo hg hbl => ?_⟩
  have hg0 := hg
  obtain ⟨_, _, _, gs, gb⟩ := hg
  have na : ∀ k, (∀ a, A = some a → a.block ≠ k) → some k ≠ A.map (·.block) := fun k hk e => by
    cases A with
    | none => cases e
    | some a => injection e with e; exact hk a rfl e.symm
  have hA : ∀ a, A = some a → H2 a.block := fun a e => (ha a e).1
  have same : ∀ k, k < w.heap.size → (∀ a, A = some a → a.block ≠ k) → w'.heap[k]? = w.heap[k]? := fun k hk hn => gb k hk (na k hn)
  have k1 : ∀ k, K1 k → w'.heap[k]? = w.heap[k]? := fun k hk => same k (hK2 k hk) fun a e e2 => (ha a e).2 (by rw [e2]; exact hk)
  have k2 : ∀ k, G2 k → w'.heap[k]? = w.heap[k]? := fun k hk => same k (hE2 k hk) fun a e e2 => hx k (a2 k (by rw [← e2]; exact hA a e)) hk
  have hA' : ∀ a, A' = some a → (∃ b, A = some b ∧ b.block = a.block) ∨ a.block = w.heap.size := fun a e => by
    rw [e] at hbl
    rcases hbl with q | q
    · cases A with
      | none => cases q
      | some b => injection q with q; exact .inl ⟨b, rfl, q.symm⟩
    · injection q with q; exact .inr q
  have hA2 : ∀ a, A' = some a → a.block < w'.heap.size := fun a e => (OwnC.lt oo a e).2
  have nk : ∀ a, A' = some a → ¬ (K1 a.block ∨ G2 a.block) := fun a e hk => by
    rcases hA' a e with ⟨b, hb1, hb2⟩ | q
    · rw [← hb2] at hk
      rcases hk with hk | hk
      · exact (ha b hb1).2 hk
      · exact hx _ (a2 _ (hA b hb1)) hk
    · rcases hk with hk | hk
      · have := hK2 _ hk; omega
      · have := hE2 _ hk; omega
  have inG : ∀ k, (H2 k ∨ G2 k ∨ ∃ a, A' = some a ∧ a.block = k) → G k ∨ k = w.heap.size := fun k hk => by
    rcases hk with hk | hk | ⟨a, e, rfl⟩
    · exact .inl (i1 k (a2 k hk))
    · exact .inl (i2 k hk)
    · rcases hA' a e with ⟨b, hb1, hb2⟩ | q
      · rw [← hb2]; exact .inl (i1 _ (a2 _ (hA b hb1)))
      · exact .inr q
  have up : ∀ k, (H2 k ∨ G2 k ∨ ∃ a, A' = some a ∧ a.block = k) → k < w'.heap.size := fun k hk => by
    rcases hk with hk | hk | ⟨a, e, rfl⟩
    · exact Nat.lt_of_lt_of_le (hlt2 k hk) gs
    · exact Nat.lt_of_lt_of_le (hE2 k hk) gs
    · exact hA2 a e
  refine ⟨⟨F, fun k => G k ∨ k = w.heap.size ∧ k < w'.heap.size, kp.keep hpF gs fun k hf => same k (kp.lt hpF k hf) (fun a e e2 => hd k hf (i1 k (a2 k (by rw [← e2]; exact hA a e)))), ⟨H1, fun k => H2 k ∨ G2 k ∨ ∃ a, A' = some a ∧ a.block = k, kz.keep hz gs fun k hf => same k (kz.lt hz k hf) (fun a e e2 => a4 k hf (by rw [← e2]; exact hA a e)), ⟨_, fun k => K1 k ∨ G2 k, oo, by rw [List.length_append, hl]; rfl, ⟨fun w2 hB h2 => ?_, fun k hk => ?_⟩, fun a e => ⟨.inr (.inr ⟨a, e, rfl⟩), nk a e⟩, fun k hk => ?_, up⟩, fun k hk => .inl (i1 k (a1 k hk)), fun k hk => ?_, fun k hk => ?_, fun k h1 h2 => ?_⟩, hF, fun k hk => ?_, fun k hf hk => ?_⟩, ?_⟩
  · exact InsC.snoc (hE w2 hB fun k hk => (h2 k (.inr hk)).trans (k2 k hk)) xs cs (hK w2 hB fun k hk => (h2 k (.inl hk)).trans (k1 k hk))
  · rcases hk with hk | hk
    · exact Nat.lt_of_lt_of_le (hK2 k hk) gs
    · exact Nat.lt_of_lt_of_le (hE2 k hk) gs
  · rcases hk with hk | hk
    · exact .inl (hi k hk)
    · exact .inr (.inl hk)
  · rcases inG k hk with h | h
    · exact .inl h
    · exact .inr ⟨h, up k hk⟩
  · rcases hk with h | ⟨_, h⟩
    · exact Nat.lt_of_lt_of_le (hlt k h) gs
    · exact h
  · rcases h2 with h2 | h2 | ⟨a, e, rfl⟩
    · exact a4 k h1 h2
    · exact hx k (a1 k h1) h2
    · rcases hA' a e with ⟨b, hb1, hb2⟩ | q
      · exact a4 _ h1 (by rw [← hb2]; exact hA b hb1)
      · have := kz.lt hz _ h1; omega
  · rcases hk with hk | ⟨hk, _⟩
    · exact hG k hk
    · omega
  · rcases hk with hk | ⟨hk, _⟩
    · exact hd k hf hk
    · have := kp.lt hpF k hf; omega
  · exact (Below.refl _ w).grown hg0 hb fun k e => by
      cases A with
      | none => cases e
      | some a =>
        injection e with e
        rw [← e]
        exact hG _ (i1 _ (a2 _ (ha a rfl).1))
theorem pair_ev {W0 w : World} {P Q : Thing} {E : Option Addr} {i d : Nat} {es : List Ev} (hp : Pair W0.heap.size w P (With Q (EvT W0 E i d es))) (hB : Below W0.heap.size W0 w) : RdE w E i d es := by
  obtain ⟨_, _, _, ⟨_, _, _, hr, _⟩, _⟩ := hp
  exact hr.now hB
theorem pair_ins {W0 w : World} {P Q : Thing} {A : Option Addr} {n c : Nat} {xs : List Bat} (hp : Pair W0.heap.size w P (With Q (InT W0 A n c xs))) (hB : Below W0.heap.size W0 w) : RdBs w A n c xs := by
  obtain ⟨_, _, _, ⟨_, _, _, hr, _⟩, _⟩ := hp
  exact hr.rd hB
end Go.Proofs.YtppidbdkejkopaaGreatDoor.WlWalk
namespace Go.Proofs.YtppidbdkejkopaaGreatDoor.WlWalk
open Go.RowKit MemRow Ev NameMath NameWalk EvWalk NumMem DkWalk FrMath BtWalk EcWalk EdWalk
abbrev RnS (W0 : World) (gl g many : Nat) (last : Int) (B : Option Addr) (m c : Nat) (xs : List Bat) : Thing := With (With NoT (InT W0 B m c xs)) (LlT gl g many last)
theorem rnS_keeps (W0 : World) (gl g many : Nat) (last : Int) (B : Option Addr) (m c : Nat) (xs : List Bat) : Keeps (RnS W0 gl g many last B m c xs) := with_keeps (with_keeps noT_keeps (inT_keeps _ _ _ _ _)) (bxT_keeps _ _ _)
abbrev RnQ (W0 : World) (B : Option Addr) (m c : Nat) (xs : List Bat) (E : Option Addr) (i d : Nat) (es : List Ev) (gb : Nat) (a : Int) : Thing := With (With (With NoT (InT W0 B m c xs)) (EvT W0 E i d es)) (BxT gb #[.int .i64 a, .slice E i d] 39)
theorem rnQ_keeps (W0 : World) (B : Option Addr) (m c : Nat) (xs : List Bat) (E : Option Addr) (i d : Nat) (es : List Ev) (gb : Nat) (a : Int) : Keeps (RnQ W0 B m c xs E i d es gb a) := with_keeps (with_keeps (with_keeps noT_keeps (inT_keeps _ _ _ _ _)) (evT_keeps _ _ _ _ _)) (bxT_keeps _ _ _)
section
variable {W0 w w' : World} {P : Thing} {gl g many : Nat} {last : Int} {B E : Option Addr} {m c i d : Nat} {xs : List Bat} {es : List Ev} {gb : Nat} {a : Int}
theorem rn_box (h : Pair W0.heap.size w P (RnS W0 gl g many last B m c xs)) (kp : Keeps P) (hb : W0.heap.size ≤ w.heap.size) (b : Below w.heap.size w w') (o : OwnO W0 w' (w.heap.size + 1 + 1 + 1) E i d es) (a : Int) :
    Pair W0.heap.size (w'.alloc (.cells #[.int .i64 a, .slice E i d] 39)) P (With (RnQ W0 B m c xs E i d es w'.heap.size a) (LlT gl g many last)) ∧ Below W0.heap.size w (w'.alloc (.cells #[.int .i64 a, .slice E i d] 39)) := by
  have k0 := rnS_keeps W0 gl g many last B m c xs
  have p1 := pair_more h kp k0 hb b (evT_of o (w := w) (by omega))
  have hb1 := Nat.le_trans hb b.size
  obtain ⟨p2, b2⟩ := bx_new kp (with_keeps k0 (evT_keeps _ _ _ _ _)) hb1 p1 #[.int .i64 a, .slice E i d] 39
  exact ⟨pair_imp th_mv2 p2, (bel_up hb b).trans (bel_up hb1 b2)⟩
theorem rn_cells (h : Pair W0.heap.size w P (With (RnQ W0 B m c xs E i d es gb a) (LlT gl g many last))) : w.cell? ⟨gb, 0, none⟩ = some (.int .i64 a) ∧ w.cell? ⟨gb, 1, none⟩ = some (.slice E i d) ∧ w.frozen? ⟨gb, 0, none⟩ = false := by
  have hh := pair_bx (pair_first h)
  exact ⟨by rw [cell_of_row w gb 0 _ _ _ hh]; rfl, by rw [cell_of_row w gb 1 _ _ _ hh]; rfl, by simp [World.frozen?, hh]⟩
theorem rn_set (h : Pair W0.heap.size w P (With (RnQ W0 B m c xs E i d es gb a) (LlT gl g many last))) (kp : Keeps P) (z : Int) :
    Pair W0.heap.size (w.setCell ⟨gb, 0, none⟩ (.int .i64 z)) P (With (RnQ W0 B m c xs E i d es gb z) (LlT gl g many last)) ∧ Below W0.heap.size w (w.setCell ⟨gb, 0, none⟩ (.int .i64 z)) := by
  have h1 := pair_place h
  have hh := pair_bx h1
  obtain ⟨p, b⟩ := lg_put (v := .int .i64 z) (i := 0) (cs' := #[.int .i64 z, .slice E i d]) kp (with_keeps (with_keeps (with_keeps noT_keeps (inT_keeps _ _ _ _ _)) (evT_keeps _ _ _ _ _)) (bxT_keeps _ _ _)) h1 (by
    simp only [World.setCell, Array.getElem?_modify, hh]
    rfl)
  exact ⟨pair_place p, b⟩
theorem rn_isb (h : Pair W0.heap.size w P (With (RnQ W0 B m c xs E i d es gb a) (LlT gl g many last))) (hB : Below W0.heap.size W0 w) (z : Int) : IsB w (.agg #[.int .i64 z, .slice E i d]) ⟨z, es⟩ :=
  ⟨_, _, _, rfl, pair_ev (pair_first (pair_first h)) hB⟩
theorem rn_drop (h : Pair W0.heap.size w P (With (RnQ W0 B m c xs E i d es gb a) (LlT gl g many last))) : Pair W0.heap.size w P (RnS W0 gl g many last B m c xs) := pair_imp th_drop (pair_imp th_drop h)
theorem rn_more (h : Pair W0.heap.size w P (With (RnQ W0 B m c xs E i d es gb a) (LlT gl g many last))) (kp : Keeps P) (hb : W0.heap.size ≤ w.heap.size) :
    ∃ cs, OwnC 2 w W0.heap.size 39 B m c cs ∧ xs.length = m ∧ ∀ A' c' w', OwnC 2 w' W0.heap.size 39 A' (m + 1) c' (cs ++ [.int .i64 a, .slice E i d]) → w.grownBy w' (B.map (·.block)) → (A'.map (·.block) = B.map (·.block) ∨ A'.map (·.block) = some w.heap.size) →
      Pair W0.heap.size w' P (RnS W0 gl g many last A' (m + 1) c' (xs ++ [⟨a, es⟩])) ∧ Below W0.heap.size w w' := by
  have h1 : Pair W0.heap.size w P (With (With (With NoT (LlT gl g many last)) (InT W0 B m c xs)) (EvT W0 E i d (⟨a, es⟩ : Bat).es)) := pair_imp (th_left th_place) (pair_place (pair_imp th_drop h))
  obtain ⟨cs, o, hl, hmore⟩ := pair_in (Z := With NoT (LlT gl g many last)) (x := ⟨a, es⟩) h1 kp (with_keeps noT_keeps (bxT_keeps _ _ _)) hb
  refine ⟨cs, o, hl, fun A' c' w' oo hg hA => ?_⟩
  obtain ⟨p, b⟩ := hmore A' c' w' oo hg hA
  exact ⟨pair_place p, b⟩
end
theorem sameBs_true {A B : Option Addr} {n m ca cb : Nat} {xs : List Bat} {w : World} (ha : RdBs w A n ca xs) (hb : RdBs w B m cb xs) :
    Calls Tryz.prog 26 #[.slice A n ca, .slice B m cb] w fun e w' => e = .returned (.bool true) ∧ Below w.heap.size w w' :=
  (refSameBs_any A B n m ca cb xs xs w ha hb).mono fun _ _ ⟨R, hR, he, hb⟩ => by
    obtain rfl : R = true := hR.2 rfl
    exact ⟨he, hb⟩
theorem run_fieldB (a b c d : Int) (v : Value) (w : World) : (Instr.field 41 (.agg #[.int .i64 a, .int .i64 b, .int .i64 c, .int .i64 d, v]) 3).run Tryz.prog w = .ok (.agg #[.int .i64 d, v]) w := by kernel_rfl
theorem few_ok {q : Wop} (h : WopOk q) {z : Int} (hz : 0 ≤ z ∧ z ≤ 1048576) : BOk ⟨z, few6 q.x.es⟩ := ⟨fun e he => by
  obtain ⟨e0, h0, rfl⟩ := List.mem_map.1 he
  exact fewE_ok (h.x.evs e0 (List.mem_of_mem_take h0)), (by show -9223372036854775808 ≤ z; omega), (by show z ≤ 9223372036854775807; omega)⟩
end Go.Proofs.YtppidbdkejkopaaGreatDoor.WlWalk
