/-
  Contract of the document's answer of layer 4: Norm.
-/
import Derived.Deep.RegionWith
import Derived.Deep.RegionHeld
import Derived.Deep.QuietTactic
import Derived.BigQuiet
import Derived.Sort.Walk0
import Derived.Deep.Slices
import Derived.Lib.SmallJoins
import Derived.Maps.AppendAt
import Derived.OwnWalk
import Derived.Deep.DeepCutAuto
import Derived.Deep.CutBlock
import Derived.Test.YtiplfhmimpkplaaGreatMg1
namespace Go.Proofs.YtiplfhmimpkplaaGreat.EvWalk
open Go.RowKit Go.Proofs.YtiplfhmimpkplaaGreat.MemRow Go.Proofs.YtiplfhmimpkplaaGreat.Ev Go.Proofs.YtiplfhmimpkplaaGreat.NameMath Go.Proofs.YtiplfhmimpkplaaGreat.NameWalk

/-- Texts in order, each once. -/
def normTags (ss : List ByteArray) : List ByteArray := ss.foldl putL []
/-- The last field with a name. -/
def lastF (fs : List (ByteArray × Int)) (x : ByteArray) : ByteArray × Int := fs.foldl (fun a f => if f.1 = x then f else a) (ByteArray.empty, 0)
def normFs (fs : List (ByteArray × Int)) : List (ByteArray × Int) := (normTags (fs.map (·.1))).map (lastF fs)
/-- An event in order. -/
def normE (e : Ev) : Ev := ⟨e.s, e.t, normTags e.tags, normFs e.fs⟩

theorem normTags_snoc (l : List ByteArray) (x : ByteArray) : normTags (l ++ [x]) = putL (normTags l) x := by simp [normTags, List.foldl_append]
theorem putL_len (l : List ByteArray) (x : ByteArray) : (putL l x).length ≤ l.length + 1 := by
  induction l with
  | nil => simp [putL]
  | cons a l ih =>
    rw [putL]
    split
    · simpa using ih
    · split <;> simp
theorem normTags_len (l : List ByteArray) : (normTags l).length ≤ l.length := by
  suffices h : ∀ (l m : List ByteArray), (l.foldl putL m).length ≤ m.length + l.length by simpa [normTags] using h l []
  intro l
  induction l with
  | nil => intro m; simp
  | cons a l ih =>
    intro m
    have := ih (putL m a)
    have := putL_len m a
    simp only [List.foldl_cons, List.length_cons]
    omega
theorem lastF_snoc (l : List (ByteArray × Int)) (f : ByteArray × Int) (x : ByteArray) : lastF (l ++ [f]) x = if f.1 = x then f else lastF l x := by simp [lastF, List.foldl_append]

/-- What stands between the steps of Norm: the event that came in, the result's cell, the event that is made. -/
structure NormAt (wr w : World) (s t : ByteArray) (va vb vt vf : Value) : Prop where
  ev : EvAt wr w.heap.size (.string s) (.string t) va vb
  res : EvAt wr (w.heap.size + 1) (.string ⟨#[]⟩) (.string ⟨#[]⟩) (.slice none 0 0) (.slice none 0 0)
  out : EvAt wr (w.heap.size + 1 + 1) (.string s) (.string t) vt vf
  bel : Below w.heap.size w wr

variable {wr w w' : World} {s t : ByteArray} {va vb vt vf : Value}
theorem NormAt.lt (h : NormAt wr w s t va vb vt vf) : w.heap.size + 1 + 1 < wr.heap.size := h.out.lt
theorem NormAt.below (h : NormAt wr w s t va vb vt vf) (hb : Below wr.heap.size wr w') : NormAt w' w s t va vb vt vf :=
  ⟨h.ev.below hb h.ev.lt, h.res.below hb h.res.lt, h.out.below hb h.out.lt, below_chain h.bel hb⟩
theorem NormAt.drew (h : NormAt wr w s t va vb vt vf) : NormAt wr.drew w s t va vb vt vf := ⟨h.ev, h.res, h.out, bel_drew h.bel⟩
theorem NormAt.drewN (h : NormAt wr w s t va vb vt vf) (k : Nat) : NormAt (wr.drewN k) w s t va vb vt vf := ⟨h.ev, h.res, h.out, bel_drewN h.bel k⟩

theorem EvAt.set2 {g : Nat} {v0 v1 v2 v3 : Value} (h : EvAt w g v0 v1 v2 v3) (x : Value) : EvAt (w.setCell ⟨g, 2, none⟩ x) g v0 v1 x v3 := by
  unfold EvAt at h ⊢
  simp only [World.setCell, Array.getElem?_modify, h]
  rfl
theorem EvAt.set3 {g : Nat} {v0 v1 v2 v3 : Value} (h : EvAt w g v0 v1 v2 v3) (x : Value) : EvAt (w.setCell ⟨g, 3, none⟩ x) g v0 v1 v2 x := by
  unfold EvAt at h ⊢
  simp only [World.setCell, Array.getElem?_modify, h]
  rfl
theorem EvAt.far {g b i : Nat} {v0 v1 v2 v3 : Value} (h : EvAt w g v0 v1 v2 v3) (hne : g ≠ b) (x : Value) : EvAt (w.setCell ⟨b, i, none⟩ x) g v0 v1 v2 v3 := by
  unfold EvAt at h ⊢
  simp only [World.setCell, Array.getElem?_modify]
  rw [if_neg (fun e => hne e.symm)]
  exact h
theorem EvAt.frozen {g : Nat} {v0 v1 v2 v3 : Value} (h : EvAt w g v0 v1 v2 v3) (i : Nat) : w.frozen? ⟨g, i, none⟩ = false := by
  unfold EvAt at h
  simp [World.frozen?, h]
theorem NormAt.set2 (h : NormAt wr w s t va vb vt vf) (x : Value) : NormAt (wr.setCell ⟨w.heap.size + 1 + 1, 2, none⟩ x) w s t va vb x vf :=
  ⟨h.ev.far (by omega) x, h.res.far (by omega) x, h.out.set2 x, h.bel.setCell (by show w.heap.size ≤ w.heap.size + 1 + 1; omega) x⟩
theorem NormAt.set3 (h : NormAt wr w s t va vb vt vf) (x : Value) : NormAt (wr.setCell ⟨w.heap.size + 1 + 1, 3, none⟩ x) w s t va vb vt x :=
  ⟨h.ev.far (by omega) x, h.res.far (by omega) x, h.out.set3 x, h.bel.setCell (by show w.heap.size ≤ w.heap.size + 1 + 1; omega) x⟩
theorem NormAt.new (w : World) (s t : ByteArray) (va vb : Value) :
    NormAt (((w.alloc (.cells #[.string s, .string t, va, vb] 42)).alloc (.cells #[.string ⟨#[]⟩, .string ⟨#[]⟩, .slice none 0 0, .slice none 0 0] 42)).alloc (.cells #[.string s, .string t, .slice none 0 0, .slice none 0 0] 42)) w s t va vb (.slice none 0 0) (.slice none 0 0) := by
  have e1 := EvAt.new w (.string s) (.string t) va vb
  generalize hw1 : w.alloc (.cells #[.string s, .string t, va, vb] 42) = w1 at *
  have s1 : w1.heap.size = w.heap.size + 1 := by rw [← hw1]; simp
  have b1 : Below w.heap.size w w1 := by rw [← hw1]; exact (Below.refl _ _).alloc (Nat.le_refl _) _
  have e2 := EvAt.new w1 (.string ⟨#[]⟩) (.string ⟨#[]⟩) (.slice none 0 0) (.slice none 0 0)
  have b2 : Below w1.heap.size w1 (w1.alloc (.cells #[.string ⟨#[]⟩, .string ⟨#[]⟩, .slice none 0 0, .slice none 0 0] 42)) := (Below.refl _ _).alloc (Nat.le_refl _) _
  generalize hw2 : w1.alloc (.cells #[.string ⟨#[]⟩, .string ⟨#[]⟩, .slice none 0 0, .slice none 0 0] 42) = w2 at *
  have s2 : w2.heap.size = w.heap.size + 1 + 1 := by rw [← hw2]; simp [s1]
  have e3 := EvAt.new w2 (.string s) (.string t) (.slice none 0 0) (.slice none 0 0)
  have b3 : Below w2.heap.size w2 (w2.alloc (.cells #[.string s, .string t, .slice none 0 0, .slice none 0 0] 42)) := (Below.refl _ _).alloc (Nat.le_refl _) _
  rw [s1] at e2
  rw [s2] at e3
  exact ⟨(e1.below b2 e1.lt).below b3 (by rw [s2]; omega), e2.below b3 (by rw [s2]; omega), e3, below_chain (below_chain b1 b2) b3⟩

theorem cell_far {b o g i : Nat} {v x : Value} (h : w.cell? ⟨b, o, none⟩ = some v) (hne : b ≠ g) : (w.setCell ⟨g, i, none⟩ x).cell? ⟨b, o, none⟩ = some v := by
  rw [World.cell?_setCell_other _ _ _ _ (fun e => hne (by injection e with e1 e2; exact e1.symm))]
  exact h

/-- A row that no store into the made event's cell touches. -/
theorem RdC.off {k : Nat} {A : Option Addr} {n cap : Nat} {cs : List Value} {g i : Nat} (h : RdC k wr A n cap cs) (hne : ∀ a, A = some a → a.block ≠ g) (x : Value) : RdC k (wr.setCell ⟨g, i, none⟩ x) A n cap cs :=
  h.keep fun b o hA j v hc => by
    rw [World.cell?_setCell_other _ _ _ _ (fun e => hne _ hA (by injection e with e1 e2; exact e1.symm))]
    exact hc

theorem EvAt.grown {row : Option Nat} {g : Nat} {v0 v1 v2 v3 : Value} (h : EvAt w g v0 v1 v2 v3) (hg : w.grownBy w' row) (hne : some g ≠ row) : EvAt w' g v0 v1 v2 v3 := (hg.block g h.lt hne).trans h

theorem field_info : (Tryz.prog.info? 85).map (fun i => (i.zero, i.size, i.bytes)) = some (some (.agg #[.string ⟨#[]⟩, .int .i64 0]), 2, 24) := by kernel_rfl
theorem EvAt.all {g : Nat} {v0 v1 v2 v3 : Value} (h : EvAt w g v0 v1 v2 v3) (x0 x1 x2 x3 : Value) : EvAt ((((w.setCell ⟨g, 0, none⟩ x0).setCell ⟨g, 1, none⟩ x1).setCell ⟨g, 2, none⟩ x2).setCell ⟨g, 3, none⟩ x3) g x0 x1 x2 x3 := by
  unfold EvAt at h ⊢
  simp only [World.setCell, Array.getElem?_modify, h]
  rfl
theorem RdC.all {k : Nat} {A : Option Addr} {n cap : Nat} {cs : List Value} {g : Nat} (h : RdC k wr A n cap cs) (hne : ∀ a, A = some a → a.block ≠ g) (x0 x1 x2 x3 : Value) : RdC k ((((wr.setCell ⟨g, 0, none⟩ x0).setCell ⟨g, 1, none⟩ x1).setCell ⟨g, 2, none⟩ x2).setCell ⟨g, 3, none⟩ x3) A n cap cs :=
  RdC.off (RdC.off (RdC.off (RdC.off h hne x0) hne x1) hne x2) hne x3

/-- A block of the call's own that holds a number with its name. -/
def FldAt (w : World) (g : Nat) (f : ByteArray × Int) : Prop := w.heap[g]? = some (.cells #[.string f.1, .int .i64 f.2] 85 (0, 0))
theorem FldAt.lt {g : Nat} {f : ByteArray × Int} (h : FldAt w g f) : g < w.heap.size := (Array.getElem?_eq_some_iff.1 h).1
theorem FldAt.new (w : World) (f : ByteArray × Int) : FldAt (w.alloc (.cells #[.string f.1, .int .i64 f.2] 85)) w.heap.size f := heap_alloc_new w _
theorem FldAt.c0 {g : Nat} {f : ByteArray × Int} (h : FldAt w g f) : w.cell? ⟨g, 0, none⟩ = some (.string f.1) := by rw [cell_of_row w g 0 _ _ _ h]; rfl
theorem FldAt.c1 {g : Nat} {f : ByteArray × Int} (h : FldAt w g f) : w.cell? ⟨g, 1, none⟩ = some (.int .i64 f.2) := by rw [cell_of_row w g 1 _ _ _ h]; rfl
theorem FldAt.frozen {g : Nat} {f : ByteArray × Int} (h : FldAt w g f) (i : Nat) : w.frozen? ⟨g, i, none⟩ = false := by
  unfold FldAt at h
  simp [World.frozen?, h]

/-- What stands at the head of a round of Norm's last loop. -/
structure OutAt (wr w w4 : World) (s t : ByteArray) (va vb : Value) (T : Option Addr) (nT cT : Nat) (N : Option Addr) (nN cN : Nat) (F : Option Addr) (k cF : Nat) (tg ns : List ByteArray) (fs : List (ByteArray × Int)) : Prop where
  st : NormAt wr w s t va vb (.slice T nT cT) (.slice F k cF)
  own : OwnC 2 wr w4.heap.size 85 F k cF (flds fs)
  T : RdS wr T nT cT tg
  N : RdS wr N nN cN ns
  big : w4.heap.size ≤ wr.heap.size

theorem OutAt.below {w4 : World} {va vb : Value} {T N F : Option Addr} {nT cT nN cN k cF : Nat} {tg ns : List ByteArray} {fs : List (ByteArray × Int)} (h : OutAt wr w w4 s t va vb T nT cT N nN cN F k cF tg ns fs) (hb : Below wr.heap.size wr w') : OutAt w' w w4 s t va vb T nT cT N nN cN F k cF tg ns fs :=
  ⟨h.st.below hb, OwnC.below h.own hb, RdC.below h.T hb, RdC.below h.N hb, Nat.le_trans h.big hb.size⟩
theorem OutAt.drewN {w4 : World} {va vb : Value} {T N F : Option Addr} {nT cT nN cN k cF : Nat} {tg ns : List ByteArray} {fs : List (ByteArray × Int)} (h : OutAt wr w w4 s t va vb T nT cT N nN cN F k cF tg ns fs) (q : Nat) : OutAt (wr.drewN q) w w4 s t va vb T nT cT N nN cN F k cF tg ns fs :=
  ⟨h.st.drewN q, h.own, h.T, h.N, h.big⟩

/-- A store into a younger block of the call's own. -/
theorem OutAt.far {w4 : World} {va vb : Value} {T N F : Option Addr} {nT cT nN cN k cF : Nat} {tg ns : List ByteArray} {fs : List (ByteArray × Int)} (h : OutAt wr w w4 s t va vb T nT cT N nN cN F k cF tg ns fs)
    (hTl : 0 < nT → ∀ a, T = some a → a.block < w4.heap.size) (hNl : 0 < nN → ∀ a, N = some a → a.block < w4.heap.size) (L4 : w.heap.size + 1 + 1 < w4.heap.size)
    {g : Nat} (hg : w4.heap.size ≤ g) (hF : ∀ a, F = some a → a.block < g) (i : Nat) (x : Value) : OutAt (wr.setCell ⟨g, i, none⟩ x) w w4 s t va vb T nT cT N nN cN F k cF tg ns fs := by
  refine ⟨⟨h.st.ev.far (by omega) x, h.st.res.far (by omega) x, h.st.out.far (by omega) x, h.st.bel.setCell (by show w.heap.size ≤ g; omega) x⟩, ?_, ?_, ?_, ?_⟩
  · rcases h.own.2 with ⟨hv, hn⟩ | ⟨g', c, cur, hv, hb, hgg, rest⟩
    · exact ⟨h.own.1, .inl ⟨hv, hn⟩⟩
    · refine ⟨h.own.1, .inr ⟨g', c, cur, hv, hb, ?_, rest⟩⟩
      injection hv with e1 e2 e3
      have := hF _ e1
      simp only [World.setCell, Array.getElem?_modify]
      rw [if_neg (by simp only at this; omega)]
      exact hgg
  · exact RdC.keepN h.T fun h0 b o e j v hc => cell_far hc (by have : b < w4.heap.size := hTl h0 ⟨b, o, none⟩ e; omega)
  · exact RdC.keepN h.N fun h0 b o e j v hc => cell_far hc (by have : b < w4.heap.size := hNl h0 ⟨b, o, none⟩ e; omega)
  · have := h.big
    simpa [World.setCell] using this
theorem FldAt.set {g : Nat} {f : ByteArray × Int} (h : FldAt w g f) (xn : ByteArray) (xz : Int) : FldAt ((w.setCell ⟨g, 0, none⟩ (.string xn)).setCell ⟨g, 1, none⟩ (.int .i64 xz)) g (xn, xz) := by
  unfold FldAt at h ⊢
  simp only [World.setCell, Array.getElem?_modify, h]
  rfl

/-- Behind the append, and the store into the made event. -/
theorem OutAt.next {w4 : World} {va vb : Value} {T N F F' : Option Addr} {nT cT nN cN k cF cF' : Nat} {tg ns : List ByteArray} {fs fs' : List (ByteArray × Int)} (h : OutAt wr w w4 s t va vb T nT cT N nN cN F k cF tg ns fs)
    (hTl : 0 < nT → ∀ a, T = some a → a.block < w4.heap.size) (hNl : 0 < nN → ∀ a, N = some a → a.block < w4.heap.size) (hTf : ∀ a, T = some a → w.heap.size + 3 ≤ a.block) (hNf : ∀ a, N = some a → w.heap.size + 3 ≤ a.block) (L4 : w.heap.size + 1 + 1 < w4.heap.size)
    (ho : OwnC 2 w' w4.heap.size 85 F' (k + 1) cF' (flds fs')) (hg : wr.grownBy w' (F.map (·.block))) :
    w'.frozen? ⟨w.heap.size + 1 + 1, 3, none⟩ = false ∧ w'.cell? ⟨w.heap.size + 1 + 1, 3, none⟩ = some (.slice F k cF) ∧
    OutAt (w'.setCell ⟨w.heap.size + 1 + 1, 3, none⟩ (.slice F' (k + 1) cF')) w w4 s t va vb T nT cT N nN cN F' (k + 1) cF' tg ns fs' := by
  have hF : ∀ g, g < w4.heap.size → some g ≠ F.map (·.block) := by
    intro g hlt e
    cases F with
    | none => simp at e
    | some a =>
      simp only [Option.map_some, Option.some.injEq] at e
      have := (OwnC.lt h.own a rfl).1
      omega
  have s1 : NormAt w' w s t va vb (.slice T nT cT) (.slice F k cF) :=
    ⟨h.st.ev.grown hg (hF _ (by omega)), h.st.res.grown hg (hF _ (by omega)), h.st.out.grown hg (hF _ L4), h.st.bel.grown hg h.st.bel.size (fun g hg' => by
      cases F with
      | none => simp at hg'
      | some a =>
        simp only [Option.map_some, Option.some.injEq] at hg'
        have := (OwnC.lt h.own a rfl).1
        omega)⟩
  have t1 : RdS w' T nT cT tg := RdC.keepN h.T fun h0 b o e i v hc => hg.cell hc (hF _ (hTl h0 ⟨b, o, none⟩ e))
  have n1 : RdS w' N nN cN ns := RdC.keepN h.N fun h0 b o e i v hc => hg.cell hc (hF _ (hNl h0 ⟨b, o, none⟩ e))
  refine ⟨s1.out.frozen 3, s1.out.c3, s1.set3 _, ?_, ?_, ?_, ?_⟩
  · rcases ho.2 with ⟨hv, hn⟩ | ⟨g, c, cur, hv, hb, hgg, rest⟩
    · exact ⟨ho.1, .inl ⟨hv, hn⟩⟩
    · refine ⟨ho.1, .inr ⟨g, c, cur, hv, hb, ?_, rest⟩⟩
      simp only [World.setCell, Array.getElem?_modify]
      rw [if_neg (by omega)]
      exact hgg
  · exact RdC.keepN t1 fun h0 b o e i v hc => cell_far hc (by have : w.heap.size + 3 ≤ b := hTf ⟨b, o, none⟩ e; omega)
  · exact RdC.keepN n1 fun h0 b o e i v hc => cell_far hc (by have : w.heap.size + 3 ≤ b := hNf ⟨b, o, none⟩ e; omega)
  · have := hg.size
    have := h.big
    show w4.heap.size ≤ (w'.setCell _ _).heap.size
    simp [World.setCell]
    omega



end Go.Proofs.YtiplfhmimpkplaaGreat.EvWalk

/-
  Contracts of the document's answers of layer 6: clause, Match.
-/
namespace Go.Proofs.YtiplfhmimpkplaaGreat.QuWalk
open Go.RowKit Go.Proofs.YtiplfhmimpkplaaGreat.MemRow Go.Proofs.YtiplfhmimpkplaaGreat.Ev Go.Proofs.YtiplfhmimpkplaaGreat.NameMath Go.Proofs.YtiplfhmimpkplaaGreat.NameWalk Go.Proofs.YtiplfhmimpkplaaGreat.EvWalk Go.Proofs.YtiplfhmimpkplaaGreat.Qu

/-- Whether a clause is true of an event. -/
def clauseB (c : Cl) (e : Ev) : Bool := c.tags.all (fun x => hasB e.tags x) && (decide (c.types = []) || hasB c.types e.t)
/-- Whether an event is asked for. -/
def matchQ (q : List Cl) (e : Ev) : Bool := q.any fun c => clauseB c e

/-- A block that holds a clause, and one that holds a query. -/
def ClAt (w : World) (g : Nat) (v0 v1 : Value) : Prop := w.heap[g]? = some (.cells #[v0, v1] 87 (0, 0))
theorem ClAt.new (w : World) (v0 v1 : Value) : ClAt (w.alloc (.cells #[v0, v1] 87)) w.heap.size v0 v1 := heap_alloc_new w _
theorem ClAt.lt {w : World} {g : Nat} {v0 v1 : Value} (h : ClAt w g v0 v1) : g < w.heap.size := (Array.getElem?_eq_some_iff.1 h).1
theorem ClAt.below {w w' : World} {g : Nat} {v0 v1 : Value} (h : ClAt w g v0 v1) (hb : Below w.heap.size w w') : ClAt w' g v0 v1 := (hb.block g h.lt).trans h
theorem ClAt.c0 {w : World} {g : Nat} {v0 v1 : Value} (h : ClAt w g v0 v1) : w.cell? ⟨g, 0, none⟩ = some v0 := by rw [cell_of_row w g 0 _ _ _ h]; rfl
theorem ClAt.c1 {w : World} {g : Nat} {v0 v1 : Value} (h : ClAt w g v0 v1) : w.cell? ⟨g, 1, none⟩ = some v1 := by rw [cell_of_row w g 1 _ _ _ h]; rfl
theorem ClAt.frozen {w : World} {g : Nat} {v0 v1 : Value} (h : ClAt w g v0 v1) (i : Nat) : w.frozen? ⟨g, i, none⟩ = false := by
  unfold ClAt at h
  simp [World.frozen?, h]
theorem ClAt.grown {w w' : World} {row : Option Nat} {g : Nat} {v0 v1 : Value} (h : ClAt w g v0 v1) (hg : w.grownBy w' row) (hne : some g ≠ row) : ClAt w' g v0 v1 := (hg.block g h.lt hne).trans h
def QAt (w : World) (g : Nat) (v0 : Value) : Prop := w.heap[g]? = some (.cells #[v0] 25 (0, 0))
theorem QAt.new (w : World) (v0 : Value) : QAt (w.alloc (.cells #[v0] 25)) w.heap.size v0 := heap_alloc_new w _
theorem QAt.lt {w : World} {g : Nat} {v0 : Value} (h : QAt w g v0) : g < w.heap.size := (Array.getElem?_eq_some_iff.1 h).1
theorem QAt.below {w w' : World} {g : Nat} {v0 : Value} (h : QAt w g v0) (hb : Below w.heap.size w w') : QAt w' g v0 := (hb.block g h.lt).trans h
theorem QAt.c0 {w : World} {g : Nat} {v0 : Value} (h : QAt w g v0) : w.cell? ⟨g, 0, none⟩ = some v0 := by rw [cell_of_row w g 0 _ _ _ h]; rfl
theorem QAt.frozen {w : World} {g : Nat} {v0 : Value} (h : QAt w g v0) (i : Nat) : w.frozen? ⟨g, i, none⟩ = false := by
  unfold QAt at h
  simp [World.frozen?, h]
theorem QAt.grown {w w' : World} {row : Option Nat} {g : Nat} {v0 : Value} (h : QAt w g v0) (hg : w.grownBy w' row) (hne : some g ≠ row) : QAt w' g v0 := (hg.block g h.lt hne).trans h

/-- The boxes of a clause (or a query) and an event. -/
structure CeAt (wr w : World) (c0 c1 e0 e1 e2 e3 : Value) : Prop where
  ec : ClAt wr w.heap.size c0 c1
  ee : EvAt wr (w.heap.size + 1) e0 e1 e2 e3
  bel : Below w.heap.size w wr
section
variable {wr w w' : World} {c0 c1 e0 e1 e2 e3 : Value}
theorem CeAt.below (h : CeAt wr w c0 c1 e0 e1 e2 e3) (hb : Below wr.heap.size wr w') : CeAt w' w c0 c1 e0 e1 e2 e3 := ⟨h.ec.below hb, h.ee.below hb h.ee.lt, below_chain h.bel hb⟩
theorem CeAt.drew (h : CeAt wr w c0 c1 e0 e1 e2 e3) : CeAt wr.drew w c0 c1 e0 e1 e2 e3 := ⟨h.ec, h.ee, bel_drew h.bel⟩
theorem CeAt.drewN (h : CeAt wr w c0 c1 e0 e1 e2 e3) (k : Nat) : CeAt (wr.drewN k) w c0 c1 e0 e1 e2 e3 := ⟨h.ec, h.ee, bel_drewN h.bel k⟩
theorem CeAt.new (w : World) (c0 c1 e0 e1 e2 e3 : Value) : CeAt ((w.alloc (.cells #[c0, c1] 87)).alloc (.cells #[e0, e1, e2, e3] 42)) w c0 c1 e0 e1 e2 e3 := by
  have a1 := ClAt.new w c0 c1
  have b1 : Below w.heap.size w (w.alloc (.cells #[c0, c1] 87)) := (Below.refl _ _).alloc (Nat.le_refl _) _
  generalize hw1 : w.alloc (.cells #[c0, c1] 87) = w1 at *
  have s1 : w1.heap.size = w.heap.size + 1 := by rw [← hw1]; simp
  have a2 := EvAt.new w1 e0 e1 e2 e3
  have b2 : Below w1.heap.size w1 (w1.alloc (.cells #[e0, e1, e2, e3] 42)) := (Below.refl _ _).alloc (Nat.le_refl _) _
  rw [s1] at a2
  exact ⟨a1.below b2, a2, below_chain b1 b2⟩
end

theorem all_snoc (l : List ByteArray) (p : ByteArray → Bool) (j : Nat) (h : j < l.length) : (l.take (j + 1)).all p = ((l.take j).all p && p (l.getD j ByteArray.empty)) := by
  rw [List.take_succ_eq_append_getElem h, List.all_append]
  simp [List.getD, List.getElem?_eq_getElem h]
theorem all_miss (l : List ByteArray) (p : ByteArray → Bool) (j : Nat) (h : j < l.length) (hp : p (l.getD j ByteArray.empty) = false) : l.all p = false := by
  cases ha : l.all p with
  | false => rfl
  | true =>
    rw [List.all_eq_true] at ha
    have := ha (l.getD j ByteArray.empty) (by simp only [List.getD, List.getElem?_eq_getElem h, Option.getD_some]; exact List.getElem_mem h)
    rw [hp] at this
    cases this
theorem cl_get {l : List Cl} {j : Nat} (h : j < l.length) : l.getD j noCl ∈ l := by
  simp only [List.getD, List.getElem?_eq_getElem h, Option.getD_some]
  exact List.getElem_mem h
theorem cl_take (l : List Cl) (j : Nat) (h : j < l.length) : l.take (j + 1) = l.take j ++ [l.getD j noCl] := by
  rw [List.take_succ_eq_append_getElem h]
  simp [List.getD, List.getElem?_eq_getElem h]

set_option maxHeartbeats 8000000 in
set_option maxRecDepth 100000 in
theorem refClause_any (v u : Value) (c : Cl) (ev : Ev) (w : World) (hv : IsCl w v c) (hu : IsEv w u ev) :
    Calls Tryz.prog 65 #[v, u] w fun e w' => e = .returned (.bool (clauseB c ev)) ∧ Below w.heap.size w w' := by
  have hu0 := hu
  obtain ⟨T, nT, cT, Y, nY, cY, rfl, rT, rY⟩ := hv
  obtain ⟨A, nA, cA, B, nB, cB, rfl, _, _⟩ := hu
  generalize hR : clauseB c ev = R
  have HR := Go.Lib.hid hR
  have LT := Go.Lib.hid rT.len
  have LY := Go.Lib.hid rY.len
  have hnT := RdC.le rT
  have hnY := RdC.le rY
  unfold maxLen at hnT hnY
  clear hR
  have s1 := CeAt.new w (.slice T nT cT) (.slice Y nY cY) (.string ev.s) (.string ev.t) (.slice A nA cA) (.slice B nB cB)
  go_enter Tryz.func65, Tryz.ntmps65
  go_wp2_with fail
  generalize (w.alloc (.cells #[.slice T nT cT, .slice Y nY cY] 87)).alloc (.cells #[.string ev.s, .string ev.t, .slice A nA cA, .slice B nB cB] 42) = w1 at *
  go_loopw [5, 6] (fun i _ wr => ∃ j : Nat, j ≤ nT ∧ i = .int .i64 j ∧ Hid ((c.tags.take j).all (fun x => hasB ev.tags x) = true) ∧ CeAt wr w (.slice T nT cT) (.slice Y nY cY) (.string ev.s) (.string ev.t) (.slice A nA cA) (.slice B nB cB)) (fun i _ _ => nT - (intOf i).toNat)
  case atStart => exact ⟨0, Nat.zero_le _, rfl, Go.Lib.hid (by simp), s1⟩
  case round =>
    obtain ⟨j, hj, rfl, HQ, sr⟩ := hrel
    clear s1
    have k0 := sr.ec.c0
    have k1 := sr.ec.c1
    by_cases hlt : j < nT
    · obtain ⟨bt, ot, rfl, _, kt⟩ := RdS.at_ (RdC.below rT sr.bel) (by omega)
      have ka := kt j hlt
      have i1 : (j : Int) < nT := by omega
      have hjl : j < c.tags.length := by rw [LT.out]; exact hlt
      have HS := Go.Lib.hid (all_snoc c.tags (fun x => hasB ev.tags x) j hjl)
      have HM := Go.Lib.hid (all_miss c.tags (fun x => hasB ev.tags x) j hjl)
      clear kt hjl
      generalize c.tags.getD j ByteArray.empty = x at *
      have j0 := sr.ee.c0
      have j1 := sr.ee.c1
      have j2 := sr.ee.c2
      have j3 := sr.ee.c3
      have b0 : Below wr.heap.size wr wr.drew := bel_drew (Below.refl _ _)
      have sd := sr.drew
      have hud := hu0.below sd.bel
      generalize hH : hasB ev.tags x = Hh at *
      have HH := Go.Lib.hid hH
      clear hH
      go_wp2_with fail
      go_region_held (fun w' => w'.cell? ⟨w.heap.size + 1, 0, none⟩ = some (.string ev.s) ∧ w'.cell? ⟨w.heap.size + 1, 1, none⟩ = some (.string ev.t) ∧ w'.cell? ⟨w.heap.size + 1, 2, none⟩ = some (.slice A nA cA) ∧ w'.cell? ⟨w.heap.size + 1, 3, none⟩ = some (.slice B nB cB) ∧ w'.cell? ⟨w.heap.size, 0, none⟩ = some (.slice (some ⟨bt, ot, none⟩) nT cT) ∧ w'.cell? ⟨bt, ot + j, none⟩ = some (.string x))
        (first | exact ⟨j0, j1, j2, j3, k0, ka⟩ | exact ⟨bcell b9 j0, bcell b9 j1, bcell b9 j2, bcell b9 j3, bcell b9 k0, bcell b9 ka⟩)
        (first | (go_at_call 91; refine (refHas_any _ ev x _ hud).mono ?_; rintro e w9 ⟨rfl, bb⟩; rw [HH.out]; have b9 := below_chain b0 bb; clear bb))
      have s9 := sr.below b9
      clear k0 k1 j0 j1 j2 j3 ka b0 sd hud sr b9
      cases Hh with
      | true =>
        have hq2 : (c.tags.take (j + 1)).all (fun x => hasB ev.tags x) = true := HS.out.trans (by simp [HQ.out])
        have HQ2 := Go.Lib.hid hq2
        clear hq2
        go_wp2_with fail
        go_roundw
        case rel => exact ⟨j + 1, by omega, by go_num, HQ2, s9⟩
        case measure => simp [intOf]; omega
      | false =>
        have hR : R = false := by
          rw [← HR.out]
          unfold clauseB
          rw [HM.out rfl]
          rfl
        subst hR
        have B9 := s9.bel
        go_wp2_with fail
        go_ret
        exact ⟨rfl, B9⟩
    · obtain rfl : nT = j := by omega
      have hq2 : c.tags.all (fun x => hasB ev.tags x) = true := by
        have h := HQ.out
        rwa [List.take_of_length_le (by rw [LT.out]; exact Nat.le_refl _)] at h
      have HQ2 := Go.Lib.hid hq2
      clear hq2 HQ
      go_wp2_with fail
      go_loopw [7] (fun i wq => ∃ k : Nat, k ≤ nY ∧ i = .int .i64 k ∧ Hid ((c.types.take k).any (fun y => decide (y = ev.t)) = false) ∧ CeAt wq w (.slice T nT cT) (.slice Y nY cY) (.string ev.s) (.string ev.t) (.slice A nA cA) (.slice B nB cB)) (fun i _ => nY - (intOf i).toNat)
      case atStart => exact ⟨0, Nat.zero_le _, rfl, Go.Lib.hid (by simp), sr⟩
      case round =>
        obtain ⟨k, hk, rfl, HQ, sq⟩ := hrel
        clear k0 k1 sr
        have k1 := sq.ec.c1
        by_cases hlt : k < nY
        · obtain ⟨bt, ot, rfl, _, kt⟩ := RdS.at_ (RdC.below rY sq.bel) (by omega)
          have ka := kt k hlt
          have i1 : (k : Int) < nY := by omega
          have hjl : k < c.types.length := by rw [LY.out]; exact hlt
          have hy := take_get c.types k hjl
          have HY := Go.Lib.hid hy
          have HMem := Go.Lib.hid (mem_getD c.types k hjl)
          clear kt hjl hy
          generalize c.types.getD k ByteArray.empty = y at *
          have j1 := sq.ee.c1
          by_cases hyt : y = ev.t
          · subst hyt
            have hR : R = true := by
              rw [← HR.out]
              unfold clauseB
              rw [HQ2.out, hasB_mem.2 HMem.out, Bool.or_true]
              rfl
            subst hR
            have B9 := sq.bel
            go_wp2_with fail
            go_quiet (fail)
            go_wp2_with fail
            go_ret
            exact ⟨rfl, bel_drewN B9 _⟩
          · have hne := str_ne hyt
            have hq3 : (c.types.take (k + 1)).any (fun y => decide (y = ev.t)) = false := by
              rw [HY.out, List.any_append, HQ.out]
              simp [hyt]
            have HQ3 := Go.Lib.hid hq3
            clear hq3 hyt
            go_wp2_with fail
            go_quiet (fail)
            go_wp2_with fail
            go_roundw
            case rel => exact ⟨k + 1, by omega, by go_num, HQ3, sq.drewN _⟩
            case measure => simp [intOf]; omega
        · obtain rfl : nY = k := by omega
          have hno : hasB c.types ev.t = false := by
            have h := HQ.out
            rwa [List.take_of_length_le (by rw [LY.out]; exact Nat.le_refl _)] at h
          have hR : R = decide (nY = 0) := by
            rw [← HR.out]
            unfold clauseB
            rw [HQ2.out, hno, Bool.or_false, Bool.true_and]
            by_cases h0 : nY = 0
            · have h1 : c.types = [] := List.eq_nil_of_length_eq_zero (by rw [LY.out]; exact h0)
              rw [decide_eq_true h0, decide_eq_true h1]
            · have h1 : ¬ c.types = [] := fun h => h0 (by rw [← LY.out, h]; rfl)
              rw [decide_eq_false h0, decide_eq_false h1]
          have HRR := Go.Lib.hid hR
          clear hR hno
          have B9 := sq.bel
          by_cases h0 : nY = 0
          · subst h0
            obtain rfl : R = true := by rw [HRR.out]; rfl
            go_wp2_with fail
            go_ret
            exact ⟨rfl, B9⟩
          · obtain rfl : R = false := by rw [HRR.out]; exact decide_eq_false h0
            have h1 : ((nY : Int) == 0) = false := by rw [beq_eq_false_iff_ne]; omega
            go_wp2_with fail
            go_ret
            exact ⟨rfl, B9⟩

end Go.Proofs.YtiplfhmimpkplaaGreat.QuWalk

/-
  Mathematics of layer 4: the order of texts, what is put in order, events that may be. No walk here.
-/
namespace Go.Proofs.YtiplfhmimpkplaaGreat.EvWalk
open Go.RowKit Go.Proofs.YtiplfhmimpkplaaGreat.MemRow Go.Proofs.YtiplfhmimpkplaaGreat.Ev Go.Proofs.YtiplfhmimpkplaaGreat.NameMath Go.Proofs.YtiplfhmimpkplaaGreat.NameWalk

theorem less_eq (a b : ByteArray) : less a b = decide (a.data.toList < b.data.toList) := by
  unfold less
  rw [Go.Proofs.bytesLess_eq, ByteArray.toList_eq, ByteArray.toList_eq]
theorem less_irrefl (a : ByteArray) : less a a = false := by
  rw [less_eq]
  exact decide_eq_false (List.lt_irrefl _)
theorem less_trans {a b c : ByteArray} (h1 : less a b = true) (h2 : less b c = true) : less a c = true := by
  rw [less_eq] at *
  exact decide_eq_true (List.lt_trans (of_decide_eq_true h1) (of_decide_eq_true h2))
theorem less_tri {a b : ByteArray} (h1 : less a b = false) (h2 : a ≠ b) : less b a = true := by
  rw [less_eq] at *
  refine decide_eq_true ?_
  have h3 : ¬ a.data.toList < b.data.toList := of_decide_eq_false h1
  rcases List.le_iff_lt_or_eq.1 (List.not_lt.1 h3) with h | h
  · exact h
  · exact absurd (ba_ext h.symm) h2
theorem less_ne {a b : ByteArray} (h : less a b = true) : a ≠ b := by
  rintro rfl
  rw [less_irrefl] at h
  cases h

/-- Each text is ahead of all behind it. -/
def Up (l : List ByteArray) : Prop := l.Pairwise fun a b => less a b = true

theorem rise_up : ∀ (l : List ByteArray), riseB l = true ↔ Up l
  | [] => by simp [riseB, Up]
  | [a] => by simp [riseB, Up]
  | a :: b :: l => by
    have ih := rise_up (b :: l)
    unfold Up at ih ⊢
    rw [riseB, Bool.and_eq_true, ih]
    constructor
    · rintro ⟨h1, h2⟩
      refine List.pairwise_cons.2 ⟨fun x hx => ?_, h2⟩
      rcases List.mem_cons.1 hx with rfl | hx
      · exact h1
      · exact less_trans h1 ((List.pairwise_cons.1 h2).1 x hx)
    · intro h
      have h3 := List.pairwise_cons.1 h
      exact ⟨h3.1 b (by simp), h3.2⟩

theorem putL_mem (l : List ByteArray) (s x : ByteArray) : x ∈ putL l s ↔ x = s ∨ x ∈ l := by
  induction l with
  | nil => simp [putL]
  | cons a l ih =>
    rw [putL]
    split
    · rw [List.mem_cons, ih, List.mem_cons]
      constructor
      · rintro (h | h | h) <;> simp [h]
      · rintro (h | h | h) <;> simp [h]
    · split
      · next h => subst h; simp
      · simp

theorem putL_up {l : List ByteArray} (h : Up l) (s : ByteArray) : Up (putL l s) := by
  induction l with
  | nil => simp [putL, Up]
  | cons a l ih =>
    have h1 := List.pairwise_cons.1 h
    rw [putL]
    split
    · next hl =>
      refine List.pairwise_cons.2 ⟨fun x hx => ?_, ih h1.2⟩
      rcases (putL_mem l s x).1 hx with rfl | hx
      · exact hl
      · exact h1.1 x hx
    · next hl =>
      split
      · exact h
      · next hne =>
        have hs : less s a = true := less_tri (by simpa using hl) hne
        refine List.pairwise_cons.2 ⟨fun x hx => ?_, h⟩
        rcases List.mem_cons.1 hx with rfl | hx
        · exact hs
        · exact less_trans hs (h1.1 x hx)

theorem foldl_up (l m : List ByteArray) (h : Up m) : Up (l.foldl putL m) := by
  induction l generalizing m with
  | nil => exact h
  | cons a l ih => exact ih _ (putL_up h a)
theorem normTags_up (l : List ByteArray) : Up (normTags l) := foldl_up l [] (by simp [Up])
theorem foldl_mem (l m : List ByteArray) (x : ByteArray) : x ∈ l.foldl putL m ↔ x ∈ l ∨ x ∈ m := by
  induction l generalizing m with
  | nil => simp
  | cons a l ih =>
    rw [List.foldl_cons, ih, putL_mem, List.mem_cons]
    constructor
    · rintro (h | h | h) <;> simp [h]
    · rintro ((h | h) | h) <;> simp [h]
theorem normTags_mem (l : List ByteArray) (x : ByteArray) : x ∈ normTags l ↔ x ∈ l := by
  unfold normTags
  rw [foldl_mem]
  simp

/-- Texts in order that have the same elements are the same. -/
theorem up_ext : ∀ {l m : List ByteArray}, Up l → Up m → (∀ x, x ∈ l ↔ x ∈ m) → l = m
  | [], [], _, _, _ => rfl
  | [], b :: m, _, _, h => by have := (h b).2 (by simp); simp at this
  | a :: l, [], _, _, h => by have := (h a).1 (by simp); simp at this
  | a :: l, b :: m, hl, hm, h => by
    have hl1 := List.pairwise_cons.1 hl
    have hm1 := List.pairwise_cons.1 hm
    have hab : a = b := by
      by_cases e : a = b
      · exact e
      · have h1 : b ∈ l := by
          rcases List.mem_cons.1 ((h b).2 (by simp)) with e2 | h2
          · exact absurd e2.symm e
          · exact h2
        have h2 : a ∈ m := by
          rcases List.mem_cons.1 ((h a).1 (by simp)) with e2 | h2
          · exact absurd e2 e
          · exact h2
        have h3 := less_trans (hl1.1 b h1) (hm1.1 a h2)
        rw [less_irrefl] at h3
        cases h3
    subst hab
    congr 1
    refine up_ext hl1.2 hm1.2 fun x => ?_
    have hx := h x
    simp only [List.mem_cons] at hx
    constructor
    · intro hxl
      rcases hx.1 (.inr hxl) with e | h4
      · subst e
        have := hl1.1 x hxl
        rw [less_irrefl] at this
        cases this
      · exact h4
    · intro hxm
      rcases hx.2 (.inr hxm) with e | h4
      · subst e
        have := hm1.1 x hxm
        rw [less_irrefl] at this
        cases this
      · exact h4

/-- What is in order stays so. -/
theorem normTags_self {l : List ByteArray} (h : Up l) : normTags l = l := up_ext (normTags_up l) h (normTags_mem l)
theorem normTags_same {l m : List ByteArray} (h : ∀ x, x ∈ l ↔ x ∈ m) : normTags l = normTags m :=
  up_ext (normTags_up l) (normTags_up m) fun x => by rw [normTags_mem, normTags_mem, h]

theorem up_sub {l m : List ByteArray} (h : Up m) (hs : l.Sublist m) : Up l := List.Pairwise.sublist hs h

/-! ### Fields -/
theorem lastF_name (fs : List (ByteArray × Int)) (x : ByteArray) (h : x ∈ fs.map (·.1)) : (lastF fs x).1 = x := by
  suffices g : ∀ (fs : List (ByteArray × Int)) (a : ByteArray × Int), (a.1 = x ∨ x ∈ fs.map (·.1)) → (fs.foldl (fun a f => if f.1 = x then f else a) a).1 = x from g fs _ (.inr h)
  intro fs
  induction fs with
  | nil =>
    rintro a (h | h)
    · exact h
    · simp at h
  | cons f fs ih =>
    intro a h
    rw [List.foldl_cons]
    by_cases e : f.1 = x
    · rw [if_pos e]
      exact ih f (.inl e)
    · rw [if_neg e]
      refine ih a ?_
      rcases h with h | h
      · exact .inl h
      · right
        simp only [List.map_cons, List.mem_cons] at h
        rcases h with h | h
        · exact absurd h.symm e
        · exact h
theorem normFs_names (fs : List (ByteArray × Int)) : (normFs fs).map (·.1) = normTags (fs.map (·.1)) := by
  unfold normFs
  rw [List.map_map]
  conv => rhs; rw [← List.map_id (normTags (fs.map (·.1)))]
  refine List.map_congr_left fun x hx => ?_
  exact lastF_name fs x ((normTags_mem _ x).1 hx)

/-- With names in order each field is the last one with its name. -/
theorem lastF_self {fs : List (ByteArray × Int)} (h : Up (fs.map (·.1))) : (fs.map (·.1)).map (lastF fs) = fs := by
  suffices g : ∀ (pre fs : List (ByteArray × Int)), Up ((pre ++ fs).map (·.1)) → (fs.map (·.1)).map (lastF (pre ++ fs)) = fs by simpa using g [] fs (by simpa using h)
  intro pre fs
  induction fs generalizing pre with
  | nil => intro _; rfl
  | cons f fs ih =>
    intro hu
    have e : pre ++ f :: fs = (pre ++ [f]) ++ fs := by simp
    have h1 := ih (pre ++ [f]) (by rw [← e]; exact hu)
    rw [← e] at h1
    rw [List.map_cons, List.map_cons, h1]
    congr 1
    have hn : ∀ g ∈ fs, g.1 ≠ f.1 := by
      intro g hg
      have h2 : Up ((f :: fs).map (·.1)) := up_sub hu (by simp)
      have h3 := (List.pairwise_cons.1 h2).1 g.1 (List.mem_map_of_mem hg)
      exact fun e => less_ne h3 e.symm
    have hk : ∀ (l : List (ByteArray × Int)) (a : ByteArray × Int), (∀ g ∈ l, g.1 ≠ f.1) → l.foldl (fun a g => if g.1 = f.1 then g else a) a = a := by
      intro l
      induction l with
      | nil => intro a _; rfl
      | cons g l ih2 =>
        intro a hl
        rw [List.foldl_cons, if_neg (hl g (by simp))]
        exact ih2 a fun g hg => hl g (by simp [hg])
    unfold lastF
    rw [List.foldl_append, List.foldl_cons, if_pos rfl]
    exact hk fs f hn
theorem normFs_self {fs : List (ByteArray × Int)} (h : Up (fs.map (·.1))) : normFs fs = fs := by
  unfold normFs
  rw [normTags_self h, lastF_self h]
theorem normFs_up (fs : List (ByteArray × Int)) : Up ((normFs fs).map (·.1)) := by
  rw [normFs_names]
  exact normTags_up _

theorem normE_norm (e : Ev) : normE (normE e) = normE e := by
  unfold normE
  simp only
  rw [normTags_self (normTags_up _), normFs_self (normFs_up _)]
theorem normE_tags {e : Ev} {ts : List ByteArray} (h : ∀ x, x ∈ ts ↔ x ∈ e.tags) : normE ⟨e.s, e.t, ts, e.fs⟩ = normE e := by
  unfold normE
  simp only
  rw [normTags_same h]

/-- What it is for an event to be one that may be. -/
theorem mayE_zero (e : Ev) : mayE e = 0 ↔ nameB e.s = true ∧ nameB e.t = true ∧ e.tags.length ≤ 6 ∧ e.fs.length ≤ 4 ∧ (e.fs.all fun f => nameB f.1) = true ∧ e.tags.all tagB = true ∧ e.fs.all fitB = true ∧ Up e.tags ∧ Up (e.fs.map (·.1)) := by
  rw [← rise_up, ← rise_up]
  unfold mayE
  by_cases h1 : (nameB e.s && nameB e.t) = false
  · rw [if_pos h1]
    simp only [Bool.and_eq_false_iff] at h1
    constructor
    · intro h; omega
    · rintro ⟨a, b, _⟩
      rcases h1 with h1 | h1
      · rw [a] at h1; cases h1
      · rw [b] at h1; cases h1
  · rw [if_neg h1]
    simp only [Bool.not_eq_false, Bool.and_eq_true] at h1
    by_cases h2 : 6 < e.tags.length ∨ 4 < e.fs.length
    · rw [if_pos h2]
      constructor
      · intro h; omega
      · rintro ⟨_, _, a, b, _⟩; omega
    · rw [if_neg h2]
      by_cases h3 : ((e.fs.all fun f => nameB f.1) && e.tags.all tagB) = false
      · rw [if_pos h3]
        constructor
        · intro h; omega
        · rintro ⟨_, _, _, _, a, b, _⟩
          rw [a, b] at h3
          cases h3
      · rw [if_neg h3]
        simp only [Bool.not_eq_false, Bool.and_eq_true] at h3
        by_cases h4 : (e.fs.all fitB && (riseB e.tags && riseB (e.fs.map (·.1)))) = false
        · rw [if_pos h4]
          constructor
          · intro h; omega
          · rintro ⟨_, _, _, _, _, _, a, b, c⟩
            rw [a, b, c] at h4
            cases h4
        · rw [if_neg h4]
          simp only [Bool.not_eq_false, Bool.and_eq_true] at h4
          refine ⟨fun _ => ⟨h1.1, h1.2, by omega, by omega, h3.1, h3.2, h4.1, h4.2.1, h4.2.2⟩, fun _ => rfl⟩

/-- An event that may be is in order. -/
theorem normE_may {e : Ev} (h : mayE e = 0) : normE e = e := by
  obtain ⟨_, _, _, _, _, _, _, h1, h2⟩ := (mayE_zero e).1 h
  unfold normE
  rw [normTags_self h1, normFs_self h2]

/-- The value of a field whose name stands once. -/
theorem value_up {fs : List (ByteArray × Int)} (h : Up (fs.map (·.1))) {f : ByteArray × Int} (hf : f ∈ fs) : valueF fs f.1 = (f.2, true) := by
  induction fs with
  | nil => simp at hf
  | cons g fs ih =>
    have h1 := List.pairwise_cons.1 h
    rw [valueF]
    rcases List.mem_cons.1 hf with rfl | hf
    · rw [if_pos rfl]
    · have h2 := less_ne (h1.1 f.1 (List.mem_map_of_mem hf))
      rw [if_neg h2]
      exact ih h1.2 hf
theorem value_none {fs : List (ByteArray × Int)} {x : ByteArray} (h : x ∉ fs.map (·.1)) : valueF fs x = (0, false) := by
  induction fs with
  | nil => rfl
  | cons g fs ih =>
    simp only [List.map_cons, List.mem_cons, not_or] at h
    rw [valueF, if_neg (fun e => h.1 e.symm)]
    exact ih h.2

theorem hasB_norm (e : Ev) (x : ByteArray) : hasB (normE e).tags x = hasB e.tags x := by
  rw [Bool.eq_iff_iff, hasB_mem, hasB_mem]
  exact normTags_mem _ _

theorem lastF_mem (fs : List (ByteArray × Int)) (x : ByteArray) (h : x ∈ fs.map (·.1)) : lastF fs x ∈ fs := by
  suffices g : ∀ (fs : List (ByteArray × Int)) (a : ByteArray × Int), (x ∈ fs.map (·.1)) → (fs.foldl (fun a f => if f.1 = x then f else a) a) ∈ fs from g fs _ h
  intro fs
  induction fs with
  | nil => intro a h; simp at h
  | cons f fs ih =>
    intro a h
    rw [List.foldl_cons]
    by_cases hx : x ∈ fs.map (·.1)
    · exact List.mem_cons_of_mem _ (ih _ hx)
    · have hk : ∀ (l : List (ByteArray × Int)) (b : ByteArray × Int), x ∉ l.map (·.1) → l.foldl (fun a g => if g.1 = x then g else a) b = b := by
        intro l
        induction l with
        | nil => intro b _; rfl
        | cons g l ih2 =>
          intro b hl
          simp only [List.map_cons, List.mem_cons, not_or] at hl
          rw [List.foldl_cons, if_neg (fun e => hl.1 e.symm)]
          exact ih2 b hl.2
      rw [hk fs _ hx]
      simp only [List.map_cons, List.mem_cons] at h
      rcases h with h | h
      · rw [if_pos h.symm]; simp
      · exact absurd h hx
theorem normFs_mem {fs : List (ByteArray × Int)} {f : ByteArray × Int} (h : f ∈ normFs fs) : f ∈ fs := by
  unfold normFs at h
  obtain ⟨x, hx, rfl⟩ := List.mem_map.1 h
  exact lastF_mem fs x ((normTags_mem _ x).1 hx)
theorem normFs_len (fs : List (ByteArray × Int)) : (normFs fs).length ≤ fs.length := by
  unfold normFs
  rw [List.length_map]
  have := normTags_len (fs.map (·.1))
  rwa [List.length_map] at this

/-- What comes of an event whose order alone, or whose numbers, are not as they should be. -/
theorem mayE_norm {e : Ev} (h : mayE e = 1) : mayE (normE e) = 0 ∨ mayE (normE e) = 1 := by
  have hl1 := normTags_len e.tags
  have hl2 := normFs_len e.fs
  show mayE ⟨e.s, e.t, normTags e.tags, normFs e.fs⟩ = 0 ∨ mayE ⟨e.s, e.t, normTags e.tags, normFs e.fs⟩ = 1
  unfold mayE at h ⊢
  simp only at h ⊢
  by_cases h1 : (nameB e.s && nameB e.t) = false
  · rw [if_pos h1] at h; omega
  rw [if_neg h1] at h ⊢
  by_cases h2 : 6 < e.tags.length ∨ 4 < e.fs.length
  · rw [if_pos h2] at h; omega
  rw [if_neg h2] at h
  rw [if_neg (by omega)]
  by_cases h3 : ((e.fs.all fun f => nameB f.1) && e.tags.all tagB) = false
  · rw [if_pos h3] at h; omega
  simp only [Bool.not_eq_false, Bool.and_eq_true, List.all_eq_true] at h3
  have h4 : (((normFs e.fs).all fun f => nameB f.1) && (normTags e.tags).all tagB) = true := by
    rw [Bool.and_eq_true, List.all_eq_true, List.all_eq_true]
    exact ⟨fun f hf => h3.1 f (normFs_mem hf), fun x hx => h3.2 x ((normTags_mem _ x).1 hx)⟩
  rw [h4, if_neg (by decide)]
  split
  · exact .inr rfl
  · exact .inl rfl

/-! ### Without one, with one twice -/
theorem up_without {l : List ByteArray} (h : Up l) (i : Nat) : Up (l.take i ++ l.drop (i + 1)) := by
  refine up_sub h ?_
  conv => rhs; rw [← List.take_append_drop i l]
  exact List.Sublist.append (List.Sublist.refl _) (by rw [show l.drop (i + 1) = (l.drop i).drop 1 by rw [List.drop_drop]]; exact List.drop_sublist _ _)
theorem mem_without {α : Type} {l : List α} {i : Nat} {x : α} (h : x ∈ l.take i ++ l.drop (i + 1)) : x ∈ l := by
  rcases List.mem_append.1 h with h | h
  · exact List.mem_of_mem_take h
  · exact List.mem_of_mem_drop h
theorem up_not {l : List ByteArray} (h : Up l) {i : Nat} (hi : i < l.length) : l.getD i ByteArray.empty ∉ l.take i ++ l.drop (i + 1) := by
  have e : l = l.take i ++ l.getD i ByteArray.empty :: l.drop (i + 1) := by
    conv => lhs; rw [← List.take_append_drop i l, List.drop_eq_getElem_cons hi]
    simp [List.getD, List.getElem?_eq_getElem hi]
  rw [e] at h
  have h1 := List.pairwise_append.1 h
  have h2 := List.pairwise_cons.1 h1.2.1
  intro hm
  rcases List.mem_append.1 hm with hm | hm
  · exact less_ne (h1.2.2 _ hm _ (by simp)) rfl
  · exact less_ne (h2.1 _ hm) rfl
theorem up_twice {l : List ByteArray} {i : Nat} (hi : i < l.length) : ¬ Up (l.take (i + 1) ++ l.drop i) := by
  intro h
  have h1 := List.pairwise_append.1 h
  have ha : l[i] ∈ l.take (i + 1) := by rw [List.take_succ_eq_append_getElem hi]; exact List.mem_append.2 (.inr (List.mem_singleton.2 rfl))
  have hb : l[i] ∈ l.drop i := by rw [List.drop_eq_getElem_cons hi]; exact List.mem_cons_self
  exact less_ne (h1.2.2 _ ha _ hb) rfl

/-- Without one of its tags. -/
theorem mayE_less {e : Ev} (h : mayE e = 0) (i : Nat) : mayE ⟨e.s, e.t, e.tags.take i ++ e.tags.drop (i + 1), e.fs⟩ = 0 := by
  obtain ⟨h1, h2, h3, h4, h5, h6, h7, h8, h9⟩ := (mayE_zero e).1 h
  refine (mayE_zero _).2 ⟨h1, h2, ?_, h4, h5, ?_, h7, up_without h8 i, h9⟩
  · simp only [List.length_append, List.length_take, List.length_drop]; omega
  · rw [List.all_eq_true] at h6 ⊢
    exact fun x hx => h6 x (mem_without hx)
/-- With one of its tags twice. -/
theorem mayE_more {e : Ev} {i : Nat} (hi : i < e.tags.length) : mayE ⟨e.s, e.t, e.tags.take (i + 1) ++ e.tags.drop i, e.fs⟩ ≠ 0 :=
  fun h => up_twice hi ((mayE_zero _).1 h).2.2.2.2.2.2.2.1
/-- Without one of its fields. -/
theorem mayE_lessF {e : Ev} (h : mayE e = 0) (k : Nat) : mayE ⟨e.s, e.t, e.tags, e.fs.take k ++ e.fs.drop (k + 1)⟩ = 0 := by
  obtain ⟨h1, h2, h3, h4, h5, h6, h7, h8, h9⟩ := (mayE_zero e).1 h
  refine (mayE_zero _).2 ⟨h1, h2, h3, ?_, ?_, h6, ?_, h8, ?_⟩
  · simp only [List.length_append, List.length_take, List.length_drop]; omega
  · rw [List.all_eq_true] at h5 ⊢
    exact fun x hx => h5 x (mem_without hx)
  · rw [List.all_eq_true] at h7 ⊢
    exact fun x hx => h7 x (mem_without hx)
  · simp only [List.map_append, List.map_take, List.map_drop]
    exact up_without h9 k

end Go.Proofs.YtiplfhmimpkplaaGreat.EvWalk

/-
  Mathematics of layer 12: positions of streams, as data. No walk here.
-/
namespace Go.Proofs.YtiplfhmimpkplaaGreat.SmWalk
open Go.RowKit Go.Proofs.YtiplfhmimpkplaaGreat.MemRow Go.Proofs.YtiplfhmimpkplaaGreat.Ev Go.Proofs.YtiplfhmimpkplaaGreat.NameMath Go.Proofs.YtiplfhmimpkplaaGreat.NameWalk Go.Proofs.YtiplfhmimpkplaaGreat.EvWalk

/-- Streams' positions, rising. -/
abbrev Tb := List (ByteArray × Int)
def posF (T : Tb) (s : ByteArray) (u : Int) : List Int := (T.filter fun x => decide (x.1 = s ∧ x.2 ≤ u)).map (·.2)
def lastP (T : Tb) : Int := match T.getLast? with | some x => x.2 | none => 0
def addF (T : Tb) (s : ByteArray) (p : Int) : Int × Int × Tb := if p < 1 ∨ p ≤ lastP T then (0, 1, T) else (((posF (T ++ [(s, p)]) s p).length : Int), 0, T ++ [(s, p)])
def namesT (T : Tb) : List ByteArray := normTags (T.map (·.1))
/-- Positions rise, from 1 on. -/
def RiseT (T : Tb) : Prop := T.Pairwise (fun a b => a.2 < b.2) ∧ ∀ x ∈ T, 1 ≤ x.2

theorem posF_nil (s : ByteArray) (u : Int) : posF [] s u = [] := rfl
theorem posF_append (A B : Tb) (s : ByteArray) (u : Int) : posF (A ++ B) s u = posF A s u ++ posF B s u := by simp [posF]
theorem posF_cons (x : ByteArray × Int) (B : Tb) (s : ByteArray) (u : Int) : posF (x :: B) s u = (if x.1 = s ∧ x.2 ≤ u then [x.2] else []) ++ posF B s u := by
  unfold posF
  rw [List.filter_cons]
  by_cases h : x.1 = s ∧ x.2 ≤ u
  · rw [if_pos (by simpa using h), if_pos h]; rfl
  · rw [if_neg (by simpa using h), if_neg h]; rfl
theorem posF_hit {s : ByteArray} {p u : Int} (h : p ≤ u) (T : Tb) : posF (T ++ [(s, p)]) s u = posF T s u ++ [p] := by
  rw [posF_append, posF_cons, if_pos ⟨rfl, h⟩]; rfl
theorem posF_miss {s t : ByteArray} {p u : Int} (h : ¬ (t = s ∧ p ≤ u)) (T : Tb) : posF (T ++ [(t, p)]) s u = posF T s u := by
  rw [posF_append, posF_cons, if_neg h]; simp [posF]
theorem posF_len (T : Tb) (s : ByteArray) (u : Int) : (posF T s u).length ≤ T.length := by
  unfold posF
  rw [List.length_map]
  exact List.length_filter_le _ _
theorem posF_mem {T : Tb} {s : ByteArray} {u q : Int} : q ∈ posF T s u ↔ (s, q) ∈ T ∧ q ≤ u := by
  unfold posF
  rw [List.mem_map]
  constructor
  · rintro ⟨x, hx, rfl⟩
    rw [List.mem_filter] at hx
    obtain ⟨h1, h2⟩ := hx
    obtain ⟨h3, h4⟩ := of_decide_eq_true h2
    refine ⟨?_, h4⟩
    rw [← h3]
    exact h1
  · rintro ⟨h1, h2⟩
    exact ⟨(s, q), List.mem_filter.2 ⟨h1, by simpa using h2⟩, rfl⟩
/-- A bound behind all positions tells no more than another one. -/
theorem posF_big {T : Tb} {s : ByteArray} {u v : Int} (hu : ∀ x ∈ T, x.2 ≤ u) (hv : ∀ x ∈ T, x.2 ≤ v) : posF T s u = posF T s v := by
  unfold posF
  congr 1
  refine List.filter_congr fun x hx => ?_
  have h1 := hu x hx
  have h2 := hv x hx
  simp [h1, h2]
/-- What is told up to an earlier bound. -/
theorem posF_filter {T : Tb} {s : ByteArray} {u v : Int} (h : u ≤ v) : posF T s u = (posF T s v).filter fun q => decide (q ≤ u) := by
  induction T with
  | nil => rfl
  | cons x T ih =>
    rw [posF_cons, posF_cons, List.filter_append, ← ih]
    congr 1
    by_cases h1 : x.1 = s ∧ x.2 ≤ u
    · rw [if_pos h1, if_pos ⟨h1.1, by omega⟩]
      simp [h1.2]
    · rw [if_neg h1]
      by_cases h2 : x.1 = s ∧ x.2 ≤ v
      · rw [if_pos h2]
        have : ¬ x.2 ≤ u := fun h3 => h1 ⟨h2.1, h3⟩
        simp [this]
      · rw [if_neg h2]; rfl
theorem posF_rise {T : Tb} (h : RiseT T) (s : ByteArray) (u : Int) : (posF T s u).Pairwise (· < ·) := by
  unfold posF
  rw [List.pairwise_map]
  exact h.1.sublist List.filter_sublist
theorem last_snoc (T : Tb) (x : ByteArray × Int) : lastP (T ++ [x]) = x.2 := by simp [lastP]
theorem last_le {T : Tb} (h : RiseT T) : ∀ x ∈ T, x.2 ≤ lastP T := by
  rcases List.eq_nil_or_concat T with rfl | ⟨L, y, rfl⟩
  · intro x hx; cases hx
  · intro x hx
    rw [List.concat_eq_append, last_snoc]
    rw [List.concat_eq_append] at h hx
    rcases List.mem_append.1 hx with hx | hx
    · have := (List.pairwise_append.1 h.1).2.2 x hx y (by simp)
      omega
    · rw [List.mem_singleton] at hx
      rw [hx]
      omega
theorem last_pos {T : Tb} (h : RiseT T) : 0 ≤ lastP T := by
  rcases List.eq_nil_or_concat T with rfl | ⟨L, y, rfl⟩
  · simp [lastP]
  · rw [List.concat_eq_append, last_snoc]
    have := h.2 y (by simp)
    omega
theorem RiseT.nil : RiseT [] := ⟨List.Pairwise.nil, fun _ h => by cases h⟩
theorem RiseT.more {T : Tb} (h : RiseT T) {s : ByteArray} {p : Int} (h1 : 1 ≤ p) (h2 : lastP T < p) : RiseT (T ++ [(s, p)]) := by
  refine ⟨List.pairwise_append.2 ⟨h.1, by simp, fun a ha b hb => ?_⟩, fun x hx => ?_⟩
  · rw [List.mem_singleton] at hb
    subst hb
    have := last_le h a ha
    show a.2 < p
    omega
  · rcases List.mem_append.1 hx with hx | hx
    · exact h.2 x hx
    · rw [List.mem_singleton] at hx
      subst hx
      exact h1
theorem add_rise {T : Tb} (h : RiseT T) (s : ByteArray) (p : Int) : RiseT (addF T s p).2.2 := by
  unfold addF
  by_cases hc : p < 1 ∨ p ≤ lastP T
  · rw [if_pos hc]; exact h
  · rw [if_neg hc]
    exact h.more (by omega) (by omega)
theorem add_len (T : Tb) (s : ByteArray) (p : Int) : (addF T s p).2.2.length ≤ T.length + 1 := by
  unfold addF
  split <;> simp
theorem add_no {T : Tb} {p : Int} (s : ByteArray) (h : p < 1 ∨ p ≤ lastP T) : addF T s p = (0, 1, T) := if_pos h
theorem add_yes {T : Tb} {p : Int} (hr : RiseT T) (s : ByteArray) (h1 : 1 ≤ p) (h2 : lastP T < p) : addF T s p = (((posF T s (lastP T)).length : Int) + 1, 0, T ++ [(s, p)]) := by
  unfold addF
  rw [if_neg (by omega), posF_hit (Int.le_refl p), posF_big (v := lastP T) (fun x hx => by have := last_le hr x hx; omega) (last_le hr)]
  simp

/-! ### Streams, each at the next position -/
theorem snoc_ind {α : Type} {P : List α → Prop} (h0 : P []) (h1 : ∀ L y, P L → P (L ++ [y])) (l : List α) : P l := by
  suffices h : ∀ l : List α, P l.reverse by simpa using h l.reverse
  intro l
  induction l with
  | nil => exact h0
  | cons a l ih => rw [List.reverse_cons]; exact h1 _ _ ih
/-- How often a text stands there. -/
def cnt (l : List ByteArray) (s : ByteArray) : Nat := (l.filter fun x => decide (x = s)).length
theorem cnt_nil (s : ByteArray) : cnt [] s = 0 := rfl
theorem cnt_cons (a : ByteArray) (l : List ByteArray) (s : ByteArray) : cnt (a :: l) s = (if a = s then 1 else 0) + cnt l s := by
  unfold cnt
  rw [List.filter_cons]
  by_cases h : a = s
  · rw [if_pos (by simpa using h), if_pos h, List.length_cons]; omega
  · rw [if_neg (by simpa using h), if_neg h]; omega
theorem cnt_append (l m : List ByteArray) (s : ByteArray) : cnt (l ++ m) s = cnt l s + cnt m s := by simp [cnt]
theorem cnt_one (a s : ByteArray) : cnt [a] s = if a = s then 1 else 0 := by rw [cnt_cons, cnt_nil]; rfl
theorem cnt_le (l : List ByteArray) (s : ByteArray) : cnt l s ≤ l.length := List.length_filter_le _ _
theorem cnt_pos {l : List ByteArray} {s : ByteArray} : 0 < cnt l s ↔ s ∈ l := by
  induction l with
  | nil => simp [cnt_nil]
  | cons a l ih =>
    rw [cnt_cons, List.mem_cons]
    by_cases h : a = s
    · rw [if_pos h]
      exact ⟨fun _ => .inl h.symm, fun _ => by omega⟩
    · rw [if_neg h, Nat.zero_add, ih]
      exact ⟨.inr, fun h2 => h2.resolve_left fun e => h e.symm⟩
theorem cnt_nodup {l : List ByteArray} (h : l.Nodup) (s : ByteArray) (hs : s ∈ l) : cnt l s = 1 := by
  induction l with
  | nil => cases hs
  | cons a l ih =>
    obtain ⟨h1, h2⟩ := List.nodup_cons.1 h
    rw [cnt_cons]
    by_cases e : a = s
    · subst e
      rw [if_pos rfl]
      have : ¬ 0 < cnt l a := fun h => h1 (cnt_pos.1 h)
      omega
    · rw [if_neg e, Nat.zero_add]
      exact ih h2 ((List.mem_cons.1 hs).resolve_left fun h => e h.symm)
def seqT (l : List ByteArray) : Tb := l.mapIdx fun i s => (s, (i : Int) + 1)
theorem seq_nil : seqT [] = [] := rfl
theorem seq_snoc (l : List ByteArray) (s : ByteArray) : seqT (l ++ [s]) = seqT l ++ [(s, (l.length : Int) + 1)] := by simp [seqT, List.mapIdx_append]
theorem seq_len (l : List ByteArray) : (seqT l).length = l.length := by simp [seqT]
theorem seq_last (l : List ByteArray) : lastP (seqT l) = l.length := by
  rcases List.eq_nil_or_concat l with rfl | ⟨L, y, rfl⟩
  · rfl
  · rw [List.concat_eq_append, seq_snoc, last_snoc]
    simp
theorem seq_rise (l : List ByteArray) : RiseT (seqT l) := by
  refine snoc_ind (P := fun l => RiseT (seqT l)) RiseT.nil (fun L y ih => ?_) l
  rw [seq_snoc]
  exact ih.more (by omega) (by rw [seq_last]; omega)
theorem seq_mem {l : List ByteArray} {s : ByteArray} {q : Int} : (s, q) ∈ seqT l ↔ 1 ≤ q ∧ q ≤ l.length ∧ l[(q - 1).toNat]? = some s := by
  unfold seqT
  rw [List.mem_mapIdx]
  constructor
  · rintro ⟨i, hi, h⟩
    obtain ⟨h1, h2⟩ := Prod.mk.inj h
    refine ⟨by omega, by omega, ?_⟩
    rw [show (q - 1).toNat = i by omega, List.getElem?_eq_getElem hi, h1]
  · rintro ⟨h1, h2, h3⟩
    have hi : (q - 1).toNat < l.length := by omega
    refine ⟨(q - 1).toNat, hi, ?_⟩
    rw [List.getElem?_eq_getElem hi] at h3
    injection h3 with h3
    rw [h3]
    congr 1
    omega
theorem seq_names (l : List ByteArray) : namesT (seqT l) = normTags l := by
  unfold namesT
  congr 1
  refine snoc_ind (P := fun l => (seqT l).map (·.1) = l) rfl (fun L y ih => ?_) l
  rw [seq_snoc, List.map_append, ih]; rfl
/-- How many there are up to a bound. -/
theorem seq_count (l : List ByteArray) (s : ByteArray) (u : Nat) : (posF (seqT l) s (u : Int)).length = cnt (l.take u) s := by
  refine snoc_ind (P := fun l => (posF (seqT l) s (u : Int)).length = cnt (l.take u) s) (by simp [seq_nil, posF_nil, cnt_nil]) (fun L y ih => ?_) l
  · rw [seq_snoc]
    by_cases hu : L.length + 1 ≤ u
    · rw [List.take_of_length_le (l := L ++ [y]) (by simpa using hu), cnt_append, cnt_one]
      rw [List.take_of_length_le (by omega)] at ih
      by_cases hy : y = s
      · subst hy
        rw [posF_hit (by omega), List.length_append, ih, if_pos rfl]
        rfl
      · rw [posF_miss (by rintro ⟨h, _⟩; exact hy h), ih, if_neg hy]
        omega
    · rw [posF_miss (by rintro ⟨_, h⟩; omega), ih, List.take_append_of_le_length (by omega)]
theorem seq_neg (l : List ByteArray) (s : ByteArray) {u : Int} (hu : u < 1) : posF (seqT l) s u = [] := by
  rw [List.eq_nil_iff_forall_not_mem]
  intro q hq
  have h1 := (posF_mem.1 hq)
  have h2 := (seq_mem.1 h1.1).1
  omega
/-- The next one, added. -/
theorem seq_add (l : List ByteArray) (s : ByteArray) : addF (seqT l) s ((l.length : Int) + 1) = ((cnt l s : Int) + 1, 0, seqT (l ++ [s])) := by
  rw [add_yes (seq_rise l) s (by omega) (by rw [seq_last]; omega), seq_last, seq_count, List.take_length, seq_snoc]
/-- What is told up to a position stays. -/
theorem seq_stays (l m : List ByteArray) (s : ByteArray) {u : Int} (hu : u ≤ l.length) : posF (seqT (l ++ m)) s u = posF (seqT l) s u := by
  refine snoc_ind (P := fun m => posF (seqT (l ++ m)) s u = posF (seqT l) s u) (by rw [List.append_nil]) (fun L y ih => ?_) m
  · rw [← List.append_assoc, seq_snoc, posF_miss (by rintro ⟨_, h⟩; rw [List.length_append] at h; omega), ih]
/-- Each name's share: together they are all. -/
theorem counts_all (l : List ByteArray) : ∀ ns : List ByteArray, ns.Nodup → (∀ x ∈ l, x ∈ ns) → (ns.map fun x => cnt l x).sum = l.length := by
  induction l with
  | nil =>
    intro ns hn hm
    clear hn hm
    induction ns with
    | nil => rfl
    | cons b ns ih => rw [List.map_cons, List.sum_cons, ih]; rfl
  | cons a l ih =>
    intro ns hn hm
    have h1 := ih ns hn fun x hx => hm x (List.mem_cons_of_mem _ hx)
    have h2 : ∀ ns : List ByteArray, (ns.map fun x => cnt (a :: l) x).sum = (ns.map fun x => cnt l x).sum + cnt ns a := by
      intro ns
      induction ns with
      | nil => rfl
      | cons b ns ih2 =>
        rw [List.map_cons, List.sum_cons, ih2, List.map_cons, List.sum_cons, cnt_cons, cnt_cons]
        by_cases hab : a = b
        · rw [if_pos hab, if_pos hab.symm]; omega
        · rw [if_neg hab, if_neg fun e => hab e.symm]; omega
    rw [h2, h1, List.length_cons, cnt_nodup hn a (hm a (by simp))]
theorem up_nodup {l : List ByteArray} (h : Up l) : l.Nodup := List.Pairwise.imp (fun h => less_ne h) h

/-- The first ones and those behind. -/
theorem seq_split (l m : List ByteArray) : ∃ X, seqT (l ++ m) = seqT l ++ X ∧ ∀ x ∈ X, (l.length : Int) < x.2 := by
  refine snoc_ind (P := fun m => ∃ X, seqT (l ++ m) = seqT l ++ X ∧ ∀ x ∈ X, (l.length : Int) < x.2) ⟨[], by simp, by simp⟩ (fun L y ih => ?_) m
  obtain ⟨X, h1, h2⟩ := ih
  refine ⟨X ++ [(y, ((l ++ L).length : Int) + 1)], by rw [← List.append_assoc, seq_snoc, h1, List.append_assoc], fun x hx => ?_⟩
  rcases List.mem_append.1 hx with hx | hx
  · exact h2 x hx
  · rw [List.mem_singleton] at hx
    rw [hx, List.length_append]
    show (l.length : Int) < ((l.length + L.length : Nat) : Int) + 1
    omega
/-- All are those up to a position, and then others. -/
theorem pos_split (l m : List ByteArray) (s : ByteArray) {u v : Int} (hu : u = l.length) (hv : u ≤ v) : ∃ Y, posF (seqT (l ++ m)) s v = posF (seqT (l ++ m)) s u ++ Y ∧ ∀ q ∈ Y, u < q := by
  obtain ⟨X, h1, h2⟩ := seq_split l m
  refine ⟨posF X s v, ?_, fun q hq => ?_⟩
  · have e1 : posF X s u = [] := by
      rw [List.eq_nil_iff_forall_not_mem]
      intro q hq
      obtain ⟨h3, h4⟩ := posF_mem.1 hq
      have := h2 _ h3
      have h5 : (l.length : Int) < q := this
      omega
    have hall : ∀ x ∈ seqT l, x.2 ≤ u := fun x hx => by
      have := (seq_mem (s := x.1) (q := x.2)).1 hx
      omega
    rw [h1, posF_append, posF_append, e1, List.append_nil, posF_big (fun x hx => by have := hall x hx; omega) hall]
  · have := h2 _ (posF_mem.1 hq).1
    have h5 : (l.length : Int) < q := this
    omega
/-- A table that is in order. -/
structure TOk (T : Tb) : Prop where
  rise : RiseT T
  len : T.length ≤ 400
  sz : ∀ x ∈ T, x.1.size ≤ maxLen
  hi : ∀ x ∈ T, x.2 ≤ 9223372036854775807
theorem TOk.nil : TOk [] := ⟨RiseT.nil, (by decide), (fun _ h => by cases h), (fun _ h => by cases h)⟩
theorem add_ok {T : Tb} (h : TOk T) {s : ByteArray} {p : Int} (hl : T.length < 200) (hs : s.size ≤ maxLen) (hp : p ≤ 9223372036854775807) : TOk (addF T s p).2.2 := by
  refine ⟨add_rise h.rise s p, by have := add_len T s p; omega, ?_, ?_⟩
  all_goals
    intro x hx
    unfold addF at hx
    by_cases hc : p < 1 ∨ p ≤ lastP T
    · rw [if_pos hc] at hx
      first | exact h.sz x hx | exact h.hi x hx
    · rw [if_neg hc] at hx
      rcases List.mem_append.1 hx with hx | hx
      · first | exact h.sz x hx | exact h.hi x hx
      · rw [List.mem_singleton] at hx
        rw [hx]
        first | exact hs | exact hp
theorem seq_ok {l : List ByteArray} (hl : l.length ≤ 200) (hs : ∀ s ∈ l, s.size ≤ maxLen) : TOk (seqT l) := by
  refine ⟨seq_rise l, by rw [seq_len]; omega, fun x hx => ?_, fun x hx => ?_⟩
  · obtain ⟨_, _, h⟩ := (seq_mem (s := x.1) (q := x.2)).1 hx
    exact hs _ (List.mem_of_getElem? h)
  · obtain ⟨_, h, _⟩ := (seq_mem (s := x.1) (q := x.2)).1 hx
    omega
theorem seq_ok4 {l : List ByteArray} (hl : l.length ≤ 400) (hs : ∀ s ∈ l, s.size ≤ maxLen) : TOk (seqT l) := by
  refine ⟨seq_rise l, by rw [seq_len]; omega, fun x hx => ?_, fun x hx => ?_⟩
  · obtain ⟨_, _, h⟩ := (seq_mem (s := x.1) (q := x.2)).1 hx
    exact hs _ (List.mem_of_getElem? h)
  · obtain ⟨_, h, _⟩ := (seq_mem (s := x.1) (q := x.2)).1 hx
    omega
theorem seq_next {l : List ByteArray} {j : Nat} (h : j < l.length) : addF (seqT (l.take j)) (l.getD j ByteArray.empty) ((j : Int) + 1) = ((cnt (l.take j) (l.getD j ByteArray.empty) : Int) + 1, 0, seqT (l.take (j + 1))) := by
  have e := seq_add (l.take j) (l.getD j ByteArray.empty)
  rw [List.length_take, Nat.min_eq_left (by omega), ← take_get l j h] at e
  exact e
/-- How many, at a bound that is behind all. -/
theorem seq_all (l : List ByteArray) (s : ByteArray) {u : Int} (hu : (l.length : Int) ≤ u) : (posF (seqT l) s u).length = cnt l s := by
  obtain ⟨k, rfl⟩ : ∃ k : Nat, u = (k : Int) := ⟨u.toNat, by omega⟩
  rw [seq_count, List.take_of_length_le (by omega)]
theorem cnt_take_succ {l : List ByteArray} {j : Nat} (h : j < l.length) (s : ByteArray) : cnt (l.take (j + 1)) s = cnt (l.take j) s + (if l.getD j ByteArray.empty = s then 1 else 0) := by
  rw [take_get l j h, cnt_append, cnt_one]

end Go.Proofs.YtiplfhmimpkplaaGreat.SmWalk

/-
  Mathematics of layer 14: a log's records, as data. No walk here.
-/
namespace Go.Proofs.YtiplfhmimpkplaaGreat.IxWalk
open Go.RowKit Go.Proofs.YtiplfhmimpkplaaGreat.MemRow Go.Proofs.YtiplfhmimpkplaaGreat.Ev Go.Proofs.YtiplfhmimpkplaaGreat.NameMath Go.Proofs.YtiplfhmimpkplaaGreat.NameWalk Go.Proofs.YtiplfhmimpkplaaGreat.EvWalk Go.Proofs.YtiplfhmimpkplaaGreat.Qu Go.Proofs.YtiplfhmimpkplaaGreat.QuWalk Go.Proofs.YtiplfhmimpkplaaGreat.SmWalk

/-- A record: its position, its version in its stream, its event. -/
structure Rc where
  pos : Int
  ver : Int
  e : Ev
abbrev strs (es : List Ev) : List ByteArray := es.map (·.s)
/-- The records of a log of these events. -/
def recF (es : List Ev) : List Rc := es.mapIdx fun i e => ⟨(i : Int) + 1, (cnt (strs (es.take i)) e.s : Int) + 1, e⟩
/-- The records that p takes, of those up to u. -/
def tellF (p : Ev → Bool) (es : List Ev) (u : Int) : List Rc := (recF es).filter fun x => decide (x.pos ≤ u) && p x.e
def allF (es : List Ev) (u : Int) : List Rc := tellF (fun _ => true) es u
def strF (es : List Ev) (n : ByteArray) (u : Int) : List Rc := tellF (fun e => decide (e.s = n)) es u
def qryF (es : List Ev) (q : List Cl) (u : Int) : List Rc := tellF (matchQ q) es u
def sinceF (es : List Ev) (q : List Cl) (a : Int) : Bool := (recF es).any fun x => decide (a < x.pos) && matchQ q x.e

theorem rec_nil : recF [] = [] := rfl
theorem rec_len (es : List Ev) : (recF es).length = es.length := by simp [recF]
theorem rec_snoc (es : List Ev) (e : Ev) : recF (es ++ [e]) = recF es ++ [⟨(es.length : Int) + 1, (cnt (strs es) e.s : Int) + 1, e⟩] := by
  unfold recF
  rw [List.mapIdx_append]
  congr 1
  · apply List.ext_getElem?
    intro i
    rw [List.getElem?_mapIdx, List.getElem?_mapIdx]
    rcases Nat.lt_or_ge i es.length with h | h
    · rw [List.take_append_of_le_length (by omega)]
    · rw [List.getElem?_eq_none h]; rfl
  · simp
theorem rec_append (es fs : List Ev) : ∃ X, recF (es ++ fs) = recF es ++ X ∧ X.length = fs.length ∧ ∀ x ∈ X, (es.length : Int) < x.pos := by
  induction fs using snoc_ind with
  | h0 => exact ⟨[], by simp, rfl, fun x h => by cases h⟩
  | h1 fs e ih =>
    obtain ⟨X, hX, hl, hx⟩ := ih
    rw [← List.append_assoc, rec_snoc, hX, List.append_assoc]
    refine ⟨_, rfl, by simp [hl], fun x hx' => ?_⟩
    rcases List.mem_append.1 hx' with h | h
    · exact hx x h
    · obtain rfl := List.mem_singleton.1 h
      simp only [List.length_append]
      omega
theorem rec_pos {es : List Ev} : ∀ x ∈ recF es, 1 ≤ x.pos ∧ x.pos ≤ es.length := by
  induction es using snoc_ind with
  | h0 => intro x h; cases h
  | h1 es e ih =>
    intro x h
    rw [rec_snoc] at h
    rw [List.length_append, List.length_singleton]
    rcases List.mem_append.1 h with h | h
    · have := ih x h
      omega
    · obtain rfl := List.mem_singleton.1 h
      exact ⟨by simp only []; omega, by simp only []; omega⟩
theorem rec_inc (es : List Ev) : (recF es).Pairwise fun a b => a.pos < b.pos := by
  induction es using snoc_ind with
  | h0 => exact List.Pairwise.nil
  | h1 es e ih =>
    rw [rec_snoc]
    refine List.pairwise_append.2 ⟨ih, List.pairwise_singleton _ _, fun x hx y hy => ?_⟩
    obtain rfl := List.mem_singleton.1 hy
    have := rec_pos x hx
    simp only []
    omega
theorem tell_snoc (p : Ev → Bool) (es : List Ev) (e : Ev) (u : Int) :
    tellF p (es ++ [e]) u = tellF p es u ++ (if (es.length : Int) + 1 ≤ u ∧ p e = true then [⟨(es.length : Int) + 1, (cnt (strs es) e.s : Int) + 1, e⟩] else []) := by
  unfold tellF
  rw [rec_snoc, List.filter_append]
  congr 1
  rw [List.filter_cons, List.filter_nil]
  by_cases h : (es.length : Int) + 1 ≤ u ∧ p e = true
  · rw [if_pos h, if_pos (by simp [h.1, h.2])]
  · rw [if_neg h, if_neg (by simpa using h)]
theorem tell_nil (p : Ev → Bool) (u : Int) : tellF p [] u = [] := rfl
/-- What is told up to a position does not change, whatever is added behind it. -/
theorem tell_stays (p : Ev → Bool) (es fs : List Ev) {u : Int} (hu : u ≤ es.length) : tellF p (es ++ fs) u = tellF p es u := by
  obtain ⟨X, hX, -, hx⟩ := rec_append es fs
  unfold tellF
  rw [hX, List.filter_append]
  suffices h : X.filter (fun x => decide (x.pos ≤ u) && p x.e) = [] by rw [h, List.append_nil]
  rw [List.filter_eq_nil_iff]
  intro x h
  have := hx x h
  simp only [Bool.and_eq_true, decide_eq_true_eq, not_and]
  intro h2
  omega
theorem tell_inc (p : Ev → Bool) (es : List Ev) (u : Int) : (tellF p es u).Pairwise fun a b => a.pos < b.pos := (rec_inc es).filter _
theorem tell_mem {p : Ev → Bool} {es : List Ev} {u : Int} {x : Rc} : x ∈ tellF p es u ↔ x ∈ recF es ∧ x.pos ≤ u ∧ p x.e = true := by
  unfold tellF
  rw [List.mem_filter]
  simp
theorem tell_len (p : Ev → Bool) (es : List Ev) (u : Int) : (tellF p es u).length ≤ es.length := by
  unfold tellF
  exact Nat.le_trans (List.length_filter_le _ _) (Nat.le_of_eq (rec_len es))
/-- All that is told up to the end or beyond it. -/
theorem tell_big {p : Ev → Bool} {es : List Ev} {u v : Int} (hu : (es.length : Int) ≤ u) (hv : (es.length : Int) ≤ v) : tellF p es u = tellF p es v := by
  unfold tellF
  refine List.filter_congr fun x hx => ?_
  have := rec_pos x hx
  rw [decide_eq_true (by omega), decide_eq_true (by omega)]
/-- No position is below 1. -/
theorem tell_neg {p : Ev → Bool} {es : List Ev} {u : Int} (hu : u < 1) : tellF p es u = [] := by
  unfold tellF
  rw [List.filter_eq_nil_iff]
  intro x hx
  have := rec_pos x hx
  simp only [Bool.and_eq_true, decide_eq_true_eq, not_and]
  intro h
  omega
/-- Told up to u, and what is told behind it. -/
theorem tell_split (p : Ev → Bool) (es : List Ev) {u v : Int} (h : u ≤ v) : ∃ Y, tellF p es v = tellF p es u ++ Y ∧ ∀ y ∈ Y, u < y.pos ∧ p y.e = true ∧ y ∈ recF es := by
  induction es using snoc_ind with
  | h0 => exact ⟨[], rfl, fun y hy => by cases hy⟩
  | h1 es e ih =>
    obtain ⟨Y, hY, hy⟩ := ih
    have hy' : ∀ y ∈ Y, u < y.pos ∧ p y.e = true ∧ y ∈ recF (es ++ [e]) := fun y h => by
      obtain ⟨a, b, c⟩ := hy y h
      exact ⟨a, b, by rw [rec_snoc]; exact List.mem_append_left _ c⟩
    rw [tell_snoc, tell_snoc, hY]
    by_cases h1 : (es.length : Int) + 1 ≤ u ∧ p e = true
    · rw [if_pos h1, if_pos ⟨by omega, h1.2⟩]
      -- all that was told behind u is nothing: the log ended there
      have hY0 : Y = [] := by
        cases Y with
        | nil => rfl
        | cons y Y =>
          obtain ⟨a, -, c⟩ := hy y (List.mem_cons_self ..)
          have := rec_pos y c
          omega
      subst hY0
      exact ⟨[], by simp, fun y h => by cases h⟩
    · rw [if_neg h1, List.append_nil]
      by_cases h2 : (es.length : Int) + 1 ≤ v ∧ p e = true
      · rw [if_pos h2]
        refine ⟨_, List.append_assoc _ _ _, fun y h => ?_⟩
        rcases List.mem_append.1 h with h | h
        · exact hy' y h
        · obtain rfl := List.mem_singleton.1 h
          refine ⟨?_, h2.2, by rw [rec_snoc]; exact List.mem_append_right _ (List.mem_singleton.2 rfl)⟩
          rcases Classical.not_and_iff_not_or_not.1 h1 with h1 | h1
          · show u < (es.length : Int) + 1
            omega
          · exact absurd h2.2 h1
      · rw [if_neg h2, List.append_nil]
        exact ⟨Y, rfl, hy'⟩

/-! ### Since -/
theorem since_iff {es : List Ev} {q : List Cl} {a : Int} : sinceF es q a = true ↔ ∃ x ∈ recF es, a < x.pos ∧ matchQ q x.e = true := by
  unfold sinceF
  rw [List.any_eq_true]
  simp
/-- Since tells just whether the query tells more. -/
theorem since_more (es : List Ev) (q : List Cl) {a v : Int} (hv : (es.length : Int) ≤ v) (ha : a ≤ v) :
    sinceF es q a = decide ((qryF es q a).length < (qryF es q v).length) := by
  obtain ⟨Y, hY, hy⟩ := tell_split (matchQ q) es ha
  unfold qryF
  rw [hY, List.length_append, Bool.eq_iff_iff, since_iff, decide_eq_true_iff]
  constructor
  · rintro ⟨x, hx, h1, h2⟩
    have hm : x ∈ tellF (matchQ q) es v := tell_mem.2 ⟨hx, by have := rec_pos x hx; omega, h2⟩
    rw [hY] at hm
    rcases List.mem_append.1 hm with hm | hm
    · have := (tell_mem.1 hm).2.1
      omega
    · have := List.length_pos_of_mem hm
      omega
  · intro h
    cases Y with
    | nil => simp at h
    | cons y Y =>
      obtain ⟨h1, h2, h3⟩ := hy y (List.mem_cons_self ..)
      exact ⟨y, h3, h1, h2⟩
/-- As the document's answer reckons it: the last record that the query tells. -/
theorem since_last (es : List Ev) (q : List Cl) (a : Int) :
    sinceF es q a = (match (qryF es q es.length).getLast? with | some x => decide (a < x.pos) | none => false) := by
  have hm : ∀ x, x ∈ qryF es q es.length ↔ x ∈ recF es ∧ matchQ q x.e = true := fun x => by
    unfold qryF
    rw [tell_mem]
    exact ⟨fun h => ⟨h.1, h.2.2⟩, fun h => ⟨h.1, (rec_pos x h.1).2, h.2⟩⟩
  cases hl : (qryF es q es.length).getLast? with
  | none =>
    rw [List.getLast?_eq_none_iff] at hl
    rw [← Bool.not_eq_true, since_iff]
    rintro ⟨x, hx, -, h2⟩
    have := (hm x).2 ⟨hx, h2⟩
    rw [hl] at this
    cases this
  | some y =>
    obtain ⟨L, hL⟩ := List.getLast?_eq_some_iff.1 hl
    simp only []
    rw [Bool.eq_iff_iff, since_iff, decide_eq_true_iff]
    constructor
    · rintro ⟨x, hx, h1, h2⟩
      have hx' := (hm x).2 ⟨hx, h2⟩
      rw [hL] at hx'
      rcases List.mem_append.1 hx' with h | h
      · have hp := tell_inc (matchQ q) es es.length
        unfold qryF at hL
        rw [hL] at hp
        have := (List.pairwise_append.1 hp).2.2 x h y (List.mem_singleton.2 rfl)
        omega
      · obtain rfl := List.mem_singleton.1 h
        exact h1
    · intro h
      have := (hm y).1 (by rw [hL]; exact List.mem_append_right _ (List.mem_singleton.2 rfl))
      exact ⟨y, this.1, h, this.2⟩

/-! ### Streams -/
/-- How many records a stream has, up to a position. -/
theorem str_len (es : List Ev) (n : ByteArray) (u : Int) : (strF es n u).length = (posF (seqT (strs es)) n u).length := by
  unfold strF
  induction es using snoc_ind with
  | h0 => rfl
  | h1 es e ih =>
    rw [tell_snoc, show strs (es ++ [e]) = strs es ++ [e.s] by simp, seq_snoc, posF_append, List.length_append, List.length_append, ih, posF_cons, posF_nil, List.append_nil, List.length_map]
    congr 1
    by_cases h : e.s = n ∧ (es.length : Int) + 1 ≤ u
    · rw [if_pos ⟨h.2, by simpa using h.1⟩, if_pos h]; rfl
    · rw [if_neg (fun h2 => h ⟨by simpa using h2.2, h2.1⟩), if_neg h]
      rfl
theorem str_all (es : List Ev) (n : ByteArray) {u : Int} (hu : (es.length : Int) ≤ u) : (strF es n u).length = cnt (strs es) n := by
  rw [str_len]
  exact seq_all _ _ (by simpa using hu)
/-- The versions of a stream's records have no gap. -/
theorem str_at (es : List Ev) (n : ByteArray) (u : Int) : ∀ i (h : i < (strF es n u).length), ((strF es n u)[i]'h).ver = (i : Int) + 1 ∧ ((strF es n u)[i]'h).e.s = n := by
  unfold strF
  induction es using snoc_ind with
  | h0 => intro i h; exact absurd h (by simp [tell_nil])
  | h1 es e ih =>
    rw [tell_snoc]
    by_cases h2 : (es.length : Int) + 1 ≤ u ∧ decide (e.s = n) = true
    · rw [if_pos h2]
      intro i h
      rw [List.length_append, List.length_singleton] at h
      rcases Nat.lt_or_ge i (tellF (fun e => decide (e.s = n)) es u).length with h3 | h3
      · rw [List.getElem_append_left h3]
        exact ih i h3
      · rw [List.getElem_append_right h3]
        have hn : e.s = n := by simpa using h2.2
        have hc := str_all es n (u := u) (by omega)
        unfold strF at hc
        rw [List.getElem_singleton]
        refine ⟨?_, hn⟩
        show (cnt (strs es) e.s : Int) + 1 = (i : Int) + 1
        rw [hn]
        omega
    · rw [if_neg h2, List.append_nil]
      exact ih
/-- All streams' records together are all records. -/
theorem str_sum (es : List Ev) {ns : List ByteArray} (hd : ns.Nodup) (hn : ∀ x ∈ strs es, x ∈ ns) {u : Int} (hu : (es.length : Int) ≤ u) :
    (ns.map fun n => (strF es n u).length).sum = es.length := by
  rw [List.map_congr_left (fun n _ => str_all es n hu)]
  simpa using counts_all (strs es) ns hd hn
theorem all_all (es : List Ev) {u : Int} (hu : (es.length : Int) ≤ u) : allF es u = recF es := by
  unfold allF tellF
  rw [List.filter_eq_self]
  intro x hx
  have := rec_pos x hx
  simp only [Bool.and_true, decide_eq_true_eq]
  omega
/-- A query of one empty clause tells all. -/
theorem qry_all (es : List Ev) (u : Int) : qryF es [⟨[], []⟩] u = allF es u := by
  unfold qryF allF tellF
  refine List.filter_congr fun x _ => ?_
  simp [matchQ, clauseB]
theorem qry_none (es : List Ev) (u : Int) : qryF es [] u = [] := by
  unfold qryF tellF
  rw [List.filter_eq_nil_iff]
  intro x _
  simp [matchQ]
theorem since_all (es : List Ev) (a : Int) : sinceF es [⟨[], []⟩] a = decide (a < es.length ∧ 0 < es.length) := by
  rw [since_last, qry_all, all_all es (Int.le_refl _)]
  cases es using snoc_ind with
  | h0 => simp [rec_nil]
  | h1 es e => rw [rec_snoc, List.getLast?_concat]; simp only [List.length_append, List.length_singleton]; rw [Bool.eq_iff_iff, decide_eq_true_iff, decide_eq_true_iff]; omega
end Go.Proofs.YtiplfhmimpkplaaGreat.IxWalk

/-
  Layer 5's readings: slices of events, and an argument that is one.
-/
namespace Go.Proofs.YtiplfhmimpkplaaGreat.Ev
open Go.RowKit Go.ChangeShapes Go.WideShapes Go.Joins Go.Deep Go.Proofs.YtiplfhmimpkplaaGreat.MemRow Go.Proofs.YtiplfhmimpkplaaGreat.Open

def noEv : Ev := ⟨ByteArray.empty, ByteArray.empty, [], []⟩

/-- The four cells at an address read as an event. -/
def EvCells (w : World) (b o : Nat) (e : Ev) : Prop :=
  ∃ A n ca B m cb, w.cell? ⟨b, o, none⟩ = some (.string e.s) ∧ w.cell? ⟨b, o + 1, none⟩ = some (.string e.t) ∧ w.cell? ⟨b, o + 2, none⟩ = some (.slice A n ca) ∧ w.cell? ⟨b, o + 3, none⟩ = some (.slice B m cb) ∧ RdS w A n ca e.tags ∧ RdF w B m cb e.fs
theorem EvCells.below {w w' : World} {b o : Nat} {e : Ev} (h : EvCells w b o e) (hb : Below w.heap.size w w') : EvCells w' b o e := by
  obtain ⟨A, n, ca, B, m, cb, h0, h1, h2, h3, h4, h5⟩ := h
  exact ⟨A, n, ca, B, m, cb, bcell hb h0, bcell hb h1, bcell hb h2, bcell hb h3, RdC.below h4 hb, RdC.below h5 hb⟩
theorem EvCells.drew {w : World} {b o : Nat} {e : Ev} (h : EvCells w b o e) (k : Nat) : EvCells (w.drewN k) b o e := h

/-- A slice that reads as events. -/
def RdE (w : World) (A : Option Addr) (n cap : Nat) (es : List Ev) : Prop :=
  es.length = n ∧ n ≤ cap ∧ cap ≤ maxLen ∧ (0 < n → ∃ b o, A = some ⟨b, o, none⟩ ∧ b < w.heap.size ∧ ∀ i, i < n → EvCells w b (o + i * 4) (es.getD i noEv))
theorem RdE.nil (w : World) : RdE w none 0 0 [] := ⟨rfl, Nat.le_refl _, Nat.zero_le _, fun h => absurd h (by omega)⟩
theorem RdE.len {w : World} {A : Option Addr} {n cap : Nat} {es : List Ev} (h : RdE w A n cap es) : es.length = n := h.1
theorem RdE.le {w : World} {A : Option Addr} {n cap : Nat} {es : List Ev} (h : RdE w A n cap es) : n ≤ maxLen := Nat.le_trans h.2.1 h.2.2.1
theorem RdE.at_ {w : World} {A : Option Addr} {n cap : Nat} {es : List Ev} (h : RdE w A n cap es) (hn : 0 < n) : ∃ b o, A = some ⟨b, o, none⟩ ∧ b < w.heap.size ∧ ∀ i, i < n → EvCells w b (o + i * 4) (es.getD i noEv) := h.2.2.2 hn
theorem RdE.below {w w' : World} {A : Option Addr} {n cap : Nat} {es : List Ev} (h : RdE w A n cap es) (hb : Below w.heap.size w w') : RdE w' A n cap es :=
  ⟨h.1, h.2.1, h.2.2.1, fun hn => by
    obtain ⟨b, o, hA, hlt, hc⟩ := h.2.2.2 hn
    exact ⟨b, o, hA, Nat.lt_of_lt_of_le hlt hb.size, fun i hi => (hc i hi).below hb⟩⟩

section
variable {H : Type} {enc : TypeId × Value → H} {P : Program} {W : World} {base : Nat} {t e : TypeId} {v : Value} {d : DataW H} {p : List MemPlace}
/-- A slice of events that came in. -/
theorem tr_events {f0 f1 f2 f3 g0 g1 : Field} {tS tF : TypeId} {fuel : Nat} {y : DataW H × List MemPlace} (ht : P.underlying t = some (.slice e)) (he : P.underlying e = some (.struct #[f0, f1, f2, f3])) (ce : P.cellsOf e = 4) (hone : oneCellFields P #[f0, f1, f2, f3] = true)
    (t0 : P.underlying f0.type = some .string) (t1 : P.underlying f1.type = some .string) (t2 : P.underlying f2.type = some (.slice tS)) (hS : P.underlying tS = some .string) (cS : P.cellsOf tS = 1)
    (t3 : P.underlying f3.type = some (.slice tF)) (hF : P.underlying tF = some (.struct #[g0, g1])) (cF : P.cellsOf tF = 2) (o0 : g0.offset = 0) (o1 : g1.offset = 1) (c0 : P.cellsOf g0.type = 1) (c1 : P.cellsOf g1.type = 1) (u0 : P.underlying g0.type = some .string) (u1 : P.underlying g1.type = some (.int .i64))
    (h : DataW.trod enc P W 0 (fun _ => true) true fuel t [v] = some y) :
    ∃ A n ca es, v = .slice A n ca ∧ RdE W A n ca es ∧ ∀ x ∈ es, EvOk x := by
  rcases open_slice ht h with ⟨hcs, _⟩ | ⟨a, l, c, m, nn, D, Pl, hcs, _, hl, hm, hmm, _, hx⟩
  · simp only [List.cons.injEq, and_true] at hcs
    subst hcs
    exact ⟨none, 0, 0, [], rfl, RdE.nil W, by simp⟩
  · simp only [List.cons.injEq, and_true] at hcs
    subst hcs
    have hm' : m = c := by simpa using hmm
    subst hm'
    have each : ∀ i, i < m → ∃ ev : Ev, EvOk ev ∧ ∃ A1 n1 k1 B1 m1 k2, W.cell? (a.add (i * 4)) = some (.string ev.s) ∧ W.cell? (a.add (i * 4 + 1)) = some (.string ev.t) ∧ W.cell? (a.add (i * 4 + 2)) = some (.slice A1 n1 k1) ∧ W.cell? (a.add (i * 4 + 3)) = some (.slice B1 m1 k2) ∧ RdS W A1 n1 k1 ev.tags ∧ RdF W B1 m1 k2 ev.fs := by
      intro i hi
      obtain ⟨cs', h1, h2⟩ := hx i hi
      rw [ce] at h1
      obtain ⟨_, hlen, hcell⟩ := World.cells?_some h1
      obtain ⟨y0, y1, y2, y3, n, _, _, q0, q1, q2, q3⟩ := trod_struct4 he h2
      obtain ⟨z0, k0⟩ := hone_of hone 0 f0 rfl
      obtain ⟨z1, k1⟩ := hone_of hone 1 f1 rfl
      obtain ⟨z2, k2⟩ := hone_of hone 2 f2 rfl
      obtain ⟨z3, k3⟩ := hone_of hone 3 f3 rfl
      match cs', hlen with
      | [v0, v1, v2, v3], _ =>
        have z0q : DataW.trod enc P W 0 (fun _ => true) true n f0.type [v0] = some y0 := by simpa [z0, k0] using q0
        have z1q : DataW.trod enc P W 0 (fun _ => true) true n f1.type [v1] = some y1 := by simpa [z1, k1] using q1
        have z2q : DataW.trod enc P W 0 (fun _ => true) true n f2.type [v2] = some y2 := by simpa [z2, k2] using q2
        have z3q : DataW.trod enc P W 0 (fun _ => true) true n f3.type [v3] = some y3 := by simpa [z3, k3] using q3
        have e0 := hcell 0 (by omega)
        have e1 := hcell 1 (by omega)
        have e2 := hcell 2 (by omega)
        have e3 := hcell 3 (by omega)
        rw [add_add] at e0 e1 e2 e3
        obtain ⟨s, x0, _, ws⟩ := DataW.trod_string t0 z0q
        obtain ⟨s', x1, _, wt⟩ := DataW.trod_string t1 z1q
        injection x0 with x0
        injection x1 with x1
        obtain ⟨A1, n1, k1', ss, rfl, r1, w1⟩ := tr_strs t2 hS cS z2q
        obtain ⟨B1, m1, k2', fs, rfl, r2, w2, w3⟩ := tr_flds t3 hF cF o0 o1 c0 c1 u0 u1 z3q
        subst x0 x1
        exact ⟨⟨s, s', ss, fs⟩, ⟨ws, wt, w1, w2, w3⟩, A1, n1, k1', B1, m1, k2', by simpa using e0, by simpa using e1, by simpa using e2, by simpa using e3, r1, r2⟩
    have hex : ∃ F : Nat → Ev, ∀ i, i < m → EvOk (F i) ∧ ∃ A1 n1 k1 B1 m1 k2, W.cell? (a.add (i * 4)) = some (.string (F i).s) ∧ W.cell? (a.add (i * 4 + 1)) = some (.string (F i).t) ∧ W.cell? (a.add (i * 4 + 2)) = some (.slice A1 n1 k1) ∧ W.cell? (a.add (i * 4 + 3)) = some (.slice B1 m1 k2) ∧ RdS W A1 n1 k1 (F i).tags ∧ RdF W B1 m1 k2 (F i).fs :=
      ⟨fun i => if hi : i < m then (each i hi).choose else noEv, fun i hi => by simp only [hi, dif_pos]; exact (each i hi).choose_spec⟩
    obtain ⟨F, hF'⟩ := hex
    refine ⟨_, l, m, (List.range l).map F, rfl, ⟨by simp, hl, hm, fun hn => ?_⟩, ?_⟩
    · obtain ⟨_, _, _, _, _, _, _, hc0, _⟩ := hF' 0 (by omega)
      rw [Nat.zero_mul] at hc0
      have e0 := spot_none hc0
      have hb := World.block_lt_of_cell? W _ hc0
      rw [e0, add_at] at hb
      refine ⟨a.block, a.off, by rw [← e0], hb, fun i hi => ?_⟩
      have hFj : ((List.range l).map F).getD i noEv = F i := by simp [List.getD, hi]
      rw [hFj]
      obtain ⟨_, A1, n1, k1, B1, m1, k2, h0, h1, h2, h3, r1, r2⟩ := hF' i (by omega)
      rw [e0, add_at] at h0 h1 h2 h3
      exact ⟨A1, n1, k1, B1, m1, k2, h0, h1, h2, h3, r1, r2⟩
    · intro x hxm
      obtain ⟨j, hj, rfl⟩ := List.mem_map.1 hxm
      exact (hF' j (by have := List.mem_range.1 hj; omega)).1
end

end Go.Proofs.YtiplfhmimpkplaaGreat.Ev

/-
  Layer 10: a batch as data, and whether it may be. No encodings here.
-/
namespace Go.Proofs.YtiplfhmimpkplaaGreat.BtWalk
open Go.RowKit Go.Proofs.YtiplfhmimpkplaaGreat.MemRow Go.Proofs.YtiplfhmimpkplaaGreat.Ev Go.Proofs.YtiplfhmimpkplaaGreat.NameMath Go.Proofs.YtiplfhmimpkplaaGreat.NameWalk Go.Proofs.YtiplfhmimpkplaaGreat.EvWalk

/-- A batch as data. -/
structure Bat where
  a : Int
  es : List Ev
def noBat : Bat := ⟨0, []⟩
/-- The first error that an event has. -/
def mayEs : List Ev → Int
  | [] => 0
  | e :: es => if mayE e = 0 then mayEs es else mayE e
def mayX (x : Bat) : Int :=
  if x.es.length = 0 then 22 else if 16 < x.es.length then 3 else if mayEs x.es ≠ 0 then mayEs x.es
  else if x.a < 0 ∨ 1048576 - (x.es.length : Int) < x.a then 1 else 0
theorem mayEs_zero (es : List Ev) : mayEs es = 0 ↔ ∀ e ∈ es, mayE e = 0 := by
  induction es with
  | nil => simp [mayEs]
  | cons e es ih =>
    rw [mayEs]
    by_cases h : mayE e = 0
    · rw [if_pos h, ih]
      simp [h]
    · rw [if_neg h]
      simp [h]
theorem mayX_zero (x : Bat) : mayX x = 0 ↔ (1 ≤ x.es.length ∧ x.es.length ≤ 16 ∧ (∀ e ∈ x.es, mayE e = 0) ∧ 0 ≤ x.a ∧ x.a + x.es.length ≤ 1048576) := by
  unfold mayX
  rw [← mayEs_zero]
  by_cases h1 : x.es.length = 0
  · rw [if_pos h1]
    constructor
    · intro h; cases h
    · intro h; omega
  · rw [if_neg h1]
    by_cases h2 : 16 < x.es.length
    · rw [if_pos h2]
      constructor
      · intro h; cases h
      · intro h; omega
    · rw [if_neg h2]
      by_cases h3 : mayEs x.es = 0
      · rw [if_neg (by simpa using h3)]
        split
        · constructor
          · intro h; cases h
          · intro h; omega
        · constructor
          · intro _
            exact ⟨by omega, by omega, h3, by omega, by omega⟩
          · intro _; rfl
      · rw [if_pos h3]
        constructor
        · intro h; exact absurd h h3
        · intro h; exact absurd h.2.2.1 h3
theorem evsTake (l : List Ev) (j : Nat) (h : j < l.length) : l.take (j + 1) = l.take j ++ [l.getD j noEv] := by
  rw [List.take_add_one, List.getElem?_eq_getElem h]
  simp [List.getD, List.getElem?_eq_getElem h]
theorem mayEs_take (es : List Ev) (j : Nat) (h : mayEs (es.take j) = 0) (hj : j < es.length) : mayE (es.getD j noEv) = 0 → mayEs (es.take (j + 1)) = 0 := by
  intro h1
  rw [mayEs_zero] at h ⊢
  rw [evsTake es j hj]
  intro e he
  rw [List.mem_append, List.mem_singleton] at he
  rcases he with he | rfl
  · exact h e he
  · exact h1
theorem mayEs_at (es : List Ev) : ∀ (j : Nat), mayEs (es.take j) = 0 → j < es.length → mayE (es.getD j noEv) ≠ 0 → mayEs es = mayE (es.getD j noEv) := by
  induction es with
  | nil => intro j _ h; simp at h
  | cons e es ih =>
    intro j h hj hne
    cases j with
    | zero =>
      rw [mayEs, if_neg (by simpa using hne)]
      rfl
    | succ j =>
      rw [List.take_succ_cons, mayEs] at h
      by_cases he : mayE e = 0
      · rw [if_pos he] at h
        rw [mayEs, if_pos he, ih j h (by simpa using hj) (by simpa using hne)]
        rfl
      · rw [if_neg he] at h
        exact absurd h he
end Go.Proofs.YtiplfhmimpkplaaGreat.BtWalk

/-
  Layer 14: batches onto a log, as data. No walk here.
-/
namespace Go.Proofs.YtiplfhmimpkplaaGreat.IxWalk
open Go.RowKit Go.Proofs.YtiplfhmimpkplaaGreat.MemRow Go.Proofs.YtiplfhmimpkplaaGreat.Ev Go.Proofs.YtiplfhmimpkplaaGreat.NameMath Go.Proofs.YtiplfhmimpkplaaGreat.NameWalk Go.Proofs.YtiplfhmimpkplaaGreat.EvWalk Go.Proofs.YtiplfhmimpkplaaGreat.Qu Go.Proofs.YtiplfhmimpkplaaGreat.QuWalk Go.Proofs.YtiplfhmimpkplaaGreat.SmWalk Go.Proofs.YtiplfhmimpkplaaGreat.BtWalk

/-- The record of the event e, behind those of es. -/
def nextR (es : List Ev) (e : Ev) : Rc := ⟨(es.length : Int) + 1, (cnt (strs es) e.s : Int) + 1, e⟩
/-- The records of fs, behind those of es. -/
def newR : List Ev → List Ev → List Rc
  | _, [] => []
  | es, e :: fs => nextR es e :: newR (es ++ [e]) fs
/-- What a batch comes to: the code, the records, the log. -/
def addB (es : List Ev) (b : Bat) : Int × List Rc × List Ev :=
  if mayX b ≠ 0 then (mayX b, [], es) else if b.a ≠ es.length then (1, [], es) else (0, newR es b.es, es ++ b.es)

theorem newR_snoc (fs : List Ev) (e : Ev) : ∀ es : List Ev, newR es (fs ++ [e]) = newR es fs ++ [nextR (es ++ fs) e] := by
  induction fs with
  | nil => intro es; simp [newR]
  | cons f fs ih =>
    intro es
    show nextR es f :: newR (es ++ [f]) (fs ++ [e]) = nextR es f :: newR (es ++ [f]) fs ++ [nextR (es ++ f :: fs) e]
    rw [ih, List.append_assoc, List.singleton_append, List.cons_append]
theorem newR_len (fs : List Ev) : ∀ es : List Ev, (newR es fs).length = fs.length := by
  induction fs with
  | nil => intro es; rfl
  | cons f fs ih => intro es; show (newR (es ++ [f]) fs).length + 1 = fs.length + 1; rw [ih]
theorem rec_more (es fs : List Ev) : recF (es ++ fs) = recF es ++ newR es fs := by
  induction fs using snoc_ind with
  | h0 => simp [newR]
  | h1 fs e ih => rw [← List.append_assoc, rec_snoc, ih, newR_snoc, List.append_assoc]; rfl
theorem newR_at (es : List Ev) (fs : List Ev) (j : Nat) (h : j < fs.length) :
    (newR es fs)[j]? = some ⟨(es.length : Int) + j + 1, (cnt (strs (es ++ fs.take j)) (fs.getD j noEv).s : Int) + 1, fs.getD j noEv⟩ := by
  have e1 : fs = fs.take j ++ fs.getD j noEv :: fs.drop (j + 1) := by
    rw [List.getD_eq_getElem?_getD, List.getElem?_eq_getElem h, Option.getD_some, ← List.drop_eq_getElem_cons h, List.take_append_drop]
  have e2 : newR es fs = newR es (fs.take j) ++ nextR (es ++ fs.take j) (fs.getD j noEv) :: newR ((es ++ fs.take j) ++ [fs.getD j noEv]) (fs.drop (j + 1)) := by
    have : ∀ (l m : List Ev) (es : List Ev), newR es (l ++ m) = newR es l ++ newR (es ++ l) m := by
      intro l
      induction l with
      | nil => intro m es; simp [newR]
      | cons x l ih =>
        intro m es
        show nextR es x :: newR (es ++ [x]) (l ++ m) = nextR es x :: newR (es ++ [x]) l ++ newR (es ++ x :: l) m
        rw [ih, List.append_assoc, List.singleton_append, List.cons_append]
    conv => lhs; rw [e1]
    rw [this]
    rfl
  rw [e2, List.getElem?_append_right (by rw [newR_len, List.length_take]; omega), newR_len, List.length_take, Nat.min_eq_left (by omega), Nat.sub_self]
  show some (nextR (es ++ fs.take j) (fs.getD j noEv)) = _
  unfold nextR
  rw [List.length_append, List.length_take, Nat.min_eq_left (by omega)]
  congr 2
theorem addB_len (es : List Ev) (b : Bat) : (addB es b).2.2.length ≤ es.length + 16 := by
  unfold addB
  by_cases h1 : mayX b ≠ 0
  · rw [if_pos h1]; simp only []; omega
  · rw [if_neg h1]
    by_cases h2 : b.a ≠ es.length
    · rw [if_pos h2]; simp only []; omega
    · rw [if_neg h2]
      have := (mayX_zero b).1 (Classical.not_not.1 h1)
      simp only [List.length_append]
      omega
theorem addB_bad {es : List Ev} {b : Bat} (h : mayX b ≠ 0) : addB es b = (mayX b, [], es) := if_pos h
theorem addB_no {es : List Ev} {b : Bat} (h : mayX b = 0) (h2 : b.a ≠ es.length) : addB es b = (1, [], es) := by
  unfold addB
  rw [if_neg (by omega), if_pos h2]
theorem addB_yes {es : List Ev} {b : Bat} (h : mayX b = 0) (h2 : b.a = es.length) : addB es b = (0, newR es b.es, es ++ b.es) := by
  unfold addB
  rw [if_neg (by omega), if_neg (by omega)]
/-- A batch is refused just if it may not be, or is not behind the last record. -/
theorem addB_zero {es : List Ev} {b : Bat} : (addB es b).1 = 0 ↔ mayX b = 0 ∧ b.a = es.length := by
  by_cases h : mayX b = 0
  · by_cases h2 : b.a = es.length
    · rw [addB_yes h h2]; exact ⟨fun _ => ⟨h, h2⟩, fun _ => rfl⟩
    · rw [addB_no h h2]; exact ⟨fun h3 => absurd (show (1 : Int) = 0 from h3) (by decide), fun h3 => absurd h3.2 h2⟩
  · rw [addB_bad h]; exact ⟨fun h3 => absurd h3 h, fun h3 => absurd h3.1 h⟩
theorem addB_same {es : List Ev} {b : Bat} (h : (addB es b).1 ≠ 0) : (addB es b).2 = ([], es) := by
  by_cases h1 : mayX b = 0
  · by_cases h2 : b.a = es.length
    · exact absurd (addB_zero.2 ⟨h1, h2⟩) h
    · rw [addB_no h1 h2]
  · rw [addB_bad h1]
/-- The log is what it was, and what the batch brought. -/
theorem addB_grows (es : List Ev) (b : Bat) : ∃ fs, (addB es b).2.2 = es ++ fs ∧ (addB es b).2.1 = newR es fs ∧ (fs = [] ∨ fs = b.es) := by
  by_cases h1 : mayX b = 0
  · by_cases h2 : b.a = es.length
    · rw [addB_yes h1 h2]; exact ⟨b.es, rfl, rfl, .inr rfl⟩
    · rw [addB_no h1 h2]; exact ⟨[], by simp, rfl, .inl rfl⟩
  · rw [addB_bad h1]; exact ⟨[], by simp, rfl, .inl rfl⟩
/-- Batches, one behind the other, each put behind the last record. -/
def playB (es : List Ev) : List Bat → List Ev
  | [] => es
  | b :: l => playB (addB es ⟨es.length, b.es⟩).2.2 l
theorem playB_snoc (l : List Bat) (b : Bat) : ∀ es : List Ev, playB es (l ++ [b]) = (addB (playB es l) ⟨(playB es l).length, b.es⟩).2.2 := by
  induction l with
  | nil => intro es; rfl
  | cons x l ih => intro es; exact ih _
theorem playB_grows (l : List Bat) : ∀ es : List Ev, ∃ fs, playB es l = es ++ fs := by
  induction l with
  | nil => intro es; exact ⟨[], by simp [playB]⟩
  | cons b l ih =>
    intro es
    obtain ⟨f, h1, -, -⟩ := addB_grows es ⟨es.length, b.es⟩
    obtain ⟨g, h2⟩ := ih (es ++ f)
    refine ⟨f ++ g, ?_⟩
    show playB (addB es ⟨es.length, b.es⟩).2.2 l = _
    rw [h1, h2, List.append_assoc]
end Go.Proofs.YtiplfhmimpkplaaGreat.IxWalk

/-
  Layer 10's readings: batches; an argument that is one; a box that holds one; rows of events whose own rows are older; a batch that is made of another one. No encodings here.
-/
namespace Go.Proofs.YtiplfhmimpkplaaGreat.BtWalk
open Go.RowKit Go.WideShapes Go.ChangeShapes Go.Joins Go.Deep Go.Proofs.YtiplfhmimpkplaaGreat.MemRow Go.Proofs.YtiplfhmimpkplaaGreat.Ev Go.Proofs.YtiplfhmimpkplaaGreat.NameMath Go.Proofs.YtiplfhmimpkplaaGreat.NameWalk Go.Proofs.YtiplfhmimpkplaaGreat.EvWalk Go.Proofs.YtiplfhmimpkplaaGreat.NumMem Go.Proofs.YtiplfhmimpkplaaGreat.Open

theorem rowLow {k : Nat} {w : World} {base : Nat} {t : TypeId} {A : Option Addr} {n cap : Nat} {cs : List Value} (h : OwnC k w base t A n cap cs) {r : Nat} (e : A.map (·.block) = some r) : base ≤ r := by
  cases A with
  | none => simp at e
  | some a =>
    simp only [Option.map_some, Option.some.injEq] at e
    subst e
    exact (OwnC.lt h a rfl).1
theorem evsGet {l : List Ev} {j : Nat} (h : j < l.length) : l.getD j noEv ∈ l := by
  rw [List.getD_eq_getElem?_getD, List.getElem?_eq_getElem h]
  exact List.getElem_mem h
theorem boxGrown (w : World) (g i : Nat) (x : Value) : w.grownBy (w.setCell ⟨g, i, none⟩ x) (some g) := by
  refine ⟨rfl, rfl, rfl, by simp [World.setCell], fun k _ hne => ?_⟩
  have : g ≠ k := fun e => hne (by rw [e])
  simp [World.setCell, Array.getElem?_modify, this]
/-- The value v is the batch x. -/
def IsB (w : World) (v : Value) (x : Bat) : Prop := ∃ A n ca, v = .agg #[.int .i64 x.a, .slice A n ca] ∧ RdE w A n ca x.es
theorem IsB.below {w w' : World} {v : Value} {x : Bat} (h : IsB w v x) (hb : Below w.heap.size w w') : IsB w' v x := by
  obtain ⟨A, n, ca, rfl, h1⟩ := h
  exact ⟨A, n, ca, rfl, h1.below hb⟩
/-- All of it is of a size that a machine has. -/
structure BOk (x : Bat) : Prop where
  evs : ∀ e ∈ x.es, EvOk e
  a : -9223372036854775808 ≤ x.a ∧ x.a ≤ 9223372036854775807

section
variable {H : Type} {enc : TypeId × Value → H}
set_option maxRecDepth 100000 in
/-- A batch that came in. -/
theorem op_batch {W : World} {base : Nat} {v : Value} {d : DataW H} {p : List MemPlace} (ho : Value.okWide Tryz.prog W .any base 45 v) (h : DataW.Trod enc Tryz.prog W 0 (fun _ => true) true 45 v d p) :
    ∃ x, IsB W v x ∧ BOk x := by
  obtain ⟨v0, v1, y0, y1, n, rfl, _, _, h0, h1⟩ := open_agg2 Tryz.underlying45 (by kernel_rfl) (by kernel_rfl) ho h
  obtain ⟨z, e0, _, wz⟩ := DataW.trod_int Tryz.underlying3 h0
  have b := bounds_i64 wz
  injection e0 with e0
  obtain ⟨A, m, ca, es, rfl, r, ok⟩ := tr_events Tryz.underlying43 Tryz.underlying42 (by kernel_rfl) (by kernel_rfl) Tryz.underlying9 Tryz.underlying9 Tryz.underlying39 Tryz.underlying9 (by kernel_rfl) Tryz.underlying40 Tryz.underlying85 (by kernel_rfl) rfl rfl (by kernel_rfl) (by kernel_rfl) Tryz.underlying9 Tryz.underlying3 h1
  subst e0
  exact ⟨⟨z, es⟩, ⟨A, m, ca, rfl, r⟩, ok, b.1, b.2⟩
end

/-! ### A block that holds a batch -/
def BxAt (w : World) (g : Nat) (v0 v1 : Value) : Prop := w.heap[g]? = some (.cells #[v0, v1] 45 (0, 0))
theorem BxAt.new (w : World) (v0 v1 : Value) : BxAt (w.alloc (.cells #[v0, v1] 45)) w.heap.size v0 v1 := heap_alloc_new w _
section
variable {w w' : World} {g : Nat} {v0 v1 : Value}
theorem BxAt.lt (h : BxAt w g v0 v1) : g < w.heap.size := (Array.getElem?_eq_some_iff.1 h).1
theorem BxAt.below (h : BxAt w g v0 v1) (hb : Below w.heap.size w w') : BxAt w' g v0 v1 := (hb.block g h.lt).trans h
theorem BxAt.c0 (h : BxAt w g v0 v1) : w.cell? ⟨g, 0, none⟩ = some v0 := by rw [cell_of_row w g 0 _ _ _ h]; rfl
theorem BxAt.c1 (h : BxAt w g v0 v1) : w.cell? ⟨g, 1, none⟩ = some v1 := by rw [cell_of_row w g 1 _ _ _ h]; rfl
theorem BxAt.frozen (h : BxAt w g v0 v1) (i : Nat) : w.frozen? ⟨g, i, none⟩ = false := by
  unfold BxAt at h
  simp [World.frozen?, h]
theorem BxAt.grown {row : Option Nat} (h : BxAt w g v0 v1) (hg : w.grownBy w' row) (hne : some g ≠ row) : BxAt w' g v0 v1 := (hg.block g h.lt hne).trans h
theorem BxAt.set0 (h : BxAt w g v0 v1) (x : Value) : BxAt (w.setCell ⟨g, 0, none⟩ x) g x v1 := by
  unfold BxAt at h ⊢
  simp only [World.setCell, Array.getElem?_modify, h]
  rfl
theorem BxAt.set1 (h : BxAt w g v0 v1) (x : Value) : BxAt (w.setCell ⟨g, 1, none⟩ x) g v0 x := by
  unfold BxAt at h ⊢
  simp only [World.setCell, Array.getElem?_modify, h]
  rfl
theorem BxAt.all (h : BxAt w g v0 v1) (x y : Value) : BxAt ((w.setCell ⟨g, 0, none⟩ x).setCell ⟨g, 1, none⟩ y) g x y := (h.set0 x).set1 y
theorem BxAt.far {b i : Nat} (h : BxAt w g v0 v1) (hne : g ≠ b) (x : Value) : BxAt (w.setCell ⟨b, i, none⟩ x) g v0 v1 := by
  unfold BxAt at h ⊢
  simp only [World.setCell, Array.getElem?_modify]
  rw [if_neg (fun e => hne e.symm)]
  exact h
end
theorem batch_bel (w : World) (v0 v1 : Value) : Below w.heap.size w (w.alloc (.cells #[v0, v1] 45)) := (Below.refl _ _).alloc (Nat.le_refl _) _

/-- A box of the call's own, and what is older. -/
structure BoxB (wr w : World) (v0 v1 : Value) : Prop where
  eq : BxAt wr w.heap.size v0 v1
  bel : Below w.heap.size w wr
section
variable {wr w w' : World} {v0 v1 : Value}
theorem BoxB.new (w : World) (v0 v1 : Value) : BoxB (w.alloc (.cells #[v0, v1] 45)) w v0 v1 := ⟨BxAt.new w v0 v1, batch_bel w v0 v1⟩
theorem BoxB.below (h : BoxB wr w v0 v1) (hb : Below wr.heap.size wr w') : BoxB w' w v0 v1 := ⟨h.eq.below hb, below_chain h.bel hb⟩
theorem BoxB.drewN (h : BoxB wr w v0 v1) (k : Nat) : BoxB (wr.drewN k) w v0 v1 := ⟨h.eq, ⟨h.bel.os, h.bel.tape, h.bel.output, h.bel.size, h.bel.block⟩⟩
theorem BoxB.drew (h : BoxB wr w v0 v1) : BoxB wr.drew w v0 v1 := ⟨h.eq, ⟨h.bel.os, h.bel.tape, h.bel.output, h.bel.size, h.bel.block⟩⟩
theorem BoxB.all (h : BoxB wr w v0 v1) (x y : Value) : BoxB ((wr.setCell ⟨w.heap.size, 0, none⟩ x).setCell ⟨w.heap.size, 1, none⟩ y) w x y := ⟨h.eq.all x y, (h.bel.setCell (Nat.le_refl _) _).setCell (Nat.le_refl _) _⟩
end

/-! ### A row of the call's own that holds events whose rows are older -/
def EvsO (w0 : World) : List Ev → List Value → Prop
  | [], cs => cs = []
  | e :: es, cs => ∃ T nT cT F nF cF cs', cs = .string e.s :: .string e.t :: .slice T nT cT :: .slice F nF cF :: cs' ∧ RdS w0 T nT cT e.tags ∧ RdF w0 F nF cF e.fs ∧ EvsO w0 es cs'
theorem EvsO.snoc {w : World} {e : Ev} {T F : Option Addr} {nT cT nF cF : Nat} (o1 : RdS w T nT cT e.tags) (o2 : RdF w F nF cF e.fs) :
    ∀ (es : List Ev) (cs : List Value), EvsO w es cs → EvsO w (es ++ [e]) (cs ++ [.string e.s, .string e.t, .slice T nT cT, .slice F nF cF])
  | [], cs, h => by
    obtain rfl : cs = [] := h
    exact ⟨T, nT, cT, F, nF, cF, [], rfl, o1, o2, rfl⟩
  | x :: es, cs, ⟨T1, n1, c1, F1, m1, d1, cs', hc, p1, p2, h⟩ => by
    subst hc
    exact ⟨T1, n1, c1, F1, m1, d1, cs' ++ [.string e.s, .string e.t, .slice T nT cT, .slice F nF cF], rfl, p1, p2, EvsO.snoc o1 o2 es cs' h⟩
theorem EvsO.at_ {w : World} : ∀ (es : List Ev) (cs : List Value), EvsO w es cs → ∀ i, i < es.length →
    ∃ T nT cT F nF cF, cs[i * 4]? = some (.string (es.getD i noEv).s) ∧ cs[i * 4 + 1]? = some (.string (es.getD i noEv).t) ∧ cs[i * 4 + 2]? = some (.slice T nT cT) ∧ cs[i * 4 + 3]? = some (.slice F nF cF) ∧ RdS w T nT cT (es.getD i noEv).tags ∧ RdF w F nF cF (es.getD i noEv).fs
  | [], _, _, i, hi => by simp at hi
  | e :: es, cs, ⟨T, nT, cT, F, nF, cF, cs', hc, o1, o2, h⟩, i, hi => by
    subst hc
    cases i with
    | zero => exact ⟨T, nT, cT, F, nF, cF, rfl, rfl, rfl, rfl, o1, o2⟩
    | succ i =>
      obtain ⟨T1, n1, c1, F1, m1, d1, q0, q1, q2, q3, p1, p2⟩ := EvsO.at_ es cs' h i (by simpa using hi)
      have e4 : (i + 1) * 4 = i * 4 + 4 := by omega
      rw [e4]
      exact ⟨T1, n1, c1, F1, m1, d1, by simpa using q0, by simpa using q1, by simpa using q2, by simpa using q3, by simpa using p1, by simpa using p2⟩
theorem EvsO.one {w : World} : ∀ (es : List Ev) (cs : List Value), EvsO w es cs → ∀ v ∈ cs, v.oneCell' = true
  | [], cs, h, v, hv => by
    obtain rfl : cs = [] := h
    simp at hv
  | _ :: es, cs, ⟨T, nT, cT, Y, nY, cY, cs', e, _, _, h⟩, v, hv => by
    subst e
    simp only [List.mem_cons] at hv
    rcases hv with rfl | rfl | rfl | rfl | hv
    · rfl
    · rfl
    · rfl
    · rfl
    · exact EvsO.one es cs' h v hv
theorem EvsO.take {w : World} : ∀ (es : List Ev) (cs : List Value) (i : Nat), EvsO w es cs → EvsO w (es.take i) (cs.take (i * 4))
  | [], cs, i, h => by
    obtain rfl : cs = [] := h
    simp only [List.take_nil]
    rfl
  | _ :: _, _, 0, _ => by
    simp only [List.take_zero, Nat.zero_mul]
    rfl
  | _ :: es, _, i + 1, ⟨T, nT, cT, Y, nY, cY, cs', rfl, o1, o2, h⟩ => by
    have e2 : (i + 1) * 4 = i * 4 + 1 + 1 + 1 + 1 := by omega
    rw [e2]
    exact ⟨T, nT, cT, Y, nY, cY, cs'.take (i * 4), rfl, o1, o2, EvsO.take es cs' i h⟩
theorem EvsO.drop {w : World} : ∀ (es : List Ev) (cs : List Value) (i : Nat), EvsO w es cs → EvsO w (es.drop i) (cs.drop (i * 4))
  | [], cs, i, h => by
    obtain rfl : cs = [] := h
    simp only [List.drop_nil]
    rfl
  | _ :: _, _, 0, h => by
    simp only [List.drop_zero, Nat.zero_mul]
    exact h
  | _ :: es, _, i + 1, ⟨_, _, _, _, _, _, cs', rfl, _, _, h⟩ => by
    have e2 : (i + 1) * 4 = i * 4 + 1 + 1 + 1 + 1 := by omega
    rw [e2]
    exact EvsO.drop es cs' i h
theorem EvsO.append {w : World} : ∀ (es fs : List Ev) (cs ds : List Value), EvsO w es cs → EvsO w fs ds → EvsO w (es ++ fs) (cs ++ ds)
  | [], _, cs, _, h, h2 => by
    obtain rfl : cs = [] := h
    exact h2
  | _ :: es, fs, _, ds, ⟨T, nT, cT, Y, nY, cY, cs', rfl, o1, o2, h⟩, h2 => ⟨T, nT, cT, Y, nY, cY, cs' ++ ds, rfl, o1, o2, EvsO.append es fs cs' ds h h2⟩
/-- A slice of a call's own that holds events, their rows as world w0 has them. -/
def OwnO (w0 w : World) (base : Nat) (A : Option Addr) (n cap : Nat) (es : List Ev) : Prop := ∃ cs, OwnC 4 w base 42 A n cap cs ∧ es.length = n ∧ EvsO w0 es cs
section
variable {w0 w w' : World} {base n cap : Nat} {A : Option Addr} {es : List Ev}
theorem OwnO.nil (w0 w : World) (base : Nat) : OwnO w0 w base none 0 0 [] := ⟨[], OwnC.nil _ _, rfl, rfl⟩
theorem OwnO.len (h : OwnO w0 w base A n cap es) : es.length = n := by
  obtain ⟨_, _, h, _⟩ := h
  exact h
theorem OwnO.below (h : OwnO w0 w base A n cap es) (hb : Below w.heap.size w w') : OwnO w0 w' base A n cap es := by
  obtain ⟨cs, o, hl, hc⟩ := h
  exact ⟨cs, OwnC.below o hb, hl, hc⟩
theorem OwnO.grown {g : Nat} (h : OwnO w0 w base A n cap es) (hg : w.grownBy w' (some g)) (hb : g < base) : OwnO w0 w' base A n cap es := by
  obtain ⟨cs, o, hl, hc⟩ := h
  exact ⟨cs, OwnC.grown o hg fun a hA e => by
    have := (OwnC.lt o a hA).1
    injection e with e
    omega, hl, hc⟩
theorem OwnO.rd (h : OwnO w0 w base A n cap es) (hb : Below w0.heap.size w0 w) : RdE w A n cap es := by
  obtain ⟨cs, o, hl, hc⟩ := h
  have r := OwnC.rd o
  refine ⟨hl, r.2.1, r.2.2.1, fun hn => ?_⟩
  obtain ⟨b, a, hA, hlt, hcell⟩ := RdC.at_ r (by omega) hn
  refine ⟨b, a, hA, hlt, fun i hi => ?_⟩
  obtain ⟨T, nT, cT, F, nF, cF, q0, q1, q2, q3, p1, p2⟩ := EvsO.at_ es cs hc i (by omega)
  exact ⟨T, nT, cT, F, nF, cF, hcell _ _ q0, by rw [Nat.add_assoc]; exact hcell _ _ q1, by rw [Nat.add_assoc]; exact hcell _ _ q2, by rw [Nat.add_assoc]; exact hcell _ _ q3, RdC.below p1 hb, RdC.below p2 hb⟩
theorem OwnO.isb {a : Int} (h : OwnO w0 w base A n cap es) (hb : Below w0.heap.size w0 w) : IsB w (.agg #[.int .i64 a, .slice A n cap]) ⟨a, es⟩ := ⟨_, _, _, rfl, h.rd hb⟩
theorem OwnO.setB (h : OwnO w0 w base A n cap es) {g : Nat} (hg : g < base) (x y : Value) : OwnO w0 ((w.setCell ⟨g, 0, none⟩ x).setCell ⟨g, 1, none⟩ y) base A n cap es :=
  (h.grown (boxGrown w g 0 x) hg).grown (boxGrown _ g 1 y) hg
end

/-- What stands while a batch is made of another one: the argument's box, the result's cell, the batch that is made. -/
structure MkB (w0 wr w : World) (a : Int) (vs : Value) (A : Option Addr) (n cap : Nat) (es : List Ev) : Prop where
  eq : BxAt wr w.heap.size (.int .i64 a) vs
  res : BxAt wr (w.heap.size + 1) (.int .i64 0) (.slice none 0 0)
  out : BxAt wr (w.heap.size + 1 + 1) (.int .i64 a) (.slice A n cap)
  own : OwnO w0 wr (w.heap.size + 1 + 1 + 1) A n cap es
  bel : Below w.heap.size w wr
section
variable {w0 wr w w' : World} {a : Int} {vs : Value} {A : Option Addr} {n cap : Nat} {es : List Ev}
theorem MkB.below (h : MkB w0 wr w a vs A n cap es) (hb : Below wr.heap.size wr w') : MkB w0 w' w a vs A n cap es := ⟨h.eq.below hb, h.res.below hb, h.out.below hb, h.own.below hb, below_chain h.bel hb⟩
theorem MkB.far (h : MkB w0 wr w a vs A n cap es) {g : Nat} (hg : w.heap.size + 1 + 1 < g) (hA : ∀ a, A = some a → a.block ≠ g) (i : Nat) (x : Value) : MkB w0 (wr.setCell ⟨g, i, none⟩ x) w a vs A n cap es := by
  obtain ⟨cs, o, hl, hc⟩ := h.own
  exact ⟨h.eq.far (by omega) x, h.res.far (by omega) x, h.out.far (by omega) x, ⟨cs, OwnC.grown o (boxGrown wr g i x) (fun a ha e => hA a ha (by injection e)), hl, hc⟩, h.bel.setCell (by show w.heap.size ≤ g; omega) x⟩
theorem MkB.new (w0 w : World) (a : Int) (vs : Value) : MkB w0 (((w.alloc (.cells #[.int .i64 a, vs] 45)).alloc (.cells #[.int .i64 0, .slice none 0 0] 45)).alloc (.cells #[.int .i64 a, .slice none 0 0] 45)) w a vs none 0 0 [] := by
  have a1 := BxAt.new w (.int .i64 a) vs
  have b1 := batch_bel w (.int .i64 a) vs
  generalize hw1 : w.alloc (.cells #[.int .i64 a, vs] 45) = w1 at *
  have s1 : w1.heap.size = w.heap.size + 1 := by rw [← hw1]; simp
  have a2 := BxAt.new w1 (.int .i64 0) (.slice none 0 0)
  have b2 := batch_bel w1 (.int .i64 0) (.slice none 0 0)
  generalize hw2 : w1.alloc (.cells #[.int .i64 0, .slice none 0 0] 45) = w2 at *
  have s2 : w2.heap.size = w.heap.size + 1 + 1 := by rw [← hw2]; simp [s1]
  have a3 := BxAt.new w2 (.int .i64 a) (.slice none 0 0)
  have b3 := batch_bel w2 (.int .i64 a) (.slice none 0 0)
  rw [s1] at a2
  rw [s2] at a3
  exact ⟨(a1.below b2).below b3, a2.below b3, a3, OwnO.nil _ _ _, below_chain (below_chain b1 b2) b3⟩
/-- An event is appended, and the batch's cell is written. -/
theorem MkB.more {cs : List Value} {e : Ev} {T F : Option Addr} {nT cT nF cF : Nat} {A' : Option Addr} {cap' : Nat} {w8 : World} (h : MkB w0 wr w a vs A n cap es) (ho : OwnC 4 wr (w.heap.size + 1 + 1 + 1) 42 A n cap cs) (hc : EvsO w0 es cs) (o1 : RdS w0 T nT cT e.tags) (o2 : RdF w0 F nF cF e.fs)
    (ho8 : OwnC 4 w8 (w.heap.size + 1 + 1 + 1) 42 A' (n + 1) cap' (cs ++ [.string e.s, .string e.t, .slice T nT cT, .slice F nF cF])) (hg : wr.grownBy w8 (A.map (·.block))) :
    w8.frozen? ⟨w.heap.size + 1 + 1, 1, none⟩ = false ∧ w8.cell? ⟨w.heap.size + 1 + 1, 1, none⟩ = some (.slice A n cap) ∧ MkB w0 (w8.setCell ⟨w.heap.size + 1 + 1, 1, none⟩ (.slice A' (n + 1) cap')) w a vs A' (n + 1) cap' (es ++ [e]) := by
  have low := fun r e => rowLow ho (r := r) e
  have hF : ∀ k, k < w.heap.size + 1 + 1 + 1 → some k ≠ A.map (·.block) := fun k hk e => by have := low k e.symm; omega
  have e8 := h.out.grown hg (hF _ (by omega))
  have hs := boxGrown w8 (w.heap.size + 1 + 1) 1 (.slice A' (n + 1) cap')
  have o8 : OwnO w0 w8 (w.heap.size + 1 + 1 + 1) A' (n + 1) cap' (es ++ [e]) := ⟨_, ho8, by rw [List.length_append, h.own.len]; rfl, EvsO.snoc o1 o2 es cs hc⟩
  refine ⟨e8.frozen 1, e8.c1, (h.eq.grown hg (hF _ (by omega))).far (by omega) _, (h.res.grown hg (hF _ (by omega))).far (by omega) _, e8.set1 _, o8.grown hs (by omega), ?_⟩
  have b8 := h.bel.grown hg h.bel.size (fun r e => by have := low r e; omega)
  exact b8.setCell (by show w.heap.size ≤ w.heap.size + 1 + 1; omega) _
end
theorem ev_one (e : Ev) (T F : Option Addr) (nT cT nF cF : Nat) : ∀ v ∈ ([.string e.s, .string e.t, .slice T nT cT, .slice F nF cF] : List Value), v.oneCell' = true := by
  intro v hv
  simp only [List.mem_cons, List.not_mem_nil, or_false] at hv
  rcases hv with rfl | rfl | rfl | rfl <;> rfl


end Go.Proofs.YtiplfhmimpkplaaGreat.BtWalk

/-
  append on bytes: onto a row of the call's own, from a slice that reads as bytes (nil and empty let in). No Go text here.
-/
namespace Go.Proofs.YtiplfhmimpkplaaGreat.NumMem
open Go.RowKit

/-- A slice of the call's own (its block from 'base' on) that holds the bytes l. -/
def Own (w : World) (base : Nat) (t : TypeId) (A : Option Addr) (n cap : Nat) (l : List UInt8) : Prop := w.ownsRow base t 1 (.slice A n cap) n (cellsOf l)

variable {w w' : World} {base : Nat} {t : TypeId} {A : Option Addr} {n cap : Nat} {l : List UInt8}

theorem Own.len (h : Own w base t A n cap l) : l.length = n := by
  have := h.1
  simpa [cellsOf] using this

theorem Own.rd (h : Own w base t A n cap l) : Rd w A n cap l := by
  have hl := h.len
  rcases h.2 with ⟨hv, hn⟩ | ⟨g, c, cur, hv, hb, hg, hnc, hcm, hcs, htake⟩
  · injection hv with e1 e2 e3
    subst e1 e3
    refine ⟨hl, by omega, Nat.zero_le _, fun h0 => absurd h0 (by omega)⟩
  · injection hv with e1 e2 e3
    subst e1 e3
    refine Rd.of_block hg hl hnc hcm fun i hi => ?_
    have hh : (cellsOf l)[i]? = cur.toList[i]? := by
      rw [← htake, List.getElem?_take_of_lt (by omega)]
    have hi' : i < l.length := by omega
    rw [← Array.getElem?_toList, ← hh]
    simp [cellsOf, List.getElem?_eq_getElem hi', List.getD]

theorem Own.block (h : Own w base t A n cap l) {b o : Nat} (hA : A = some ⟨b, o, none⟩) : base ≤ b ∧ b < w.heap.size := by
  subst hA
  exact h.lt b rfl

theorem Own.below (h : Own w base t A n cap l) (hb : Below w.heap.size w w') : Own w' base t A n cap l := World.ownsRow.kept h (below_grown hb none) (by
  cases hv : (Value.slice A n cap).ownBlock <;> simp)

theorem Own.empty (w : World) (t : TypeId) (hb : base ≤ w.heap.size) : Own (w.alloc (.cells #[] t)) base t (some ⟨w.heap.size, 0, none⟩) 0 0 [] :=
  World.ownsRow_made w #[] 0 hb (Nat.zero_le _) (by simp)

section
variable {P : Program}
theorem run_append_bytes (T ty e : TypeId) (hT : P.underlying T = some (.slice e)) (hi : (P.info? e).map (fun i => (i.zero, i.size, i.bytes)) = some (some (.int .u8 0), 1, 1))
    (hown : Own w base e A n cap l) {B : Option Addr} {m c : Nat} {k : List UInt8} (hr : Rd w B m c k) (hsz : n + m ≤ 140737488355328) (hbase : base ≤ w.heap.size) :
    ∃ A' cap' w', (Builtin.append_ #[T, T] ty #[.slice A n cap, .slice B m c]).run P w = .ok (.slice A' (n + m) cap') w' ∧ Own w' base e A' (n + m) cap' (l ++ k) ∧ w.grownBy w' (Value.slice A n cap).ownBlock := by
  obtain ⟨i, h1, h2, h3, h4⟩ : ∃ i, P.info? e = some i ∧ i.zero = some (.int .u8 0) ∧ i.size = 1 ∧ i.bytes = 1 := by
    cases hq : P.info? e with
    | none => simp [hq] at hi
    | some i => simp [hq] at hi; exact ⟨i, rfl, hi.1, hi.2.1, hi.2.2⟩
  have done : ∀ v' w2, (Builtin.append_ #[T, T] ty #[.slice A n cap, .slice B m c]).run P w = .ok v' w2 → w2.ownsRow base e 1 v' (n + m) (cellsOf l ++ cellsOf k) → w.grownBy w2 (Value.slice A n cap).ownBlock →
      ∃ A' cap' w', (Builtin.append_ #[T, T] ty #[.slice A n cap, .slice B m c]).run P w = .ok (.slice A' (n + m) cap') w' ∧ Own w' base e A' (n + m) cap' (l ++ k) ∧ w.grownBy w' (Value.slice A n cap).ownBlock := by
    intro v' w2 hrun ho hg
    rcases ho.2 with ⟨rfl, hn⟩ | ⟨g, c2, cur, rfl, hrest⟩
    · refine ⟨none, 0, w2, by rw [hrun, hn], ?_, hg⟩
      unfold Own
      rw [cellsOf_append, hn]
      rw [hn] at ho
      exact ho
    · refine ⟨_, c2, w2, hrun, ?_, hg⟩
      unfold Own
      rw [cellsOf_append]
      exact ho
  cases B with
  | none =>
    have hm : m = 0 := by
      rcases Nat.eq_zero_or_pos m with h0 | h0
      · exact h0
      · obtain ⟨b, o, h, _⟩ := hr.2.2.2 h0
        cases h
    subst hm
    have hk : k = [] := List.eq_nil_of_length_eq_zero hr.len
    subst hk
    refine done (.slice A n cap) w ?_ (by simpa [cellsOf, Own] using hown) (World.grownBy.refl _ _)
    have hown' := hown
    rcases hown'.2 with ⟨hv, rfl⟩ | ⟨g, c2, cur, hv, _, _, hnc, _⟩
    · injection hv with e1 e2 e3
      subst e1 e3
      simp [Builtin.append_, run_underlying hT, sizeOf, typeInfo, h1, Builtin.lenOf, Builtin.firstCells]
    · injection hv with e1 e2 e3
      subst e1 e3
      simp [Builtin.append_, run_underlying hT, sizeOf, typeInfo, h1, Builtin.lenOf, Builtin.firstCells, hnc, storeCells]
  | some ad =>
    have hsrc : ∀ j u, (cellsOf k)[j]? = some u → w.cell? (ad.add j) = some u := by
      intro j u hu
      obtain ⟨ad', h, hc⟩ := hr.src (by have := (List.getElem?_eq_some_iff.1 hu).1; omega)
      injection h with h
      subst h
      exact hc j u hu
    obtain ⟨v', w2, hrun, ho, hg, _, _⟩ := run_append_own_at (P := P) w base T ty e i (.int .u8 0) 1 1 hT h1 h2 h3 h4 rfl (by omega) _ n _ hown ad m c (cellsOf k) (by rw [cellsOf_length, hr.len, Nat.mul_one]) hsrc (cellsOf_one k) (by unfold maxLen; omega) (by omega) hbase
    exact done v' w2 hrun ho hg

theorem wp_append_bytes {o : Oper} {a : Act} {K : Act → World → Prop} {Q : Exit → Act → World → Prop} (s x : Operand) (T : TypeId)
    (ho : o.op = .call { callee := .builtin .append, args := #[s, x], argTypes := #[T, T] }) (e : TypeId) (hT : P.underlying T = some (.slice e)) (hi : (P.info? e).map (fun i => (i.zero, i.size, i.bytes)) = some (some (.int .u8 0), 1, 1))
    (hs : a.eval s = .slice A n cap) {B : Option Addr} {m c : Nat} {k : List UInt8} (hx : a.eval x = .slice B m c) (hown : Own w base e A n cap l) (hr : Rd w B m c k) (hsz : n + m ≤ 140737488355328) (hbase : base ≤ w.heap.size)
    (h : ∀ A' cap' w', Own w' base e A' (n + m) cap' (l ++ k) → w.grownBy w' (Value.slice A n cap).ownBlock → K (a.put o.dst (.slice A' (n + m) cap')) w') : o.wp P a w K Q := by
  obtain ⟨A', cap', w', hrun, h2, h3⟩ := run_append_bytes (P := P) T o.type e hT hi hown hr hsz hbase
  unfold Oper.wp execOp
  simp only [ho, resolve, invoke, builtin, Sem.run_bind, Sem.run_pure, Result.andThen_ok, List.map_toArray, List.map_cons, List.map_nil, hs, hx, hrun]
  exact h A' cap' w' h2 h3

theorem wpList_append_bytes {ops : Array Oper} {rest : List Oper} {o : Oper} {a : Act} {Q : Exit → Act → World → Prop} (hgd : o.guard = none) (s x : Operand) (T : TypeId)
    (ho : o.op = .call { callee := .builtin .append, args := #[s, x], argTypes := #[T, T] }) (e : TypeId) (hT : P.underlying T = some (.slice e)) (hi : (P.info? e).map (fun i => (i.zero, i.size, i.bytes)) = some (some (.int .u8 0), 1, 1))
    (hs : a.eval s = .slice A n cap) {B : Option Addr} {m c : Nat} {k : List UInt8} (hx : a.eval x = .slice B m c) (hown : Own w base e A n cap l) (hr : Rd w B m c k) (hsz : n + m ≤ 140737488355328) (hbase : base ≤ w.heap.size)
    (h : ∀ A' cap' w', Own w' base e A' (n + m) cap' (l ++ k) → w.grownBy w' (Value.slice A n cap).ownBlock → wpList P ops Q rest (a.put o.dst (.slice A' (n + m) cap')) w') : wpList P ops Q (o :: rest) a w :=
  wpList_plain hgd fun _ hK => wp_append_bytes s x T ho e hT hi hs hx hown hr hsz hbase fun A' cap' w' h2 h3 => hK _ _ (h A' cap' w' h2 h3)

theorem step_append_bytes {ops : Array Oper} {o : Oper} {a : Act} {K : Act → World → Prop} {Q : Exit → Act → World → Prop} {E : Prop} (hw : Region.wanted o (yielded ops a.tmps) = true) (s x : Operand) (T : TypeId)
    (ho : o.op = .call { callee := .builtin .append, args := #[s, x], argTypes := #[T, T] }) (e : TypeId) (hT : P.underlying T = some (.slice e)) (hi : (P.info? e).map (fun i => (i.zero, i.size, i.bytes)) = some (some (.int .u8 0), 1, 1))
    (hs : a.eval s = .slice A n cap) {B : Option Addr} {m c : Nat} {k : List UInt8} (hx : a.eval x = .slice B m c) (hown : Own w base e A n cap l) (hr : Rd w B m c k) (hsz : n + m ≤ 140737488355328) (hbase : base ≤ w.heap.size)
    (h : ∀ A' cap' w', Own w' base e A' (n + m) cap' (l ++ k) → w.grownBy w' (Value.slice A n cap).ownBlock → K (a.put o.dst (.slice A' (n + m) cap')) w') :
    if Region.wanted o (yielded ops a.tmps) = true then Oper.wp P o a w K Q else E := by
  rw [if_pos hw]
  exact wp_append_bytes s x T ho e hT hi hs hx hown hr hsz hbase h
/-- append([]byte{}, x...): a copy of x. -/
theorem wpList_append_fresh {ops : Array Oper} {rest : List Oper} {o : Oper} {a : Act} {Q : Exit → Act → World → Prop} (hgd : o.guard = none) (s x : Operand) (T : TypeId)
    (ho : o.op = .call { callee := .builtin .append, args := #[s, x], argTypes := #[T, T] }) (e : TypeId) (hT : P.underlying T = some (.slice e)) (hi : (P.info? e).map (fun i => (i.zero, i.size, i.bytes)) = some (some (.int .u8 0), 1, 1))
    {c0 : Nat} (hs : a.eval s = .slice A 0 c0) {B : Option Addr} {m c : Nat} {k : List UInt8} (hx : a.eval x = .slice B m c) (hown : Own w base e A 0 c0 []) (hr : Rd w B m c k) (hsz : m ≤ 140737488355328) (hbase : base ≤ w.heap.size) (w0 : World) (hb : Below base w0 w)
    (h : ∀ A' cap' w', Own w' base e A' m cap' k → Below base w0 w' → wpList P ops Q rest (a.put o.dst (.slice A' m cap')) w') : wpList P ops Q (o :: rest) a w :=
  wpList_append_bytes hgd s x T ho e hT hi hs hx hown hr (by omega) hbase fun A' cap' w' h2 h3 => by
    have h4 := h A' cap' w' (by simpa using h2) (hb.grown h3 hbase (fun g hg => (World.ownsRow.lt hown g hg).1))
    rw [Nat.zero_add]
    exact h4

/-- append(v, x...), v of the call's own. -/
theorem wpList_append_more {ops : Array Oper} {rest : List Oper} {o : Oper} {a : Act} {Q : Exit → Act → World → Prop} (hgd : o.guard = none) (s x : Operand) (T : TypeId)
    (ho : o.op = .call { callee := .builtin .append, args := #[s, x], argTypes := #[T, T] }) (e : TypeId) (hT : P.underlying T = some (.slice e)) (hi : (P.info? e).map (fun i => (i.zero, i.size, i.bytes)) = some (some (.int .u8 0), 1, 1))
    (hs : a.eval s = .slice A n cap) {B : Option Addr} {m c : Nat} {k : List UInt8} (hx : a.eval x = .slice B m c) (hown : Own w base e A n cap l) (hr : Rd w B m c k) (hsz : n + m ≤ 140737488355328) (hbase : base ≤ w.heap.size) (w0 : World) (hb : Below base w0 w)
    (h : ∀ A' cap' w', Own w' base e A' (n + m) cap' (l ++ k) → Below base w0 w' → wpList P ops Q rest (a.put o.dst (.slice A' (n + m) cap')) w') : wpList P ops Q (o :: rest) a w :=
  wpList_append_bytes hgd s x T ho e hT hi hs hx hown hr hsz hbase fun A' cap' w' h2 h3 =>
    h A' cap' w' h2 (hb.grown h3 hbase (fun g hg => (World.ownsRow.lt hown g hg).1))
/-- append([]byte{}, x...) inside a region that draws its order. -/
theorem step_append_fresh {ops : Array Oper} {o : Oper} {a : Act} {K : Act → World → Prop} {Q : Exit → Act → World → Prop} {E : Prop} (hw : Region.wanted o (yielded ops a.tmps) = true) (s x : Operand) (T : TypeId)
    (ho : o.op = .call { callee := .builtin .append, args := #[s, x], argTypes := #[T, T] }) (e : TypeId) (hT : P.underlying T = some (.slice e)) (hi : (P.info? e).map (fun i => (i.zero, i.size, i.bytes)) = some (some (.int .u8 0), 1, 1))
    {c0 : Nat} (hs : a.eval s = .slice A 0 c0) {B : Option Addr} {m c : Nat} {k : List UInt8} (hx : a.eval x = .slice B m c) (hown : Own w base e A 0 c0 []) (hr : Rd w B m c k) (hsz : m ≤ 140737488355328) (hbase : base ≤ w.heap.size) (w0 : World) (hb : Below base w0 w)
    (h : ∀ A' cap' w', Own w' base e A' m cap' k → Below base w0 w' → K (a.put o.dst (.slice A' m cap')) w') :
    if Region.wanted o (yielded ops a.tmps) = true then Oper.wp P o a w K Q else E :=
  step_append_bytes hw s x T ho e hT hi hs hx hown hr (by omega) hbase fun A' cap' w' h2 h3 => by
    have h4 := h A' cap' w' (by simpa using h2) (hb.grown h3 hbase (fun g hg => (World.ownsRow.lt hown g hg).1))
    rw [Nat.zero_add]
    exact h4
end

end Go.Proofs.YtiplfhmimpkplaaGreat.NumMem

/-
  Things in memory, with their blocks: what a call may have changed, things beside each other, boxes. No function of the program here.
-/
namespace Go.Proofs.YtiplfhmimpkplaaGreat.DkWalk
open Go.RowKit Go.Proofs.YtiplfhmimpkplaaGreat.MemRow Go.Proofs.YtiplfhmimpkplaaGreat.Ev Go.Proofs.YtiplfhmimpkplaaGreat.NameMath Go.Proofs.YtiplfhmimpkplaaGreat.NameWalk Go.Proofs.YtiplfhmimpkplaaGreat.EvWalk Go.Proofs.YtiplfhmimpkplaaGreat.NumMem

/-! ### What a call may have changed: the blocks of F, and none that was there besides -/
structure Ch (F : Nat → Prop) (w w' : World) : Prop where
  os : w'.os = w.os
  tape : w'.tape = w.tape
  output : w'.output = w.output
  size : w.heap.size ≤ w'.heap.size
  block : ∀ k, k < w.heap.size → ¬ F k → w'.heap[k]? = w.heap[k]?
/-- The blocks of F, and all that are new since w. -/
def up (F : Nat → Prop) (w w' : World) (k : Nat) : Prop := F k ∨ (w.heap.size ≤ k ∧ k < w'.heap.size)
section
variable {F G : Nat → Prop} {w w1 w' : World}
theorem Ch.refl (F : Nat → Prop) (w : World) : Ch F w w := ⟨rfl, rfl, rfl, Nat.le_refl _, fun _ _ _ => rfl⟩
theorem Ch.trans (h : Ch F w w1) (k : Ch (up F w w1) w1 w') : Ch F w w' :=
  ⟨k.os.trans h.os, k.tape.trans h.tape, k.output.trans h.output, Nat.le_trans h.size k.size, fun i hi hn => (k.block i (Nat.lt_of_lt_of_le hi h.size) (fun hu => by
    rcases hu with hu | hu
    · exact hn hu
    · omega)).trans (h.block i hi hn)⟩
theorem Ch.wide (h : Ch F w w') (hs : ∀ k, F k → G k) : Ch G w w' := ⟨h.os, h.tape, h.output, h.size, fun k hk hn => h.block k hk fun hf => hn (hs k hf)⟩
theorem Ch.of_below (h : Below w.heap.size w w') : Ch F w w' := ⟨h.os, h.tape, h.output, h.size, fun k hk _ => h.block k hk⟩
theorem Ch.of_grown {row : Option Nat} (h : w.grownBy w' row) (hr : ∀ r, row = some r → F r ∨ w.heap.size ≤ r) : Ch F w w' :=
  ⟨h.os, h.tape, h.output, h.size, fun k hk hn => h.block k hk fun e => by
    rcases hr k e.symm with h1 | h1
    · exact hn h1
    · omega⟩
/-- A step behind a call. -/
theorem Ch.then_below (h : Ch F w w1) (k : Below w1.heap.size w1 w') : Ch F w w' := h.trans (Ch.of_below k)
theorem Ch.then_grown {row : Option Nat} (h : Ch F w w1) (k : w1.grownBy w' row) (hr : ∀ r, row = some r → up F w w1 r ∨ w1.heap.size ≤ r) : Ch F w w' := h.trans (Ch.of_grown k hr)
theorem up_mono (hs : w1.heap.size ≤ w'.heap.size) {k : Nat} (h : up F w w1 k) : up F w w' k := by
  rcases h with h | h
  · exact .inl h
  · exact .inr ⟨h.1, Nat.lt_of_lt_of_le h.2 hs⟩
theorem up_up (h1 : w.heap.size ≤ w1.heap.size) (h2 : w1.heap.size ≤ w'.heap.size) {k : Nat} (h : up (up F w w1) w1 w' k) : up F w w' k := by
  rcases h with h | h
  · exact up_mono h2 h
  · exact .inr ⟨by omega, h.2⟩
theorem up_lt (hF : ∀ k, F k → k < w.heap.size) (hs : w.heap.size ≤ w'.heap.size) {k : Nat} (h : up F w w' k) : k < w'.heap.size := by
  rcases h with h | h
  · exact Nat.lt_of_lt_of_le (hF k h) hs
  · exact h.2
end

/-! ### Rows that stay -/
theorem own_keep {k : Nat} {w w' : World} {base : Nat} {t : TypeId} {A : Option Addr} {n cap : Nat} {cs : List Value} (h : OwnC k w base t A n cap cs) (hk : ∀ a, A = some a → w'.heap[a.block]? = w.heap[a.block]?) : OwnC k w' base t A n cap cs := by
  refine ⟨h.1, ?_⟩
  rcases h.2 with h2 | ⟨g, c, cur, hv, hb, hg, rest⟩
  · exact .inl h2
  · have e1 : A = some ⟨g, 0, none⟩ := by injection hv
    exact .inr ⟨g, c, cur, hv, hb, (hk ⟨g, 0, none⟩ e1).trans hg, rest⟩
theorem rd_keep {w w' : World} {A : Option Addr} {n cap : Nat} {l : List UInt8} (h : Rd w A n cap l) (hk : ∀ a, A = some a → w'.heap[a.block]? = w.heap[a.block]?) : Rd w' A n cap l :=
  h.keep fun b o hA _ i _ => World.cell?_of_block (w := w) (a := ⟨b, o + i, none⟩) (hk ⟨b, o, none⟩ hA)
theorem own8_keep {w w' : World} {base : Nat} {t : TypeId} {A : Option Addr} {n cap : Nat} {l : List UInt8} (h : Own w base t A n cap l) (hk : ∀ a, A = some a → w'.heap[a.block]? = w.heap[a.block]?) : Own w' base t A n cap l := own_keep (k := 1) (cs := cellsOf l) h hk
theorem own8_grown {w w' : World} {base : Nat} {t : TypeId} {A : Option Addr} {n cap : Nat} {l : List UInt8} {row : Option Nat} (h : Own w base t A n cap l) (hg : w.grownBy w' row) (hne : ∀ a, A = some a → some a.block ≠ row) : Own w' base t A n cap l := OwnC.grown (k := 1) (cs := cellsOf l) h hg hne
theorem own8_lower {w : World} {base : Nat} {t : TypeId} {A : Option Addr} {n cap : Nat} {l : List UInt8} (h : Own w base t A n cap l) : Own w 0 t A n cap l := by
  refine ⟨h.1, ?_⟩
  rcases h.2 with h2 | ⟨g, c, cur, hv, _, rest⟩
  · exact .inl h2
  · exact .inr ⟨g, c, cur, hv, Nat.zero_le _, rest⟩
/-- A row of a call's own lies in no block of other elements. -/
theorem own_not {k : Nat} {w : World} {base : Nat} {t T : TypeId} {A : Option Addr} {n cap g : Nat} {cs : List Value} {x : Array Value} {fr : Nat × Nat} (h : OwnC k w base t A n cap cs) (hg : w.heap[g]? = some (.cells x T fr)) (ht : t ≠ T) : ∀ a, A = some a → a.block ≠ g := by
  intro a ha e
  rcases h.2 with ⟨hv, _⟩ | ⟨g', c, cur, hv, _, hg', _⟩
  · rw [ha] at hv
    cases hv
  · have e1 : A = some ⟨g', 0, none⟩ := by injection hv
    rw [ha] at e1
    injection e1 with e1
    rw [e1] at e
    simp only at e
    rw [e, hg] at hg'
    injection hg' with hg'
    injection hg' with _ e3
    exact ht e3.symm
theorem own8_not {w : World} {base : Nat} {t T : TypeId} {A : Option Addr} {n cap g : Nat} {l : List UInt8} {x : Array Value} {fr : Nat × Nat} (h : Own w base t A n cap l) (hg : w.heap[g]? = some (.cells x T fr)) (ht : t ≠ T) : ∀ a, A = some a → a.block ≠ g := own_not (k := 1) (cs := cellsOf l) h hg ht

/-- An object in memory, with its blocks. -/
abbrev Thing := World → (Nat → Prop) → Prop
/-- It stays while its blocks do. -/
structure Keeps (P : Thing) : Prop where
  keep : ∀ {w w' : World} {F : Nat → Prop}, P w F → w.heap.size ≤ w'.heap.size → (∀ k, F k → w'.heap[k]? = w.heap[k]?) → P w' F
  lt : ∀ {w : World} {F : Nat → Prop}, P w F → ∀ k, F k → k < w.heap.size
def NoT : Thing := fun _ F => ∀ k, ¬ F k
theorem noT_keeps : Keeps NoT := ⟨fun h _ _ => h, fun h k hk => absurd hk (h k)⟩

/-- Two objects that share no block, both behind base. -/
def Pair (base : Nat) (w : World) (P Q : Thing) : Prop := ∃ F G, P w F ∧ Q w G ∧ (∀ k, F k → base ≤ k) ∧ (∀ k, G k → base ≤ k) ∧ ∀ k, F k → ¬ G k
theorem ch_below {base : Nat} {F : Nat → Prop} {a w w' : World} (hb : Below base a w) (hc : Ch F w w') (hF : ∀ k, F k → base ≤ k) (ha : base ≤ a.heap.size) : Below base a w' :=
  ⟨hc.os.trans hb.os, hc.tape.trans hb.tape, hc.output.trans hb.output, Nat.le_trans hb.size hc.size, fun k hk => (hc.block k (Nat.lt_of_lt_of_le hk (Nat.le_trans ha hb.size)) (fun hf => by have := hF k hf; omega)).trans (hb.block k hk)⟩
section
variable {base : Nat} {w w' : World} {P P' Q Q' : Thing}
theorem Pair.swap (h : Pair base w P Q) : Pair base w Q P := by
  obtain ⟨F, G, hp, hq, h1, h2, h3⟩ := h
  exact ⟨G, F, hq, hp, h2, h1, fun k hg hf => h3 k hf hg⟩
theorem Pair.below (h : Pair base w P Q) (kp : Keeps P) (kq : Keeps Q) (hb : Below w.heap.size w w') : Pair base w' P Q := by
  obtain ⟨F, G, hp, hq, h1, h2, h3⟩ := h
  exact ⟨F, G, kp.keep hp hb.size fun k hk => hb.block k (kp.lt hp k hk), kq.keep hq hb.size fun k hk => hb.block k (kq.lt hq k hk), h1, h2, h3⟩
/-- A call of the first one. -/
theorem Pair.left {F G : Nat → Prop} (hq : Q w G) (kq : Keeps Q) (h1 : ∀ k, F k → base ≤ k) (h2 : ∀ k, G k → base ≤ k) (h3 : ∀ k, F k → ¬ G k) (hb : base ≤ w.heap.size) (hp' : P' w' (up F w w')) (hc : Ch F w w') : Pair base w' P' Q := by
  refine ⟨_, G, hp', kq.keep hq hc.size fun k hk => hc.block k (kq.lt hq k hk) fun hf => h3 k hf hk, fun k hk => ?_, h2, fun k hk hg => ?_⟩
  · rcases hk with hk | hk
    · exact h1 k hk
    · omega
  · rcases hk with hk | hk
    · exact h3 k hk hg
    · have := kq.lt hq k hg
      omega
/-- A new object beside one. -/
theorem Pair.fresh {G : Nat → Prop} (hq : Q w G) (kq : Keeps Q) (h2 : ∀ k, G k → base ≤ k) (hb : base ≤ w.heap.size) (hp' : P' w' (fun k => w.heap.size ≤ k ∧ k < w'.heap.size)) (hc : Below w.heap.size w w') : Pair base w' P' Q :=
  ⟨_, G, hp', kq.keep hq hc.size fun k hk => hc.block k (kq.lt hq k hk), fun k hk => by have := hk.1; omega, h2, fun k hk hg => by
    have := kq.lt hq k hg
    have := hk.1
    omega⟩
end

/-- Two objects that share no block, seen as one. -/
def With (Q R : Thing) : Thing := fun w G => ∃ G1 G2, Q w G1 ∧ R w G2 ∧ (∀ k, G1 k → G k) ∧ (∀ k, G2 k → G k) ∧ (∀ k, G k → k < w.heap.size) ∧ ∀ k, G1 k → ¬ G2 k
theorem with_keeps {Q R : Thing} (kq : Keeps Q) (kr : Keeps R) : Keeps (With Q R) :=
  ⟨fun ⟨G1, G2, h1, h2, i1, i2, hl, hx⟩ hs hk => ⟨G1, G2, kq.keep h1 hs fun k h => hk k (i1 k h), kr.keep h2 hs fun k h => hk k (i2 k h), i1, i2, fun k h => Nat.lt_of_lt_of_le (hl k h) hs, hx⟩, fun ⟨_, _, _, _, _, _, hl, _⟩ => hl⟩
/-- A slice that holds bytes. -/
def SlT (A : Option Addr) (n c : Nat) (l : List UInt8) : Thing := fun w G => Rd w A n c l ∧ (∀ a, A = some a → G a.block) ∧ ∀ k, G k → k < w.heap.size
theorem slT_keeps (A : Option Addr) (n c : Nat) (l : List UInt8) : Keeps (SlT A n c l) :=
  ⟨fun ⟨h, i, hl⟩ hs hk => ⟨rd_keep h fun a ha => hk _ (i a ha), i, fun k h => Nat.lt_of_lt_of_le (hl k h) hs⟩, fun h => h.2.2⟩
/-- A row of bytes of the law's own. -/
def OwT (A : Option Addr) (n c : Nat) (l : List UInt8) : Thing := fun w G => Own w 0 5 A n c l ∧ (∀ a, A = some a → G a.block) ∧ ∀ k, G k → k < w.heap.size
theorem owT_keeps (A : Option Addr) (n c : Nat) (l : List UInt8) : Keeps (OwT A n c l) :=
  ⟨fun ⟨h, i, hl⟩ hs hk => ⟨own8_keep h fun a ha => hk _ (i a ha), i, fun k h => Nat.lt_of_lt_of_le (hl k h) hs⟩, fun h => h.2.2⟩
/-- A box. -/
def BxT (g : Nat) (cs : Array Value) (t : TypeId) : Thing := fun w G => w.heap[g]? = some (.cells cs t (0, 0)) ∧ G g ∧ ∀ k, G k → k < w.heap.size
theorem bxT_keeps (g : Nat) (cs : Array Value) (t : TypeId) : Keeps (BxT g cs t) :=
  ⟨fun ⟨h, i, hl⟩ hs hk => ⟨(hk _ i).trans h, i, fun k h => Nat.lt_of_lt_of_le (hl k h) hs⟩, fun h => h.2.2⟩
theorem pair_rd {base : Nat} {w : World} {P Q : Thing} {A : Option Addr} {n c : Nat} {l : List UInt8} (h : Pair base w P (With Q (SlT A n c l))) : Rd w A n c l := by
  obtain ⟨_, _, _, ⟨_, _, _, hr, _⟩, _⟩ := h
  exact hr.1
theorem pair_ow {base : Nat} {w : World} {P Q : Thing} {A : Option Addr} {n c : Nat} {l : List UInt8} (h : Pair base w P (With Q (OwT A n c l))) : Own w 0 5 A n c l := by
  obtain ⟨_, _, _, ⟨_, _, _, hr, _⟩, _⟩ := h
  exact hr.1
theorem pair_bx {base : Nat} {w : World} {P Q : Thing} {g : Nat} {cs : Array Value} {t : TypeId} (h : Pair base w P (With Q (BxT g cs t))) : w.heap[g]? = some (.cells cs t (0, 0)) := by
  obtain ⟨_, _, _, ⟨_, _, _, hr, _⟩, _⟩ := h
  exact hr.1
theorem pair_first {base : Nat} {w : World} {P Q R : Thing} (h : Pair base w P (With Q R)) : Pair base w P Q := by
  obtain ⟨F, G, hp, ⟨G1, _, h1, _, i1, _, _⟩, hF, hG, hd⟩ := h
  exact ⟨F, G1, hp, h1, hF, fun k hk => hG k (i1 k hk), fun k hf hg => hd k hf (i1 k hg)⟩
theorem pair_rot {base : Nat} {w : World} {P Q R : Thing} (kp : Keeps P) (h : Pair base w P (With Q R)) : Pair base w Q (With P R) := by
  obtain ⟨F, G, hp, ⟨G1, G2, h1, h2, i1, i2, hl, hx⟩, hF, hG, hd⟩ := h
  refine ⟨G1, fun k => F k ∨ G2 k, h1, ⟨F, G2, hp, h2, fun k hk => .inl hk, fun k hk => .inr hk, fun k hk => ?_, fun k hf hg => hd k hf (i2 k hg)⟩, fun k hk => hG k (i1 k hk), fun k hk => ?_, fun k hk hg => ?_⟩
  · rcases hk with hk | hk
    · exact kp.lt hp k hk
    · exact hl k (i2 k hk)
  · rcases hk with hk | hk
    · exact hF k hk
    · exact hG k (i2 k hk)
  · rcases hg with hg | hg
    · exact hd k hg (i1 k hk)
    · exact hx k hk hg
theorem pair_last {base : Nat} {w : World} {P Q S : Thing} (kp : Keeps P) (h : Pair base w P (With Q S)) : Pair base w S (With P Q) := by
  obtain ⟨F, G, hp, ⟨G1, G2, h1, h2, i1, i2, hl, hx⟩, hF, hG, hd⟩ := h
  refine ⟨G2, fun k => F k ∨ G1 k, h2, ⟨F, G1, hp, h1, fun k hk => .inl hk, fun k hk => .inr hk, fun k hk => ?_, fun k hf hg => hd k hf (i1 k hg)⟩, fun k hk => hG k (i2 k hk), fun k hk => ?_, fun k hk hg => ?_⟩
  · rcases hk with hk | hk
    · exact kp.lt hp k hk
    · exact hl k (i1 k hk)
  · rcases hk with hk | hk
    · exact hF k hk
    · exact hG k (i1 k hk)
  · rcases hg with hg | hg
    · exact hd k hg (i2 k hk)
    · exact hx k hg hk
theorem pair_drop {base : Nat} {w : World} {P Q S : Thing} (h : Pair base w S (With P Q)) : Pair base w P Q := by
  obtain ⟨F, G, hp, ⟨G1, G2, h1, h2, i1, i2, hl, hx⟩, hF, hG, hd⟩ := h
  exact ⟨G1, G2, h1, h2, fun k hk => hG k (i1 k hk), fun k hk => hG k (i2 k hk), hx⟩
/-- A new thing beside. -/
theorem pair_more {base : Nat} {w w' : World} {P Q R : Thing} (h : Pair base w P Q) (kp : Keeps P) (kq : Keeps Q) (hb : base ≤ w.heap.size) (hbl : Below w.heap.size w w') (hn : R w' (fun k => w.heap.size ≤ k ∧ k < w'.heap.size)) : Pair base w' P (With Q R) := by
  obtain ⟨F, G, hp, hq, h1, h2, h3⟩ := h
  have hp' := kp.keep hp hbl.size fun k hk => hbl.block k (kp.lt hp k hk)
  have hq' := kq.keep hq hbl.size fun k hk => hbl.block k (kq.lt hq k hk)
  refine ⟨F, fun k => G k ∨ (w.heap.size ≤ k ∧ k < w'.heap.size), hp', ⟨G, fun k => w.heap.size ≤ k ∧ k < w'.heap.size, hq', hn, fun k hk => .inl hk, fun k hk => .inr hk, fun k hk => ?_, fun k hg hk => ?_⟩, h1, fun k hk => ?_, fun k hf hk => ?_⟩
  · rcases hk with hk | hk
    · exact kq.lt hq' k hk
    · exact hk.2
  · have := kq.lt hq k hg
    omega
  · rcases hk with hk | hk
    · exact h2 k hk
    · omega
  · rcases hk with hk | hk
    · exact h3 k hf hk
    · have := kp.lt hp k hf
      omega

theorem pair_second {base : Nat} {w : World} {P Q R : Thing} (h : Pair base w P (With Q R)) : Pair base w P R := by
  obtain ⟨F, G, hp, ⟨_, G2, _, h2, _, i2, _⟩, hF, hG, hd⟩ := h
  exact ⟨F, G2, hp, h2, hF, fun k hk => hG k (i2 k hk), fun k hf hg => hd k hf (i2 k hg)⟩

/-- What holds the one holds the other. -/
def Imp (Q R : Thing) : Prop := ∀ w G, Q w G → R w G
theorem pair_imp {base : Nat} {w : World} {P Q R : Thing} (i : Imp Q R) (h : Pair base w P Q) : Pair base w P R := by
  obtain ⟨F, G, hp, hq, h1, h2, h3⟩ := h
  exact ⟨F, G, hp, i w G hq, h1, h2, h3⟩
theorem th_left {Q Q' R : Thing} (i : Imp Q Q') : Imp (With Q R) (With Q' R) := fun w _ ⟨G1, G2, h1, h2, i1, i2, hl, hx⟩ => ⟨G1, G2, i w G1 h1, h2, i1, i2, hl, hx⟩
theorem th_place {Q R S : Thing} : Imp (With (With Q R) S) (With (With Q S) R) := fun w G ⟨G1, G2, ⟨H1, H2, hq, hr, a1, a2, a3, a4⟩, hs, i1, i2, hl, hx⟩ => by
  refine ⟨fun k => H1 k ∨ G2 k, H2, ⟨H1, G2, hq, hs, fun k hk => .inl hk, fun k hk => .inr hk, fun k hk => ?_, fun k h1 h2 => hx k (a1 k h1) h2⟩, hr, fun k hk => ?_, fun k hk => i1 k (a2 k hk), hl, fun k hk h2 => ?_⟩
  · rcases hk with hk | hk
    · exact a3 k (a1 k hk)
    · exact hl k (i2 k hk)
  · rcases hk with hk | hk
    · exact i1 k (a1 k hk)
    · exact i2 k hk
  · rcases hk with hk | hk
    · exact a4 k hk h2
    · exact hx k (a2 k h2) hk
/-- The middle one is let go. -/
theorem th_drop {Q R S : Thing} : Imp (With (With Q R) S) (With Q S) := fun _ _ ⟨_, G2, ⟨H1, _, hq, _, a1, _, _, _⟩, hs, i1, i2, hl, hx⟩ => ⟨H1, G2, hq, hs, fun k hk => i1 k (a1 k hk), i2, hl, fun k hk h2 => hx k (a1 k hk) h2⟩
theorem th_trans {Q R S : Thing} (i : Imp Q R) (j : Imp R S) : Imp Q S := fun w G h => j w G (i w G h)
/-- The one ahead of the last two comes last, and the last one ahead of two. -/
theorem th_mv2 {A R B C : Thing} : Imp (With (With (With A R) B) C) (With (With (With A B) C) R) := th_trans (th_left th_place) th_place
theorem th_mv2' {A R B C : Thing} : Imp (With (With (With A B) C) R) (With (With (With A R) B) C) := th_trans th_place (th_left th_place)
theorem th_mv3 {A R B C D : Thing} : Imp (With (With (With (With A R) B) C) D) (With (With (With (With A B) C) D) R) := th_trans (th_left th_mv2) th_place
theorem th_mv3' {A R B C D : Thing} : Imp (With (With (With (With A B) C) D) R) (With (With (With (With A R) B) C) D) := th_trans th_place (th_left th_mv2')
theorem th_mv4 {A R B C D E : Thing} : Imp (With (With (With (With (With A R) B) C) D) E) (With (With (With (With (With A B) C) D) E) R) := th_trans (th_left th_mv3) th_place
theorem th_mv4' {A R B C D E : Thing} : Imp (With (With (With (With (With A B) C) D) E) R) (With (With (With (With (With A R) B) C) D) E) := th_trans th_place (th_left th_mv3')

theorem bel_up {base : Nat} {w w' : World} (hb : base ≤ w.heap.size) (h : Below w.heap.size w w') : Below base w w' := ⟨h.os, h.tape, h.output, h.size, fun k hk => h.block k (Nat.lt_of_lt_of_le hk hb)⟩

section
variable {base : Nat} {w : World} {P Q : Thing} {gl : Nat}
theorem lg_put {cs cs' : Array Value} {t : TypeId} {i : Nat} {v : Value} (kp : Keeps P) (kq : Keeps Q) (h : Pair base w P (With Q (BxT gl cs t))) (hn : (w.setCell ⟨gl, i, none⟩ v).heap[gl]? = some (.cells cs' t (0, 0))) : Pair base (w.setCell ⟨gl, i, none⟩ v) P (With Q (BxT gl cs' t)) ∧ Below base w (w.setCell ⟨gl, i, none⟩ v) := by
  obtain ⟨F, G, hp, ⟨G1, G2, h1, ⟨hh, hg, hl⟩, i1, i2, hlt, hx⟩, hF, hG, hd⟩ := h
  have hsz : (w.setCell ⟨gl, i, none⟩ v).heap.size = w.heap.size := by simp [World.setCell]
  have hk : ∀ k, k ≠ gl → (w.setCell ⟨gl, i, none⟩ v).heap[k]? = w.heap[k]? := fun k hk => by
    have : gl ≠ k := fun e => hk e.symm
    simp [World.setCell, Array.getElem?_modify, this]
  refine ⟨⟨F, G, kp.keep hp (by omega) fun k hf => hk k fun e => hd k hf (by rw [e]; exact i2 _ hg), ⟨G1, G2, kq.keep h1 (by omega) fun k hf => hk k fun e => hx k hf (by rw [e]; exact hg), ⟨hn, hg, fun k hk => by rw [hsz]; exact hl k hk⟩, i1, i2, fun k hk => by rw [hsz]; exact hlt k hk, hx⟩, hF, hG, hd⟩, ?_⟩
  exact (Below.refl base w).setCell (by show base ≤ gl; exact hG _ (i2 _ hg)) v
end
theorem pair_place {base : Nat} {w : World} {P Q R S : Thing} (h : Pair base w P (With (With Q R) S)) : Pair base w P (With (With Q S) R) := by
  obtain ⟨F, G, hp, ⟨G1, G2, ⟨H1, H2, hq, hr, a1, a2, a3, a4⟩, hs, i1, i2, hl, hx⟩, hF, hG, hd⟩ := h
  refine ⟨F, G, hp, ⟨fun k => H1 k ∨ G2 k, H2, ⟨H1, G2, hq, hs, fun k hk => .inl hk, fun k hk => .inr hk, fun k hk => ?_, fun k h1 h2 => hx k (a1 k h1) h2⟩, hr, fun k hk => ?_, fun k hk => i1 k (a2 k hk), hl, fun k hk h2 => ?_⟩, hF, hG, hd⟩
  · rcases hk with hk | hk
    · exact a3 k (a1 k hk)
    · exact hl k (i2 k hk)
  · rcases hk with hk | hk
    · exact i1 k (a1 k hk)
    · exact i2 k hk
  · rcases hk with hk | hk
    · exact a4 k hk h2
    · exact hx k (a2 k h2) hk

theorem bx_new {base : Nat} {w : World} {P Q : Thing} (kp : Keeps P) (kq : Keeps Q) (hb : base ≤ w.heap.size) (h : Pair base w P Q) (cs : Array Value) (t : TypeId) : Pair base (w.alloc (.cells cs t)) P (With Q (BxT w.heap.size cs t)) ∧ Below w.heap.size w (w.alloc (.cells cs t)) := by
  have b : Below w.heap.size w (w.alloc (.cells cs t)) := (Below.refl _ w).alloc (Nat.le_refl _) _
  exact ⟨pair_more h kp kq hb b ⟨heap_alloc_new w _, ⟨Nat.le_refl _, by simp⟩, fun k hk => hk.2⟩, b⟩

theorem side_in {base : Nat} {w : World} {P R S : Thing} (kS : Keeps S) (h : Pair base w (With P R) S) : Pair base w P (With S R) := pair_rot kS h.swap
theorem side_out {base : Nat} {w : World} {P R S : Thing} (kP : Keeps P) (h : Pair base w P (With S R)) : Pair base w (With P R) S := (pair_rot kP h).swap

end Go.Proofs.YtiplfhmimpkplaaGreat.DkWalk

/-
  Layer 14's readings: rows of records; rows of a call's own whose records' rows are older.
-/
namespace Go.Proofs.YtiplfhmimpkplaaGreat.IxWalk
open Go.RowKit Go.Proofs.YtiplfhmimpkplaaGreat.MemRow Go.Proofs.YtiplfhmimpkplaaGreat.Ev Go.Proofs.YtiplfhmimpkplaaGreat.NameMath Go.Proofs.YtiplfhmimpkplaaGreat.NameWalk Go.Proofs.YtiplfhmimpkplaaGreat.EvWalk Go.Proofs.YtiplfhmimpkplaaGreat.NumMem Go.Proofs.YtiplfhmimpkplaaGreat.Qu Go.Proofs.YtiplfhmimpkplaaGreat.QuWalk Go.Proofs.YtiplfhmimpkplaaGreat.SmWalk Go.Proofs.YtiplfhmimpkplaaGreat.BtWalk Go.Proofs.YtiplfhmimpkplaaGreat.DkWalk

def noRc : Rc := ⟨0, 0, noEv⟩
theorem rec_info : (Tryz.prog.info? 51).map (fun i => (i.zero, i.size, i.bytes)) = some (some (.agg #[.int .i64 0, .int .i64 0, .string ⟨#[]⟩, .string ⟨#[]⟩, .slice none 0 0, .slice none 0 0]), 6, 96) := by kernel_rfl
/-- The six cells at an address read as a record. -/
def RcCells (w : World) (b o : Nat) (r : Rc) : Prop :=
  ∃ T nT cT F nF cF, w.cell? ⟨b, o, none⟩ = some (.int .i64 r.pos) ∧ w.cell? ⟨b, o + 1, none⟩ = some (.int .i64 r.ver) ∧ w.cell? ⟨b, o + 2, none⟩ = some (.string r.e.s) ∧ w.cell? ⟨b, o + 3, none⟩ = some (.string r.e.t) ∧ w.cell? ⟨b, o + 4, none⟩ = some (.slice T nT cT) ∧ w.cell? ⟨b, o + 5, none⟩ = some (.slice F nF cF) ∧ RdS w T nT cT r.e.tags ∧ RdF w F nF cF r.e.fs
theorem RcCells.below {w w' : World} {b o : Nat} {r : Rc} (h : RcCells w b o r) (hb : Below w.heap.size w w') : RcCells w' b o r := by
  obtain ⟨T, nT, cT, F, nF, cF, h0, h1, h2, h3, h4, h5, h6, h7⟩ := h
  exact ⟨T, nT, cT, F, nF, cF, bcell hb h0, bcell hb h1, bcell hb h2, bcell hb h3, bcell hb h4, bcell hb h5, RdC.below h6 hb, RdC.below h7 hb⟩
/-- A slice that reads as records. -/
def RdRc (w : World) (A : Option Addr) (n cap : Nat) (rs : List Rc) : Prop :=
  rs.length = n ∧ n ≤ cap ∧ cap ≤ maxLen ∧ (0 < n → ∃ b o, A = some ⟨b, o, none⟩ ∧ b < w.heap.size ∧ ∀ i, i < n → RcCells w b (o + i * 6) (rs.getD i noRc))
section
variable {w w' : World} {A : Option Addr} {n cap : Nat} {rs : List Rc}
theorem RdRc.nil (w : World) : RdRc w none 0 0 [] := ⟨rfl, Nat.le_refl _, Nat.zero_le _, fun h => absurd h (by omega)⟩
theorem RdRc.len (h : RdRc w A n cap rs) : rs.length = n := h.1
theorem RdRc.le (h : RdRc w A n cap rs) : n ≤ maxLen := Nat.le_trans h.2.1 h.2.2.1
theorem RdRc.at_ (h : RdRc w A n cap rs) (hn : 0 < n) : ∃ b o, A = some ⟨b, o, none⟩ ∧ b < w.heap.size ∧ ∀ i, i < n → RcCells w b (o + i * 6) (rs.getD i noRc) := h.2.2.2 hn
theorem RdRc.below (h : RdRc w A n cap rs) (hb : Below w.heap.size w w') : RdRc w' A n cap rs :=
  ⟨h.1, h.2.1, h.2.2.1, fun hn => by
    obtain ⟨b, o, hA, hlt, hc⟩ := h.2.2.2 hn
    exact ⟨b, o, hA, Nat.lt_of_lt_of_le hlt hb.size, fun i hi => (hc i hi).below hb⟩⟩
theorem RdRc.drewN (h : RdRc w A n cap rs) (k : Nat) : RdRc (w.drewN k) A n cap rs := h
end
theorem rc_take (l : List Rc) (j : Nat) (h : j < l.length) : l.take (j + 1) = l.take j ++ [l.getD j noRc] := by
  rw [List.take_add_one, List.getElem?_eq_getElem h]
  simp [List.getD, List.getElem?_eq_getElem h]
theorem rc_get {l : List Rc} {j : Nat} (h : j < l.length) : l.getD j noRc ∈ l := by
  rw [List.getD_eq_getElem?_getD, List.getElem?_eq_getElem h]
  exact List.getElem_mem h
abbrev rcV (r : Rc) (T : Option Addr) (nT cT : Nat) (F : Option Addr) (nF cF : Nat) : List Value := [.int .i64 r.pos, .int .i64 r.ver, .string r.e.s, .string r.e.t, .slice T nT cT, .slice F nF cF]
theorem rc_one (r : Rc) (T F : Option Addr) (nT cT nF cF : Nat) : ∀ v ∈ rcV r T nT cT F nF cF, v.oneCell' = true := by
  intro v hv
  simp only [rcV, List.mem_cons, List.not_mem_nil, or_false] at hv
  rcases hv with rfl | rfl | rfl | rfl | rfl | rfl <;> rfl

/-! ### Rows whose records' rows are older -/
def RcsO (w0 : World) : List Rc → List Value → Prop
  | [], cs => cs = []
  | r :: rs, cs => ∃ T nT cT F nF cF cs', cs = .int .i64 r.pos :: .int .i64 r.ver :: .string r.e.s :: .string r.e.t :: .slice T nT cT :: .slice F nF cF :: cs' ∧ RdS w0 T nT cT r.e.tags ∧ RdF w0 F nF cF r.e.fs ∧ RcsO w0 rs cs'
theorem RcsO.snoc {w : World} {r : Rc} {T F : Option Addr} {nT cT nF cF : Nat} (o1 : RdS w T nT cT r.e.tags) (o2 : RdF w F nF cF r.e.fs) :
    ∀ (rs : List Rc) (cs : List Value), RcsO w rs cs → RcsO w (rs ++ [r]) (cs ++ rcV r T nT cT F nF cF)
  | [], cs, h => by
    obtain rfl : cs = [] := h
    exact ⟨T, nT, cT, F, nF, cF, [], rfl, o1, o2, rfl⟩
  | x :: rs, cs, ⟨T1, n1, c1, F1, m1, d1, cs', hc, p1, p2, h⟩ => by
    subst hc
    exact ⟨T1, n1, c1, F1, m1, d1, cs' ++ rcV r T nT cT F nF cF, rfl, p1, p2, RcsO.snoc o1 o2 rs cs' h⟩
theorem RcsO.at_ {w : World} : ∀ (rs : List Rc) (cs : List Value), RcsO w rs cs → ∀ i, i < rs.length →
    ∃ T nT cT F nF cF, cs[i * 6]? = some (.int .i64 (rs.getD i noRc).pos) ∧ cs[i * 6 + 1]? = some (.int .i64 (rs.getD i noRc).ver) ∧ cs[i * 6 + 2]? = some (.string (rs.getD i noRc).e.s) ∧ cs[i * 6 + 3]? = some (.string (rs.getD i noRc).e.t) ∧ cs[i * 6 + 4]? = some (.slice T nT cT) ∧ cs[i * 6 + 5]? = some (.slice F nF cF) ∧ RdS w T nT cT (rs.getD i noRc).e.tags ∧ RdF w F nF cF (rs.getD i noRc).e.fs
  | [], _, _, i, hi => by simp at hi
  | r :: rs, cs, ⟨T, nT, cT, F, nF, cF, cs', hc, o1, o2, h⟩, i, hi => by
    subst hc
    cases i with
    | zero => exact ⟨T, nT, cT, F, nF, cF, rfl, rfl, rfl, rfl, rfl, rfl, o1, o2⟩
    | succ i =>
      obtain ⟨T1, n1, c1, F1, m1, d1, q0, q1, q2, q3, q4, q5, p1, p2⟩ := RcsO.at_ rs cs' h i (by simpa using hi)
      have e6 : (i + 1) * 6 = i * 6 + 6 := by omega
      rw [e6]
      exact ⟨T1, n1, c1, F1, m1, d1, by simpa using q0, by simpa using q1, by simpa using q2, by simpa using q3, by simpa using q4, by simpa using q5, by simpa using p1, by simpa using p2⟩
theorem RcsO.one {w : World} : ∀ (rs : List Rc) (cs : List Value), RcsO w rs cs → ∀ v ∈ cs, v.oneCell' = true
  | [], cs, h, v, hv => by
    obtain rfl : cs = [] := h
    simp at hv
  | _ :: rs, cs, ⟨T, nT, cT, Y, nY, cY, cs', e, _, _, h⟩, v, hv => by
    subst e
    simp only [List.mem_cons] at hv
    rcases hv with rfl | rfl | rfl | rfl | rfl | rfl | hv
    · rfl
    · rfl
    · rfl
    · rfl
    · rfl
    · rfl
    · exact RcsO.one rs cs' h v hv
/-- A row of cells that holds records, their rows as world w0 has them. -/
def RdO (w0 w : World) (A : Option Addr) (n cap : Nat) (rs : List Rc) : Prop := ∃ cs, RdC 6 w A n cap cs ∧ rs.length = n ∧ RcsO w0 rs cs
/-- .. of the call's own. -/
def OwnR (w0 w : World) (base : Nat) (A : Option Addr) (n cap : Nat) (rs : List Rc) : Prop := ∃ cs, OwnC 6 w base 51 A n cap cs ∧ rs.length = n ∧ RcsO w0 rs cs
section
variable {w0 w w' : World} {base n cap : Nat} {A : Option Addr} {rs : List Rc}
theorem OwnR.nil (w0 w : World) (base : Nat) : OwnR w0 w base none 0 0 [] := ⟨[], OwnC.nil _ _, rfl, rfl⟩
theorem OwnR.empty (w0 w : World) {base : Nat} (hb : base ≤ w.heap.size) : OwnR w0 (w.alloc (.cells #[] 51)) base (some ⟨w.heap.size, 0, none⟩) 0 0 [] := ⟨[], OwnC.empty w _ hb, rfl, rfl⟩
theorem OwnR.len (h : OwnR w0 w base A n cap rs) : rs.length = n := by
  obtain ⟨_, _, h, _⟩ := h
  exact h
theorem OwnR.below (h : OwnR w0 w base A n cap rs) (hb : Below w.heap.size w w') : OwnR w0 w' base A n cap rs := by
  obtain ⟨cs, o, hl, hc⟩ := h
  exact ⟨cs, OwnC.below o hb, hl, hc⟩
theorem OwnR.rdo (h : OwnR w0 w base A n cap rs) : RdO w0 w A n cap rs := by
  obtain ⟨cs, o, hl, hc⟩ := h
  exact ⟨cs, OwnC.rd o, hl, hc⟩
theorem RdO.len (h : RdO w0 w A n cap rs) : rs.length = n := by
  obtain ⟨_, _, h, _⟩ := h
  exact h
theorem RdO.below (h : RdO w0 w A n cap rs) (hb : Below w.heap.size w w') : RdO w0 w' A n cap rs := by
  obtain ⟨cs, o, hl, hc⟩ := h
  exact ⟨cs, RdC.below o hb, hl, hc⟩
theorem RdO.le (h : RdO w0 w A n cap rs) : n ≤ maxLen := by
  obtain ⟨cs, o, _⟩ := h
  exact RdC.le o
/-- The cells of one record. -/
theorem RdO.at_ (h : RdO w0 w A n cap rs) {j : Nat} (hj : j < n) : ∃ b o T nT cT F nF cF, A = some ⟨b, o, none⟩ ∧ w.cell? ⟨b, o + j * 6, none⟩ = some (.int .i64 (rs.getD j noRc).pos) ∧ w.cell? ⟨b, o + j * 6 + 1, none⟩ = some (.int .i64 (rs.getD j noRc).ver) ∧ w.cell? ⟨b, o + j * 6 + 2, none⟩ = some (.string (rs.getD j noRc).e.s) ∧ w.cell? ⟨b, o + j * 6 + 3, none⟩ = some (.string (rs.getD j noRc).e.t) ∧ w.cell? ⟨b, o + j * 6 + 4, none⟩ = some (.slice T nT cT) ∧ w.cell? ⟨b, o + j * 6 + 5, none⟩ = some (.slice F nF cF) ∧ RdS w0 T nT cT (rs.getD j noRc).e.tags ∧ RdF w0 F nF cF (rs.getD j noRc).e.fs := by
  obtain ⟨cs, r, hl, hc⟩ := h
  obtain ⟨b, a, hA, _, hcell⟩ := RdC.at_ r (by omega) (by omega)
  obtain ⟨T, nT, cT, F, nF, cF, q0, q1, q2, q3, q4, q5, p1, p2⟩ := RcsO.at_ rs cs hc j (by omega)
  exact ⟨b, a, T, nT, cT, F, nF, cF, hA, hcell _ _ q0, by rw [Nat.add_assoc]; exact hcell _ _ q1, by rw [Nat.add_assoc]; exact hcell _ _ q2, by rw [Nat.add_assoc]; exact hcell _ _ q3, by rw [Nat.add_assoc]; exact hcell _ _ q4, by rw [Nat.add_assoc]; exact hcell _ _ q5, p1, p2⟩
theorem RdO.rd (h : RdO w0 w A n cap rs) (hb : Below w0.heap.size w0 w) : RdRc w A n cap rs := by
  have h' := h
  obtain ⟨cs, r, hl, hc⟩ := h
  refine ⟨hl, r.2.1, r.2.2.1, fun hn => ?_⟩
  obtain ⟨b, a, hA, hlt, hcell⟩ := RdC.at_ r (by omega) hn
  refine ⟨b, a, hA, hlt, fun i hi => ?_⟩
  obtain ⟨b', o', T, nT, cT, F, nF, cF, e, q0, q1, q2, q3, q4, q5, p1, p2⟩ := h'.at_ hi
  rw [hA] at e
  injection e with e
  injection e with e1 e2
  subst e1 e2
  exact ⟨T, nT, cT, F, nF, cF, q0, q1, q2, q3, q4, q5, RdC.below p1 hb, RdC.below p2 hb⟩
theorem OwnR.rd (h : OwnR w0 w base A n cap rs) (hb : Below w0.heap.size w0 w) : RdRc w A n cap rs := h.rdo.rd hb
end

/-! ### A block that holds a record -/
def RxAt (w : World) (g : Nat) (v0 v1 v2 v3 v4 v5 : Value) : Prop := w.heap[g]? = some (.cells #[v0, v1, v2, v3, v4, v5] 51 (0, 0))
section
variable {w w' : World} {g : Nat} {v0 v1 v2 v3 v4 v5 : Value}
theorem RxAt.new (w : World) (v0 v1 v2 v3 v4 v5 : Value) : RxAt (w.alloc (.cells #[v0, v1, v2, v3, v4, v5] 51)) w.heap.size v0 v1 v2 v3 v4 v5 := heap_alloc_new w _
theorem RxAt.lt (h : RxAt w g v0 v1 v2 v3 v4 v5) : g < w.heap.size := (Array.getElem?_eq_some_iff.1 h).1
theorem RxAt.below (h : RxAt w g v0 v1 v2 v3 v4 v5) (hb : Below w.heap.size w w') : RxAt w' g v0 v1 v2 v3 v4 v5 := (hb.block g h.lt).trans h
theorem RxAt.c0 (h : RxAt w g v0 v1 v2 v3 v4 v5) : w.cell? ⟨g, 0, none⟩ = some v0 := by rw [cell_of_row w g 0 _ _ _ h]; rfl
theorem RxAt.c1 (h : RxAt w g v0 v1 v2 v3 v4 v5) : w.cell? ⟨g, 1, none⟩ = some v1 := by rw [cell_of_row w g 1 _ _ _ h]; rfl
theorem RxAt.c2 (h : RxAt w g v0 v1 v2 v3 v4 v5) : w.cell? ⟨g, 2, none⟩ = some v2 := by rw [cell_of_row w g 2 _ _ _ h]; rfl
theorem RxAt.c3 (h : RxAt w g v0 v1 v2 v3 v4 v5) : w.cell? ⟨g, 3, none⟩ = some v3 := by rw [cell_of_row w g 3 _ _ _ h]; rfl
theorem RxAt.c4 (h : RxAt w g v0 v1 v2 v3 v4 v5) : w.cell? ⟨g, 4, none⟩ = some v4 := by rw [cell_of_row w g 4 _ _ _ h]; rfl
theorem RxAt.c5 (h : RxAt w g v0 v1 v2 v3 v4 v5) : w.cell? ⟨g, 5, none⟩ = some v5 := by rw [cell_of_row w g 5 _ _ _ h]; rfl
theorem RxAt.frozen (h : RxAt w g v0 v1 v2 v3 v4 v5) (i : Nat) : w.frozen? ⟨g, i, none⟩ = false := by
  unfold RxAt at h
  simp [World.frozen?, h]
theorem RxAt.all (h : RxAt w g v0 v1 v2 v3 v4 v5) (x0 x1 x2 x3 x4 x5 : Value) : RxAt ((((((w.setCell ⟨g, 0, none⟩ x0).setCell ⟨g, 1, none⟩ x1).setCell ⟨g, 2, none⟩ x2).setCell ⟨g, 3, none⟩ x3).setCell ⟨g, 4, none⟩ x4).setCell ⟨g, 5, none⟩ x5) g x0 x1 x2 x3 x4 x5 := by
  unfold RxAt at h ⊢
  simp only [World.setCell, Array.getElem?_modify, h]
  rfl
theorem six_bel {w : World} {b : Nat} (h : Below b w w') (hg : b ≤ g) (x0 x1 x2 x3 x4 x5 : Value) : Below b w ((((((w'.setCell ⟨g, 0, none⟩ x0).setCell ⟨g, 1, none⟩ x1).setCell ⟨g, 2, none⟩ x2).setCell ⟨g, 3, none⟩ x3).setCell ⟨g, 4, none⟩ x4).setCell ⟨g, 5, none⟩ x5) :=
  (((((h.setCell hg _).setCell hg _).setCell hg _).setCell hg _).setCell hg _).setCell hg _
end

/-! ### Records as events -/
theorem rc_at (es : List Ev) {j : Nat} (h : j < es.length) : (recF es).getD j noRc = ⟨(j : Int) + 1, (cnt (strs (es.take j)) (es.getD j noEv).s : Int) + 1, es.getD j noEv⟩ := by
  have hl : j < (recF es).length := by rw [rec_len]; exact h
  rw [List.getD_eq_getElem?_getD, List.getElem?_eq_getElem hl, Option.getD_some]
  simp only [recF, List.getElem_mapIdx]
  rw [List.getD_eq_getElem?_getD, List.getElem?_eq_getElem h, Option.getD_some]
theorem rec_take (es : List Ev) (j : Nat) : (recF es).take j = recF (es.take j) := by
  conv => lhs; rw [← List.take_append_drop j es]
  rw [rec_more, List.take_append]
  rcases Nat.lt_or_ge j es.length with h | h
  · rw [rec_len, List.length_take, Nat.min_eq_left (by omega), Nat.sub_self, List.take_zero, List.append_nil, List.take_of_length_le (by rw [rec_len, List.length_take]; omega)]
  · rw [List.drop_of_length_le h]
    simp only [newR, List.take_nil, List.append_nil]
    rw [List.take_of_length_le (by rw [rec_len, List.length_take]; omega)]
/-- What p takes of the first j records, one more. -/
theorem tell_step (p : Ev → Bool) (es : List Ev) (u : Int) {j : Nat} (h : j < es.length) :
    tellF p (es.take (j + 1)) u = tellF p (es.take j) u ++ (if (j : Int) + 1 ≤ u ∧ p (es.getD j noEv) = true then [(recF es).getD j noRc] else []) := by
  rw [evsTake es j h, tell_snoc, rc_at es h]
  have e : (es.take j).length = j := by rw [List.length_take]; omega
  rw [e]

end Go.Proofs.YtiplfhmimpkplaaGreat.IxWalk

/-
  Contracts of the document's answers of layer 6: Match, Same.
-/
namespace Go.Proofs.YtiplfhmimpkplaaGreat.QuWalk
open Go.RowKit Go.Proofs.YtiplfhmimpkplaaGreat.MemRow Go.Proofs.YtiplfhmimpkplaaGreat.Ev Go.Proofs.YtiplfhmimpkplaaGreat.NameMath Go.Proofs.YtiplfhmimpkplaaGreat.NameWalk Go.Proofs.YtiplfhmimpkplaaGreat.EvWalk Go.Proofs.YtiplfhmimpkplaaGreat.Qu

/-- The boxes of a query and an event. -/
structure QeAt (wr w : World) (c0 e0 e1 e2 e3 : Value) : Prop where
  eq : QAt wr w.heap.size c0
  ee : EvAt wr (w.heap.size + 1) e0 e1 e2 e3
  bel : Below w.heap.size w wr
/-- The boxes of two queries. -/
structure QqAt (wr w : World) (c0 d0 : Value) : Prop where
  eq : QAt wr w.heap.size c0
  er : QAt wr (w.heap.size + 1) d0
  bel : Below w.heap.size w wr
section
variable {wr w w' : World} {c0 d0 e0 e1 e2 e3 : Value}
theorem QeAt.below (h : QeAt wr w c0 e0 e1 e2 e3) (hb : Below wr.heap.size wr w') : QeAt w' w c0 e0 e1 e2 e3 := ⟨h.eq.below hb, h.ee.below hb h.ee.lt, below_chain h.bel hb⟩
theorem QeAt.drew (h : QeAt wr w c0 e0 e1 e2 e3) : QeAt wr.drew w c0 e0 e1 e2 e3 := ⟨h.eq, h.ee, bel_drew h.bel⟩
theorem QeAt.new (w : World) (c0 e0 e1 e2 e3 : Value) : QeAt ((w.alloc (.cells #[c0] 25)).alloc (.cells #[e0, e1, e2, e3] 42)) w c0 e0 e1 e2 e3 := by
  have a1 := QAt.new w c0
  have b1 : Below w.heap.size w (w.alloc (.cells #[c0] 25)) := (Below.refl _ _).alloc (Nat.le_refl _) _
  generalize hw1 : w.alloc (.cells #[c0] 25) = w1 at *
  have s1 : w1.heap.size = w.heap.size + 1 := by rw [← hw1]; simp
  have a2 := EvAt.new w1 e0 e1 e2 e3
  have b2 : Below w1.heap.size w1 (w1.alloc (.cells #[e0, e1, e2, e3] 42)) := (Below.refl _ _).alloc (Nat.le_refl _) _
  rw [s1] at a2
  exact ⟨a1.below b2, a2, below_chain b1 b2⟩
theorem QqAt.below (h : QqAt wr w c0 d0) (hb : Below wr.heap.size wr w') : QqAt w' w c0 d0 := ⟨h.eq.below hb, h.er.below hb, below_chain h.bel hb⟩
theorem QqAt.drew (h : QqAt wr w c0 d0) : QqAt wr.drew w c0 d0 := ⟨h.eq, h.er, bel_drew h.bel⟩
theorem QqAt.new (w : World) (c0 d0 : Value) : QqAt ((w.alloc (.cells #[c0] 25)).alloc (.cells #[d0] 25)) w c0 d0 := by
  have a1 := QAt.new w c0
  have b1 : Below w.heap.size w (w.alloc (.cells #[c0] 25)) := (Below.refl _ _).alloc (Nat.le_refl _) _
  generalize hw1 : w.alloc (.cells #[c0] 25) = w1 at *
  have s1 : w1.heap.size = w.heap.size + 1 := by rw [← hw1]; simp
  have a2 := QAt.new w1 d0
  have b2 : Below w1.heap.size w1 (w1.alloc (.cells #[d0] 25)) := (Below.refl _ _).alloc (Nat.le_refl _) _
  rw [s1] at a2
  exact ⟨a1.below b2, a2, below_chain b1 b2⟩
end

set_option maxHeartbeats 8000000 in
set_option maxRecDepth 100000 in
theorem refMatch_any (v u : Value) (q : List Cl) (ev : Ev) (w : World) (hv : IsQ w v q) (hu : IsEv w u ev) :
    Calls Tryz.prog 43 #[v, u] w fun e w' => e = .returned (.bool (matchQ q ev)) ∧ Below w.heap.size w w' := by
  have hu0 := hu
  obtain ⟨C, n, cap, rfl, rC⟩ := hv
  obtain ⟨A, nA, cA, B, nB, cB, rfl, _, _⟩ := hu
  generalize hR : matchQ q ev = R
  have HR := Go.Lib.hid hR
  have LC := Go.Lib.hid rC.len
  have hn := rC.le
  unfold maxLen at hn
  clear hR
  have s1 := QeAt.new w (.slice C n cap) (.string ev.s) (.string ev.t) (.slice A nA cA) (.slice B nB cB)
  go_enter Tryz.func43, Tryz.ntmps43
  go_wp2_with fail
  generalize (w.alloc (.cells #[.slice C n cap] 25)).alloc (.cells #[.string ev.s, .string ev.t, .slice A nA cA, .slice B nB cB] 42) = w1 at *
  go_loopw [5, 6] (fun i _ wr => ∃ j : Nat, j ≤ n ∧ i = .int .i64 j ∧ Hid (matchQ (q.take j) ev = false) ∧ QeAt wr w (.slice C n cap) (.string ev.s) (.string ev.t) (.slice A nA cA) (.slice B nB cB)) (fun i _ _ => n - (intOf i).toNat)
  case atStart => exact ⟨0, Nat.zero_le _, rfl, Go.Lib.hid rfl, s1⟩
  case round =>
    obtain ⟨j, hj, rfl, HQ, sr⟩ := hrel
    clear s1
    have k0 := sr.eq.c0
    by_cases hlt : j < n
    · obtain ⟨bt, ot, rfl, _, kt⟩ := (rC.below sr.bel).at_ (by omega)
      obtain ⟨T, nT, cT, Y, nY, cY, x0, x1, rT, rY⟩ := kt j hlt
      have i1 : (j : Int) < n := by omega
      have hjl : j < q.length := by rw [LC.out]; exact hlt
      have HT := Go.Lib.hid (cl_take q j hjl)
      have HMem := Go.Lib.hid (cl_get hjl)
      clear kt hjl
      generalize q.getD j noCl = c at *
      have j0 := sr.ee.c0
      have j1 := sr.ee.c1
      have j2 := sr.ee.c2
      have j3 := sr.ee.c3
      have b0 : Below wr.heap.size wr wr.drew := bel_drew (Below.refl _ _)
      have sd := sr.drew
      have hud := hu0.below sd.bel
      have hcd : IsCl wr.drew (.agg #[.slice T nT cT, .slice Y nY cY]) c := ⟨T, nT, cT, Y, nY, cY, rfl, RdC.below rT b0, RdC.below rY b0⟩
      clear rT rY
      generalize hH : clauseB c ev = Hh at *
      have HH := Go.Lib.hid hH
      clear hH
      go_wp2_with fail
      go_region_held (fun w' => w'.cell? ⟨w.heap.size + 1, 0, none⟩ = some (.string ev.s) ∧ w'.cell? ⟨w.heap.size + 1, 1, none⟩ = some (.string ev.t) ∧ w'.cell? ⟨w.heap.size + 1, 2, none⟩ = some (.slice A nA cA) ∧ w'.cell? ⟨w.heap.size + 1, 3, none⟩ = some (.slice B nB cB) ∧ w'.cell? ⟨w.heap.size, 0, none⟩ = some (.slice (some ⟨bt, ot, none⟩) n cap) ∧ w'.cell? ⟨bt, ot + j * 2, none⟩ = some (.slice T nT cT) ∧ w'.cell? ⟨bt, ot + j * 2 + 1, none⟩ = some (.slice Y nY cY))
        (first | exact ⟨j0, j1, j2, j3, k0, x0, x1⟩ | exact ⟨bcell b9 j0, bcell b9 j1, bcell b9 j2, bcell b9 j3, bcell b9 k0, bcell b9 x0, bcell b9 x1⟩)
        (first | (go_at_call 65; refine (refClause_any _ _ c ev _ hcd hud).mono ?_; rintro e w9 ⟨rfl, bb⟩; rw [HH.out]; have b9 := below_chain b0 bb; clear bb))
      have s9 := sr.below b9
      clear k0 j0 j1 j2 j3 x0 x1 b0 sd hud hcd sr b9
      cases Hh with
      | false =>
        have hq2 : matchQ (q.take (j + 1)) ev = false := by
          have h := HQ.out
          unfold matchQ at h ⊢
          rw [HT.out, List.any_append, h]
          simp [HH.out]
        have HQ2 := Go.Lib.hid hq2
        clear hq2
        go_wp2_with fail
        go_roundw
        case rel => exact ⟨j + 1, by omega, by go_num, HQ2, s9⟩
        case measure => simp [intOf]; omega
      | true =>
        have hR : R = true := by
          rw [← HR.out]
          unfold matchQ
          rw [List.any_eq_true]
          exact ⟨c, HMem.out, HH.out⟩
        subst hR
        have B9 := s9.bel
        go_wp2_with fail
        go_ret
        exact ⟨rfl, B9⟩
    · obtain rfl : n = j := by omega
      have hR : R = false := by
        have h := HQ.out
        rwa [List.take_of_length_le (by rw [LC.out]; exact Nat.le_refl _), HR.out] at h
      subst hR
      have B9 := sr.bel
      go_wp2_with fail
      go_ret
      exact ⟨rfl, B9⟩

theorem texts_bel (A B : Option Addr) (n m ca cb : Nat) (ss tt : List ByteArray) (w : World) (ha : RdS w A n ca ss) (hb : RdS w B m cb tt) :
    Calls Tryz.prog 38 #[.slice A n ca, .slice B m cb] w fun e w' => e = .returned (.bool (decide (ss = tt))) ∧ Below w.heap.size w w' :=
  (refTexts_any A B n m ca cb ss tt w ha hb).mono fun e w' ⟨h, k, hk⟩ => ⟨h, by rw [hk]; exact bel_drewN (Below.refl _ _) k⟩
theorem rise_bel (A : Option Addr) (n ca : Nat) (ss : List ByteArray) (w : World) (ha : RdS w A n ca ss) :
    Calls Tryz.prog 61 #[.slice A n ca] w fun e w' => e = .returned (.bool (riseB ss)) ∧ Below w.heap.size w w' :=
  (refRise_any A n ca ss w ha).mono fun e w' ⟨h, k, hk⟩ => ⟨h, by rw [hk]; exact bel_drewN (Below.refl _ _) k⟩

end Go.Proofs.YtiplfhmimpkplaaGreat.QuWalk

/-
  Contracts of the document's answers of layer 14: Stream, All, Query. (Written by genix.py.)
-/
namespace Go.Proofs.YtiplfhmimpkplaaGreat.IxWalk
open Go.RowKit Go.Proofs.YtiplfhmimpkplaaGreat.MemRow Go.Proofs.YtiplfhmimpkplaaGreat.Ev Go.Proofs.YtiplfhmimpkplaaGreat.NameMath Go.Proofs.YtiplfhmimpkplaaGreat.NameWalk Go.Proofs.YtiplfhmimpkplaaGreat.EvWalk Go.Proofs.YtiplfhmimpkplaaGreat.NumMem Go.Proofs.YtiplfhmimpkplaaGreat.Qu Go.Proofs.YtiplfhmimpkplaaGreat.QuWalk Go.Proofs.YtiplfhmimpkplaaGreat.SmWalk Go.Proofs.YtiplfhmimpkplaaGreat.BtWalk Go.Proofs.YtiplfhmimpkplaaGreat.DkWalk

theorem rdo_keep {w0 w w' : World} {A : Option Addr} {n cap : Nat} {rs : List Rc} (h : RdO w0 w A n cap rs) (hk : ∀ a, A = some a → w'.heap[a.block]? = w.heap[a.block]?) : RdO w0 w' A n cap rs := by
  obtain ⟨cs, r, hl, hc⟩ := h
  refine ⟨cs, r.keep fun b o hA i v hc => ?_, hl, hc⟩
  have e := hk _ hA
  exact (World.cell?_of_block (w := w) (a := ⟨b, o + i, none⟩) e).trans hc
/-- The document's index behind a pointer: its box, its row; the records' rows as world W0 has them. -/
def RyT (W0 : World) (g : Nat) (es : List Ev) : Thing := fun w G => ∃ A n c, w.heap[g]? = some (.cells #[.slice A n c] 34 (0, 0)) ∧ RdO W0 w A n c (recF es) ∧ G g ∧ (∀ a, A = some a → G a.block ∧ a.block ≠ g) ∧ ∀ k, G k → k < w.heap.size
theorem ryT_keeps (W0 : World) (g : Nat) (es : List Ev) : Keeps (RyT W0 g es) :=
  ⟨fun ⟨A, n, c, h1, h2, h3, h4, h5⟩ hs hk => ⟨A, n, c, (hk g h3).trans h1, rdo_keep h2 fun a ha => hk _ (h4 a ha).1, h3, h4, fun k h => Nat.lt_of_lt_of_le (h5 k h) hs⟩, fun ⟨_, _, _, _, _, _, _, h⟩ => h⟩

theorem ownC_lower {k : Nat} {w : World} {base base' : Nat} {t : TypeId} {A : Option Addr} {n cap : Nat} {cs : List Value} (h : OwnC k w base t A n cap cs) (hb : base' ≤ base) : OwnC k w base' t A n cap cs := by
  refine ⟨h.1, ?_⟩
  rcases h.2 with h2 | ⟨g, c, cur, hv, hg, rest⟩
  · exact .inl h2
  · exact .inr ⟨g, c, cur, hv, Nat.le_trans hb hg, rest⟩
set_option maxHeartbeats 8000000 in
set_option maxRecDepth 100000 in
theorem refStr_any (W0 : World) (g : Nat) (es : List Ev) (G : Nat → Prop) (s : ByteArray) (u : Int) (w : World) (h : RyT W0 g es w G) (hl : es.length ≤ 400) :
    Calls Tryz.prog 20 #[.pointer (some ⟨g, 0, none⟩), .string s, .int .i64 u] w fun e w' => ∃ B m c, e = .returned (.slice B m c) ∧ OwnR W0 w' w.heap.size B m c (tellF (fun e => decide (e.s = s)) es u) ∧ Below w.heap.size w w' := by
  obtain ⟨A, n, c, hh, hr, _⟩ := h
  have hn : es.length = n := by have := hr.len; rw [rec_len] at this; exact this
  have k0 : w.cell? ⟨g, 0, none⟩ = some (.slice A n c) := by rw [cell_of_row w g 0 _ _ _ hh]; rfl
  have HP := Go.Lib.hid (fun j (hj : j < n) => tell_step (fun e => decide (e.s = s)) es u (j := j) (by omega))
  have HL := Go.Lib.hid (fun j => tell_len (fun e => decide (e.s = s)) (es.take j) u)
  have HT := Go.Lib.hid (show tellF (fun e => decide (e.s = s)) (es.take n) u = tellF (fun e => decide (e.s = s)) es u by rw [List.take_of_length_le (by omega)])
  have HR := Go.Lib.hid (fun j (hj : j < n) => rc_at es (j := j) (by omega))
  have hn2 : n ≤ 400 := by omega
  have al : Below w.heap.size w (w.alloc (.cells #[] 51)) := (Below.refl _ _).alloc (Nat.le_refl _) _
  have o0 := OwnR.empty W0 w (base := w.heap.size) (Nat.le_refl _)
  clear hn hh hl
  go_enter Tryz.func20, Tryz.ntmps20
  go_wp2_with fail
  go_loopw [7, 8] (fun ov iv wr => ∃ (B : Option Addr) (m cb j : Nat), ov = .slice B m cb ∧ iv = .int .i64 (j : Int) ∧ j ≤ n ∧ OwnR W0 wr (w.heap.size) B m cb (tellF (fun e => decide (e.s = s)) (es.take j) u) ∧ Below w.heap.size w wr) (fun _ iv _ => n - (intOf iv).toNat)
  case atStart => exact ⟨_, 0, 0, 0, rfl, rfl, Nat.zero_le _, o0, al⟩
  case round =>
    obtain ⟨B, m, cb, j, rfl, rfl, hj, ho, hB⟩ := hrel
    clear o0 al
    have k1 := bcell hB k0
    by_cases hlt : j < n
    · have i1 : (j : Int) < n := by omega
      obtain ⟨bb, ob, T, nT, cT, F, nF, cF, rfl, y0, y1, y2, y3, y4, y5, rT, rF⟩ := (hr.below hB).at_ hlt
      have hst := HP.out j hlt
      have hrj := HR.out j hlt
      rw [hrj] at y0 y1 y2 y3 rT rF hst
      have hlen := HL.out j
      have hm : m = (tellF (fun e => decide (e.s = s)) (es.take j) u).length := by have := ho.len; omega
      have hm2 : m ≤ 400 := by rw [List.length_take] at hlen; omega
      have HS := Go.Lib.hid hst
      clear hst hlen hm hrj
      generalize (cnt (strs (es.take j)) (es.getD j noEv).s : Int) + 1 = vr at *
      generalize es.getD j noEv = ev at *
      obtain ⟨xs, xt, xg, xf⟩ := ev
      simp only at y0 y1 y2 y3 rT rF
      by_cases h1 : xs = s
      · by_cases h2 : (j : Int) + 1 ≤ u
        · have HS2 := Go.Lib.hid (HS.out.trans (by rw [if_pos ⟨h2, by simpa using h1⟩]))
          subst h1
          have al := (Below.refl wr.heap.size wr).alloc (Nat.le_refl _) (.cells #[.int .i64 ((j : Int) + 1), .int .i64 vr, .string xs, .string xt, .slice T nT cT, .slice F nF cF] 51)
          have d1 : RdC 6 (wr.alloc (.cells #[.int .i64 ((j : Int) + 1), .int .i64 vr, .string xs, .string xt, .slice T nT cT, .slice F nF cF] 51)) (some ⟨wr.heap.size, 0, none⟩) 1 1 (rcV ⟨(j : Int) + 1, vr, ⟨xs, xt, xg, xf⟩⟩ T nT cT F nF cF) := RdC.new wr 51 (rcV ⟨(j : Int) + 1, vr, ⟨xs, xt, xg, xf⟩⟩ T nT cT F nF cF) rfl (by decide)
          obtain ⟨cs, oc, hcl, hcs⟩ := ho
          have o1 := OwnC.below oc al
          have hz := hB.size
          have hBa := hB.trans (al.mono hB.size)
          go_wp2_with (at_builtin; refine wpList_append_cells rfl (.tmp 42) (.tmp 50) 32 rfl 51 (.agg #[.int .i64 0, .int .i64 0, .string ⟨#[]⟩, .string ⟨#[]⟩, .slice none 0 0, .slice none 0 0]) 96 Tryz.underlying32 rec_info rfl (by decide) rfl rfl o1 d1 (rc_one _ _ _ _ _ _ _) (by unfold maxLen; omega) (by omega) (by have := al.size; omega) ?_; intro A8 c8 w8 o8 g8 _)
          have b8 := below_grown_own o1 hBa g8 (by have := al.size; omega)
          go_roundw
          case rel =>
            refine ⟨A8, m + 1, c8, j + 1, rfl, by go_num, by omega, ⟨_, o8, ?_, ?_⟩, b8⟩
            · rw [HS2.out, List.length_append, hcl]; rfl
            · rw [HS2.out]; exact RcsO.snoc (r := ⟨(j : Int) + 1, vr, ⟨xs, xt, xg, xf⟩⟩) rT rF _ _ hcs
          case measure => simp [intOf]; omega
        · have HS2 := Go.Lib.hid (HS.out.trans (by rw [if_neg (fun h => h2 h.1), List.append_nil]))
          subst h1
          go_wp2_with fail
          go_roundw
          case rel => exact ⟨B, m, cb, j + 1, rfl, by go_num, by omega, by rw [HS2.out]; exact ho, hB⟩
          case measure => simp [intOf]; omega
      · have HS2 := Go.Lib.hid (HS.out.trans (by rw [if_neg (fun h => h1 (by simpa using h.2)), List.append_nil]))
        have hne := str_ne h1
        go_wp2_with fail
        go_roundw
        case rel => exact ⟨B, m, cb, j + 1, rfl, by go_num, by omega, by rw [HS2.out]; exact ho, hB⟩
        case measure => simp [intOf]; omega
    · obtain rfl : j = n := by omega
      have i1 : ¬ (j : Int) < j := by omega
      have HO := Go.Lib.hid ho
      go_wp2_with fail
      go_ret
      refine ⟨B, m, cb, rfl, ?_, hB⟩
      have := HO.out
      rw [HT.out] at this
      exact this

set_option maxHeartbeats 8000000 in
set_option maxRecDepth 100000 in
theorem refAll14_any (W0 : World) (g : Nat) (es : List Ev) (G : Nat → Prop)  (u : Int) (w : World) (h : RyT W0 g es w G) (hl : es.length ≤ 400) :
    Calls Tryz.prog 24 #[.pointer (some ⟨g, 0, none⟩), .int .i64 u] w fun e w' => ∃ B m c, e = .returned (.slice B m c) ∧ OwnR W0 w' w.heap.size B m c (tellF (fun _ => true) es u) ∧ Below w.heap.size w w' := by
  obtain ⟨A, n, c, hh, hr, _⟩ := h
  have hn : es.length = n := by have := hr.len; rw [rec_len] at this; exact this
  have k0 : w.cell? ⟨g, 0, none⟩ = some (.slice A n c) := by rw [cell_of_row w g 0 _ _ _ hh]; rfl
  have HP := Go.Lib.hid (fun j (hj : j < n) => tell_step (fun _ => true) es u (j := j) (by omega))
  have HL := Go.Lib.hid (fun j => tell_len (fun _ => true) (es.take j) u)
  have HT := Go.Lib.hid (show tellF (fun _ => true) (es.take n) u = tellF (fun _ => true) es u by rw [List.take_of_length_le (by omega)])
  have HR := Go.Lib.hid (fun j (hj : j < n) => rc_at es (j := j) (by omega))
  have hn2 : n ≤ 400 := by omega
  have al : Below w.heap.size w (w.alloc (.cells #[] 51)) := (Below.refl _ _).alloc (Nat.le_refl _) _
  have o0 := OwnR.empty W0 w (base := w.heap.size) (Nat.le_refl _)
  clear hn hh hl
  go_enter Tryz.func24, Tryz.ntmps24
  go_wp2_with fail
  go_loopw [5, 6] (fun ov iv wr => ∃ (B : Option Addr) (m cb j : Nat), ov = .slice B m cb ∧ iv = .int .i64 (j : Int) ∧ j ≤ n ∧ OwnR W0 wr (w.heap.size) B m cb (tellF (fun _ => true) (es.take j) u) ∧ Below w.heap.size w wr) (fun _ iv _ => n - (intOf iv).toNat)
  case atStart => exact ⟨_, 0, 0, 0, rfl, rfl, Nat.zero_le _, o0, al⟩
  case round =>
    obtain ⟨B, m, cb, j, rfl, rfl, hj, ho, hB⟩ := hrel
    clear o0 al
    have k1 := bcell hB k0
    by_cases hlt : j < n
    · have i1 : (j : Int) < n := by omega
      obtain ⟨bb, ob, T, nT, cT, F, nF, cF, rfl, y0, y1, y2, y3, y4, y5, rT, rF⟩ := (hr.below hB).at_ hlt
      have hst := HP.out j hlt
      have hrj := HR.out j hlt
      rw [hrj] at y0 y1 y2 y3 rT rF hst
      have hlen := HL.out j
      have hm : m = (tellF (fun _ => true) (es.take j) u).length := by have := ho.len; omega
      have hm2 : m ≤ 400 := by rw [List.length_take] at hlen; omega
      have HS := Go.Lib.hid hst
      clear hst hlen hm hrj
      generalize (cnt (strs (es.take j)) (es.getD j noEv).s : Int) + 1 = vr at *
      generalize es.getD j noEv = ev at *
      obtain ⟨xs, xt, xg, xf⟩ := ev
      simp only at y0 y1 y2 y3 rT rF
      by_cases h2 : (j : Int) + 1 ≤ u
      · have HS2 := Go.Lib.hid (HS.out.trans (by rw [if_pos ⟨h2, by simp⟩]))
        have al := (Below.refl wr.heap.size wr).alloc (Nat.le_refl _) (.cells #[.int .i64 ((j : Int) + 1), .int .i64 vr, .string xs, .string xt, .slice T nT cT, .slice F nF cF] 51)
        have d1 : RdC 6 (wr.alloc (.cells #[.int .i64 ((j : Int) + 1), .int .i64 vr, .string xs, .string xt, .slice T nT cT, .slice F nF cF] 51)) (some ⟨wr.heap.size, 0, none⟩) 1 1 (rcV ⟨(j : Int) + 1, vr, ⟨xs, xt, xg, xf⟩⟩ T nT cT F nF cF) := RdC.new wr 51 (rcV ⟨(j : Int) + 1, vr, ⟨xs, xt, xg, xf⟩⟩ T nT cT F nF cF) rfl (by decide)
        obtain ⟨cs, oc, hcl, hcs⟩ := ho
        have o1 := OwnC.below oc al
        have hz := hB.size
        have hBa := hB.trans (al.mono hB.size)
        go_wp2_with (at_builtin; refine wpList_append_cells rfl (.tmp 27) (.tmp 35) 32 rfl 51 (.agg #[.int .i64 0, .int .i64 0, .string ⟨#[]⟩, .string ⟨#[]⟩, .slice none 0 0, .slice none 0 0]) 96 Tryz.underlying32 rec_info rfl (by decide) rfl rfl o1 d1 (rc_one _ _ _ _ _ _ _) (by unfold maxLen; omega) (by omega) (by have := al.size; omega) ?_; intro A8 c8 w8 o8 g8 _)
        have b8 := below_grown_own o1 hBa g8 (by have := al.size; omega)
        go_roundw
        case rel =>
          refine ⟨A8, m + 1, c8, j + 1, rfl, by go_num, by omega, ⟨_, o8, ?_, ?_⟩, b8⟩
          · rw [HS2.out, List.length_append, hcl]; rfl
          · rw [HS2.out]; exact RcsO.snoc (r := ⟨(j : Int) + 1, vr, ⟨xs, xt, xg, xf⟩⟩) rT rF _ _ hcs
        case measure => simp [intOf]; omega
      · have HS2 := Go.Lib.hid (HS.out.trans (by rw [if_neg (fun h => h2 h.1), List.append_nil]))
        go_wp2_with fail
        go_roundw
        case rel => exact ⟨B, m, cb, j + 1, rfl, by go_num, by omega, by rw [HS2.out]; exact ho, hB⟩
        case measure => simp [intOf]; omega
    · obtain rfl : j = n := by omega
      have i1 : ¬ (j : Int) < j := by omega
      have HO := Go.Lib.hid ho
      go_wp2_with fail
      go_ret
      refine ⟨B, m, cb, rfl, ?_, hB⟩
      have := HO.out
      rw [HT.out] at this
      exact this

set_option maxHeartbeats 8000000 in
set_option maxRecDepth 100000 in
theorem refQry_any (W0 : World) (g : Nat) (es : List Ev) (G : Nat → Prop) (v : Value) (q : List Cl) (u : Int) (w : World) (h : RyT W0 g es w G) (hW : Below W0.heap.size W0 w) (hl : es.length ≤ 400) (hv : IsQ w v q) :
    Calls Tryz.prog 27 #[.pointer (some ⟨g, 0, none⟩), v, .int .i64 u] w fun e w' => ∃ B m c, e = .returned (.slice B m c) ∧ OwnR W0 w' w.heap.size B m c (tellF (matchQ q) es u) ∧ Below w.heap.size w w' := by
  obtain ⟨A, n, c, hh, hr, _⟩ := h
  have hn : es.length = n := by have := hr.len; rw [rec_len] at this; exact this
  have k0 : w.cell? ⟨g, 0, none⟩ = some (.slice A n c) := by rw [cell_of_row w g 0 _ _ _ hh]; rfl
  have HP := Go.Lib.hid (fun j (hj : j < n) => tell_step (matchQ q) es u (j := j) (by omega))
  have HL := Go.Lib.hid (fun j => tell_len (matchQ q) (es.take j) u)
  have HT := Go.Lib.hid (show tellF (matchQ q) (es.take n) u = tellF (matchQ q) es u by rw [List.take_of_length_le (by omega)])
  have HR := Go.Lib.hid (fun j (hj : j < n) => rc_at es (j := j) (by omega))
  have hn2 : n ≤ 400 := by omega
  obtain ⟨C, nC, cC, rfl, rC⟩ := hv
  have al : Below w.heap.size w ((w.alloc (.cells #[.slice C nC cC] 25)).alloc (.cells #[] 51)) := ((Below.refl _ _).alloc (Nat.le_refl _) _).alloc (by simp) _
  have s1 : (w.alloc (.cells #[.slice C nC cC] 25)).heap.size = w.heap.size + 1 := by simp
  have bx : ((w.alloc (.cells #[.slice C nC cC] 25)).alloc (.cells #[] 51)).heap[w.heap.size]? = some (.cells #[.slice C nC cC] 25 (0, 0)) := (((Below.refl _ (w.alloc (.cells #[.slice C nC cC] 25))).alloc (Nat.le_refl _) (.cells #[] 51)).block w.heap.size (by omega)).trans (heap_alloc_new w _)
  have o0 : OwnR W0 ((w.alloc (.cells #[.slice C nC cC] 25)).alloc (.cells #[] 51)) (w.heap.size + 1) (some ⟨w.heap.size + 1, 0, none⟩) 0 0 [] := by
    have := OwnR.empty W0 (w.alloc (.cells #[.slice C nC cC] 25)) (base := w.heap.size + 1) (by omega)
    rwa [s1] at this
  clear hn hh hl
  go_enter Tryz.func27, Tryz.ntmps27
  go_wp2_with fail
  go_loopw [7, 8, 9] (fun ov iv _ wr => ∃ (B : Option Addr) (m cb j : Nat), ov = .slice B m cb ∧ iv = .int .i64 (j : Int) ∧ j ≤ n ∧ OwnR W0 wr (w.heap.size + 1) B m cb (tellF (matchQ q) (es.take j) u) ∧ Below w.heap.size w wr ∧ wr.heap[w.heap.size]? = some (.cells #[.slice C nC cC] 25 (0, 0))) (fun _ iv _ _ => n - (intOf iv).toNat)
  case atStart => exact ⟨_, 0, 0, 0, rfl, rfl, Nat.zero_le _, o0, al, bx⟩
  case round =>
    obtain ⟨B, m, cb, j, rfl, rfl, hj, ho, hB, hx⟩ := hrel
    clear o0 al bx s1
    have k1 := bcell hB k0
    by_cases hlt : j < n
    · have i1 : (j : Int) < n := by omega
      obtain ⟨bb, ob, T, nT, cT, F, nF, cF, rfl, y0, y1, y2, y3, y4, y5, rT, rF⟩ := (hr.below hB).at_ hlt
      have hst := HP.out j hlt
      have hrj := HR.out j hlt
      rw [hrj] at y0 y1 y2 y3 rT rF hst
      have hlen := HL.out j
      have hm : m = (tellF (matchQ q) (es.take j) u).length := by have := ho.len; omega
      have hm2 : m ≤ 400 := by rw [List.length_take] at hlen; omega
      have HS := Go.Lib.hid hst
      clear hst hlen hm hrj
      generalize (cnt (strs (es.take j)) (es.getD j noEv).s : Int) + 1 = vr at *
      generalize es.getD j noEv = ev at *
      obtain ⟨xs, xt, xg, xf⟩ := ev
      simp only at y0 y1 y2 y3 rT rF
      have x0 : wr.cell? ⟨w.heap.size, 0, none⟩ = some (.slice C nC cC) := by rw [cell_of_row wr w.heap.size 0 _ _ _ hx]; rfl
      have HM := Go.Lib.hid (fun w' (hb : Below w.heap.size w w') => refMatch_any (.agg #[.slice C nC cC]) (.agg #[.string xs, .string xt, .slice T nT cT, .slice F nF cF]) q ⟨xs, xt, xg, xf⟩ w' ⟨C, nC, cC, rfl, rC.below hb⟩ ⟨T, nT, cT, F, nF, cF, rfl, RdC.below rT (below_chain hW hb), RdC.below rF (below_chain hW hb)⟩)
      have bd : Below wr.heap.size wr wr.drew := ⟨rfl, rfl, rfl, Nat.le_refl _, fun _ _ => rfl⟩
      go_upto_region 5 with (fail)
      go_region_held (fun w' => w'.cell? ⟨w.heap.size, 0, none⟩ = some (.slice C nC cC) ∧ w'.cell? ⟨g, 0, none⟩ = some (.slice (some ⟨bb, ob, none⟩) n c) ∧ w'.cell? ⟨bb, ob + j * 6 + 2, none⟩ = some (.string xs) ∧ w'.cell? ⟨bb, ob + j * 6 + 3, none⟩ = some (.string xt) ∧ w'.cell? ⟨bb, ob + j * 6 + 4, none⟩ = some (.slice T nT cT) ∧ w'.cell? ⟨bb, ob + j * 6 + 5, none⟩ = some (.slice F nF cF))
        (first | exact ⟨x0, k1, y2, y3, y4, y5⟩ | exact ⟨bcell b6 x0, bcell b6 k1, bcell b6 y2, bcell b6 y3, bcell b6 y4, bcell b6 y5⟩)
        (first | (go_at_call 43; refine (HM.out wr.drew (below_chain hB bd)).mono ?_; rintro e w6 ⟨rfl, b6'⟩; have b6 := below_chain bd b6'))
      have hB2 := below_chain hB b6
      have ho2 := ho.below b6
      have k2 := bcell hB2 k0
      have y02 := bcell b6 y0
      have y12 := bcell b6 y1
      have y22 := bcell b6 y2
      have y32 := bcell b6 y3
      have y42 := bcell b6 y4
      have y52 := bcell b6 y5
      have hx2 := (b6.block w.heap.size (by have := (Array.getElem?_eq_some_iff.1 hx).1; omega)).trans hx
      clear x0 HM bd k1 y0 y1 y2 y3 y4 y5 ho hB hx b6 b6'
      generalize hMq : matchQ q ⟨xs, xt, xg, xf⟩ = M at *
      cases M with
      | true =>
        by_cases h2 : (j : Int) + 1 ≤ u
        · have HS2 := Go.Lib.hid (HS.out.trans (by rw [if_pos ⟨h2, rfl⟩]))
          clear hMq
          have al := (Below.refl w6.heap.size w6).alloc (Nat.le_refl _) (.cells #[.int .i64 ((j : Int) + 1), .int .i64 vr, .string xs, .string xt, .slice T nT cT, .slice F nF cF] 51)
          have d1 : RdC 6 (w6.alloc (.cells #[.int .i64 ((j : Int) + 1), .int .i64 vr, .string xs, .string xt, .slice T nT cT, .slice F nF cF] 51)) (some ⟨w6.heap.size, 0, none⟩) 1 1 (rcV ⟨(j : Int) + 1, vr, ⟨xs, xt, xg, xf⟩⟩ T nT cT F nF cF) := RdC.new w6 51 (rcV ⟨(j : Int) + 1, vr, ⟨xs, xt, xg, xf⟩⟩ T nT cT F nF cF) rfl (by decide)
          obtain ⟨cs, oc, hcl, hcs⟩ := ho2
          have o1 := OwnC.below oc al
          have hz := hB2.size
          have hBa := hB2.trans (al.mono hB2.size)
          have hlt6 := (Array.getElem?_eq_some_iff.1 hx2).1
          have hxa := (al.block w.heap.size (by have := (Array.getElem?_eq_some_iff.1 hx2).1; omega)).trans hx2
          go_wp2_with (at_builtin; refine wpList_append_cells rfl (.tmp 43) (.tmp 51) 32 rfl 51 (.agg #[.int .i64 0, .int .i64 0, .string ⟨#[]⟩, .string ⟨#[]⟩, .slice none 0 0, .slice none 0 0]) 96 Tryz.underlying32 rec_info rfl (by decide) rfl rfl o1 d1 (rc_one _ _ _ _ _ _ _) (by unfold maxLen; omega) (by omega) (by have := al.size; omega) ?_; intro A8 c8 w8 o8 g8 _)
          have low := fun r e => rowLow o1 (r := r) e
          have b8 : Below w.heap.size w w8 := hBa.grown g8 hBa.size (fun r e => by have := low r e; omega)
          have hx8 := (g8.block w.heap.size (by have := (Array.getElem?_eq_some_iff.1 hxa).1; omega) (fun e => by have := low _ e.symm; omega)).trans hxa
          go_roundw
          case rel =>
            refine ⟨A8, m + 1, c8, j + 1, rfl, by go_num, by omega, ⟨_, o8, ?_, ?_⟩, b8, hx8⟩
            · rw [HS2.out, List.length_append, hcl]; rfl
            · rw [HS2.out]; exact RcsO.snoc (r := ⟨(j : Int) + 1, vr, ⟨xs, xt, xg, xf⟩⟩) rT rF _ _ hcs
          case measure => simp [intOf]; omega
        · have HS2 := Go.Lib.hid (HS.out.trans (by rw [if_neg (fun h => h2 h.1), List.append_nil]))
          clear hMq
          go_wp2_with fail
          go_roundw
          case rel => exact ⟨B, m, cb, j + 1, rfl, by go_num, by omega, by rw [HS2.out]; exact ho2, hB2, hx2⟩
          case measure => simp [intOf]; omega
      | false =>
        have HS2 := Go.Lib.hid (HS.out.trans (by rw [if_neg (fun h => absurd h.2 (by decide)), List.append_nil]))
        clear hMq
        go_wp2_with fail
        go_roundw
        case rel => exact ⟨B, m, cb, j + 1, rfl, by go_num, by omega, by rw [HS2.out]; exact ho2, hB2, hx2⟩
        case measure => simp [intOf]; omega
    · obtain rfl : j = n := by omega
      have i1 : ¬ (j : Int) < j := by omega
      have HO := Go.Lib.hid ho
      go_wp2_with fail
      go_ret
      refine ⟨B, m, cb, rfl, ?_, hB⟩
      have := HO.out
      rw [HT.out] at this
      obtain ⟨cs, o, hl, hc⟩ := this
      exact ⟨cs, ownC_lower o (by omega), hl, hc⟩


end Go.Proofs.YtiplfhmimpkplaaGreat.IxWalk

