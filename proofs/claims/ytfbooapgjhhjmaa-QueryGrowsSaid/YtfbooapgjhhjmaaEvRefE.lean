/-
  Contract of the document's answer of layer 4: Norm.
-/
import Derived.Test.YtfbooapgjhhjmaaEvRefD
import Derived.Deep.RegionWith
namespace Go.Proofs.Ytfbooapgjhhjmaa.EvWalk
open Go.RowKit Go.Proofs.Ytfbooapgjhhjmaa.MemRow Go.Proofs.Ytfbooapgjhhjmaa.Ev Go.Proofs.Ytfbooapgjhhjmaa.NameMath Go.Proofs.Ytfbooapgjhhjmaa.NameWalk

/-- Texts in order, each once. -/
def normTags (ss : List ByteArray) : List ByteArray := ss.foldl putL []
/-- The last field with a name. -/
def lastF (fs : List (ByteArray × Int)) (x : ByteArray) : ByteArray × Int := fs.foldl (fun a f => if f.1 = x then f else a) (ByteArray.empty, 0)
def normFs (fs : List (ByteArray × Int)) : List (ByteArray × Int) := (normTags (fs.map (·.1))).map (lastF fs)
/-- An event in order. -/
def normE (e : Ev) : Ev := ⟨e.s, e.t, normTags e.tags, normFs e.fs⟩

theorem normTags_snoc (l : List ByteArray) (x : ByteArray) : normTags (l ++ [x]) = putL (normTags l) x := by simp [normTags, List.foldl_append]
theorem putL_len (l : List ByteArray) (x : ByteArray) : (putL l x).length ≤ l.length + 1 := by
  induction l with
  | nil => simp [putL]
  | cons a l ih =>
    rw [putL]
    split
    · simpa using ih
    · split <;> simp
theorem normTags_len (l : List ByteArray) : (normTags l).length ≤ l.length := by
  suffices h : ∀ (l m : List ByteArray), (l.foldl putL m).length ≤ m.length + l.length by simpa [normTags] using h l []
  intro l
  induction l with
  | nil => intro m; simp
  | cons a l ih =>
    intro m
    have := ih (putL m a)
    have := putL_len m a
    simp only [List.foldl_cons, List.length_cons]
    omega
theorem lastF_snoc (l : List (ByteArray × Int)) (f : ByteArray × Int) (x : ByteArray) : lastF (l ++ [f]) x = if f.1 = x then f else lastF l x := by simp [lastF, List.foldl_append]

/-- What stands between the steps of Norm: the event that came in, the result's cell, the event that is made. -/
structure NormAt (wr w : World) (s t : ByteArray) (va vb vt vf : Value) : Prop where
  ev : EvAt wr w.heap.size (.string s) (.string t) va vb
  res : EvAt wr (w.heap.size + 1) (.string ⟨#[]⟩) (.string ⟨#[]⟩) (.slice none 0 0) (.slice none 0 0)
  out : EvAt wr (w.heap.size + 1 + 1) (.string s) (.string t) vt vf
  bel : Below w.heap.size w wr

variable {wr w w' : World} {s t : ByteArray} {va vb vt vf : Value}
theorem NormAt.lt (h : NormAt wr w s t va vb vt vf) : w.heap.size + 1 + 1 < wr.heap.size := h.out.lt
theorem NormAt.below (h : NormAt wr w s t va vb vt vf) (hb : Below wr.heap.size wr w') : NormAt w' w s t va vb vt vf :=
  ⟨h.ev.below hb h.ev.lt, h.res.below hb h.res.lt, h.out.below hb h.out.lt, below_chain h.bel hb⟩
theorem NormAt.drew (h : NormAt wr w s t va vb vt vf) : NormAt wr.drew w s t va vb vt vf := ⟨h.ev, h.res, h.out, bel_drew h.bel⟩
theorem NormAt.drewN (h : NormAt wr w s t va vb vt vf) (k : Nat) : NormAt (wr.drewN k) w s t va vb vt vf := ⟨h.ev, h.res, h.out, bel_drewN h.bel k⟩

theorem EvAt.set2 {g : Nat} {v0 v1 v2 v3 : Value} (h : EvAt w g v0 v1 v2 v3) (x : Value) : EvAt (w.setCell ⟨g, 2, none⟩ x) g v0 v1 x v3 := by
  unfold EvAt at h ⊢
  simp only [World.setCell, Array.getElem?_modify, h]
  rfl
theorem EvAt.set3 {g : Nat} {v0 v1 v2 v3 : Value} (h : EvAt w g v0 v1 v2 v3) (x : Value) : EvAt (w.setCell ⟨g, 3, none⟩ x) g v0 v1 v2 x := by
  unfold EvAt at h ⊢
  simp only [World.setCell, Array.getElem?_modify, h]
  rfl
theorem EvAt.far {g b i : Nat} {v0 v1 v2 v3 : Value} (h : EvAt w g v0 v1 v2 v3) (hne : g ≠ b) (x : Value) : EvAt (w.setCell ⟨b, i, none⟩ x) g v0 v1 v2 v3 := by
  unfold EvAt at h ⊢
  simp only [World.setCell, Array.getElem?_modify]
  rw [if_neg (fun e => hne e.symm)]
  exact h
theorem EvAt.frozen {g : Nat} {v0 v1 v2 v3 : Value} (h : EvAt w g v0 v1 v2 v3) (i : Nat) : w.frozen? ⟨g, i, none⟩ = false := by
  unfold EvAt at h
  simp [World.frozen?, h]
theorem NormAt.set2 (h : NormAt wr w s t va vb vt vf) (x : Value) : NormAt (wr.setCell ⟨w.heap.size + 1 + 1, 2, none⟩ x) w s t va vb x vf :=
  ⟨h.ev.far (by omega) x, h.res.far (by omega) x, h.out.set2 x, h.bel.setCell (by show w.heap.size ≤ w.heap.size + 1 + 1; omega) x⟩
theorem NormAt.set3 (h : NormAt wr w s t va vb vt vf) (x : Value) : NormAt (wr.setCell ⟨w.heap.size + 1 + 1, 3, none⟩ x) w s t va vb vt x :=
  ⟨h.ev.far (by omega) x, h.res.far (by omega) x, h.out.set3 x, h.bel.setCell (by show w.heap.size ≤ w.heap.size + 1 + 1; omega) x⟩
theorem NormAt.new (w : World) (s t : ByteArray) (va vb : Value) :
    NormAt (((w.alloc (.cells #[.string s, .string t, va, vb] 33)).alloc (.cells #[.string ⟨#[]⟩, .string ⟨#[]⟩, .slice none 0 0, .slice none 0 0] 33)).alloc (.cells #[.string s, .string t, .slice none 0 0, .slice none 0 0] 33)) w s t va vb (.slice none 0 0) (.slice none 0 0) := by
  have e1 := EvAt.new w (.string s) (.string t) va vb
  generalize hw1 : w.alloc (.cells #[.string s, .string t, va, vb] 33) = w1 at *
  have s1 : w1.heap.size = w.heap.size + 1 := by rw [← hw1]; simp
  have b1 : Below w.heap.size w w1 := by rw [← hw1]; exact (Below.refl _ _).alloc (Nat.le_refl _) _
  have e2 := EvAt.new w1 (.string ⟨#[]⟩) (.string ⟨#[]⟩) (.slice none 0 0) (.slice none 0 0)
  have b2 : Below w1.heap.size w1 (w1.alloc (.cells #[.string ⟨#[]⟩, .string ⟨#[]⟩, .slice none 0 0, .slice none 0 0] 33)) := (Below.refl _ _).alloc (Nat.le_refl _) _
  generalize hw2 : w1.alloc (.cells #[.string ⟨#[]⟩, .string ⟨#[]⟩, .slice none 0 0, .slice none 0 0] 33) = w2 at *
  have s2 : w2.heap.size = w.heap.size + 1 + 1 := by rw [← hw2]; simp [s1]
  have e3 := EvAt.new w2 (.string s) (.string t) (.slice none 0 0) (.slice none 0 0)
  have b3 : Below w2.heap.size w2 (w2.alloc (.cells #[.string s, .string t, .slice none 0 0, .slice none 0 0] 33)) := (Below.refl _ _).alloc (Nat.le_refl _) _
  rw [s1] at e2
  rw [s2] at e3
  exact ⟨(e1.below b2 e1.lt).below b3 (by rw [s2]; omega), e2.below b3 (by rw [s2]; omega), e3, below_chain (below_chain b1 b2) b3⟩

theorem cell_far {b o g i : Nat} {v x : Value} (h : w.cell? ⟨b, o, none⟩ = some v) (hne : b ≠ g) : (w.setCell ⟨g, i, none⟩ x).cell? ⟨b, o, none⟩ = some v := by
  rw [World.cell?_setCell_other _ _ _ _ (fun e => hne (by injection e with e1 e2; exact e1.symm))]
  exact h

/-- A row that no store into the made event's cell touches. -/
theorem RdC.off {k : Nat} {A : Option Addr} {n cap : Nat} {cs : List Value} {g i : Nat} (h : RdC k wr A n cap cs) (hne : ∀ a, A = some a → a.block ≠ g) (x : Value) : RdC k (wr.setCell ⟨g, i, none⟩ x) A n cap cs :=
  h.keep fun b o hA j v hc => by
    rw [World.cell?_setCell_other _ _ _ _ (fun e => hne _ hA (by injection e with e1 e2; exact e1.symm))]
    exact hc

theorem EvAt.grown {row : Option Nat} {g : Nat} {v0 v1 v2 v3 : Value} (h : EvAt w g v0 v1 v2 v3) (hg : w.grownBy w' row) (hne : some g ≠ row) : EvAt w' g v0 v1 v2 v3 := (hg.block g h.lt hne).trans h

theorem field_info : (Try.prog.info? 114).map (fun i => (i.zero, i.size, i.bytes)) = some (some (.agg #[.string ⟨#[]⟩, .int .i64 0]), 2, 24) := by kernel_rfl
theorem EvAt.all {g : Nat} {v0 v1 v2 v3 : Value} (h : EvAt w g v0 v1 v2 v3) (x0 x1 x2 x3 : Value) : EvAt ((((w.setCell ⟨g, 0, none⟩ x0).setCell ⟨g, 1, none⟩ x1).setCell ⟨g, 2, none⟩ x2).setCell ⟨g, 3, none⟩ x3) g x0 x1 x2 x3 := by
  unfold EvAt at h ⊢
  simp only [World.setCell, Array.getElem?_modify, h]
  rfl
theorem RdC.all {k : Nat} {A : Option Addr} {n cap : Nat} {cs : List Value} {g : Nat} (h : RdC k wr A n cap cs) (hne : ∀ a, A = some a → a.block ≠ g) (x0 x1 x2 x3 : Value) : RdC k ((((wr.setCell ⟨g, 0, none⟩ x0).setCell ⟨g, 1, none⟩ x1).setCell ⟨g, 2, none⟩ x2).setCell ⟨g, 3, none⟩ x3) A n cap cs :=
  RdC.off (RdC.off (RdC.off (RdC.off h hne x0) hne x1) hne x2) hne x3

/-- A block of the call's own that holds a number with its name. -/
def FldAt (w : World) (g : Nat) (f : ByteArray × Int) : Prop := w.heap[g]? = some (.cells #[.string f.1, .int .i64 f.2] 114 (0, 0))
theorem FldAt.lt {g : Nat} {f : ByteArray × Int} (h : FldAt w g f) : g < w.heap.size := (Array.getElem?_eq_some_iff.1 h).1
theorem FldAt.new (w : World) (f : ByteArray × Int) : FldAt (w.alloc (.cells #[.string f.1, .int .i64 f.2] 114)) w.heap.size f := heap_alloc_new w _
theorem FldAt.c0 {g : Nat} {f : ByteArray × Int} (h : FldAt w g f) : w.cell? ⟨g, 0, none⟩ = some (.string f.1) := by rw [cell_of_row w g 0 _ _ _ h]; rfl
theorem FldAt.c1 {g : Nat} {f : ByteArray × Int} (h : FldAt w g f) : w.cell? ⟨g, 1, none⟩ = some (.int .i64 f.2) := by rw [cell_of_row w g 1 _ _ _ h]; rfl
theorem FldAt.frozen {g : Nat} {f : ByteArray × Int} (h : FldAt w g f) (i : Nat) : w.frozen? ⟨g, i, none⟩ = false := by
  unfold FldAt at h
  simp [World.frozen?, h]

/-- What stands at the head of a round of Norm's last loop. -/
structure OutAt (wr w w4 : World) (s t : ByteArray) (va vb : Value) (T : Option Addr) (nT cT : Nat) (N : Option Addr) (nN cN : Nat) (F : Option Addr) (k cF : Nat) (tg ns : List ByteArray) (fs : List (ByteArray × Int)) : Prop where
  st : NormAt wr w s t va vb (.slice T nT cT) (.slice F k cF)
  own : OwnC 2 wr w4.heap.size 114 F k cF (flds fs)
  T : RdS wr T nT cT tg
  N : RdS wr N nN cN ns
  big : w4.heap.size ≤ wr.heap.size

theorem OutAt.below {w4 : World} {va vb : Value} {T N F : Option Addr} {nT cT nN cN k cF : Nat} {tg ns : List ByteArray} {fs : List (ByteArray × Int)} (h : OutAt wr w w4 s t va vb T nT cT N nN cN F k cF tg ns fs) (hb : Below wr.heap.size wr w') : OutAt w' w w4 s t va vb T nT cT N nN cN F k cF tg ns fs :=
  ⟨h.st.below hb, OwnC.below h.own hb, RdC.below h.T hb, RdC.below h.N hb, Nat.le_trans h.big hb.size⟩
theorem OutAt.drewN {w4 : World} {va vb : Value} {T N F : Option Addr} {nT cT nN cN k cF : Nat} {tg ns : List ByteArray} {fs : List (ByteArray × Int)} (h : OutAt wr w w4 s t va vb T nT cT N nN cN F k cF tg ns fs) (q : Nat) : OutAt (wr.drewN q) w w4 s t va vb T nT cT N nN cN F k cF tg ns fs :=
  ⟨h.st.drewN q, h.own, h.T, h.N, h.big⟩

/-- A store into a younger block of the call's own. -/
theorem OutAt.far {w4 : World} {va vb : Value} {T N F : Option Addr} {nT cT nN cN k cF : Nat} {tg ns : List ByteArray} {fs : List (ByteArray × Int)} (h : OutAt wr w w4 s t va vb T nT cT N nN cN F k cF tg ns fs)
    (hTl : 0 < nT → ∀ a, T = some a → a.block < w4.heap.size) (hNl : 0 < nN → ∀ a, N = some a → a.block < w4.heap.size) (L4 : w.heap.size + 1 + 1 < w4.heap.size)
    {g : Nat} (hg : w4.heap.size ≤ g) (hF : ∀ a, F = some a → a.block < g) (i : Nat) (x : Value) : OutAt (wr.setCell ⟨g, i, none⟩ x) w w4 s t va vb T nT cT N nN cN F k cF tg ns fs := by
  refine ⟨⟨h.st.ev.far (by omega) x, h.st.res.far (by omega) x, h.st.out.far (by omega) x, h.st.bel.setCell (by show w.heap.size ≤ g; omega) x⟩, ?_, ?_, ?_, ?_⟩
  · rcases h.own.2 with ⟨hv, hn⟩ | ⟨g', c, cur, hv, hb, hgg, rest⟩
    · exact ⟨h.own.1, .inl ⟨hv, hn⟩⟩
    · refine ⟨h.own.1, .inr ⟨g', c, cur, hv, hb, ?_, rest⟩⟩
      injection hv with e1 e2 e3
      have := hF _ e1
      simp only [World.setCell, Array.getElem?_modify]
      rw [if_neg (by simp only at this; omega)]
      exact hgg
  · exact RdC.keepN h.T fun h0 b o e j v hc => cell_far hc (by have : b < w4.heap.size := hTl h0 ⟨b, o, none⟩ e; omega)
  · exact RdC.keepN h.N fun h0 b o e j v hc => cell_far hc (by have : b < w4.heap.size := hNl h0 ⟨b, o, none⟩ e; omega)
  · have := h.big
    simpa [World.setCell] using this
theorem FldAt.set {g : Nat} {f : ByteArray × Int} (h : FldAt w g f) (xn : ByteArray) (xz : Int) : FldAt ((w.setCell ⟨g, 0, none⟩ (.string xn)).setCell ⟨g, 1, none⟩ (.int .i64 xz)) g (xn, xz) := by
  unfold FldAt at h ⊢
  simp only [World.setCell, Array.getElem?_modify, h]
  rfl

/-- Behind the append, and the store into the made event. -/
theorem OutAt.next {w4 : World} {va vb : Value} {T N F F' : Option Addr} {nT cT nN cN k cF cF' : Nat} {tg ns : List ByteArray} {fs fs' : List (ByteArray × Int)} (h : OutAt wr w w4 s t va vb T nT cT N nN cN F k cF tg ns fs)
    (hTl : 0 < nT → ∀ a, T = some a → a.block < w4.heap.size) (hNl : 0 < nN → ∀ a, N = some a → a.block < w4.heap.size) (hTf : ∀ a, T = some a → w.heap.size + 3 ≤ a.block) (hNf : ∀ a, N = some a → w.heap.size + 3 ≤ a.block) (L4 : w.heap.size + 1 + 1 < w4.heap.size)
    (ho : OwnC 2 w' w4.heap.size 114 F' (k + 1) cF' (flds fs')) (hg : wr.grownBy w' (F.map (·.block))) :
    w'.frozen? ⟨w.heap.size + 1 + 1, 3, none⟩ = false ∧ w'.cell? ⟨w.heap.size + 1 + 1, 3, none⟩ = some (.slice F k cF) ∧
    OutAt (w'.setCell ⟨w.heap.size + 1 + 1, 3, none⟩ (.slice F' (k + 1) cF')) w w4 s t va vb T nT cT N nN cN F' (k + 1) cF' tg ns fs' := by
  have hF : ∀ g, g < w4.heap.size → some g ≠ F.map (·.block) := by
    intro g hlt e
    cases F with
    | none => simp at e
    | some a =>
      simp only [Option.map_some, Option.some.injEq] at e
      have := (OwnC.lt h.own a rfl).1
      omega
  have s1 : NormAt w' w s t va vb (.slice T nT cT) (.slice F k cF) :=
    ⟨h.st.ev.grown hg (hF _ (by omega)), h.st.res.grown hg (hF _ (by omega)), h.st.out.grown hg (hF _ L4), h.st.bel.grown hg h.st.bel.size (fun g hg' => by
      cases F with
      | none => simp at hg'
      | some a =>
        simp only [Option.map_some, Option.some.injEq] at hg'
        have := (OwnC.lt h.own a rfl).1
        omega)⟩
  have t1 : RdS w' T nT cT tg := RdC.keepN h.T fun h0 b o e i v hc => hg.cell hc (hF _ (hTl h0 ⟨b, o, none⟩ e))
  have n1 : RdS w' N nN cN ns := RdC.keepN h.N fun h0 b o e i v hc => hg.cell hc (hF _ (hNl h0 ⟨b, o, none⟩ e))
  refine ⟨s1.out.frozen 3, s1.out.c3, s1.set3 _, ?_, ?_, ?_, ?_⟩
  · rcases ho.2 with ⟨hv, hn⟩ | ⟨g, c, cur, hv, hb, hgg, rest⟩
    · exact ⟨ho.1, .inl ⟨hv, hn⟩⟩
    · refine ⟨ho.1, .inr ⟨g, c, cur, hv, hb, ?_, rest⟩⟩
      simp only [World.setCell, Array.getElem?_modify]
      rw [if_neg (by omega)]
      exact hgg
  · exact RdC.keepN t1 fun h0 b o e i v hc => cell_far hc (by have : w.heap.size + 3 ≤ b := hTf ⟨b, o, none⟩ e; omega)
  · exact RdC.keepN n1 fun h0 b o e i v hc => cell_far hc (by have : w.heap.size + 3 ≤ b := hNf ⟨b, o, none⟩ e; omega)
  · have := hg.size
    have := h.big
    show w4.heap.size ≤ (w'.setCell _ _).heap.size
    simp [World.setCell]
    omega



end Go.Proofs.Ytfbooapgjhhjmaa.EvWalk
