/-
  Contract of the document's answer of layer 4: Norm.
-/
import Derived.Test.YtgldheeplhcmcaaEvRefD
import Derived.Deep.RegionWith
namespace Go.Proofs.Ytgldheeplhcmcaa.EvWalk
open Go.RowKit Go.Proofs.Ytgldheeplhcmcaa.MemRow Go.Proofs.Ytgldheeplhcmcaa.Ev Go.Proofs.Ytgldheeplhcmcaa.NameMath Go.Proofs.Ytgldheeplhcmcaa.NameWalk

/-- Texts in order, each once. -/
def normTags (ss : List ByteArray) : List ByteArray := ss.foldl putL []
/-- The last field with a name. -/
def lastF (fs : List (ByteArray × Int)) (x : ByteArray) : ByteArray × Int := fs.foldl (fun a f => if f.1 = x then f else a) (ByteArray.empty, 0)
def normFs (fs : List (ByteArray × Int)) : List (ByteArray × Int) := (normTags (fs.map (·.1))).map (lastF fs)
/-- An event in order. -/
def normE (e : Ev) : Ev := ⟨e.s, e.t, normTags e.tags, normFs e.fs⟩

theorem normTags_snoc (l : List ByteArray) (x : ByteArray) : normTags (l ++ [x]) = putL (normTags l) x := by simp [normTags, List.foldl_append]
theorem putL_len (l : List ByteArray) (x : ByteArray) : (putL l x).length ≤ l.length + 1 := by
  induction l with
  | nil => simp [putL]
  | cons a l ih =>
    rw [putL]
    split
    · simpa using ih
    · split <;> simp
theorem normTags_len (l : List ByteArray) : (normTags l).length ≤ l.length := by
  suffices h : ∀ (l m : List ByteArray), (l.foldl putL m).length ≤ m.length + l.length by simpa [normTags] using h l []
  intro l
  induction l with
  | nil => intro m; simp
  | cons a l ih =>
    intro m
    have := ih (putL m a)
    have := putL_len m a
    simp only [List.foldl_cons, List.length_cons]
    omega
theorem lastF_snoc (l : List (ByteArray × Int)) (f : ByteArray × Int) (x : ByteArray) : lastF (l ++ [f]) x = if f.1 = x then f else lastF l x := by simp [lastF, List.foldl_append]

/-- What stands between the steps of Norm: the event that came in, the result's cell, the event that is made. -/
structure NormAt (wr w : World) (s t : ByteArray) (va vb vt vf : Value) : Prop where
  ev : EvAt wr w.heap.size (.string s) (.string t) va vb
  res : EvAt wr (w.heap.size + 1) (.string ⟨#[]⟩) (.string ⟨#[]⟩) (.slice none 0 0) (.slice none 0 0)
  out : EvAt wr (w.heap.size + 1 + 1) (.string s) (.string t) vt vf
  bel : Below w.heap.size w wr

variable {wr w w' : World} {s t : ByteArray} {va vb vt vf : Value}
theorem NormAt.lt (h : NormAt wr w s t va vb vt vf) : w.heap.size + 1 + 1 < wr.heap.size := h.out.lt
theorem NormAt.below (h : NormAt wr w s t va vb vt vf) (hb : Below wr.heap.size wr w') : NormAt w' w s t va vb vt vf :=
  ⟨h.ev.below hb h.ev.lt, h.res.below hb h.res.lt, h.out.below hb h.out.lt, below_chain h.bel hb⟩
theorem NormAt.drew (h : NormAt wr w s t va vb vt vf) : NormAt wr.drew w s t va vb vt vf := ⟨h.ev, h.res, h.out, bel_drew h.bel⟩
theorem NormAt.drewN (h : NormAt wr w s t va vb vt vf) (k : Nat) : NormAt (wr.drewN k) w s t va vb vt vf := ⟨h.ev, h.res, h.out, bel_drewN h.bel k⟩

theorem EvAt.set2 {g : Nat} {v0 v1 v2 v3 : Value} (h : EvAt w g v0 v1 v2 v3) (x : Value) : EvAt (w.setCell ⟨g, 2, none⟩ x) g v0 v1 x v3 := by
  unfold EvAt at h ⊢
  simp only [World.setCell, Array.getElem?_modify, h]
  rfl
theorem EvAt.set3 {g : Nat} {v0 v1 v2 v3 : Value} (h : EvAt w g v0 v1 v2 v3) (x : Value) : EvAt (w.setCell ⟨g, 3, none⟩ x) g v0 v1 v2 x := by
  unfold EvAt at h ⊢
  simp only [World.setCell, Array.getElem?_modify, h]
  rfl
theorem EvAt.far {g b i : Nat} {v0 v1 v2 v3 : Value} (h : EvAt w g v0 v1 v2 v3) (hne : g ≠ b) (x : Value) : EvAt (w.setCell ⟨b, i, none⟩ x) g v0 v1 v2 v3 := by
  unfold EvAt at h ⊢
  simp only [World.setCell, Array.getElem?_modify]
  rw [if_neg (fun e => hne e.symm)]
  exact h
theorem EvAt.frozen {g : Nat} {v0 v1 v2 v3 : Value} (h : EvAt w g v0 v1 v2 v3) (i : Nat) : w.frozen? ⟨g, i, none⟩ = false := by
  unfold EvAt at h
  simp [World.frozen?, h]
theorem NormAt.set2 (h : NormAt wr w s t va vb vt vf) (x : Value) : NormAt (wr.setCell ⟨w.heap.size + 1 + 1, 2, none⟩ x) w s t va vb x vf :=
  ⟨h.ev.far (by omega) x, h.res.far (by omega) x, h.out.set2 x, h.bel.setCell (by show w.heap.size ≤ w.heap.size + 1 + 1; omega) x⟩
theorem NormAt.set3 (h : NormAt wr w s t va vb vt vf) (x : Value) : NormAt (wr.setCell ⟨w.heap.size + 1 + 1, 3, none⟩ x) w s t va vb vt x :=
  ⟨h.ev.far (by omega) x, h.res.far (by omega) x, h.out.set3 x, h.bel.setCell (by show w.heap.size ≤ w.heap.size + 1 + 1; omega) x⟩
theorem NormAt.new (w : World) (s t : ByteArray) (va vb : Value) :
    NormAt (((w.alloc (.cells #[.string s, .string t, va, vb] 25)).alloc (.cells #[.string ⟨#[]⟩, .string ⟨#[]⟩, .slice none 0 0, .slice none 0 0] 25)).alloc (.cells #[.string s, .string t, .slice none 0 0, .slice none 0 0] 25)) w s t va vb (.slice none 0 0) (.slice none 0 0) := by
  have e1 := EvAt.new w (.string s) (.string t) va vb
  generalize hw1 : w.alloc (.cells #[.string s, .string t, va, vb] 25) = w1 at *
  have s1 : w1.heap.size = w.heap.size + 1 := by rw [← hw1]; simp
  have b1 : Below w.heap.size w w1 := by rw [← hw1]; exact (Below.refl _ _).alloc (Nat.le_refl _) _
  have e2 := EvAt.new w1 (.string ⟨#[]⟩) (.string ⟨#[]⟩) (.slice none 0 0) (.slice none 0 0)
  have b2 : Below w1.heap.size w1 (w1.alloc (.cells #[.string ⟨#[]⟩, .string ⟨#[]⟩, .slice none 0 0, .slice none 0 0] 25)) := (Below.refl _ _).alloc (Nat.le_refl _) _
  generalize hw2 : w1.alloc (.cells #[.string ⟨#[]⟩, .string ⟨#[]⟩, .slice none 0 0, .slice none 0 0] 25) = w2 at *
  have s2 : w2.heap.size = w.heap.size + 1 + 1 := by rw [← hw2]; simp [s1]
  have e3 := EvAt.new w2 (.string s) (.string t) (.slice none 0 0) (.slice none 0 0)
  have b3 : Below w2.heap.size w2 (w2.alloc (.cells #[.string s, .string t, .slice none 0 0, .slice none 0 0] 25)) := (Below.refl _ _).alloc (Nat.le_refl _) _
  rw [s1] at e2
  rw [s2] at e3
  exact ⟨(e1.below b2 e1.lt).below b3 (by rw [s2]; omega), e2.below b3 (by rw [s2]; omega), e3, below_chain (below_chain b1 b2) b3⟩

theorem cell_far {b o g i : Nat} {v x : Value} (h : w.cell? ⟨b, o, none⟩ = some v) (hne : b ≠ g) : (w.setCell ⟨g, i, none⟩ x).cell? ⟨b, o, none⟩ = some v := by
  rw [World.cell?_setCell_other _ _ _ _ (fun e => hne (by injection e with e1 e2; exact e1.symm))]
  exact h

/-- A row that no store into the made event's cell touches. -/
theorem RdC.off {k : Nat} {A : Option Addr} {n cap : Nat} {cs : List Value} {g i : Nat} (h : RdC k wr A n cap cs) (hne : ∀ a, A = some a → a.block ≠ g) (x : Value) : RdC k (wr.setCell ⟨g, i, none⟩ x) A n cap cs :=
  h.keep fun b o hA j v hc => by
    rw [World.cell?_setCell_other _ _ _ _ (fun e => hne _ hA (by injection e with e1 e2; exact e1.symm))]
    exact hc

theorem EvAt.grown {row : Option Nat} {g : Nat} {v0 v1 v2 v3 : Value} (h : EvAt w g v0 v1 v2 v3) (hg : w.grownBy w' row) (hne : some g ≠ row) : EvAt w' g v0 v1 v2 v3 := (hg.block g h.lt hne).trans h

theorem field_info : (Try.prog.info? 38).map (fun i => (i.zero, i.size, i.bytes)) = some (some (.agg #[.string ⟨#[]⟩, .int .i64 0]), 2, 24) := by kernel_rfl
theorem EvAt.all {g : Nat} {v0 v1 v2 v3 : Value} (h : EvAt w g v0 v1 v2 v3) (x0 x1 x2 x3 : Value) : EvAt ((((w.setCell ⟨g, 0, none⟩ x0).setCell ⟨g, 1, none⟩ x1).setCell ⟨g, 2, none⟩ x2).setCell ⟨g, 3, none⟩ x3) g x0 x1 x2 x3 := by
  unfold EvAt at h ⊢
  simp only [World.setCell, Array.getElem?_modify, h]
  rfl
theorem RdC.all {k : Nat} {A : Option Addr} {n cap : Nat} {cs : List Value} {g : Nat} (h : RdC k wr A n cap cs) (hne : ∀ a, A = some a → a.block ≠ g) (x0 x1 x2 x3 : Value) : RdC k ((((wr.setCell ⟨g, 0, none⟩ x0).setCell ⟨g, 1, none⟩ x1).setCell ⟨g, 2, none⟩ x2).setCell ⟨g, 3, none⟩ x3) A n cap cs :=
  RdC.off (RdC.off (RdC.off (RdC.off h hne x0) hne x1) hne x2) hne x3

/-- A block of the call's own that holds a number with its name. -/
def FldAt (w : World) (g : Nat) (f : ByteArray × Int) : Prop := w.heap[g]? = some (.cells #[.string f.1, .int .i64 f.2] 38 (0, 0))
theorem FldAt.lt {g : Nat} {f : ByteArray × Int} (h : FldAt w g f) : g < w.heap.size := (Array.getElem?_eq_some_iff.1 h).1
theorem FldAt.new (w : World) (f : ByteArray × Int) : FldAt (w.alloc (.cells #[.string f.1, .int .i64 f.2] 38)) w.heap.size f := heap_alloc_new w _
theorem FldAt.c0 {g : Nat} {f : ByteArray × Int} (h : FldAt w g f) : w.cell? ⟨g, 0, none⟩ = some (.string f.1) := by rw [cell_of_row w g 0 _ _ _ h]; rfl
theorem FldAt.c1 {g : Nat} {f : ByteArray × Int} (h : FldAt w g f) : w.cell? ⟨g, 1, none⟩ = some (.int .i64 f.2) := by rw [cell_of_row w g 1 _ _ _ h]; rfl
theorem FldAt.frozen {g : Nat} {f : ByteArray × Int} (h : FldAt w g f) (i : Nat) : w.frozen? ⟨g, i, none⟩ = false := by
  unfold FldAt at h
  simp [World.frozen?, h]

/-- What stands at the head of a round of Norm's last loop. -/
structure OutAt (wr w w4 : World) (s t : ByteArray) (va vb : Value) (T : Option Addr) (nT cT : Nat) (N : Option Addr) (nN cN : Nat) (F : Option Addr) (k cF : Nat) (tg ns : List ByteArray) (fs : List (ByteArray × Int)) : Prop where
  st : NormAt wr w s t va vb (.slice T nT cT) (.slice F k cF)
  own : OwnC 2 wr w4.heap.size 38 F k cF (flds fs)
  T : RdS wr T nT cT tg
  N : RdS wr N nN cN ns
  big : w4.heap.size ≤ wr.heap.size

theorem OutAt.below {w4 : World} {va vb : Value} {T N F : Option Addr} {nT cT nN cN k cF : Nat} {tg ns : List ByteArray} {fs : List (ByteArray × Int)} (h : OutAt wr w w4 s t va vb T nT cT N nN cN F k cF tg ns fs) (hb : Below wr.heap.size wr w') : OutAt w' w w4 s t va vb T nT cT N nN cN F k cF tg ns fs :=
  ⟨h.st.below hb, OwnC.below h.own hb, RdC.below h.T hb, RdC.below h.N hb, Nat.le_trans h.big hb.size⟩
theorem OutAt.drewN {w4 : World} {va vb : Value} {T N F : Option Addr} {nT cT nN cN k cF : Nat} {tg ns : List ByteArray} {fs : List (ByteArray × Int)} (h : OutAt wr w w4 s t va vb T nT cT N nN cN F k cF tg ns fs) (q : Nat) : OutAt (wr.drewN q) w w4 s t va vb T nT cT N nN cN F k cF tg ns fs :=
  ⟨h.st.drewN q, h.own, h.T, h.N, h.big⟩

/-- A store into a younger block of the call's own. -/
theorem OutAt.far {w4 : World} {va vb : Value} {T N F : Option Addr} {nT cT nN cN k cF : Nat} {tg ns : List ByteArray} {fs : List (ByteArray × Int)} (h : OutAt wr w w4 s t va vb T nT cT N nN cN F k cF tg ns fs)
    (hTl : 0 < nT → ∀ a, T = some a → a.block < w4.heap.size) (hNl : 0 < nN → ∀ a, N = some a → a.block < w4.heap.size) (L4 : w.heap.size + 1 + 1 < w4.heap.size)
    {g : Nat} (hg : w4.heap.size ≤ g) (hF : ∀ a, F = some a → a.block < g) (i : Nat) (x : Value) : OutAt (wr.setCell ⟨g, i, none⟩ x) w w4 s t va vb T nT cT N nN cN F k cF tg ns fs := by
  refine ⟨⟨h.st.ev.far (by omega) x, h.st.res.far (by omega) x, h.st.out.far (by omega) x, h.st.bel.setCell (by show w.heap.size ≤ g; omega) x⟩, ?_, ?_, ?_, ?_⟩
  · rcases h.own.2 with ⟨hv, hn⟩ | ⟨g', c, cur, hv, hb, hgg, rest⟩
    · exact ⟨h.own.1, .inl ⟨hv, hn⟩⟩
    · refine ⟨h.own.1, .inr ⟨g', c, cur, hv, hb, ?_, rest⟩⟩
      injection hv with e1 e2 e3
      have := hF _ e1
      simp only [World.setCell, Array.getElem?_modify]
      rw [if_neg (by simp only at this; omega)]
      exact hgg
  · exact RdC.keepN h.T fun h0 b o e j v hc => cell_far hc (by have : b < w4.heap.size := hTl h0 ⟨b, o, none⟩ e; omega)
  · exact RdC.keepN h.N fun h0 b o e j v hc => cell_far hc (by have : b < w4.heap.size := hNl h0 ⟨b, o, none⟩ e; omega)
  · have := h.big
    simpa [World.setCell] using this
theorem FldAt.set {g : Nat} {f : ByteArray × Int} (h : FldAt w g f) (xn : ByteArray) (xz : Int) : FldAt ((w.setCell ⟨g, 0, none⟩ (.string xn)).setCell ⟨g, 1, none⟩ (.int .i64 xz)) g (xn, xz) := by
  unfold FldAt at h ⊢
  simp only [World.setCell, Array.getElem?_modify, h]
  rfl

/-- Behind the append, and the store into the made event. -/
theorem OutAt.next {w4 : World} {va vb : Value} {T N F F' : Option Addr} {nT cT nN cN k cF cF' : Nat} {tg ns : List ByteArray} {fs fs' : List (ByteArray × Int)} (h : OutAt wr w w4 s t va vb T nT cT N nN cN F k cF tg ns fs)
    (hTl : 0 < nT → ∀ a, T = some a → a.block < w4.heap.size) (hNl : 0 < nN → ∀ a, N = some a → a.block < w4.heap.size) (hTf : ∀ a, T = some a → w.heap.size + 3 ≤ a.block) (hNf : ∀ a, N = some a → w.heap.size + 3 ≤ a.block) (L4 : w.heap.size + 1 + 1 < w4.heap.size)
    (ho : OwnC 2 w' w4.heap.size 38 F' (k + 1) cF' (flds fs')) (hg : wr.grownBy w' (F.map (·.block))) :
    w'.frozen? ⟨w.heap.size + 1 + 1, 3, none⟩ = false ∧ w'.cell? ⟨w.heap.size + 1 + 1, 3, none⟩ = some (.slice F k cF) ∧
    OutAt (w'.setCell ⟨w.heap.size + 1 + 1, 3, none⟩ (.slice F' (k + 1) cF')) w w4 s t va vb T nT cT N nN cN F' (k + 1) cF' tg ns fs' := by
  have hF : ∀ g, g < w4.heap.size → some g ≠ F.map (·.block) := by
    intro g hlt e
    cases F with
    | none => simp at e
    | some a =>
      simp only [Option.map_some, Option.some.injEq] at e
      have := (OwnC.lt h.own a rfl).1
      omega
  have s1 : NormAt w' w s t va vb (.slice T nT cT) (.slice F k cF) :=
    ⟨h.st.ev.grown hg (hF _ (by omega)), h.st.res.grown hg (hF _ (by omega)), h.st.out.grown hg (hF _ L4), h.st.bel.grown hg h.st.bel.size (fun g hg' => by
      cases F with
      | none => simp at hg'
      | some a =>
        simp only [Option.map_some, Option.some.injEq] at hg'
        have := (OwnC.lt h.own a rfl).1
        omega)⟩
  have t1 : RdS w' T nT cT tg := RdC.keepN h.T fun h0 b o e i v hc => hg.cell hc (hF _ (hTl h0 ⟨b, o, none⟩ e))
  have n1 : RdS w' N nN cN ns := RdC.keepN h.N fun h0 b o e i v hc => hg.cell hc (hF _ (hNl h0 ⟨b, o, none⟩ e))
  refine ⟨s1.out.frozen 3, s1.out.c3, s1.set3 _, ?_, ?_, ?_, ?_⟩
  · rcases ho.2 with ⟨hv, hn⟩ | ⟨g, c, cur, hv, hb, hgg, rest⟩
    · exact ⟨ho.1, .inl ⟨hv, hn⟩⟩
    · refine ⟨ho.1, .inr ⟨g, c, cur, hv, hb, ?_, rest⟩⟩
      simp only [World.setCell, Array.getElem?_modify]
      rw [if_neg (by omega)]
      exact hgg
  · exact RdC.keepN t1 fun h0 b o e i v hc => cell_far hc (by have : w.heap.size + 3 ≤ b := hTf ⟨b, o, none⟩ e; omega)
  · exact RdC.keepN n1 fun h0 b o e i v hc => cell_far hc (by have : w.heap.size + 3 ≤ b := hNf ⟨b, o, none⟩ e; omega)
  · have := hg.size
    have := h.big
    show w4.heap.size ≤ (w'.setCell _ _).heap.size
    simp [World.setCell]
    omega

set_option maxHeartbeats 8000000 in
set_option maxRecDepth 100000 in
theorem refNorm_any (v : Value) (ev : Ev) (w : World) (hv : IsEv w v ev) (h1 : ev.tags.length ≤ 1000) (h2 : ev.fs.length ≤ 1000) :
    Calls Try.prog 13 #[v] w fun e w' => ∃ u, e = .returned u ∧ IsEv w' u (normE ev) ∧ Below w.heap.size w w' := by
  obtain ⟨A, n, ca, B, m, cb, rfl, ha, hb⟩ := hv
  obtain ⟨s, t, ts, fs⟩ := ev
  simp only at ha hb h1 h2
  have la := ha.len
  have lb := hb.len
  rw [la] at h1
  rw [lb] at h2
  have LA := Go.Lib.hid la
  have LB := Go.Lib.hid lb
  clear la lb
  have st := NormAt.new w s t (.slice A n ca) (.slice B m cb)
  go_enter Try.func13, Try.ntmps13
  go_wp2_with fail
  generalize (((w.alloc (.cells #[.string s, .string t, .slice A n ca, .slice B m cb] 25)).alloc (.cells #[.string ⟨#[]⟩, .string ⟨#[]⟩, .slice none 0 0, .slice none 0 0] 25)).alloc (.cells #[.string s, .string t, .slice none 0 0, .slice none 0 0] 25)) = w0 at *
  go_loopw [4] (fun i wr => ∃ (j : Nat) (T : Option Addr) (nT cT : Nat), j ≤ n ∧ i = .int .i64 j ∧ NormAt wr w s t (.slice A n ca) (.slice B m cb) (.slice T nT cT) (.slice none 0 0) ∧ RdS wr T nT cT (normTags (ts.take j)) ∧ ∀ a, T = some a → w.heap.size + 3 ≤ a.block) (fun i _ => n - (intOf i).toNat)
  case atStart => exact ⟨0, none, 0, 0, Nat.zero_le _, rfl, st, RdC.nil _, by simp⟩
  case round =>
    obtain ⟨j, T, nT, cT, hj, rfl, hst, hT, hfr⟩ := hrel
    by_cases hlt : j < n
    · obtain ⟨bb, ob, rfl, hbb, _⟩ := RdS.at_ ha (by omega)
      have kb := fun i hi => RdS.get (RdC.below ha hst.bel) (i := i) hi
      have y1 := kb j hlt
      have j1 : (j : Int) < n := by omega
      have ts1 := take_get ts j (by rw [LA.out]; exact hlt)
      have TS := Go.Lib.hid ts1
      clear kb ts1
      generalize hx : ts.getD j ByteArray.empty = x at *
      clear hx
      have hlen : nT ≤ 1000 := by
        have h3 := hT.len
        have h4 := normTags_len (ts.take j)
        rw [List.length_take, LA.out] at h4
        omega
      have hl6 : nT ≤ 1000000 := by omega
      have k1 := hst.ev.c2
      have k2 := hst.out.c2
      go_wp2_with fail
      go_region_with (first | (go_at_call 24; refine (refPut_any T nT cT (normTags (ts.take j)) x _ ?_ hl6).mono ?_; exact RdC.drew hT; rintro e w5 ⟨T5, n5, c5, rfl, hT5, b5, hf5⟩; have st5 := hst.drew.below b5; have fz := st5.out.frozen 2; have kk := st5.out.c2; have st6 := st5.set2 (.slice T5 n5 c5)))
      all_goals
        have hf6 : ∀ a, T5 = some a → w.heap.size + 3 ≤ a.block := by
          intro a hA
          rcases hf5 with h5 | h5
          · exact hfr a (h5 ▸ hA)
          · have h6 := h5 a hA
            have h7 := hst.lt
            have h8 : wr.drew.heap.size = wr.heap.size := rfl
            omega
        have hT6 : RdS (w5.setCell ⟨w.heap.size + 1 + 1, 2, none⟩ (.slice T5 n5 c5)) T5 n5 c5 (normTags (ts.take (j + 1))) := by
          rw [TS.out, normTags_snoc]
          exact RdC.off hT5 (fun a hA => by have := hf6 a hA; omega) _
        clear hT5 hT st5 hst b5 k1 k2 fz kk
        go_wp2_with fail
        go_roundw
        case rel => exact ⟨j + 1, T5, n5, c5, by omega, by go_num, st6, hT6, hf6⟩
        case measure => simp [intOf]; omega
    · obtain rfl : n = j := by omega
      rw [List.take_of_length_le (by rw [LA.out]; exact Nat.le_refl _)] at hT
      have k1 := hst.ev.c2
      have al : Below wr.heap.size wr (wr.alloc (.cells #[] 9)) := (Below.refl _ _).alloc (Nat.le_refl _) _
      have st1 := hst.below al
      have T1 := RdC.below hT al
      have hlt1 := hst.lt
      go_wp2_with fail
      have sz1 : (wr.alloc (.cells #[] 9)).heap.size = wr.heap.size + 1 := by simp
      generalize hw1 : wr.alloc (.cells #[] 9) = w1 at *
      clear hw1
      go_loopw [5, 6] (fun x i wq => ∃ (j : Nat) (N : Option Addr) (nN cN : Nat), j ≤ m ∧ x = .slice N nN cN ∧ i = .int .i64 j ∧ NormAt wq w s t (.slice A n ca) (.slice B m cb) (.slice T nT cT) (.slice none 0 0) ∧ RdS wq T nT cT (normTags ts) ∧ RdS wq N nN cN (normTags ((fs.take j).map (·.1))) ∧ ∀ a, N = some a → w.heap.size + 3 ≤ a.block) (fun _ i _ => m - (intOf i).toNat)
      case atStart => exact ⟨0, _, 0, 0, Nat.zero_le _, rfl, rfl, st1, T1, RdC.empty _ _ (Nat.zero_le _), by rintro a ⟨rfl⟩; exact hlt1⟩
      case round =>
        obtain ⟨j, N, nN, cN, hj, rfl, rfl, hst2, hT2, hN, hfN⟩ := hrel
        by_cases hlt : j < m
        · obtain ⟨bb, ob, rfl, hbb, _⟩ := RdF.at_ hb (by omega)
          obtain ⟨y1, y2⟩ := RdF.get (RdC.below hb hst2.bel) hlt
          have j1 : (j : Int) < m := by omega
          have ts1 := fs_take fs j (by rw [LB.out]; exact hlt)
          have hx1 : normTags ((fs.take (j + 1)).map (·.1)) = putL (normTags ((fs.take j).map (·.1))) (fs.getD j (ByteArray.empty, 0)).1 := by
            rw [ts1, List.map_append, ← normTags_snoc]; rfl
          have TS := Go.Lib.hid hx1
          clear ts1 hx1
          generalize (fs.getD j (ByteArray.empty, 0)).1 = x at *
          have hl6 : nN ≤ 1000000 := by
            have h3 := hN.len
            have h4 := normTags_len ((fs.take j).map (·.1))
            rw [List.length_map, List.length_take, LB.out] at h4
            omega
          have k3 := hst2.ev.c3
          go_wp2_with fail
          refine (refPut_any N nN cN _ x _ hN hl6).mono ?_
          rintro e w5 ⟨N5, n5, c5, rfl, hN5, b5, hf5⟩
          have hf6 : ∀ a, N5 = some a → w.heap.size + 3 ≤ a.block := by
            intro a hA
            rcases hf5 with h5 | h5
            · exact hfN a (h5 ▸ hA)
            · have h6 := h5 a hA
              have h7 := hst2.lt
              omega
          have st5 := hst2.below b5
          have T5 := RdC.below hT2 b5
          clear hN hst2 hT2 b5 k3 y1 y2
          go_wp2_with fail
          go_roundw
          case rel => exact ⟨j + 1, N5, n5, c5, by omega, rfl, by go_num, st5, T5, by rw [TS.out]; exact hN5, hf6⟩
          case measure => simp [intOf]; omega
        · obtain rfl : m = j := by omega
          rw [List.take_of_length_le (by rw [LB.out]; exact Nat.le_refl _)] at hN
          clear hst hT k1 al st1 T1 sz1 st
          have hlN : nN ≤ 1000 := by
            have h3 := hN.len
            have h4 := normTags_len (fs.map (·.1))
            rw [List.length_map, LB.out] at h4
            omega
          have k3 := hst2.ev.c3
          have L3 := hst2.lt
          obtain ⟨w4, hw4⟩ : ∃ w4, w4 = wr := ⟨_, rfl⟩
          have hTl : 0 < nT → ∀ a, T = some a → a.block < w4.heap.size := by
            intro h0 a hA
            obtain ⟨b, o, e, hb0, _⟩ := RdC.at_ hT2 (by omega) h0
            rw [hA] at e
            injection e with e
            rw [e, hw4]
            exact hb0
          have hNl : 0 < nN → ∀ a, N = some a → a.block < w4.heap.size := by
            intro h0 a hA
            obtain ⟨b, o, e, hb0, _⟩ := RdC.at_ hN (by omega) h0
            rw [hA] at e
            injection e with e
            rw [e, hw4]
            exact hb0
          have L4 : w.heap.size + 1 + 1 < w4.heap.size := by rw [hw4]; exact L3
          have L5 : w4.heap.size ≤ wr.heap.size := by rw [hw4]; exact Nat.le_refl _
          have NL := normTags_len (fs.map (·.1))
          have hnames := hN.len
          generalize hns : normTags (fs.map (·.1)) = ns at *
          have HNS := Go.Lib.hid hns
          have HN := Go.Lib.hid hnames
          clear hns hw4 NL hnames
          have o0 : OutAt wr w w4 s t (.slice A n ca) (.slice B m cb) T nT cT N nN cN none 0 0 (normTags ts) ns ((ns.take 0).map (lastF fs)) := ⟨hst2, OwnC.nil _ _, hT2, hN, L5⟩
          clear hst2 hT2 hN L5 L3
          go_wp2_with fail
          obtain ⟨wo, rfl⟩ : ∃ wo : World, wo = wr := ⟨_, rfl⟩
          go_loopw [7] (fun i wq => ∃ (k : Nat) (F : Option Addr) (cF : Nat), k ≤ nN ∧ i = .int .i64 k ∧ OutAt wq w w4 s t (.slice A n ca) (.slice B m cb) T nT cT N nN cN F k cF (normTags ts) ns ((ns.take k).map (lastF fs))) (fun i _ => nN - (intOf i).toNat)
          case atStart => exact ⟨0, _, 0, Nat.zero_le _, rfl, o0⟩
          case round =>
            obtain ⟨k, F, cF, hk, rfl, ho⟩ := hrel
            by_cases hlt : k < nN
            · have kk1 : (k : Int) < nN := by omega
              obtain ⟨bn, on, rfl, _, _⟩ := RdS.at_ ho.N (by omega)
              have tk := take_get ns k (by rw [HN.out]; exact hlt)
              have TK := Go.Lib.hid tk
              clear tk
              generalize hnm : ns.getD k ByteArray.empty = nm at *
              have HNM := Go.Lib.hid hnm
              clear hnm
              have al : Below wr.heap.size wr (wr.alloc (.cells #[.string ⟨#[]⟩, .int .i64 0] 38)) := (Below.refl _ _).alloc (Nat.le_refl _) _
              have o1 := ho.below al
              have f1 : FldAt (wr.alloc (.cells #[.string ⟨#[]⟩, .int .i64 0] 38)) wr.heap.size (lastF (fs.take 0) nm) := heap_alloc_new wr _
              go_wp2_with fail
              generalize wr.alloc (.cells #[.string ⟨#[]⟩, .int .i64 0] 38) = w5 at *
              have hF8 : ∀ a, F = some a → a.block < wr.heap.size := fun a hA => (OwnC.lt ho.own a hA).2
              have big8 := ho.big
              obtain ⟨wp, rfl⟩ : ∃ wp : World, wp = wr := ⟨_, rfl⟩
              clear al ho o0 k3
              go_loopw [9] (fun i wq => ∃ j : Nat, j ≤ m ∧ i = .int .i64 j ∧ OutAt wq w w4 s t (.slice A n ca) (.slice B m cb) T nT cT (some ⟨bn, on, none⟩) nN cN F k cF (normTags ts) ns ((ns.take k).map (lastF fs)) ∧ FldAt wq wp.heap.size (lastF (fs.take j) nm)) (fun i _ => m - (intOf i).toNat)
              case atStart => exact ⟨0, Nat.zero_le _, rfl, o1, f1⟩
              case round =>
                obtain ⟨j, hj, rfl, ho, hf⟩ := hrel
                have k3 := ho.st.ev.c3
                by_cases hlt2 : j < m
                · obtain ⟨bb, ob, rfl, hbb, _⟩ := RdF.at_ hb (by omega)
                  obtain ⟨y1, y2⟩ := RdF.get (RdC.below hb ho.st.bel) hlt2
                  have z1 := RdS.get ho.N hlt
                  rw [HNM.out] at z1
                  have j1 : (j : Int) < m := by omega
                  have ts1 := fs_take fs j (by rw [LB.out]; exact hlt2)
                  have hl1 : lastF (fs.take (j + 1)) nm = if (fs.getD j (ByteArray.empty, 0)).1 = nm then fs.getD j (ByteArray.empty, 0) else lastF (fs.take j) nm := by rw [ts1, lastF_snoc]
                  have TS := Go.Lib.hid hl1
                  clear ts1 hl1
                  generalize fs.getD j (ByteArray.empty, 0) = x at *
                  obtain ⟨xn, xz⟩ := x
                  simp only at y1 y2
                  by_cases hxy : xn = nm
                  · subst hxy
                    go_wp2_with fail
                    go_quiet (fail)
                    have o3 := ho.drewN nq
                    have f3 : FldAt (wr.drewN nq) wp.heap.size (lastF (fs.take j) xn) := hf
                    have x1 : (wr.drewN nq).cell? ⟨bb, ob + j * 2, none⟩ = some (.string xn) := y1
                    have x2 : (wr.drewN nq).cell? ⟨bb, ob + j * 2 + 1, none⟩ = some (.int .i64 xz) := y2
                    clear ho hf y1 y2 z1 k3
                    generalize wr.drewN nq = w6 at *
                    have k3 := o3.st.ev.c3
                    have q0 := f3.c0
                    have q1 := f3.c1
                    have z0 := f3.frozen 0
                    have z1 := f3.frozen 1
                    have o4 := (o3.far hTl hNl L4 big8 hF8 0 (.string xn)).far hTl hNl L4 big8 hF8 1 (.int .i64 xz)
                    have f4 := f3.set xn xz
                    clear o3 f3
                    go_wp2_with fail
                    go_roundw
                    case rel =>
                      have h5 := TS.out
                      rw [if_pos trivial] at h5
                      exact ⟨j + 1, by omega, by go_num, o4, by rw [h5]; exact f4⟩
                    case measure => simp [intOf]; omega
                  · have hne := str_ne hxy
                    go_wp2_with fail
                    go_quiet (fail)
                    have o3 := ho.drewN nq
                    have f3 : FldAt (wr.drewN nq) wp.heap.size (lastF (fs.take j) nm) := hf
                    go_wp2_with fail
                    go_roundw
                    case rel =>
                      have h5 := TS.out
                      rw [if_neg hxy] at h5
                      exact ⟨j + 1, by omega, by go_num, o3, by rw [h5]; exact f3⟩
                    case measure => simp [intOf]; omega
                · obtain rfl : m = j := by omega
                  rw [List.take_of_length_le (by rw [LB.out]; exact Nat.le_refl _)] at hf
                  have k4 := ho.st.out.c3
                  have q0 := hf.c0
                  have q1 := hf.c1
                  generalize hlf : lastF fs nm = lf at *
                  obtain ⟨ln, lz⟩ := lf
                  simp only at q0 q1
                  have HLF := Go.Lib.hid hlf
                  clear hlf
                  have al : Below wr.heap.size wr (wr.alloc (.cells #[.string ln, .int .i64 lz] 38)) := (Below.refl _ _).alloc (Nat.le_refl _) _
                  have o5 := ho.below al
                  have d5 : RdC 2 (wr.alloc (.cells #[.string ln, .int .i64 lz] 38)) (some ⟨wr.heap.size, 0, none⟩) 1 1 (flds [(ln, lz)]) := RdC.new wr 38 (flds [(ln, lz)]) rfl (by decide)
                  have hb5 := o5.big
                  have kl : k + 1 ≤ 1000 := by omega
                  have hmap : (ns.take (k + 1)).map (lastF fs) = (ns.take k).map (lastF fs) ++ [(ln, lz)] := by rw [TK.out, List.map_append, ← HLF.out]; rfl
                  have HMAP := Go.Lib.hid hmap
                  clear hmap
                  go_wp2_with (at_builtin; refine wpList_append_cells rfl (.tmp 78) (.tmp 80) 23 rfl 38 (.agg #[.string ⟨#[]⟩, .int .i64 0]) 24 Try.underlying23 field_info rfl (by decide) rfl rfl o5.own d5 (flds_one _) (by unfold maxLen; omega) (by omega) hb5 ?_; intro F6 c6 w6 o6 g6 _; obtain ⟨z6, c6', n6⟩ := o5.next hTl hNl hfr hfN L4 (fs' := (ns.take (k + 1)).map (lastF fs)) (by rw [HMAP.out, flds_append]; exact o6) g6)
                  go_roundw
                  case rel => exact ⟨k + 1, F6, c6, by omega, by go_num, n6⟩
                  case measure => simp [intOf]; omega
            · obtain rfl : nN = k := by omega
              rw [List.take_of_length_le (by rw [HN.out]; exact Nat.le_refl _)] at ho
              have x0 := ho.st.out.c0
              have x1 := ho.st.out.c1
              have x2 := ho.st.out.c2
              have x3 := ho.st.out.c3
              have z0 := ho.st.res.frozen 0
              have z1 := ho.st.res.frozen 1
              have z2 := ho.st.res.frozen 2
              have z3 := ho.st.res.frozen 3
              have r0 := ho.st.res.c0
              have r1 := ho.st.res.c1
              have r2 := ho.st.res.c2
              have r3 := ho.st.res.c3
              clear o0 k3
              have E8 := ho.st.res.all (.string s) (.string t) (.slice T nT cT) (.slice F nN cF)
              have T8 := RdC.all (g := w.heap.size + 1) ho.T (fun a hA => by have := hfr a hA; omega) (.string s) (.string t) (.slice T nT cT) (.slice F nN cF)
              have F8 := RdC.all (g := w.heap.size + 1) (OwnC.rd ho.own) (fun a hA => by have := (OwnC.lt ho.own a hA).1; omega) (.string s) (.string t) (.slice T nT cT) (.slice F nN cF)
              have B8 : Below w.heap.size w ((((wr.setCell ⟨w.heap.size + 1, 0, none⟩ (.string s)).setCell ⟨w.heap.size + 1, 1, none⟩ (.string t)).setCell ⟨w.heap.size + 1, 2, none⟩ (.slice T nT cT)).setCell ⟨w.heap.size + 1, 3, none⟩ (.slice F nN cF)) :=
                (((ho.st.bel.setCell (by show w.heap.size ≤ w.heap.size + 1; omega) _).setCell (by show w.heap.size ≤ w.heap.size + 1; omega) _).setCell (by show w.heap.size ≤ w.heap.size + 1; omega) _).setCell (by show w.heap.size ≤ w.heap.size + 1; omega) _
              go_wp2_with fail
              generalize ((((wr.setCell ⟨w.heap.size + 1, 0, none⟩ (.string s)).setCell ⟨w.heap.size + 1, 1, none⟩ (.string t)).setCell ⟨w.heap.size + 1, 2, none⟩ (.slice T nT cT)).setCell ⟨w.heap.size + 1, 3, none⟩ (.slice F nN cF)) = w9 at *
              have q0 := E8.c0
              have q1 := E8.c1
              have q2 := E8.c2
              have q3 := E8.c3
              refine bodyPost_ret (v := .agg #[.string s, .string t, .slice T nT cT, .slice F nN cF]) (by simp [results, Try.results13, go_sem, q0, q1, q2, q3]) rfl ⟨_, rfl, ⟨T, nT, cT, F, nN, cF, rfl, T8, ?_⟩, B8⟩
              show RdC 2 w9 F nN cF (flds (normFs fs))
              unfold normFs
              rw [HNS.out]
              exact F8

end Go.Proofs.Ytgldheeplhcmcaa.EvWalk
