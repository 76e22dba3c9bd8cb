/-
  The landed index in memory: its block of six cells; a map by names that may be none.
-/
import Derived.Maps.OwnSet
import Derived.Deep.RegionHeldLaw
import Derived.WalkSpells
import Derived.Deep.DeepCutAuto
import Derived.Deep.CutBlock
import Derived.Deep.QuietTactic
import Derived.BigQuiet
import Derived.Lib.SlicesSearch
import Derived.Lib.Walk
import Derived.ArgAppend
import Derived.Maps.OwnOps
import Derived.Test.YtiplfhmimpkplaaMg4
namespace Go.Proofs.Ytiplfhmimpkplaa.InWalk
open Go.RowKit Go.Maps Go.Proofs.Ytiplfhmimpkplaa.MemRow Go.Proofs.Ytiplfhmimpkplaa.Ev Go.Proofs.Ytiplfhmimpkplaa.NameMath Go.Proofs.Ytiplfhmimpkplaa.NameWalk Go.Proofs.Ytiplfhmimpkplaa.EvWalk Go.Proofs.Ytiplfhmimpkplaa.NumMem Go.Proofs.Ytiplfhmimpkplaa.NMap Go.Proofs.Ytiplfhmimpkplaa.DkWalk

/-! ### The block of an index -/
def XBx (w : World) (g : Nat) (r m lp a t y : Value) : Prop := w.heap[g]? = some (.cells #[r, m, lp, a, t, y] 74 (0, 0))
section
variable {w w' : World} {g : Nat} {r m lp a t y : Value}
theorem XBx.lt (h : XBx w g r m lp a t y) : g < w.heap.size := (Array.getElem?_eq_some_iff.1 h).1
theorem XBx.c0 (h : XBx w g r m lp a t y) : w.cell? ⟨g, 0, none⟩ = some r := by rw [cell_of_row w g 0 _ _ _ h]; rfl
theorem XBx.c1 (h : XBx w g r m lp a t y) : w.cell? ⟨g, 1, none⟩ = some m := by rw [cell_of_row w g 1 _ _ _ h]; rfl
theorem XBx.c2 (h : XBx w g r m lp a t y) : w.cell? ⟨g, 2, none⟩ = some lp := by rw [cell_of_row w g 2 _ _ _ h]; rfl
theorem XBx.c3 (h : XBx w g r m lp a t y) : w.cell? ⟨g, 3, none⟩ = some a := by rw [cell_of_row w g 3 _ _ _ h]; rfl
theorem XBx.c4 (h : XBx w g r m lp a t y) : w.cell? ⟨g, 4, none⟩ = some t := by rw [cell_of_row w g 4 _ _ _ h]; rfl
theorem XBx.c5 (h : XBx w g r m lp a t y) : w.cell? ⟨g, 5, none⟩ = some y := by rw [cell_of_row w g 5 _ _ _ h]; rfl
set_option maxRecDepth 100000 in
theorem XBx.frozen (h : XBx w g r m lp a t y) (i : Nat) : w.frozen? ⟨g, i, none⟩ = false := by
  unfold XBx at h
  simp [World.frozen?, h]
theorem XBx.at_ (h : XBx w g r m lp a t y) (hk : w'.heap[g]? = w.heap[g]?) : XBx w' g r m lp a t y := hk.trans h
theorem XBx.below (h : XBx w g r m lp a t y) (hb : Below w.heap.size w w') : XBx w' g r m lp a t y := (hb.block g h.lt).trans h
theorem XBx.ch {F : Nat → Prop} (h : XBx w g r m lp a t y) (hc : Ch F w w') (hn : ¬ F g) : XBx w' g r m lp a t y := (hc.block g h.lt hn).trans h
set_option maxRecDepth 100000 in
theorem XBx.set0 (h : XBx w g r m lp a t y) (x : Value) : XBx (w.setCell ⟨g, 0, none⟩ x) g x m lp a t y := by
  unfold XBx at h ⊢
  simp only [World.setCell, Array.getElem?_modify, h]
  rfl
set_option maxRecDepth 100000 in
theorem XBx.set1 (h : XBx w g r m lp a t y) (x : Value) : XBx (w.setCell ⟨g, 1, none⟩ x) g r x lp a t y := by
  unfold XBx at h ⊢
  simp only [World.setCell, Array.getElem?_modify, h]
  rfl
set_option maxRecDepth 100000 in
theorem XBx.set2 (h : XBx w g r m lp a t y) (x : Value) : XBx (w.setCell ⟨g, 2, none⟩ x) g r m x a t y := by
  unfold XBx at h ⊢
  simp only [World.setCell, Array.getElem?_modify, h]
  rfl
set_option maxRecDepth 100000 in
theorem XBx.set3 (h : XBx w g r m lp a t y) (x : Value) : XBx (w.setCell ⟨g, 3, none⟩ x) g r m lp x t y := by
  unfold XBx at h ⊢
  simp only [World.setCell, Array.getElem?_modify, h]
  rfl
set_option maxRecDepth 100000 in
theorem XBx.set4 (h : XBx w g r m lp a t y) (x : Value) : XBx (w.setCell ⟨g, 4, none⟩ x) g r m lp a x y := by
  unfold XBx at h ⊢
  simp only [World.setCell, Array.getElem?_modify, h]
  rfl
set_option maxRecDepth 100000 in
theorem XBx.set5 (h : XBx w g r m lp a t y) (x : Value) : XBx (w.setCell ⟨g, 5, none⟩ x) g r m lp a t x := by
  unfold XBx at h ⊢
  simp only [World.setCell, Array.getElem?_modify, h]
  rfl
theorem XBx.new (w : World) (r m lp a t y : Value) : XBx (w.alloc (.cells #[r, m, lp, a, t, y] 74)) w.heap.size r m lp a t y := heap_alloc_new w _
end
set_option maxRecDepth 100000 in
theorem put_other (w : World) (b i : Nat) (v : Value) {k : Nat} (h : k ≠ b) : (w.setCell ⟨b, i, none⟩ v).heap[k]? = w.heap[k]? := by
  have : b ≠ k := fun e => h e.symm
  simp [World.setCell, Array.getElem?_modify, this]
set_option maxRecDepth 100000 in
theorem put_grown (w : World) (g i : Nat) (x : Value) : w.grownBy (w.setCell ⟨g, i, none⟩ x) (some g) := by
  refine ⟨rfl, rfl, rfl, by simp [World.setCell], fun k _ hne => ?_⟩
  exact put_other w g i x fun e => hne (by rw [e])
theorem put_ch {F : Nat → Prop} (w : World) {g : Nat} (i : Nat) (x : Value) (h : F g) : Ch F w (w.setCell ⟨g, i, none⟩ x) := Ch.of_grown (put_grown w g i x) fun r e => by injection e with e; subst e; exact .inl h

/-! ### A map by names, or none -/
section
variable {H : Type} {R : Value → Option (DataW H × List MemPlace)} {w w' : World} {mb : Option Nat} {M : DataW H} {ns : List ByteArray} {f : ByteArray → H}
def OwnM (R : Value → Option (DataW H × List MemPlace)) (w : World) (mb : Option Nat) (M : DataW H) : Prop :=
  match mb with
  | some b => w.ownsMap Try.prog 9 R b (Maps.size M) M
  | none => M = .map []
set_option maxRecDepth 100000 in
theorem OwnM.kept (h : OwnM R w mb M) (hk : ∀ b, mb = some b → w'.heap[b]? = w.heap[b]?) : OwnM R w' mb M := by
  cases mb with
  | none => exact h
  | some b =>
    obtain ⟨es, clock, hb, ft, hn, hD⟩ := h
    exact ⟨es, clock, (hk b rfl).trans hb, ft, hn, hD⟩
set_option maxRecDepth 100000 in
theorem OwnM.block (h : OwnM R w mb M) {b : Nat} (e : mb = some b) : ∃ es clock, w.heap[b]? = some (.map es clock) := by
  subst e
  obtain ⟨es, clock, hb, _⟩ := h
  exact ⟨es, clock, hb⟩
set_option maxRecDepth 100000 in
theorem OwnM.isMap (h : OwnM R w mb M) : IsMap M := by
  cases mb with
  | none => exact ⟨[], h⟩
  | some b => exact isMapN h
set_option maxRecDepth 100000 in
theorem NOf.none (o : NOf (.map []) ns f) : ns = [] := by
  cases ns with
  | nil => rfl
  | cons s ns =>
    have := o.yes (List.mem_cons_self (a := s) (l := ns))
    cases this
set_option maxRecDepth 100000 in
theorem OwnM.nil (h : OwnM R w none M) (o : NOf M ns f) : ns = [] := by
  have e : M = .map [] := h
  subst e
  exact NOf.none o
set_option maxRecDepth 100000 in
theorem OwnM.size (h : OwnM R w mb M) (o : NOf M ns f) (hn : ns.Nodup) : Maps.size M = ns.length := by
  cases mb with
  | none =>
    rw [h.nil o]
    have e : M = .map [] := h
    subst e
    rfl
  | some b => exact o.size (World.ownsMap.canon h keyedN) hn
set_option maxRecDepth 100000 in
theorem OwnM.lookup {t e : TypeId} (h : OwnM R w mb M) (ht : Try.prog.underlying t = some (.map 9 e)) {z : Value} (hz : (zeroValue e).run Try.prog w = .ok z w) (hR : R z = some (.nil, [])) {s : ByteArray} (hs : s.size ≤ maxLen) :
    ∃ v ps, (Instr.lookup t (.map mb) (.string s) false).run Try.prog w = .ok v w ∧ R v = some (M.atKey (keyN s) .nil, ps) := by
  cases mb with
  | none =>
    have e : M = .map [] := h
    subst e
    exact ⟨z, [], Maps.look_nil false keyedN ht hz (keyN_of hs), hR⟩
  | some b => exact World.ownsMap.lookup h keyedN ht hz hR (keyN_of hs)
end

end Go.Proofs.Ytiplfhmimpkplaa.InWalk

/-
  Contracts of the landed index: copyOf, and the library's Clone at texts and at fields.
-/
namespace Go.Proofs.Ytiplfhmimpkplaa.IxWalk
open Go.RowKit Go.Maps Go.Proofs.Ytiplfhmimpkplaa.MemRow Go.Proofs.Ytiplfhmimpkplaa.Ev Go.Proofs.Ytiplfhmimpkplaa.NameMath Go.Proofs.Ytiplfhmimpkplaa.NameWalk Go.Proofs.Ytiplfhmimpkplaa.EvWalk Go.Proofs.Ytiplfhmimpkplaa.NumMem Go.Proofs.Ytiplfhmimpkplaa.Qu Go.Proofs.Ytiplfhmimpkplaa.QuWalk Go.Proofs.Ytiplfhmimpkplaa.SmWalk Go.Proofs.Ytiplfhmimpkplaa.BtWalk Go.Proofs.Ytiplfhmimpkplaa.DkWalk Go.Proofs.Ytiplfhmimpkplaa.InWalk

theorem wr_ownX {w : World} {k base : Nat} {t : TypeId} {A : Option Addr} {n c : Nat} {cs : List Value} {G : Nat → Prop} (h : OwnC k w base t A n c cs) (hG : ∀ a, A = some a → G a.block) : Wr w G A n k t := fun hn => by
  rcases h.2 with ⟨hv, h0⟩ | ⟨g, c', cur, hv, _, hg, hnc, _, hcs, _⟩
  · omega
  · injection hv with e1 _ e3
    subst e1
    refine ⟨g, 0, cur, rfl, hG _ rfl, hg, ?_⟩
    have := Nat.mul_le_mul_right k hnc
    omega
section
variable {w w' : World} {g : Nat} {v0 v1 v2 v3 v4 v5 : Value}
theorem RxAt.set4 (h : RxAt w g v0 v1 v2 v3 v4 v5) (x : Value) : RxAt (w.setCell ⟨g, 4, none⟩ x) g v0 v1 v2 v3 x v5 := by
  unfold RxAt at h ⊢
  simp only [World.setCell, Array.getElem?_modify, h]
  rfl
theorem RxAt.set5 (h : RxAt w g v0 v1 v2 v3 v4 v5) (x : Value) : RxAt (w.setCell ⟨g, 5, none⟩ x) g v0 v1 v2 v3 v4 x := by
  unfold RxAt at h ⊢
  simp only [World.setCell, Array.getElem?_modify, h]
  rfl
theorem RxAt.far {b i : Nat} (h : RxAt w g v0 v1 v2 v3 v4 v5) (hne : g ≠ b) (x : Value) : RxAt (w.setCell ⟨b, i, none⟩ x) g v0 v1 v2 v3 v4 v5 := (put_other w b i x hne).trans h
end
set_option maxHeartbeats 4000000 in
set_option maxRecDepth 100000 in
theorem cloneS_any (A : Option Addr) (n c : Nat) (l : List ByteArray) (w : World) (h : RdS w A n c l) (hn : n ≤ 1000000) :
    Calls Try.prog 71 #[.slice A n c] w fun e w' => ∃ B m cb, e = .returned (.slice B m cb) ∧ OwnC 1 w' w.heap.size 9 B m cb (MemRow.strs l) ∧ Below w.heap.size w w' := by
  have qn : ∀ W, (binOp .eql 44 (.slice A n c) (.slice none 0 0)).run Try.prog W = .ok (.bool A.isNone) W := fun W => Lib.run_eql_slice_nil W _ _ _ _ _ _ _ Try.underlying44
  have hlen := h.len
  cases A with
  | none =>
    have h0 : n = 0 := by
      rcases Nat.eq_zero_or_pos n with h0 | h0
      · exact h0
      · obtain ⟨b, o, e, _⟩ := RdS.at_ h h0
        cases e
    subst h0
    obtain rfl : l = [] := List.eq_nil_of_length_eq_zero hlen
    go_enter Try.func71, Try.ntmps71
    go_wp2_with fail
    go_ret
    exact ⟨none, 0, 0, rfl, OwnC.nil _ _, Below.refl _ _⟩
  | some a =>
    have al : Below w.heap.size w (w.alloc (.cells #[] 9)) := (Below.refl _ _).alloc (Nat.le_refl _) _
    have r2 : RdC 1 (w.alloc (.cells #[] 9)) (some a) n c (MemRow.strs l) := RdC.below h al
    go_enter Try.func71, Try.ntmps71
    go_wp2_with (at_builtin; refine wpList_copy_cells rfl (.tmp 5) (.tmp 6) 44 rfl 9 (.string ByteArray.empty) 16 Try.underlying44 string_info rfl (by decide) rfl rfl (OwnC.empty w 9 (Nat.le_refl _)) r2 (strs_one l) (by unfold maxLen; omega) (by omega) al.size al ?_; intro A5 c5 w5 o5 b5)
    go_ret
    exact ⟨A5, n, c5, rfl, o5, b5⟩
set_option maxHeartbeats 4000000 in
set_option maxRecDepth 100000 in
theorem cloneF_any (A : Option Addr) (n c : Nat) (l : List (ByteArray × Int)) (w : World) (h : RdF w A n c l) (hn : n ≤ 1000000) :
    Calls Try.prog 72 #[.slice A n c] w fun e w' => ∃ B m cb, e = .returned (.slice B m cb) ∧ OwnC 2 w' w.heap.size 86 B m cb (flds l) ∧ Below w.heap.size w w' := by
  have qn : ∀ W, (binOp .eql 45 (.slice A n c) (.slice none 0 0)).run Try.prog W = .ok (.bool A.isNone) W := fun W => Lib.run_eql_slice_nil W _ _ _ _ _ _ _ Try.underlying45
  have hlen := h.len
  cases A with
  | none =>
    have h0 : n = 0 := by
      rcases Nat.eq_zero_or_pos n with h0 | h0
      · exact h0
      · obtain ⟨b, o, e, _⟩ := RdF.at_ h h0
        cases e
    subst h0
    obtain rfl : l = [] := List.eq_nil_of_length_eq_zero hlen
    go_enter Try.func72, Try.ntmps72
    go_wp2_with fail
    go_ret
    exact ⟨none, 0, 0, rfl, OwnC.nil _ _, Below.refl _ _⟩
  | some a =>
    have al : Below w.heap.size w (w.alloc (.cells #[] 86)) := (Below.refl _ _).alloc (Nat.le_refl _) _
    have r2 : RdC 2 (w.alloc (.cells #[] 86)) (some a) n c (flds l) := RdC.below h al
    go_enter Try.func72, Try.ntmps72
    go_wp2_with (at_builtin; refine wpList_copy_cells rfl (.tmp 5) (.tmp 6) 45 rfl 86 (.agg #[.string ⟨#[]⟩, .int .i64 0]) 24 Try.underlying45 field_info rfl (by decide) rfl rfl (OwnC.empty w 86 (Nat.le_refl _)) r2 (flds_one l) (by unfold maxLen; omega) (by omega) al.size al ?_; intro A5 c5 w5 o5 b5)
    go_ret
    exact ⟨A5, n, c5, rfl, o5, b5⟩

theorem rdF_put {w : World} {A : Option Addr} {n c g : Nat} {l : List (ByteArray × Int)} (h : RdF w A n c l) (hne : 0 < n → ∀ a, A = some a → a.block ≠ g) (i : Nat) (x : Value) : RdF (w.setCell ⟨g, i, none⟩ x) A n c l :=
  RdC.keepN h fun hn b o hA j _ hv => (World.cell?_of_block (w := w) (a := ⟨b, o + j, none⟩) (put_other w g i x (hne hn ⟨b, o, none⟩ hA))).trans hv
theorem own_lowX {k : Nat} {w : World} {base b : Nat} {t : TypeId} {A : Option Addr} {n c : Nat} {cs : List Value} (h : OwnC k w base t A n c cs) (hb : b ≤ base) : OwnC k w b t A n c cs := by
  refine ⟨h.1, ?_⟩
  rcases h.2 with h2 | ⟨g, c, cur, hv, hbg, rest⟩
  · exact .inl h2
  · exact .inr ⟨g, c, cur, hv, Nat.le_trans hb hbg, rest⟩
theorem grow_put {w w' : World} {g : Nat} (h : w.grownBy w' (some g)) (i : Nat) (x : Value) : w.grownBy (w'.setCell ⟨g, i, none⟩ x) (some g) :=
  ⟨h.os, h.tape, h.output, by have := h.size; simpa [World.setCell] using this, fun k hk hne => (put_other _ _ i x (fun e => hne (by rw [e]))).trans (h.block k hk hne)⟩
/-! ### copyOf -/
/-- What copyOf gives: the record, with rows of its own. -/
def CopyOut (w w' : World) (r : Rc) (e : Ending) : Prop := ∃ T nT cT Y nY cY, e = .returned (.agg #[.int .i64 r.pos, .int .i64 r.ver, .string r.e.s, .string r.e.t, .slice T nT cT, .slice Y nY cY]) ∧ OwnC 1 w' w.heap.size 9 T nT cT (MemRow.strs r.e.tags) ∧ OwnC 2 w' w.heap.size 86 Y nY cY (flds r.e.fs) ∧ Below w.heap.size w w'
set_option maxHeartbeats 4000000 in
set_option maxRecDepth 100000 in
theorem copyOf_any (r : Rc) (T F : Option Addr) (nT cT nF cF : Nat) (w : World) (h6 : RdS w T nT cT r.e.tags) (h7 : RdF w F nF cF r.e.fs) (hT : nT ≤ 1000000) (hF : nF ≤ 1000000) :
    Calls Try.prog 45 #[.agg #[.int .i64 r.pos, .int .i64 r.ver, .string r.e.s, .string r.e.t, .slice T nT cT, .slice F nF cF]] w fun e w' => CopyOut w w' r e := by
  obtain ⟨p, vr, ⟨es, et, ts, fs⟩⟩ := r
  simp only at h6 h7
  have b1 : Below w.heap.size w (w.alloc (.cells #[.int .i64 p, .int .i64 vr, .string es, .string et, .slice T nT cT, .slice F nF cF] 49)) := (Below.refl _ _).alloc (Nat.le_refl _) _
  have b2 := b1.alloc b1.size (.cells #[.int .i64 0, .int .i64 0, .string ⟨#[]⟩, .string ⟨#[]⟩, .slice none 0 0, .slice none 0 0] 49)
  have x1 := (RxAt.new w (.int .i64 p) (.int .i64 vr) (.string es) (.string et) (.slice T nT cT) (.slice F nF cF)).below ((Below.refl _ _).alloc (Nat.le_refl _) (.cells #[.int .i64 0, .int .i64 0, .string ⟨#[]⟩, .string ⟨#[]⟩, .slice none 0 0, .slice none 0 0] 49))
  have x2 := RxAt.new (w.alloc (.cells #[.int .i64 p, .int .i64 vr, .string es, .string et, .slice T nT cT, .slice F nF cF] 49)) (.int .i64 0) (.int .i64 0) (.string ⟨#[]⟩) (.string ⟨#[]⟩) (.slice none 0 0) (.slice none 0 0)
  have s1 : (w.alloc (.cells #[.int .i64 p, .int .i64 vr, .string es, .string et, .slice T nT cT, .slice F nF cF] 49)).heap.size = w.heap.size + 1 := by simp
  have s2 : ((w.alloc (.cells #[.int .i64 p, .int .i64 vr, .string es, .string et, .slice T nT cT, .slice F nF cF] 49)).alloc (.cells #[.int .i64 0, .int .i64 0, .string ⟨#[]⟩, .string ⟨#[]⟩, .slice none 0 0, .slice none 0 0] 49)).heap.size = w.heap.size + 2 := by simp
  rw [s1] at x2
  have h7' := RdC.below h7 b2
  have c1 := cloneS_any T nT cT ts _ (RdC.below h6 b2) hT
  have HA := Go.Lib.hid (show 0 < nF → ∀ a, F = some a → a.block ≠ w.heap.size from fun hn a ha e => by
    obtain ⟨b, o, hb, hlt, _⟩ := RdF.at_ h7 hn
    rw [ha] at hb
    injection hb with hb
    rw [hb] at e
    simp only at e
    omega)
  clear b1 s1
  go_enter Try.func45, Try.ntmps45
  go_upto_region 1 with (fail)
  generalize (w.alloc (.cells #[.int .i64 p, .int .i64 vr, .string es, .string et, .slice T nT cT, .slice F nF cF] 49)).alloc (.cells #[.int .i64 0, .int .i64 0, .string ⟨#[]⟩, .string ⟨#[]⟩, .slice none 0 0, .slice none 0 0] 49) = w1 at *
  have y4 := x1.c4
  have C1 := Go.Lib.hid c1
  have X1 := Go.Lib.hid x1
  have X2 := Go.Lib.hid x2
  have B2 := Go.Lib.hid b2
  have S2 := Go.Lib.hid s2
  have H7 := Go.Lib.hid h7'
  clear c1 x1 x2 b2 s2 h6 h7 h7'
  go_upto_region 2 with (first | (go_at_call 71; refine (C1.out).mono ?_; rintro e w3 ⟨T3, n3, c3, rfl, o3, b3⟩; have x3 := X1.out.below b3; have z4 := x3.frozen 4; have k4 := x3.c4; have X3 := Go.Lib.hid (x3.set4 (.slice T3 n3 c3)); have Y3 := Go.Lib.hid ((X2.out.below b3).far (b := w.heap.size) (i := 4) (by omega) (.slice T3 n3 c3)); have B3 := Go.Lib.hid (((B2.out.trans (b3.mono B2.out.size))).setCell (p := ⟨w.heap.size, 4, none⟩) (Nat.le_refl _) (.slice T3 n3 c3)); have O3 := Go.Lib.hid (OwnC.grown o3 (put_grown w3 w.heap.size 4 (.slice T3 n3 c3)) (fun a ha e => by have := (OwnC.lt o3 a ha).1; have := S2.out; injection e with e; omega)); have H3 := Go.Lib.hid (rdF_put (RdC.below H7.out b3) HA.out 4 (.slice T3 n3 c3)); have S3 := Go.Lib.hid (show w1.heap.size ≤ (w3.setCell ⟨w.heap.size, 4, none⟩ (.slice T3 n3 c3)).heap.size by simpa [World.setCell] using b3.size); clear x3 o3 b3))
  clear z4 k4 y4 C1 X1 X2 B2 H7
  generalize w3.setCell ⟨w.heap.size, 4, none⟩ (.slice T3 n3 c3) = w4 at *
  have y5 := X3.out.c5
  have C2 := Go.Lib.hid (cloneF_any F nF cF fs _ H3.out hF)
  clear H3
  go_upto_region 3 with (first | (go_at_call 72; refine (C2.out).mono ?_; rintro e w5 ⟨T5, n5, c5, rfl, o5, b5⟩; have x5 := X3.out.below b5; have z5 := x5.frozen 5; have k5 := x5.c5; have X5 := Go.Lib.hid (x5.set5 (.slice T5 n5 c5)); have Y5 := Go.Lib.hid ((Y3.out.below b5).far (b := w.heap.size) (i := 5) (by omega) (.slice T5 n5 c5)); have B5 := Go.Lib.hid (((B3.out.trans (b5.mono B3.out.size))).setCell (p := ⟨w.heap.size, 5, none⟩) (Nat.le_refl _) (.slice T5 n5 c5)); have O5 := Go.Lib.hid (OwnC.grown o5 (put_grown w5 w.heap.size 5 (.slice T5 n5 c5)) (fun a ha e => by have := (OwnC.lt o5 a ha).1; have := S2.out; have := S3.out; injection e with e; omega)); have P5 := Go.Lib.hid (OwnC.grown (OwnC.below O3.out b5) (put_grown w5 w.heap.size 5 (.slice T5 n5 c5)) (fun a ha e => by have := (OwnC.lt O3.out a ha).1; have := S2.out; injection e with e; omega)); clear x5 o5 b5))
  clear z5 k5 y5 C2 X3 Y3 B3 O3
  generalize w5.setCell ⟨w.heap.size, 5, none⟩ (.slice T5 n5 c5) = w6 at *
  have k0 := X5.out.c0
  have k1 := X5.out.c1
  have k2 := X5.out.c2
  have k3 := X5.out.c3
  have k4 := X5.out.c4
  have k5 := X5.out.c5
  have q0 := Y5.out.c0
  have q1 := Y5.out.c1
  have q2 := Y5.out.c2
  have q3 := Y5.out.c3
  have q4 := Y5.out.c4
  have q5 := Y5.out.c5
  have f0 := Y5.out.frozen 0
  have f1 := Y5.out.frozen 1
  have f2 := Y5.out.frozen 2
  have f3 := Y5.out.frozen 3
  have f4 := Y5.out.frozen 4
  have f5 := Y5.out.frozen 5
  have X7 := Y5.out.all (.int .i64 p) (.int .i64 vr) (.string es) (.string et) (.slice T3 n3 c3) (.slice T5 n5 c5)
  have G7 := grow_put (grow_put (grow_put (grow_put (grow_put (put_grown w6 (w.heap.size + 1) 0 (.int .i64 p)) 1 (.int .i64 vr)) 2 (.string es)) 3 (.string et)) 4 (.slice T3 n3 c3)) 5 (.slice T5 n5 c5)
  have O7 := Go.Lib.hid (OwnC.grown O5.out G7 (fun a ha e => by have := (OwnC.lt O5.out a ha).1; have := S2.out; have := S3.out; injection e with e; omega))
  have P7 := Go.Lib.hid (OwnC.grown P5.out G7 (fun a ha e => by have := (OwnC.lt P5.out a ha).1; have := S2.out; injection e with e; omega))
  have B7 := Go.Lib.hid (B5.out.grown G7 B5.out.size (fun k e => by injection e with e; omega))
  clear O5 P5 B5 G7
  go_wp2_with fail
  generalize (((((w6.setCell ⟨w.heap.size + 1, 0, none⟩ (.int .i64 p)).setCell ⟨w.heap.size + 1, 1, none⟩ (.int .i64 vr)).setCell ⟨w.heap.size + 1, 2, none⟩ (.string es)).setCell ⟨w.heap.size + 1, 3, none⟩ (.string et)).setCell ⟨w.heap.size + 1, 4, none⟩ (.slice T3 n3 c3)).setCell ⟨w.heap.size + 1, 5, none⟩ (.slice T5 n5 c5) = w7 at *
  have r0 := X7.c0
  have r1 := X7.c1
  have r2 := X7.c2
  have r3 := X7.c3
  have r4 := X7.c4
  have r5 := X7.c5
  exact bodyPost_ret (v := .agg #[.int .i64 p, .int .i64 vr, .string es, .string et, .slice T3 n3 c3, .slice T5 n5 c5]) (by simp [results, Try.results45, go_sem, r0, r1, r2, r3, r4, r5]) rfl ⟨T3, n3, c3, T5, n5, c5, rfl, own_lowX P7.out (by have := S2.out; omega), own_lowX O7.out (by have := S2.out; have := S3.out; omega), B7.out⟩

end Go.Proofs.Ytiplfhmimpkplaa.IxWalk

/-
  Rows of numbers; the document's answer Ints (layer 12).
-/
namespace Go.Proofs.Ytiplfhmimpkplaa.SmWalk
open Go.RowKit Go.Proofs.Ytiplfhmimpkplaa.MemRow Go.Proofs.Ytiplfhmimpkplaa.Ev Go.Proofs.Ytiplfhmimpkplaa.NameMath Go.Proofs.Ytiplfhmimpkplaa.NameWalk Go.Proofs.Ytiplfhmimpkplaa.EvWalk Go.Proofs.Ytiplfhmimpkplaa.NumMem

/-- Numbers in a row. -/
def nums (l : List Int) : List Value := l.map (.int .i64)
theorem nums_length (l : List Int) : (nums l).length = l.length := by simp [nums]
theorem nums_append (a b : List Int) : nums (a ++ b) = nums a ++ nums b := by simp [nums]
theorem nums_one (l : List Int) : ∀ v ∈ nums l, v.oneCell' = true := by
  intro v hv
  obtain ⟨x, _, rfl⟩ := List.mem_map.1 hv
  rfl
def RdI (w : World) (A : Option Addr) (n cap : Nat) (l : List Int) : Prop := RdC 1 w A n cap (nums l)
theorem RdI.len {w : World} {A : Option Addr} {n cap : Nat} {l : List Int} (h : RdI w A n cap l) : l.length = n := by have := h.1; rw [nums_length] at this; omega
theorem RdI.at_ {w : World} {A : Option Addr} {n cap : Nat} {l : List Int} (h : RdI w A n cap l) (hn : 0 < n) : ∃ b o, A = some ⟨b, o, none⟩ ∧ b < w.heap.size ∧ ∀ i, i < n → w.cell? ⟨b, o + i, none⟩ = some (.int .i64 (l.getD i 0)) := by
  obtain ⟨b, o, hA, hb, hc⟩ := RdC.at_ h (by decide) hn
  refine ⟨b, o, hA, hb, fun i hi => ?_⟩
  have hi' : i < l.length := by rw [h.len]; exact hi
  refine hc i _ ?_
  simp [nums, List.getD, List.getElem?_eq_getElem hi']

theorem int_info : (Try.prog.info? 3).map (fun i => (i.zero, i.size, i.bytes)) = some (some (.int .i64 0), 1, 8) := by kernel_rfl


end Go.Proofs.Ytiplfhmimpkplaa.SmWalk

/-
  Contracts of the landed index: copies, at: rows of records for the caller.
-/
namespace Go.Proofs.Ytiplfhmimpkplaa.IxWalk
open Go.RowKit Go.Maps Go.Proofs.Ytiplfhmimpkplaa.MemRow Go.Proofs.Ytiplfhmimpkplaa.Ev Go.Proofs.Ytiplfhmimpkplaa.NameMath Go.Proofs.Ytiplfhmimpkplaa.NameWalk Go.Proofs.Ytiplfhmimpkplaa.EvWalk Go.Proofs.Ytiplfhmimpkplaa.NumMem Go.Proofs.Ytiplfhmimpkplaa.Qu Go.Proofs.Ytiplfhmimpkplaa.QuWalk Go.Proofs.Ytiplfhmimpkplaa.SmWalk Go.Proofs.Ytiplfhmimpkplaa.BtWalk Go.Proofs.Ytiplfhmimpkplaa.DkWalk Go.Proofs.Ytiplfhmimpkplaa.InWalk

set_option maxRecDepth 100000 in
theorem make_recs (n : Nat) (hn : n ≤ 1000000) : ∃ cur : Array Value, cur.size = n * 6 ∧ ∀ W : World, (Instr.makeSlice 36 (.int .i64 (n : Int)) (.int .i64 (n : Int))).run Try.prog W = .ok (.slice (some ⟨W.heap.size, 0, none⟩) n n) (W.alloc (.cells cur 49)) := by
  have hi := rec_info
  obtain ⟨i, h1, h2, h3, h4⟩ : ∃ i, Try.prog.info? 49 = some i ∧ i.zero = some (.agg #[.int .i64 0, .int .i64 0, .string ⟨#[]⟩, .string ⟨#[]⟩, .slice none 0 0, .slice none 0 0]) ∧ i.size = 6 ∧ i.bytes = 96 := by
    cases hq : Try.prog.info? 49 with
    | none => simp [hq] at hi
    | some i => simp [hq] at hi; exact ⟨i, rfl, hi.1, hi.2.1, hi.2.2⟩
  refine ⟨madeCells (Value.agg #[.int .i64 0, .int .i64 0, .string ⟨#[]⟩, .string ⟨#[]⟩, .slice none 0 0, .slice none 0 0]).cells (n * 6), size_madeCells _ _, fun W => ?_⟩
  have hr := run_make W 36 49 i _ Try.underlying36 h1 h2 .i64 .i64 n n (by omega) (Int.le_refl _) (by rw [h4]; omega) (by omega)
  simp only [Int.toNat_natCast, h3] at hr
  exact hr

/-! ### A row of records that is being made -/
/-- The blocks behind one, of a world. -/
abbrev bhd (g : Nat) (w : World) (k : Nat) : Prop := g < k ∧ k < w.heap.size
structure OutR (w : World) (g n j : Nat) (rs : List Rc) : Prop where
  ex : ∃ cur, w.heap[g]? = some (.cells cur 49 (0, 0)) ∧ cur.size = n * 6
  rc : ∀ i, i < j → RoCells w (bhd g w) g (i * 6) (rs.getD i noRc)
section
variable {w w' : World} {g n j : Nat} {rs : List Rc}
set_option maxRecDepth 100000 in
theorem OutR.lt (h : OutR w g n j rs) : g < w.heap.size := by
  obtain ⟨cur, hb, _⟩ := h.ex
  exact (Array.getElem?_eq_some_iff.1 hb).1
set_option maxRecDepth 100000 in
theorem OutR.new (w : World) {cur : Array Value} (hc : cur.size = n * 6) (rs : List Rc) : OutR (w.alloc (.cells cur 49)) w.heap.size n 0 rs :=
  ⟨⟨cur, heap_alloc_new w _, hc⟩, fun _ hi => absurd hi (Nat.not_lt_zero _)⟩
set_option maxRecDepth 100000 in
theorem OutR.below (h : OutR w g n j rs) (hb : Below w.heap.size w w') : OutR w' g n j rs := by
  obtain ⟨cur, e, hc⟩ := h.ex
  have hg := hb.block g h.lt
  exact ⟨⟨cur, hg.trans e, hc⟩, fun i hi => (h.rc i hi).move (fun k v _ hv => (World.cell?_of_block (w := w) (a := ⟨g, i * 6 + k, none⟩) hg).trans hv) (fun k _ hk _ => hb.block k hk.2) (fun k hk => ⟨hk.1, Nat.lt_of_lt_of_le hk.2 hb.size⟩)⟩
set_option maxRecDepth 100000 in
theorem OutR.cell (h : OutR w g n j rs) (hj : j < n) {k : Nat} (hk : k < 6) : ∃ v, w.cell? ⟨g, j * 6 + k, none⟩ = some v := by
  obtain ⟨cur, e, hc⟩ := h.ex
  exact ⟨_, by rw [cell_of_row w g _ _ _ _ e, Array.getElem?_eq_getElem (by omega)]⟩
set_option maxRecDepth 100000 in
theorem OutR.frozen (h : OutR w g n j rs) (i : Nat) : w.frozen? ⟨g, i, none⟩ = false := by
  obtain ⟨cur, e, _⟩ := h.ex
  simp [World.frozen?, e]
set_option maxRecDepth 100000 in
theorem OutR.step (h : OutR w g n j rs) (hj : j < n) {T Y : Option Addr} {nT cT nY cY : Nat} (h6 : RdS w T nT cT (rs.getD j noRc).e.tags) (h7 : RdF w Y nY cY (rs.getD j noRc).e.fs) (h8 : Wr w (bhd g w) T nT 1 9) (h9 : Wr w (bhd g w) Y nY 2 86) :
    OutR (w.setCells g (j * 6) (rcV (rs.getD j noRc) T nT cT Y nY cY)) g n (j + 1) rs ∧ w.grownBy (w.setCells g (j * 6) (rcV (rs.getD j noRc) T nT cT Y nY cY)) (some g) := by
  obtain ⟨cur, e, hc⟩ := h.ex
  have hl : (rcV (rs.getD j noRc) T nT cT Y nY cY).length = 6 := rfl
  generalize hR : rs.getD j noRc = r at *
  generalize hV : rcV r T nT cT Y nY cY = cs at *
  obtain ⟨cur', e1, e2, e3, e4⟩ := block_setCells w g (j * 6) cs e (by omega)
  have hsz := size_setCells w g (j * 6) cs
  have hk : ∀ k, bhd g w k → (w.setCells g (j * 6) cs).heap[k]? = w.heap[k]? := fun k hk => heap_setCells w g _ cs (by have := hk.1; omega)
  refine ⟨⟨⟨cur', e1, by omega⟩, fun i hi => ?_⟩, ?_⟩
  · by_cases hij : i < j
    · refine (h.rc i hij).move (fun k v hk6 hv => ?_) (fun k _ hk2 _ => hk k hk2) (fun k hk2 => ⟨hk2.1, by rw [hsz]; exact hk2.2⟩)
      rw [cell_of_row w g _ _ _ _ e] at hv
      rw [cell_of_row _ g _ _ _ _ e1, e3 _ (by omega)]
      exact hv
    · obtain rfl : i = j := by omega
      rw [hR]
      have hG : ∀ k, bhd g w k → bhd g (w.setCells g (i * 6) cs) k := fun k hk2 => ⟨hk2.1, by rw [hsz]; exact hk2.2⟩
      have wr : ∀ {A : Option Addr} {n k : Nat} {t : TypeId}, Wr w (bhd g w) A n k t → Wr (w.setCells g (i * 6) cs) (bhd g (w.setCells g (i * 6) cs)) A n k t := fun {A n k t} hw hn => by
        obtain ⟨b, o, cur, e, hg, hb, hs⟩ := hw hn
        exact ⟨b, o, cur, e, hG b hg, (hk b hg).trans hb, hs⟩
      refine roCells_of e1 (fun k hk6 => ?_) (h8.rd h6 hk) (h9.rd h7 hk) (wr h8) (wr h9)
      rw [hV]
      exact e4 k (by omega)
  · have c := ch_setCells (F := fun k => k = g) w (j * 6) cs rfl
    exact ⟨c.os, c.tape, c.output, c.size, fun k hk2 hne => c.block k hk2 fun e => hne (by rw [e])⟩
set_option maxRecDepth 100000 in
theorem OutR.row (h : OutR w g n n rs) (hl : rs.length = n) (hn : n ≤ 1000000) : RoW w (fun k => k = g) (bhd g w) (some ⟨g, 0, none⟩) n n rs :=
  ⟨hl, Nat.le_refl _, by unfold maxLen; omega, fun _ => ⟨g, 0, rfl, h.lt, rfl, fun i hi => by rw [Nat.zero_add]; exact h.rc i hi⟩⟩
end
set_option maxRecDepth 100000 in
theorem grown_belowX {base : Nat} {w w' : World} {g : Nat} (h : w.grownBy w' (some g)) (hb : base ≤ w.heap.size) (hg : base ≤ g) : Below base w w' :=
  ⟨h.os, h.tape, h.output, h.size, fun k hk => h.block k (Nat.lt_of_lt_of_le hk hb) fun e => by injection e with e; omega⟩
/-- Behind copyOf, ahead of the store: what the row's cells are, and what the store makes of it. -/
theorem out_after {wr w2 w3 : World} {g n j : Nat} {rs : List Rc} {r : Rc} {T3 Y3 : Option Addr} {n3 c3 m3 d3 : Nat} (h : OutR wr g n j rs) (hlt : j < n) (hr : rs.getD j noRc = r) (b2 : Below wr.heap.size wr w2) (b3 : Below w2.heap.size w2 w3) (oT : OwnC 1 w3 w2.heap.size 9 T3 n3 c3 (MemRow.strs r.e.tags)) (oY : OwnC 2 w3 w2.heap.size 86 Y3 m3 d3 (flds r.e.fs)) :
    ∃ v0 v1 v2 v3 v4 v5, w3.cell? ⟨g, j * 6, none⟩ = some v0 ∧ w3.cell? ⟨g, j * 6 + 1, none⟩ = some v1 ∧ w3.cell? ⟨g, j * 6 + 2, none⟩ = some v2 ∧ w3.cell? ⟨g, j * 6 + 3, none⟩ = some v3 ∧ w3.cell? ⟨g, j * 6 + 4, none⟩ = some v4 ∧ w3.cell? ⟨g, j * 6 + 5, none⟩ = some v5 ∧ (∀ i, w3.frozen? ⟨g, i, none⟩ = false) ∧
      OutR (w3.setCells g (j * 6) (rcV r T3 n3 c3 Y3 m3 d3)) g n (j + 1) rs ∧ w3.grownBy (w3.setCells g (j * 6) (rcV r T3 n3 c3 Y3 m3 d3)) (some g) ∧ Below wr.heap.size wr w3 := by
  have b := below_chain b2 b3
  have h3 := h.below b
  have hg := h.lt
  have z2 := b2.size
  obtain ⟨v0, e0⟩ := h3.cell hlt (k := 0) (by decide)
  obtain ⟨v1, e1⟩ := h3.cell hlt (k := 1) (by decide)
  obtain ⟨v2, e2⟩ := h3.cell hlt (k := 2) (by decide)
  obtain ⟨v3, e3⟩ := h3.cell hlt (k := 3) (by decide)
  obtain ⟨v4, e4⟩ := h3.cell hlt (k := 4) (by decide)
  obtain ⟨v5, e5⟩ := h3.cell hlt (k := 5) (by decide)
  subst hr
  obtain ⟨q1, q2⟩ := h3.step hlt (OwnC.rd oT) (OwnC.rd oY) (wr_ownX oT fun a ha => by have := OwnC.lt oT a ha; exact ⟨by omega, this.2⟩) (wr_ownX oY fun a ha => by have := OwnC.lt oY a ha; exact ⟨by omega, this.2⟩)
  exact ⟨v0, v1, v2, v3, v4, v5, e0, e1, e2, e3, e4, e5, h3.frozen, q1, q2, b⟩
/-- What copies and at give. -/
def CopOut (w w' : World) (rs : List Rc) (e : Ending) : Prop := ∃ g n, e = .returned (.slice (some ⟨g, 0, none⟩) n n) ∧ w.heap.size ≤ g ∧ RoW w' (fun k => k = g) (bhd g w') (some ⟨g, 0, none⟩) n n rs ∧ g < w'.heap.size ∧ Below w.heap.size w w'
set_option maxRecDepth 100000 in
theorem CopOut.thing {w w' : World} {rs : List Rc} {e : Ending} (h : CopOut w w' rs e) : ∃ B m c, e = .returned (.slice B m c) ∧ RoT B m c rs w' (fun k => w.heap.size ≤ k ∧ k < w'.heap.size) ∧ Below w.heap.size w w' := by
  obtain ⟨g, n, rfl, h1, h2, h3, h4⟩ := h
  exact ⟨_, _, _, rfl, ⟨_, _, h2, fun k hk => by subst hk; exact ⟨h1, h3⟩, fun k hk => ⟨by have := hk.1; omega, hk.2⟩, fun k hk hk2 => by subst hk; exact Nat.lt_irrefl _ hk2.1, fun k hk => hk.2⟩, h4⟩
/-- Records of a size that a machine copies. -/
def RcsFit (rs : List Rc) : Prop := ∀ r ∈ rs, r.e.tags.length ≤ 1000000 ∧ r.e.fs.length ≤ 1000000
set_option maxRecDepth 100000 in
set_option maxHeartbeats 4000000 in
theorem copies_any (A : Option Addr) (n c : Nat) (rs : List Rc) (w : World) (h : RdRc w A n c rs) (hn : n ≤ 1000) (hf : RcsFit rs) :
    Calls Try.prog 28 #[.slice A n c] w fun e w' => CopOut w w' rs e := by
  obtain ⟨cur, hcs, hmk⟩ := make_recs n (by omega)
  have b1 : Below w.heap.size w (w.alloc (.cells cur 49)) := (Below.refl _ _).alloc (Nat.le_refl _) _
  have o1 := OutR.new w hcs rs
  have HL := Go.Lib.hid h.len
  have R := Go.Lib.hid h
  have HF := Go.Lib.hid hf
  have s1 : (w.alloc (.cells cur 49)).heap.size = w.heap.size + 1 := by simp
  clear h hf hcs
  go_enter Try.func28, Try.ntmps28
  go_upto_region 2 with (fail)
  have O1 := Go.Lib.hid o1
  have B1 := Go.Lib.hid b1
  clear o1 b1 hmk
  generalize w.alloc (.cells cur 49) = w1 at *
  go_wp2_with fail
  go_loopw [11] (fun i wr => ∃ j : Nat, i = .int .i64 (j : Int) ∧ j ≤ n ∧ Hid (OutR wr w.heap.size n j rs) ∧ Hid (Below w.heap.size w wr)) (fun i _ => n - (intOf i).toNat)
  case atStart => exact ⟨0, rfl, Nat.zero_le _, O1, B1⟩
  case round =>
    obtain ⟨j, rfl, hj, HO, HB⟩ := hrel
    clear O1 B1
    by_cases hlt : j < n
    · obtain ⟨b, o, rfl, _, kc⟩ := (R.out.below HB.out).at_ (by omega)
      obtain ⟨T, nT, cT, Y, nY, cY, x0, x1, x2, x3, x4, x5, rT, rY⟩ := kc j hlt
      have hfit := HF.out _ (rc_get (l := rs) (j := j) (by rw [HL.out]; exact hlt))
      have hT : nT ≤ 1000000 := by rw [← RdS.len rT]; exact hfit.1
      have hY : nY ≤ 1000000 := by rw [← RdF.len rY]; exact hfit.2
      have i1 : (j : Int) < n := by omega
      have RT := Go.Lib.hid rT
      have RY := Go.Lib.hid rY
      clear kc rT rY hfit
      generalize hr : rs.getD j noRc = r at *
      have HR := Go.Lib.hid hr
      clear hr
      go_upto_region 5 with (fail)
      have X7 := RxAt.new wr (.int .i64 r.pos) (.int .i64 r.ver) (.string r.e.s) (.string r.e.t) (.slice T nT cT) (.slice Y nY cY)
      have b7 : Below wr.heap.size wr (wr.alloc (.cells #[.int .i64 r.pos, .int .i64 r.ver, .string r.e.s, .string r.e.t, .slice T nT cT, .slice Y nY cY] 49)) := (Below.refl _ _).alloc (Nat.le_refl _) _
      clear x0 x1 x2 x3 x4 x5
      generalize wr.alloc (.cells #[.int .i64 r.pos, .int .i64 r.ver, .string r.e.s, .string r.e.t, .slice T nT cT, .slice Y nY cY] 49) = w2 at *
      have k0 := X7.c0
      have k1 := X7.c1
      have k2 := X7.c2
      have k3 := X7.c3
      have k4 := X7.c4
      have k5 := X7.c5
      have CO := Go.Lib.hid (copyOf_any r T Y nT cT nY cY w2 (RdC.below RT.out b7) (RdC.below RY.out b7) hT hY)
      have B7 := Go.Lib.hid b7
      clear X7 RT RY b7
      have AFTER := Go.Lib.hid (fun (w3 : World) (T3 : Option Addr) (n3 c3 : Nat) (Y3 : Option Addr) (m3 d3 : Nat) (oT : OwnC 1 w3 w2.heap.size 9 T3 n3 c3 (MemRow.strs r.e.tags)) (oY : OwnC 2 w3 w2.heap.size 86 Y3 m3 d3 (flds r.e.fs)) (b3 : Below w2.heap.size w2 w3) => out_after HO.out hlt HR.out B7.out b3 oT oY)
      go_wp2_with (first | (go_at_call 45; go_loud (refine (CO.out).mono ?_); rintro e w3 ⟨T3, n3, c3, Y3, m3, d3, rfl, oT, oY, b3⟩; (obtain ⟨v0, v1, v2, v3, v4, v5, g0, g1, g2, g3, g4, g5, fz, st, gr, bw⟩ := AFTER.out w3 T3 n3 c3 Y3 m3 d3 oT oY b3); have z0 := fz (j * 6); have z1 := fz (j * 6 + 1); have z2 := fz (j * 6 + 2); have z3 := fz (j * 6 + 3); have z4 := fz (j * 6 + 4); have z5 := fz (j * 6 + 5); clear oT oY b3 fz))
      have B5 := Go.Lib.hid (show Below w.heap.size w _ from (HB.out.trans (bw.mono HB.out.size)).trans (grown_belowX gr (Nat.le_trans HB.out.size bw.size) (Nat.le_refl _)))
      go_roundw
      case rel => exact ⟨j + 1, by go_num, by omega, Go.Lib.hid st, B5⟩
      case measure => simp [intOf]; omega
    · obtain rfl : n = j := by omega
      have i1 : ¬ (n : Int) < n := by omega
      have HE := Go.Lib.hid (show CopOut w wr rs (.returned (.slice (some ⟨w.heap.size, 0, none⟩) n n)) from ⟨w.heap.size, n, rfl, Nat.le_refl _, HO.out.row HL.out (by omega), HO.out.lt, HB.out⟩)
      clear HO HB hlt
      go_wp2_with fail
      go_ret
      exact HE.out
set_option maxHeartbeats 4000000 in
set_option maxRecDepth 100000 in
theorem at_any {F G W : Nat → Prop} {old : Option Hx} {gx : Nat} {m lp a t y : Value} {es : List Ev} (A : Option Addr) (n c : Nat) (l : List Int) (w : World) (hx : XBx w gx (mkX old) m lp a t y) (ho : OldR w F G W old (recF es)) (h : RdI w A n c l) (hl : ∀ p ∈ l, 1 ≤ p ∧ p ≤ es.length) (hn : n ≤ 1000) (he : es.length ≤ 1000) (hf : RcsFit (recF es)) :
    Calls Try.prog 29 #[.pointer (some ⟨gx, 0, none⟩), .slice A n c] w fun e w' => CopOut w w' (l.map (recA es)) e := by
  obtain ⟨cur, hcs, hmk⟩ := make_recs n (by omega)
  obtain ⟨A2, n2, c2, e2, r2, _⟩ := ho.rd
  rw [e2] at hx
  have b1 : Below w.heap.size w (w.alloc (.cells cur 49)) := (Below.refl _ _).alloc (Nat.le_refl _) _
  have o1 := OutR.new w hcs (l.map (recA es))
  have HL := Go.Lib.hid h.len
  have R := Go.Lib.hid h
  have R2 := Go.Lib.hid r2
  have HN2 := Go.Lib.hid (show n2 = es.length by rw [← r2.len, rec_len])
  have HX := Go.Lib.hid hx
  have HF := Go.Lib.hid hf
  have HB2 := Go.Lib.hid hl
  have s1 : (w.alloc (.cells cur 49)).heap.size = w.heap.size + 1 := by simp
  clear h hf hcs hx ho r2 hl e2
  go_enter Try.func29, Try.ntmps29
  go_upto_region 2 with (fail)
  have O1 := Go.Lib.hid o1
  have B1 := Go.Lib.hid b1
  clear o1 b1 hmk
  generalize w.alloc (.cells cur 49) = w1 at *
  go_wp2_with fail
  go_loopw [13] (fun i wr => ∃ j : Nat, i = .int .i64 (j : Int) ∧ j ≤ n ∧ Hid (OutR wr w.heap.size n j (l.map (recA es))) ∧ Hid (Below w.heap.size w wr)) (fun i _ => n - (intOf i).toNat)
  case atStart => exact ⟨0, rfl, Nat.zero_le _, O1, B1⟩
  case round =>
    obtain ⟨j, rfl, hj, HO, HB⟩ := hrel
    clear O1 B1
    by_cases hlt : j < n
    · have rp : RdI wr A n c l := RdC.below R.out HB.out
      obtain ⟨bp, op, rfl, _, kp⟩ := rp.at_ (by omega)
      have yp := kp j hlt
      have hjl : j < l.length := by rw [HL.out]; exact hlt
      have hin := HB2.out (l.getD j 0) (by rw [List.getD_eq_getElem?_getD, List.getElem?_eq_getElem hjl]; exact List.getElem_mem hjl)
      have hmp : (l.map (recA es)).getD j noRc = recA es (l.getD j 0) := by
        rw [List.getD_eq_getElem?_getD, List.getD_eq_getElem?_getD, List.getElem?_map, List.getElem?_eq_getElem hjl]
        rfl
      generalize l.getD j 0 = p at *
      obtain ⟨t0, rfl⟩ : ∃ t0 : Nat, p = (t0 : Int) + 1 := ⟨(p - 1).toNat, by omega⟩
      have ht : t0 < n2 := by rw [HN2.out]; omega
      have hr : (l.map (recA es)).getD j noRc = (recF es).getD t0 noRc := by
        rw [hmp]
        unfold recA
        rw [show ((t0 : Int) + 1 - 1).toNat = t0 by omega]
      obtain ⟨b, o, rfl, _, kc⟩ := (R2.out.below HB.out).at_ (by omega)
      obtain ⟨T, nT, cT, Y, nY, cY, x0, x1, x2, x3, x4, x5, rT, rY⟩ := kc t0 ht
      have hfit := HF.out _ (rc_get (l := recF es) (j := t0) (by rw [rec_len, ← HN2.out]; exact ht))
      have hT : nT ≤ 1000000 := by rw [← RdS.len rT]; exact hfit.1
      have hY : nY ≤ 1000000 := by rw [← RdF.len rY]; exact hfit.2
      have i1 : (j : Int) < n := by omega
      have i2 : (t0 : Int) < n2 := by omega
      have n1 : IntKind.i64.wrap (t0 : Int) = (t0 : Int) := by rw [IntWalk.i64_in _ (by omega)]
      have k9 := (HX.out.below HB.out).c0
      have HR := Go.Lib.hid hr
      clear kc hfit kp hjl hin hmp hr rp
      generalize (recF es).getD t0 noRc = r at *
      have CO := Go.Lib.hid (copyOf_any r T Y nT cT nY cY wr rT rY hT hY)
      have AFTER := Go.Lib.hid (fun (w3 : World) (T3 : Option Addr) (n3 c3 : Nat) (Y3 : Option Addr) (m3 d3 : Nat) (oT : OwnC 1 w3 wr.heap.size 9 T3 n3 c3 (MemRow.strs r.e.tags)) (oY : OwnC 2 w3 wr.heap.size 86 Y3 m3 d3 (flds r.e.fs)) (b3 : Below wr.heap.size wr w3) => out_after HO.out hlt HR.out (Below.refl _ _) b3 oT oY)
      clear rT rY
      go_wp2_with (first | (go_at_call 45; refine (CO.out).mono ?_; rintro e w3 ⟨T3, n3, c3, Y3, m3, d3, rfl, oT, oY, b3⟩; obtain ⟨v0, v1, v2, v3, v4, v5, g0, g1, g2, g3, g4, g5, fz, st, gr, bw⟩ := AFTER.out w3 T3 n3 c3 Y3 m3 d3 oT oY b3; have z0 := fz (j * 6); have z1 := fz (j * 6 + 1); have z2 := fz (j * 6 + 2); have z3 := fz (j * 6 + 3); have z4 := fz (j * 6 + 4); have z5 := fz (j * 6 + 5); clear oT oY b3 fz))
      have B5 := Go.Lib.hid (show Below w.heap.size w _ from (HB.out.trans (bw.mono HB.out.size)).trans (grown_belowX gr (Nat.le_trans HB.out.size bw.size) (Nat.le_refl _)))
      go_roundw
      case rel => exact ⟨j + 1, by go_num, by omega, Go.Lib.hid st, B5⟩
      case measure => simp [intOf]; omega
    · obtain rfl : n = j := by omega
      have i1 : ¬ (n : Int) < n := by omega
      have HE := Go.Lib.hid (show CopOut w wr (l.map (recA es)) (.returned (.slice (some ⟨w.heap.size, 0, none⟩) n n)) from ⟨w.heap.size, n, rfl, Nat.le_refl _, HO.out.row (by rw [List.length_map, HL.out]) (by omega), HO.out.lt, HB.out⟩)
      clear HO HB hlt
      go_wp2_with fail
      go_ret
      exact HE.out

end Go.Proofs.Ytiplfhmimpkplaa.IxWalk

/-
  Contracts of the library's slices functions, over texts and over numbers with a name: Index, Contains, Equal, IndexFunc, ContainsFunc.
-/
namespace Go.Proofs.Ytiplfhmimpkplaa.EvWalk
open Go.RowKit Go.Proofs.Ytiplfhmimpkplaa.MemRow Go.Proofs.Ytiplfhmimpkplaa.Ev Go.Proofs.Ytiplfhmimpkplaa.NameMath Go.Proofs.Ytiplfhmimpkplaa.NameWalk

theorem any_miss {α : Type} {p : α → Bool} {l : List α} {j : Nat} {d : α} (hj : j < l.length) (h : (l.take j).any p = false) (hp : p (l.getD j d) = false) : (l.take (j + 1)).any p = false := by
  rw [List.take_succ_eq_append_getElem hj, List.any_append, h]
  simp only [List.getD, List.getElem?_eq_getElem hj, Option.getD_some] at hp
  simp [hp]
theorem any_hit {α : Type} {p : α → Bool} {l : List α} {j : Nat} {d : α} (hj : j < l.length) (hp : p (l.getD j d) = true) : l.any p = true := by
  simp only [List.getD, List.getElem?_eq_getElem hj, Option.getD_some] at hp
  rw [List.any_eq_true]
  exact ⟨_, List.getElem_mem hj, hp⟩
theorem dec_ge0 (j : Nat) : decide ((0 : Int) ≤ (j : Int)) = true := decide_eq_true (by omega)

/-- A place of a slice, or -1. -/
def Found (b : Bool) (e : Ending) : Prop := ∃ i : Int, e = .returned (.int .i64 i) ∧ decide (0 ≤ i) = b

/-- A predicate on texts, handed to the library. -/
def PredS (g : Nat) (p : ByteArray → Bool) (ss : List ByteArray) (w : World) : Prop :=
  ∀ W, Below w.heap.size w W → ∀ x ∈ ss, Calls Try.prog g #[.string x] W fun e W' => e = .returned (.bool (p x)) ∧ Below W.heap.size W W'
/-- A predicate on numbers with a name, handed to the library. -/
def PredF (g : Nat) (p : ByteArray × Int → Bool) (fs : List (ByteArray × Int)) (w : World) : Prop :=
  ∀ W, Below w.heap.size w W → ∀ x ∈ fs, Calls Try.prog g #[.agg #[.string x.1, .int .i64 x.2]] W fun e W' => e = .returned (.bool (p x)) ∧ Below W.heap.size W W'

set_option maxHeartbeats 4000000 in
set_option maxRecDepth 100000 in
theorem index_any (A : Option Addr) (n ca : Nat) (ss : List ByteArray) (x : ByteArray) (w : World) (ha : RdS w A n ca ss) :
    Calls Try.prog 101 #[.slice A n ca, .string x] w fun e w' => Found (hasB ss x) e ∧ Below w.heap.size w w' := by
  have hn := RdC.le ha
  unfold maxLen at hn
  have la := ha.len
  generalize hR : hasB ss x = R
  have HR := Go.Lib.hid hR
  have LA := Go.Lib.hid la
  clear hR la
  go_enter Try.func101, Try.ntmps101
  go_wp2_with fail
  go_loopw [5, 8] (fun _ i wr => ∃ j : Nat, j ≤ n ∧ i = .int .i64 j ∧ (ss.take j).any (fun y => decide (y = x)) = false ∧ Below w.heap.size w wr) (fun _ i _ => n - (intOf i).toNat)
  case atStart => exact ⟨0, Nat.zero_le _, rfl, rfl, Below.refl _ _⟩
  case round =>
    obtain ⟨j, hj, rfl, hq, hb⟩ := hrel
    have HQ := Go.Lib.hid hq
    clear hq
    have a1 := RdC.below ha hb
    by_cases hlt : j < n
    · obtain ⟨ba, oa, rfl, _, ka⟩ := RdS.at_ a1 (by omega)
      have ka1 := ka j hlt
      have i1 : (j : Int) < n := by omega
      have hjl : j < ss.length := by rw [LA.out]; exact hlt
      have HM := Go.Lib.hid (fun h => any_miss (p := fun y => decide (y = x)) (d := ByteArray.empty) hjl HQ.out h)
      have HH := Go.Lib.hid (fun h => any_hit (p := fun y => decide (y = x)) (d := ByteArray.empty) hjl h)
      clear ka hjl a1
      generalize hy : ss.getD j ByteArray.empty = y at *
      clear hy
      by_cases hxy : x = y
      · subst hxy
        have hR : R = true := by rw [← HR.out]; exact HH.out (decide_eq_true rfl)
        subst hR
        go_wp2_with fail
        go_ret
        exact ⟨⟨j, rfl, dec_ge0 j⟩, hb⟩
      · have hne := str_ne hxy
        go_wp2_with fail
        go_roundw
        case rel => exact ⟨j + 1, by omega, by go_num, HM.out (decide_eq_false fun h => hxy h.symm), hb⟩
        case measure => simp [intOf]; omega
    · obtain rfl : n = j := by omega
      have hR : R = false := by
        rw [← HR.out]
        have h1 := HQ.out
        rwa [List.take_of_length_le (by rw [LA.out]; exact Nat.le_refl _)] at h1
      subst hR
      go_wp2_with fail
      go_ret
      exact ⟨⟨-1, rfl, by decide⟩, hb⟩

set_option maxHeartbeats 2000000 in
set_option maxRecDepth 100000 in
theorem contains_any (A : Option Addr) (n ca : Nat) (ss : List ByteArray) (x : ByteArray) (w : World) (ha : RdS w A n ca ss) :
    Calls Try.prog 82 #[.slice A n ca, .string x] w fun e w' => e = .returned (.bool (hasB ss x)) ∧ Below w.heap.size w w' := by
  have c := Go.Lib.hid (index_any A n ca ss x w ha)
  clear ha
  generalize hasB ss x = R at c ⊢
  go_enter Try.func82, Try.ntmps82
  go_wp2_with (refine (c.out).mono ?_; rintro e w' ⟨⟨i, rfl, rfl⟩, b1⟩)
  go_ret
  exact ⟨rfl, b1⟩

set_option maxHeartbeats 4000000 in
set_option maxRecDepth 100000 in
theorem idxFuncS_any (A : Option Addr) (n ca : Nat) (ss : List ByteArray) (g : Nat) (p : ByteArray → Bool) (w : World) (ha : RdS w A n ca ss) (eg : ∀ args w, (callFunc g args).run Try.prog w = .ok (.enter g args) w) (hp : PredS g p ss w) :
    Calls Try.prog 100 #[.slice A n ca, .func (.func g) #[] #[]] w fun e w' => Found (ss.any p) e ∧ Below w.heap.size w w' := by
  have hn := RdC.le ha
  unfold maxLen at hn
  have la := ha.len
  generalize hR : ss.any p = R
  have HR := Go.Lib.hid hR
  have LA := Go.Lib.hid la
  have HP := Go.Lib.hid hp
  clear hR la hp
  go_enter Try.func100, Try.ntmps100
  go_wp2_with fail
  go_loopw [5, 8] (fun _ i wr => ∃ j : Nat, j ≤ n ∧ i = .int .i64 j ∧ (ss.take j).any p = false ∧ Below w.heap.size w wr) (fun _ i _ => n - (intOf i).toNat)
  case atStart => exact ⟨0, Nat.zero_le _, rfl, rfl, Below.refl _ _⟩
  case round =>
    obtain ⟨j, hj, rfl, hq, hb⟩ := hrel
    have HQ := Go.Lib.hid hq
    clear hq
    have a1 := RdC.below ha hb
    by_cases hlt : j < n
    · obtain ⟨ba, oa, rfl, _, ka⟩ := RdS.at_ a1 (by omega)
      have ka1 := ka j hlt
      have i1 : (j : Int) < n := by omega
      have hjl : j < ss.length := by rw [LA.out]; exact hlt
      have HM := Go.Lib.hid (fun h => any_miss (p := p) (d := ByteArray.empty) hjl HQ.out h)
      have HH := Go.Lib.hid (fun h => any_hit (p := p) (d := ByteArray.empty) hjl h)
      have c := Go.Lib.hid (HP.out wr hb _ (mem_getD ss j hjl))
      clear ka hjl a1
      generalize hy : ss.getD j ByteArray.empty = y at *
      clear hy
      cases hpy : p y with
      | true =>
        have hR : R = true := by rw [← HR.out]; exact HH.out hpy
        subst hR
        rw [hpy] at c
        clear HM HH hpy
        go_wp2_with (refine (c.out).mono ?_; rintro e w1 ⟨rfl, b1⟩)
        go_ret
        exact ⟨⟨j, rfl, dec_ge0 j⟩, below_chain hb b1⟩
      | false =>
        rw [hpy] at c
        have HN := Go.Lib.hid (HM.out hpy)
        clear HM HH hpy
        go_wp2_with (refine (c.out).mono ?_; rintro e w1 ⟨rfl, b1⟩)
        go_roundw
        case rel => exact ⟨j + 1, by omega, by go_num, HN.out, below_chain hb b1⟩
        case measure => simp [intOf]; omega
    · obtain rfl : n = j := by omega
      have hR : R = false := by
        rw [← HR.out]
        have h1 := HQ.out
        rwa [List.take_of_length_le (by rw [LA.out]; exact Nat.le_refl _)] at h1
      subst hR
      go_wp2_with fail
      go_ret
      exact ⟨⟨-1, rfl, by decide⟩, hb⟩

set_option maxHeartbeats 2000000 in
set_option maxRecDepth 100000 in
theorem hasFuncS_any (A : Option Addr) (n ca : Nat) (ss : List ByteArray) (g : Nat) (p : ByteArray → Bool) (w : World) (ha : RdS w A n ca ss) (eg : ∀ args w, (callFunc g args).run Try.prog w = .ok (.enter g args) w) (hp : PredS g p ss w) :
    Calls Try.prog 79 #[.slice A n ca, .func (.func g) #[] #[]] w fun e w' => e = .returned (.bool (ss.any p)) ∧ Below w.heap.size w w' := by
  have c := Go.Lib.hid (idxFuncS_any A n ca ss g p w ha eg hp)
  clear ha eg hp
  generalize ss.any p = R at c ⊢
  go_enter Try.func79, Try.ntmps79
  go_wp2_with (refine (c.out).mono ?_; rintro e w' ⟨⟨i, rfl, rfl⟩, b1⟩)
  go_ret
  exact ⟨rfl, b1⟩

set_option maxHeartbeats 4000000 in
set_option maxRecDepth 100000 in
theorem idxFuncF_any (A : Option Addr) (n ca : Nat) (fs : List (ByteArray × Int)) (g : Nat) (p : ByteArray × Int → Bool) (w : World) (ha : RdF w A n ca fs) (eg : ∀ args w, (callFunc g args).run Try.prog w = .ok (.enter g args) w) (hp : PredF g p fs w) :
    Calls Try.prog 108 #[.slice A n ca, .func (.func g) #[] #[]] w fun e w' => Found (fs.any p) e ∧ Below w.heap.size w w' := by
  have hn := RdC.le ha
  unfold maxLen at hn
  have la := ha.len
  generalize hR : fs.any p = R
  have HR := Go.Lib.hid hR
  have LA := Go.Lib.hid la
  have HP := Go.Lib.hid hp
  clear hR la hp
  go_enter Try.func108, Try.ntmps108
  go_wp2_with fail
  go_loopw [5, 8] (fun _ i wr => ∃ j : Nat, j ≤ n ∧ i = .int .i64 j ∧ (fs.take j).any p = false ∧ Below w.heap.size w wr) (fun _ i _ => n - (intOf i).toNat)
  case atStart => exact ⟨0, Nat.zero_le _, rfl, rfl, Below.refl _ _⟩
  case round =>
    obtain ⟨j, hj, rfl, hq, hb⟩ := hrel
    have HQ := Go.Lib.hid hq
    clear hq
    have a1 := RdC.below ha hb
    by_cases hlt : j < n
    · obtain ⟨ba, oa, rfl, _, ka⟩ := RdF.at_ a1 (by omega)
      obtain ⟨ka1, ka2⟩ := ka j hlt
      have i1 : (j : Int) < n := by omega
      have hjl : j < fs.length := by rw [LA.out]; exact hlt
      have HM := Go.Lib.hid (fun h => any_miss (p := p) (d := (ByteArray.empty, (0 : Int))) hjl HQ.out h)
      have HH := Go.Lib.hid (fun h => any_hit (p := p) (d := (ByteArray.empty, (0 : Int))) hjl h)
      have c := Go.Lib.hid (HP.out wr hb _ (fs_mem fs j hjl))
      clear ka hjl a1
      generalize hy : fs.getD j (ByteArray.empty, 0) = y at *
      clear hy
      obtain ⟨y, z⟩ := y
      simp only at ka1 ka2 c
      cases hpy : p (y, z) with
      | true =>
        have hR : R = true := by rw [← HR.out]; exact HH.out hpy
        subst hR
        rw [hpy] at c
        clear HM HH hpy
        go_wp2_with (refine (c.out).mono ?_; rintro e w1 ⟨rfl, b1⟩)
        go_ret
        exact ⟨⟨j, rfl, dec_ge0 j⟩, below_chain hb b1⟩
      | false =>
        rw [hpy] at c
        have HN := Go.Lib.hid (HM.out hpy)
        clear HM HH hpy
        go_wp2_with (refine (c.out).mono ?_; rintro e w1 ⟨rfl, b1⟩)
        go_roundw
        case rel => exact ⟨j + 1, by omega, by go_num, HN.out, below_chain hb b1⟩
        case measure => simp [intOf]; omega
    · obtain rfl : n = j := by omega
      have hR : R = false := by
        rw [← HR.out]
        have h1 := HQ.out
        rwa [List.take_of_length_le (by rw [LA.out]; exact Nat.le_refl _)] at h1
      subst hR
      go_wp2_with fail
      go_ret
      exact ⟨⟨-1, rfl, by decide⟩, hb⟩

set_option maxHeartbeats 2000000 in
set_option maxRecDepth 100000 in
theorem hasFuncF_any (A : Option Addr) (n ca : Nat) (fs : List (ByteArray × Int)) (g : Nat) (p : ByteArray × Int → Bool) (w : World) (ha : RdF w A n ca fs) (eg : ∀ args w, (callFunc g args).run Try.prog w = .ok (.enter g args) w) (hp : PredF g p fs w) :
    Calls Try.prog 91 #[.slice A n ca, .func (.func g) #[] #[]] w fun e w' => e = .returned (.bool (fs.any p)) ∧ Below w.heap.size w w' := by
  have c := Go.Lib.hid (idxFuncF_any A n ca fs g p w ha eg hp)
  clear ha eg hp
  generalize fs.any p = R at c ⊢
  go_enter Try.func91, Try.ntmps91
  go_wp2_with (refine (c.out).mono ?_; rintro e w' ⟨⟨i, rfl, rfl⟩, b1⟩)
  go_ret
  exact ⟨rfl, b1⟩

end Go.Proofs.Ytiplfhmimpkplaa.EvWalk

/-
  Contracts of the library's IndexFunc, ContainsFunc over texts and over clauses, with a function value that holds what it captured.
-/
namespace Go.Proofs.Ytiplfhmimpkplaa.QuWalk
open Go.RowKit Go.Proofs.Ytiplfhmimpkplaa.MemRow Go.Proofs.Ytiplfhmimpkplaa.Ev Go.Proofs.Ytiplfhmimpkplaa.NameMath Go.Proofs.Ytiplfhmimpkplaa.NameWalk Go.Proofs.Ytiplfhmimpkplaa.EvWalk Go.Proofs.Ytiplfhmimpkplaa.Qu

/-- A function number that the program has. -/
def Runs (g : Nat) : Prop := ∀ args w, (callFunc g args).run Try.prog w = .ok (.enter g args) w

/-- A predicate on texts that holds what it captured, handed to the library. -/
def PredSc (g : Nat) (caps : Array Value) (p : ByteArray → Bool) (ss : List ByteArray) (w : World) : Prop :=
  ∀ W, Below w.heap.size w W → ∀ x ∈ ss, Calls Try.prog g (#[.string x] ++ caps) W fun e W' => e = .returned (.bool (p x)) ∧ Below W.heap.size W W'
/-- A predicate on clauses that holds what it captured, handed to the library. -/
def PredCc (g : Nat) (caps : Array Value) (p : Cl → Bool) (q : List Cl) (w : World) : Prop :=
  ∀ W, Below w.heap.size w W → ∀ v, ∀ c ∈ q, IsCl W v c → Calls Try.prog g (#[v] ++ caps) W fun e W' => e = .returned (.bool (p c)) ∧ Below W.heap.size W W'

theorem anyC_miss {p : Cl → Bool} {l : List Cl} {j : Nat} (hj : j < l.length) (h : (l.take j).any p = false) (hp : p (l.getD j noCl) = false) : (l.take (j + 1)).any p = false := any_miss (d := noCl) hj h hp

set_option maxHeartbeats 4000000 in
set_option maxRecDepth 100000 in
theorem idxFuncSc_any (A : Option Addr) (n ca : Nat) (ss : List ByteArray) (g : Nat) (caps : Array Value) (p : ByteArray → Bool) (w : World) (ha : RdS w A n ca ss) (eg : Runs g) (hp : PredSc g caps p ss w) :
    Calls Try.prog 100 #[.slice A n ca, .func (.func g) #[] caps] w fun e w' => EvWalk.Found (ss.any p) e ∧ Below w.heap.size w w' := by
  unfold Runs at eg
  have hn := RdC.le ha
  unfold maxLen at hn
  have la := ha.len
  generalize hR : ss.any p = R
  have HR := Go.Lib.hid hR
  have LA := Go.Lib.hid la
  have HP := Go.Lib.hid hp
  clear hR la hp
  go_enter Try.func100, Try.ntmps100
  go_wp2_with fail
  go_loopw [5, 8] (fun _ i wr => ∃ j : Nat, j ≤ n ∧ i = .int .i64 j ∧ (ss.take j).any p = false ∧ Below w.heap.size w wr) (fun _ i _ => n - (intOf i).toNat)
  case atStart => exact ⟨0, Nat.zero_le _, rfl, rfl, Below.refl _ _⟩
  case round =>
    obtain ⟨j, hj, rfl, hq, hb⟩ := hrel
    have HQ := Go.Lib.hid hq
    clear hq
    have a1 := RdC.below ha hb
    by_cases hlt : j < n
    · obtain ⟨ba, oa, rfl, _, ka⟩ := RdS.at_ a1 (by omega)
      have ka1 := ka j hlt
      have i1 : (j : Int) < n := by omega
      have hjl : j < ss.length := by rw [LA.out]; exact hlt
      have HM := Go.Lib.hid (fun h => any_miss (p := p) (d := ByteArray.empty) hjl HQ.out h)
      have HH := Go.Lib.hid (fun h => any_hit (p := p) (d := ByteArray.empty) hjl h)
      have c := Go.Lib.hid (HP.out wr hb _ (mem_getD ss j hjl))
      clear ka hjl a1
      generalize hy : ss.getD j ByteArray.empty = y at *
      clear hy
      cases hpy : p y with
      | true =>
        have hR : R = true := by rw [← HR.out]; exact HH.out hpy
        subst hR
        rw [hpy] at c
        clear HM HH hpy
        go_wp2_with (refine (c.out).mono ?_; rintro e w1 ⟨rfl, b1⟩)
        go_ret
        exact ⟨⟨j, rfl, dec_ge0 j⟩, below_chain hb b1⟩
      | false =>
        rw [hpy] at c
        have HN := Go.Lib.hid (HM.out hpy)
        clear HM HH hpy
        go_wp2_with (refine (c.out).mono ?_; rintro e w1 ⟨rfl, b1⟩)
        go_roundw
        case rel => exact ⟨j + 1, by omega, by go_num, HN.out, below_chain hb b1⟩
        case measure => simp [intOf]; omega
    · obtain rfl : n = j := by omega
      have hR : R = false := by
        rw [← HR.out]
        have h1 := HQ.out
        rwa [List.take_of_length_le (by rw [LA.out]; exact Nat.le_refl _)] at h1
      subst hR
      go_wp2_with fail
      go_ret
      exact ⟨⟨-1, rfl, by decide⟩, hb⟩

set_option maxHeartbeats 2000000 in
set_option maxRecDepth 100000 in
theorem hasFuncSc_any (A : Option Addr) (n ca : Nat) (ss : List ByteArray) (g : Nat) (caps : Array Value) (p : ByteArray → Bool) (w : World) (ha : RdS w A n ca ss) (eg : Runs g) (hp : PredSc g caps p ss w) :
    Calls Try.prog 79 #[.slice A n ca, .func (.func g) #[] caps] w fun e w' => e = .returned (.bool (ss.any p)) ∧ Below w.heap.size w w' := by
  have c := Go.Lib.hid (idxFuncSc_any A n ca ss g caps p w ha eg hp)
  clear ha eg hp
  generalize ss.any p = R at c ⊢
  go_enter Try.func79, Try.ntmps79
  go_wp2_with (refine (c.out).mono ?_; rintro e w' ⟨⟨i, rfl, rfl⟩, b1⟩)
  go_ret
  exact ⟨rfl, b1⟩

set_option maxHeartbeats 4000000 in
set_option maxRecDepth 100000 in
theorem idxFuncC_any (A : Option Addr) (n ca : Nat) (q : List Cl) (g : Nat) (caps : Array Value) (p : Cl → Bool) (w : World) (ha : RdQ w A n ca q) (eg : Runs g) (hp : PredCc g caps p q w) :
    Calls Try.prog 78 #[.slice A n ca, .func (.func g) #[] caps] w fun e w' => EvWalk.Found (q.any p) e ∧ Below w.heap.size w w' := by
  unfold Runs at eg
  have hn := ha.le
  unfold maxLen at hn
  have la := ha.len
  generalize hR : q.any p = R
  have HR := Go.Lib.hid hR
  have LA := Go.Lib.hid la
  have HP := Go.Lib.hid hp
  clear hR la hp
  go_enter Try.func78, Try.ntmps78
  go_wp2_with fail
  go_loopw [5, 8] (fun _ i wr => ∃ j : Nat, j ≤ n ∧ i = .int .i64 j ∧ (q.take j).any p = false ∧ Below w.heap.size w wr) (fun _ i _ => n - (intOf i).toNat)
  case atStart => exact ⟨0, Nat.zero_le _, rfl, rfl, Below.refl _ _⟩
  case round =>
    obtain ⟨j, hj, rfl, hq, hb⟩ := hrel
    have HQ := Go.Lib.hid hq
    clear hq
    have a1 := ha.below hb
    by_cases hlt : j < n
    · obtain ⟨ba, oa, rfl, _, ka⟩ := a1.at_ (by omega)
      obtain ⟨T, nT, cT, Y, nY, cY, x0, x1, rT, rY⟩ := ka j hlt
      have i1 : (j : Int) < n := by omega
      have hjl : j < q.length := by rw [LA.out]; exact hlt
      have HM := Go.Lib.hid (fun h => anyC_miss (p := p) hjl HQ.out h)
      have HH := Go.Lib.hid (fun h => any_hit (p := p) (d := noCl) hjl h)
      have c := Go.Lib.hid (HP.out wr hb (.agg #[.slice T nT cT, .slice Y nY cY]) _ (cl_get hjl) ⟨T, nT, cT, Y, nY, cY, rfl, rT, rY⟩)
      clear ka hjl a1 rT rY
      generalize q.getD j noCl = y at *
      cases hpy : p y with
      | true =>
        have hR : R = true := by rw [← HR.out]; exact HH.out hpy
        subst hR
        rw [hpy] at c
        clear HM HH hpy
        go_wp2_with (refine (c.out).mono ?_; rintro e w1 ⟨rfl, b1⟩)
        go_ret
        exact ⟨⟨j, rfl, dec_ge0 j⟩, below_chain hb b1⟩
      | false =>
        rw [hpy] at c
        have HN := Go.Lib.hid (HM.out hpy)
        clear HM HH hpy
        go_wp2_with (refine (c.out).mono ?_; rintro e w1 ⟨rfl, b1⟩)
        go_roundw
        case rel => exact ⟨j + 1, by omega, by go_num, HN.out, below_chain hb b1⟩
        case measure => simp [intOf]; omega
    · obtain rfl : n = j := by omega
      have hR : R = false := by
        rw [← HR.out]
        have h1 := HQ.out
        rwa [List.take_of_length_le (by rw [LA.out]; exact Nat.le_refl _)] at h1
      subst hR
      go_wp2_with fail
      go_ret
      exact ⟨⟨-1, rfl, by decide⟩, hb⟩

set_option maxHeartbeats 2000000 in
set_option maxRecDepth 100000 in
theorem hasFuncC_any (A : Option Addr) (n ca : Nat) (q : List Cl) (g : Nat) (caps : Array Value) (p : Cl → Bool) (w : World) (ha : RdQ w A n ca q) (eg : Runs g) (hp : PredCc g caps p q w) :
    Calls Try.prog 52 #[.slice A n ca, .func (.func g) #[] caps] w fun e w' => e = .returned (.bool (q.any p)) ∧ Below w.heap.size w w' := by
  have c := Go.Lib.hid (idxFuncC_any A n ca q g caps p w ha eg hp)
  clear ha eg hp
  generalize q.any p = R at c ⊢
  go_enter Try.func52, Try.ntmps52
  go_wp2_with (refine (c.out).mono ?_; rintro e w' ⟨⟨i, rfl, rfl⟩, b1⟩)
  go_ret
  exact ⟨rfl, b1⟩

end Go.Proofs.Ytiplfhmimpkplaa.QuWalk

/-
  Contracts of the library's slices.Equal, over texts and over numbers with a name.
-/
namespace Go.Proofs.Ytiplfhmimpkplaa.EvWalk
open Go.RowKit Go.Proofs.Ytiplfhmimpkplaa.MemRow Go.Proofs.Ytiplfhmimpkplaa.Ev Go.Proofs.Ytiplfhmimpkplaa.NameMath Go.Proofs.Ytiplfhmimpkplaa.NameWalk

end Go.Proofs.Ytiplfhmimpkplaa.EvWalk

/-
  Contracts of layer 4: Has, Value, Same.
-/
namespace Go.Proofs.Ytiplfhmimpkplaa.EvWalk
open Go.RowKit Go.Proofs.Ytiplfhmimpkplaa.MemRow Go.Proofs.Ytiplfhmimpkplaa.Ev Go.Proofs.Ytiplfhmimpkplaa.NameMath Go.Proofs.Ytiplfhmimpkplaa.NameWalk

set_option maxHeartbeats 2000000 in
set_option maxRecDepth 100000 in
theorem evHas_any (v : Value) (ev : Ev) (x : ByteArray) (w : World) (hv : IsEv w v ev) :
    Calls Try.prog 81 #[v, .string x] w fun e w' => e = .returned (.bool (hasB ev.tags x)) ∧ Below w.heap.size w w' := by
  obtain ⟨A, n, ca, B, m, cb, rfl, ha, _⟩ := hv
  have b0 : Below w.heap.size w (w.alloc (.cells #[.string ev.s, .string ev.t, .slice A n ca, .slice B m cb] 47)) := (Below.refl _ _).alloc (Nat.le_refl _) _
  have e0 := EvAt.new w (.string ev.s) (.string ev.t) (.slice A n ca) (.slice B m cb)
  have c := Go.Lib.hid (contains_any A n ca ev.tags x _ (RdC.below ha b0))
  have k2 := e0.c2
  clear ha e0
  generalize hasB ev.tags x = R at *
  go_enter Try.func81, Try.ntmps81
  go_wp2_with fail
  generalize w.alloc (.cells #[.string ev.s, .string ev.t, .slice A n ca, .slice B m cb] 47) = w1 at *
  refine (c.out).mono ?_
  rintro e w2 ⟨rfl, b1⟩
  go_wp2_with fail
  go_ret
  exact ⟨rfl, below_chain b0 b1⟩

end Go.Proofs.Ytiplfhmimpkplaa.EvWalk

/-
  Contracts of layer 6: query.Match and what it asks.
-/
namespace Go.Proofs.Ytiplfhmimpkplaa.QuWalk
open Go.RowKit Go.Proofs.Ytiplfhmimpkplaa.MemRow Go.Proofs.Ytiplfhmimpkplaa.Ev Go.Proofs.Ytiplfhmimpkplaa.NameMath Go.Proofs.Ytiplfhmimpkplaa.NameWalk Go.Proofs.Ytiplfhmimpkplaa.EvWalk Go.Proofs.Ytiplfhmimpkplaa.Qu

theorem any_nt' (l : List ByteArray) (p : ByteArray → Bool) : (l.any fun x => !p x) = !l.all p := by
  induction l with
  | nil => rfl
  | cons a l ih => rw [List.any_cons, List.all_cons, ih, Bool.not_and]

/-- A box that holds an event. -/
def EvBox (w : World) (g : Nat) (u : Value) (ev : Ev) : Prop := ∃ A n ca B m cb, u = .agg #[.string ev.s, .string ev.t, .slice A n ca, .slice B m cb] ∧ EvAt w g (.string ev.s) (.string ev.t) (.slice A n ca) (.slice B m cb) ∧ IsEv w u ev
theorem EvBox.below {w w' : World} {g : Nat} {u : Value} {ev : Ev} (h : EvBox w g u ev) (hb : Below w.heap.size w w') : EvBox w' g u ev := by
  obtain ⟨A, n, ca, B, m, cb, rfl, he, hi⟩ := h
  exact ⟨A, n, ca, B, m, cb, rfl, he.below hb he.lt, hi.below hb⟩

set_option maxHeartbeats 4000000 in
set_option maxRecDepth 100000 in
theorem hasTags1_any (g : Nat) (u : Value) (ev : Ev) (x : ByteArray) (w : World) (hb : EvBox w g u ev) :
    Calls Try.prog 80 #[.string x, .pointer (some ⟨g, 0, none⟩)] w fun e w' => e = .returned (.bool (!hasB ev.tags x)) ∧ Below w.heap.size w w' := by
  obtain ⟨A, n, ca, B, m, cb, rfl, he, hi⟩ := hb
  have c := Go.Lib.hid (evHas_any _ ev x w hi)
  have k0 := he.c0
  have k1 := he.c1
  have k2 := he.c2
  have k3 := he.c3
  clear he hi
  generalize hasB ev.tags x = R at *
  go_enter Try.func80, Try.ntmps80
  go_wp2_with (refine (c.out).mono ?_; rintro e w2 ⟨rfl, b2⟩)
  go_ret
  exact ⟨rfl, b2⟩

set_option maxHeartbeats 4000000 in
set_option maxRecDepth 100000 in
theorem hasTags_any (u : Value) (ev : Ev) (T : Option Addr) (nT cT : Nat) (ts : List ByteArray) (w : World) (hu : IsEv w u ev) (rT : RdS w T nT cT ts) :
    Calls Try.prog 54 #[u, .slice T nT cT] w fun e w' => e = .returned (.bool (ts.all fun x => hasB ev.tags x)) ∧ Below w.heap.size w w' := by
  obtain ⟨A, n, ca, B, m, cb, rfl, ra, rb⟩ := hu
  have al : Below w.heap.size w (w.alloc (.cells #[.string ev.s, .string ev.t, .slice A n ca, .slice B m cb] 47)) := (Below.refl _ _).alloc (Nat.le_refl _) _
  have e0 := EvAt.new w (.string ev.s) (.string ev.t) (.slice A n ca) (.slice B m cb)
  have bx : EvBox _ w.heap.size _ ev := ⟨A, n, ca, B, m, cb, rfl, e0, ⟨A, n, ca, B, m, cb, rfl, RdC.below ra al, RdC.below rb al⟩⟩
  have c0 := hasFuncSc_any T nT cT ts 80 #[.pointer (some ⟨w.heap.size, 0, none⟩)] (fun x => !hasB ev.tags x) _ (RdC.below rT al) (enters_of Try.func80 (by kernel_rfl) rfl) (fun W b x _ => hasTags1_any w.heap.size _ ev x W (bx.below b))
  have h := Bool.not_not (ts.all fun x => hasB ev.tags x)
  rw [any_nt'] at c0
  rw [← h]
  clear h bx e0 rT ra rb
  generalize (!ts.all fun x => hasB ev.tags x) = R at *
  have c := Go.Lib.hid c0
  clear c0
  go_enter Try.func54, Try.ntmps54
  go_upto_region 1 with (fail)
  generalize w.alloc (.cells #[.string ev.s, .string ev.t, .slice A n ca, .slice B m cb] 47) = w1 at *
  go_wp2_with (refine (c.out).mono ?_; rintro e w2 ⟨rfl, b2⟩)
  go_ret
  exact ⟨rfl, below_chain al b2⟩

set_option maxHeartbeats 4000000 in
set_option maxRecDepth 100000 in
theorem isOneOf_any (u : Value) (ev : Ev) (T : Option Addr) (nT cT : Nat) (ts : List ByteArray) (w : World) (hu : IsEv w u ev) (rT : RdS w T nT cT ts) :
    Calls Try.prog 55 #[u, .slice T nT cT] w fun e w' => e = .returned (.bool (decide (ts = []) || hasB ts ev.t)) ∧ Below w.heap.size w w' := by
  obtain ⟨A, n, ca, B, m, cb, rfl, ra, rb⟩ := hu
  have hn := RdC.le rT
  unfold maxLen at hn
  have LT := Go.Lib.hid rT.len
  have al : Below w.heap.size w (w.alloc (.cells #[.string ev.s, .string ev.t, .slice A n ca, .slice B m cb] 47)) := (Below.refl _ _).alloc (Nat.le_refl _) _
  have e0 := EvAt.new w (.string ev.s) (.string ev.t) (.slice A n ca) (.slice B m cb)
  have k1 := e0.c1
  have c := Go.Lib.hid (contains_any T nT cT ts ev.t _ (RdC.below rT al))
  clear rT ra rb e0
  generalize hR : (decide (ts = []) || hasB ts ev.t) = R
  have HR := Go.Lib.hid hR
  clear hR
  go_enter Try.func55, Try.ntmps55
  go_upto_region 1 with (fail)
  generalize w.alloc (.cells #[.string ev.s, .string ev.t, .slice A n ca, .slice B m cb] 47) = w1 at *
  by_cases h0 : nT = 0
  · subst h0
    have hR : R = true := by
      have h1 : ts = [] := List.eq_nil_of_length_eq_zero LT.out
      rw [← HR.out, decide_eq_true h1]
      rfl
    subst hR
    go_wp2_with fail
    go_ret
    exact ⟨rfl, al⟩
  · have h1 : ((nT : Int) == 0) = false := by rw [beq_eq_false_iff_ne]; omega
    have hR : hasB ts ev.t = R := by
      have h1 : ¬ ts = [] := fun h => h0 (by rw [← LT.out, h]; rfl)
      rw [← HR.out, decide_eq_false h1]
      rfl
    have d := c.out
    rw [hR] at d
    have D := Go.Lib.hid d
    clear d c hR
    go_wp2_with (refine (D.out).mono ?_; rintro e w2 ⟨rfl, b2⟩)
    go_ret
    exact ⟨rfl, below_chain al b2⟩

set_option maxHeartbeats 4000000 in
set_option maxRecDepth 100000 in
theorem match1_any (g : Nat) (u : Value) (ev : Ev) (v : Value) (c : Cl) (w : World) (hv : IsCl w v c) (hb : EvBox w g u ev) :
    Calls Try.prog 53 #[v, .pointer (some ⟨g, 0, none⟩)] w fun e w' => e = .returned (.bool (clauseB c ev)) ∧ Below w.heap.size w w' := by
  obtain ⟨T, nT, cT, Y, nY, cY, rfl, rT, rY⟩ := hv
  have al : Below w.heap.size w (w.alloc (.cells #[.slice T nT cT, .slice Y nY cY] 57)) := (Below.refl _ _).alloc (Nat.le_refl _) _
  have k := ClAt.new w (.slice T nT cT) (.slice Y nY cY)
  have rT1 := RdC.below rT al
  have rY1 := RdC.below rY al
  obtain ⟨A, n, ca, B, m, cb, rfl, he0, hi0⟩ := hb
  have he := he0.below al he0.lt
  have hi := hi0.below al
  clear rT rY he0 hi0
  generalize hR : clauseB c ev = R
  have HR := Go.Lib.hid hR
  clear hR
  go_enter Try.func53, Try.ntmps53
  go_upto_region 1 with (fail)
  generalize w.alloc (.cells #[.slice T nT cT, .slice Y nY cY] 57) = w1 at *
  have k0 := k.c0
  have k1 := k.c1
  have j0 := he.c0
  have j1 := he.c1
  have j2 := he.c2
  have j3 := he.c3
  have c1 := hasTags_any _ ev T nT cT c.tags w1 hi rT1
  generalize h1 : (c.tags.all fun x => hasB ev.tags x) = R1 at *
  have H1 := Go.Lib.hid h1
  have C1 := Go.Lib.hid c1
  clear h1 c1
  cases R1 with
  | false =>
    have hR : R = false := by
      rw [← HR.out]
      unfold clauseB
      rw [H1.out]
      rfl
    subst hR
    clear rT1 rY1 hi k
    go_wp2_with (refine (C1.out).mono ?_; rintro e w2 ⟨rfl, b2⟩)
    go_ret
    exact ⟨rfl, below_chain al b2⟩
  | true =>
    have hR : (decide (c.types = []) || hasB c.types ev.t) = R := by
      rw [← HR.out]
      unfold clauseB
      rw [H1.out, Bool.true_and]
    have HR2 := Go.Lib.hid hR
    clear hR
    go_wp2_with (refine (C1.out).mono ?_; rintro e w2 ⟨rfl, b2⟩; have l1 := bcell b2 k1; have i0 := bcell b2 j0; have i1 := bcell b2 j1; have i2 := bcell b2 j2; have i3 := bcell b2 j3; have B2 := below_chain al b2; have c2 := isOneOf_any _ ev Y nY cY c.types w2 (hi.below b2) (RdC.below rY1 b2); rw [HR2.out] at c2; have C2 := Go.Lib.hid c2; clear c2 rT1 rY1 hi k k0 k1 j0 j1 j2 j3 b2 he)
    go_wp2_with (refine (C2.out).mono ?_; rintro e w3 ⟨rfl, b3⟩)
    go_ret
    exact ⟨rfl, below_chain B2 b3⟩

set_option maxHeartbeats 4000000 in
set_option maxRecDepth 100000 in
theorem matchQ_any (v u : Value) (q : List Cl) (ev : Ev) (w : World) (hv : IsQ w v q) (hu : IsEv w u ev) :
    Calls Try.prog 37 #[v, u] w fun e w' => e = .returned (.bool (matchQ q ev)) ∧ Below w.heap.size w w' := by
  obtain ⟨C, n, cap, rfl, rC⟩ := hv
  have hu0 := hu
  obtain ⟨A, nA, cA, B, nB, cB, rfl, _, _⟩ := hu
  have s1 := QeAt.new w (.slice C n cap) (.string ev.s) (.string ev.t) (.slice A nA cA) (.slice B nB cB)
  have bx : EvBox _ (w.heap.size + 1) _ ev := ⟨A, nA, cA, B, nB, cB, rfl, s1.ee, hu0.below s1.bel⟩
  have c0 := hasFuncC_any C n cap q 53 #[.pointer (some ⟨w.heap.size + 1, 0, none⟩)] (fun c => clauseB c ev) _ (rC.below s1.bel) (enters_of Try.func53 (by kernel_rfl) rfl) (fun W b v c _ hi => match1_any (w.heap.size + 1) _ ev v c W hi (bx.below b))
  have k0 := s1.eq.c0
  have B1 := s1.bel
  unfold matchQ
  generalize (q.any fun c => clauseB c ev) = R at *
  have c := Go.Lib.hid c0
  clear c0 bx hu0 rC s1
  go_enter Try.func37, Try.ntmps37
  go_upto_region 1 with (fail)
  generalize (w.alloc (.cells #[.slice C n cap] 25)).alloc (.cells #[.string ev.s, .string ev.t, .slice A nA cA, .slice B nB cB] 47) = w1 at *
  go_wp2_with (refine (c.out).mono ?_; rintro e w2 ⟨rfl, b2⟩)
  go_ret
  exact ⟨rfl, below_chain B1 b2⟩

end Go.Proofs.Ytiplfhmimpkplaa.QuWalk

/-
  Contracts of the landed index: Last, count, All, Since.
-/
namespace Go.Proofs.Ytiplfhmimpkplaa.IxWalk
open Go.RowKit Go.Maps Go.Proofs.Ytiplfhmimpkplaa.MemRow Go.Proofs.Ytiplfhmimpkplaa.Ev Go.Proofs.Ytiplfhmimpkplaa.NameMath Go.Proofs.Ytiplfhmimpkplaa.NameWalk Go.Proofs.Ytiplfhmimpkplaa.EvWalk Go.Proofs.Ytiplfhmimpkplaa.NumMem Go.Proofs.Ytiplfhmimpkplaa.Qu Go.Proofs.Ytiplfhmimpkplaa.QuWalk Go.Proofs.Ytiplfhmimpkplaa.SmWalk Go.Proofs.Ytiplfhmimpkplaa.BtWalk Go.Proofs.Ytiplfhmimpkplaa.DkWalk Go.Proofs.Ytiplfhmimpkplaa.InWalk

theorem elem_recs : Try.prog.elem 36 = 49 := by kernel_rfl
set_option maxRecDepth 100000 in
/-- v[:m] -/
theorem slice_hiR (A : Option Addr) {n c m : Nat} (hc : n ≤ c) (hm : m ≤ n) (W : World) : (Instr.slice 36 (.slice A n c) none (some (.int .i64 (m : Int))) none).run Try.prog W = .ok (.slice A m c) W := by
  have hu : Try.prog.underlying 36 = some (.slice (Try.prog.elem 36)) := by rw [elem_recs]; exact Try.underlying36
  have e0 : A.map (·.add 0) = A := by cases A <;> simp [Addr.add]
  rw [run_slice_h (P := Try.prog) W 36 _ n c hu .i64 (m : Int) (by omega) (by omega), elem_recs, run_size (k := 6) (by kernel_rfl)]
  simp only [Result.andThen, sliced, Int.toNat_natCast, Nat.zero_mul, e0, Nat.sub_zero]
  congr 2
  split <;> rfl
set_option maxRecDepth 100000 in
/-- v[m:] -/
theorem slice_loR (A : Option Addr) {n c m : Nat} (hm : m ≤ n) (W : World) : (Instr.slice 36 (.slice A n c) (some (.int .i64 (m : Int))) none none).run Try.prog W = .ok (.slice (if c = m then A else A.map (·.add (m * 6))) (n - m) (c - m)) W := by
  have hu : Try.prog.underlying 36 = some (.slice (Try.prog.elem 36)) := by rw [elem_recs]; exact Try.underlying36
  rw [run_slice_l (P := Try.prog) W 36 _ n c hu .i64 (m : Int) (by omega) (by omega), elem_recs, run_size (k := 6) (by kernel_rfl)]
  simp only [Result.andThen, sliced, Int.toNat_natCast]
theorem RdRc.first {w : World} {A : Option Addr} {n c m : Nat} {rs : List Rc} (h : RdRc w A n c rs) (hm : m ≤ n) : RdRc w A m c (rs.take m) := by
  refine ⟨by rw [List.length_take, h.1]; omega, Nat.le_trans hm h.2.1, h.2.2.1, fun hn => ?_⟩
  obtain ⟨b, o, hA, hlt, hc⟩ := h.2.2.2 (by omega)
  refine ⟨b, o, hA, hlt, fun i hi => ?_⟩
  have e : (rs.take m).getD i noRc = rs.getD i noRc := by
    rw [List.getD_eq_getElem?_getD, List.getD_eq_getElem?_getD, List.getElem?_take_of_lt hi]
  rw [e]
  exact hc i (by omega)
theorem RdRc.cut {w : World} {A : Option Addr} {n c m : Nat} {rs : List Rc} (h : RdRc w A n c rs) (hm : m ≤ n) : RdRc w (if c = m then A else A.map (·.add (m * 6))) (n - m) (c - m) (rs.drop m) := by
  have hle := h.2.1
  refine ⟨by rw [List.length_drop, h.1], by omega, by have := h.2.2.1; omega, fun hn => ?_⟩
  obtain ⟨b, o, rfl, hlt, hc⟩ := h.2.2.2 (by omega)
  rw [if_neg (by omega)]
  refine ⟨b, o + m * 6, by simp [Addr.add], hlt, fun i hi => ?_⟩
  have e : (rs.drop m).getD i noRc = rs.getD (m + i) noRc := by
    rw [List.getD_eq_getElem?_getD, List.getD_eq_getElem?_getD, List.getElem?_drop]
  rw [e, show o + m * 6 + i * 6 = o + (m + i) * 6 by omega]
  exact hc (m + i) (by omega)

section
variable {w : World} {F G W : Nat → Prop} {old : Option Hx} {gx : Nat} {m lp a t y : Value} {es : List Ev}
theorem OldR.len (o : OldR w F G W old (recF es)) {A : Option Addr} {n c : Nat} (e : mkX old = .slice A n c) : n = es.length := by
  rcases o with ⟨h, rfl, r⟩ | ⟨rfl, hr⟩
  · injection e with _ e2 _
    rw [← e2, ← r.len, rec_len]
  · injection e with _ e2 _
    rw [← e2, ← rec_len es, hr]
    rfl
set_option maxHeartbeats 2000000 in
set_option maxRecDepth 100000 in
theorem last14_any (hx : XBx w gx (mkX old) m lp a t y) (ho : OldR w F G W old (recF es)) :
    Calls Try.prog 11 #[.pointer (some ⟨gx, 0, none⟩)] w fun e w' => e = .returned (.int .i64 (es.length : Nat)) ∧ w' = w := by
  obtain ⟨A2, n2, c2, e2, r2, _⟩ := ho.rd
  have hn := ho.len e2
  rw [e2] at hx
  have k0 := hx.c0
  clear ho r2 hx
  subst hn
  go_enter Try.func11, Try.ntmps11
  go_wp2_with fail
  go_ret
  exact ⟨rfl, rfl⟩
set_option maxHeartbeats 2000000 in
set_option maxRecDepth 100000 in
theorem count14_any {w : World} {gx n2 c2 : Nat} {A2 : Option Addr} {m lp a t y : Value} (hx : XBx w gx (.slice A2 n2 c2) m lp a t y) (u : Int) :
    Calls Try.prog 35 #[.pointer (some ⟨gx, 0, none⟩), .int .i64 u] w fun e w' => e = .returned (.int .i64 (cntU u n2 : Nat)) ∧ w' = w := by
  have k0 := hx.c0
  clear hx
  have HC := Go.Lib.hid (cntU_eq u n2)
  go_enter Try.func35, Try.ntmps35
  go_wp2_with fail
  go_ret
  rw [HC.out]
  exact ⟨rfl, rfl⟩
set_option maxHeartbeats 4000000 in
set_option maxRecDepth 100000 in
theorem all14_any (hx : XBx w gx (mkX old) m lp a t y) (ho : OldR w F G W old (recF es)) (he : es.length ≤ 1000) (hf : RcsFit (recF es)) (u : Int) :
    Calls Try.prog 21 #[.pointer (some ⟨gx, 0, none⟩), .int .i64 u] w fun e w' => CopOut w w' (allF es u) e := by
  obtain ⟨A2, n2, c2, e2, r2, _⟩ := ho.rd
  have hn := ho.len e2
  subst hn
  have bq : ∀ q, Below w.heap.size w (w.drewN q) := fun q => ⟨rfl, rfl, rfl, Nat.le_refl _, fun _ _ => rfl⟩
  have hle := cntU_le u es.length
  have qs := slice_hiR A2 r2.2.1 hle
  have r3 := r2.first hle
  rw [← all_by] at r3
  have hf3 : RcsFit (allF es u) := fun r hr => hf r (tell_mem.1 hr).1
  have CC := Go.Lib.hid (fun q => copies_any A2 (cntU u es.length) c2 (allF es u) (w.drewN q) (r3.drewN q) (by omega) hf3)
  have BQ := Go.Lib.hid bq
  rw [e2] at hx
  have CN := Go.Lib.hid (fun q => count14_any (hx.below (bq q)) u)
  have k0 := hx.c0
  have kq : ∀ q, (w.drewN q).cell? ⟨gx, 0, none⟩ = some (.slice A2 es.length c2) := fun q => hx.c0
  have HX := Go.Lib.hid hx
  clear ho r2 hx bq r3 hf3 hf hle e2
  generalize cntU u es.length = k at *
  generalize allF es u = rs at *
  generalize es.length = n at *
  go_enter Try.func21, Try.ntmps21
  go_upto_region 1 with (fail)
  go_region_held (fun w' => w'.cell? ⟨gx, 0, none⟩ = some (.slice A2 n c2))
    (first | exact k0 | exact kq _ | exact y6)
    (first
      | (go_at_call 35; refine (CN.out _).mono ?_; rintro e w5 ⟨rfl, rfl⟩)
      | (go_at_call 28; refine (CC.out _).mono ?_; rintro e w6 HE; obtain ⟨g6, n6, rfl, h6⟩ := id HE; have y6 := (HX.out.below ((BQ.out _).trans h6.2.2.2)).c0; have HEH := Go.Lib.hid h6; clear h6 HE))
  all_goals
    go_wp2_with fail
    go_ret
    obtain ⟨q1, q2, q3, q4⟩ := HEH.out
    exact ⟨g6, n6, rfl, q1, q2, q3, (BQ.out _).trans q4⟩
end

/-! ### Since -/
/-- The value v is the record r. -/
def IsRc (w : World) (v : Value) (r : Rc) : Prop := ∃ T nT cT Y nY cY, v = .agg #[.int .i64 r.pos, .int .i64 r.ver, .string r.e.s, .string r.e.t, .slice T nT cT, .slice Y nY cY] ∧ RdS w T nT cT r.e.tags ∧ RdF w Y nY cY r.e.fs
/-- A predicate on records that holds what it captured, handed to the library. -/
def PredRc (g : Nat) (caps : Array Value) (p : Rc → Bool) (rs : List Rc) (w : World) : Prop :=
  ∀ W, Below w.heap.size w W → ∀ v, ∀ r ∈ rs, IsRc W v r → Calls Try.prog g (#[v] ++ caps) W fun e W' => e = .returned (.bool (p r)) ∧ Below W.heap.size W W'
set_option maxHeartbeats 4000000 in
set_option maxRecDepth 100000 in
theorem idxFuncR_any (A : Option Addr) (n ca : Nat) (rs : List Rc) (g : Nat) (caps : Array Value) (p : Rc → Bool) (w : World) (ha : RdRc w A n ca rs) (eg : Runs g) (hp : PredRc g caps p rs w) :
    Calls Try.prog 51 #[.slice A n ca, .func (.func g) #[] caps] w fun e w' => EvWalk.Found (rs.any p) e ∧ Below w.heap.size w w' := by
  unfold Runs at eg
  have hn := ha.le
  unfold maxLen at hn
  have la := ha.len
  generalize hR : rs.any p = R
  have HR := Go.Lib.hid hR
  have LA := Go.Lib.hid la
  have HP := Go.Lib.hid hp
  clear hR la hp
  go_enter Try.func51, Try.ntmps51
  go_wp2_with fail
  go_loopw [5, 8] (fun _ i wr => ∃ j : Nat, j ≤ n ∧ i = .int .i64 j ∧ (rs.take j).any p = false ∧ Below w.heap.size w wr) (fun _ i _ => n - (intOf i).toNat)
  case atStart => exact ⟨0, Nat.zero_le _, rfl, rfl, Below.refl _ _⟩
  case round =>
    obtain ⟨j, hj, rfl, hq, hb⟩ := hrel
    have HQ := Go.Lib.hid hq
    clear hq
    have a1 := ha.below hb
    by_cases hlt : j < n
    · obtain ⟨ba, oa, rfl, _, ka⟩ := a1.at_ (by omega)
      obtain ⟨T, nT, cT, Y, nY, cY, x0, x1, x2, x3, x4, x5, rT, rY⟩ := ka j hlt
      have i1 : (j : Int) < n := by omega
      have hjl : j < rs.length := by rw [LA.out]; exact hlt
      have HM := Go.Lib.hid (fun h => any_miss (p := p) (d := noRc) hjl HQ.out h)
      have HH := Go.Lib.hid (fun h => any_hit (p := p) (d := noRc) hjl h)
      have c := Go.Lib.hid (HP.out wr hb (.agg #[.int .i64 (rs.getD j noRc).pos, .int .i64 (rs.getD j noRc).ver, .string (rs.getD j noRc).e.s, .string (rs.getD j noRc).e.t, .slice T nT cT, .slice Y nY cY]) _ (rc_get hjl) ⟨T, nT, cT, Y, nY, cY, rfl, rT, rY⟩)
      clear ka hjl a1 rT rY
      generalize rs.getD j noRc = y at *
      cases hpy : p y with
      | true =>
        have hR : R = true := by rw [← HR.out]; exact HH.out hpy
        subst hR
        rw [hpy] at c
        clear HM HH hpy
        go_wp2_with (refine (c.out).mono ?_; rintro e w1 ⟨rfl, b1⟩)
        go_ret
        exact ⟨⟨j, rfl, dec_ge0 j⟩, below_chain hb b1⟩
      | false =>
        rw [hpy] at c
        have HN := Go.Lib.hid (HM.out hpy)
        clear HM HH hpy
        go_wp2_with (refine (c.out).mono ?_; rintro e w1 ⟨rfl, b1⟩)
        go_roundw
        case rel => exact ⟨j + 1, by omega, by go_num, HN.out, below_chain hb b1⟩
        case measure => simp [intOf]; omega
    · obtain rfl : n = j := by omega
      have hR : R = false := by
        rw [← HR.out]
        have h1 := HQ.out
        rwa [List.take_of_length_le (by rw [LA.out]; exact Nat.le_refl _)] at h1
      subst hR
      go_wp2_with fail
      go_ret
      exact ⟨⟨-1, rfl, by decide⟩, hb⟩
set_option maxHeartbeats 2000000 in
set_option maxRecDepth 100000 in
theorem hasFuncR_any (A : Option Addr) (n ca : Nat) (rs : List Rc) (g : Nat) (caps : Array Value) (p : Rc → Bool) (w : World) (ha : RdRc w A n ca rs) (eg : Runs g) (hp : PredRc g caps p rs w) :
    Calls Try.prog 34 #[.slice A n ca, .func (.func g) #[] caps] w fun e w' => e = .returned (.bool (rs.any p)) ∧ Below w.heap.size w w' := by
  have c := Go.Lib.hid (idxFuncR_any A n ca rs g caps p w ha eg hp)
  clear ha eg hp
  generalize rs.any p = R at c ⊢
  go_enter Try.func34, Try.ntmps34
  go_wp2_with (refine (c.out).mono ?_; rintro e w' ⟨⟨i, rfl, rfl⟩, b1⟩)
  go_ret
  exact ⟨rfl, b1⟩
set_option maxHeartbeats 4000000 in
set_option maxRecDepth 100000 in
theorem since1_any {w : World} {g : Nat} {C : Option Addr} {n cap : Nat} {q : List Cl} {v : Value} {r : Rc} (hq : RdQ w C n cap q) (hb : w.cell? ⟨g, 0, none⟩ = some (.slice C n cap)) (hv : IsRc w v r) :
    Calls Try.prog 36 #[v, .pointer (some ⟨g, 0, none⟩)] w fun e w' => e = .returned (.bool (matchQ q r.e)) ∧ Below w.heap.size w w' := by
  obtain ⟨T, nT, cT, Y, nY, cY, rfl, rT, rY⟩ := hv
  obtain ⟨p, vr, e⟩ := r
  simp only at rT rY
  have b1 : Below w.heap.size w (w.alloc (.cells #[.int .i64 p, .int .i64 vr, .string e.s, .string e.t, .slice T nT cT, .slice Y nY cY] 49)) := (Below.refl _ _).alloc (Nat.le_refl _) _
  have x1 := RxAt.new w (.int .i64 p) (.int .i64 vr) (.string e.s) (.string e.t) (.slice T nT cT) (.slice Y nY cY)
  have y0 := bcell b1 hb
  have k2 := x1.c2
  have k3 := x1.c3
  have k4 := x1.c4
  have k5 := x1.c5
  have MC := Go.Lib.hid (matchQ_any (.agg #[.slice C n cap]) (.agg #[.string e.s, .string e.t, .slice T nT cT, .slice Y nY cY]) q e _ ⟨C, n, cap, rfl, hq.below b1⟩ ⟨T, nT, cT, Y, nY, cY, rfl, RdC.below rT b1, RdC.below rY b1⟩)
  have B1 := Go.Lib.hid b1
  clear rT rY hq hb b1 x1
  go_enter Try.func36, Try.ntmps36
  go_wp2_with (refine (MC.out).mono ?_; rintro e w2 ⟨rfl, b2⟩)
  go_ret
  exact ⟨rfl, below_chain B1.out b2⟩
section
variable {w : World} {F G W : Nat → Prop} {old : Option Hx} {gx : Nat} {m lp a t y : Value} {es : List Ev}
set_option maxHeartbeats 4000000 in
set_option maxRecDepth 100000 in
theorem since14_any {v : Value} {q : List Cl} (hx : XBx w gx (mkX old) m lp a t y) (ho : OldR w F G W old (recF es)) (hv : IsQ w v q) (u : Int) :
    Calls Try.prog 18 #[.pointer (some ⟨gx, 0, none⟩), v, .int .i64 u] w fun e w' => e = .returned (.bool (sinceF es q u)) ∧ Below w.heap.size w w' := by
  obtain ⟨C, nq, cq, rfl, rq⟩ := hv
  obtain ⟨A2, n2, c2, e2, r2, _⟩ := ho.rd
  have hn := ho.len e2
  subst hn
  have b1 : Below w.heap.size w (w.alloc (.cells #[.slice C nq cq] 25)) := (Below.refl _ _).alloc (Nat.le_refl _) _
  have x1 := heap_alloc_new w (.cells #[.slice C nq cq] 25)
  rw [e2] at hx
  have hx1 := hx.below b1
  have rq1 := rq.below b1
  have r3 := r2.below b1
  have hle := cntU_le u es.length
  have qs := slice_loR A2 (c := c2) hle
  have r4 := r3.cut hle
  rw [since_by es q u]
  generalize hR : ((recF es).drop (cntU u es.length)).any (fun x => matchQ q x.e) = R
  have HR := Go.Lib.hid hR
  clear hR
  have hbx : (w.alloc (.cells #[.slice C nq cq] 25)).cell? ⟨w.heap.size, 0, none⟩ = some (.slice C nq cq) := by rw [cell_of_row _ _ 0 _ _ _ x1]; rfl
  have HB1 := Go.Lib.hid b1
  clear ho r2 hx e2 rq x1 r3 b1
  go_enter Try.func18, Try.ntmps18
  go_upto_region 1 with (fail)
  generalize w.alloc (.cells #[.slice C nq cq] 25) = w1 at *
  have bq : ∀ k, Below w1.heap.size w1 (w1.drewN k) := fun k => ⟨rfl, rfl, rfl, Nat.le_refl _, fun _ _ => rfl⟩
  have eg : Runs 36 := enters_of Try.func36 (by kernel_rfl) rfl
  have CN := Go.Lib.hid (fun k => count14_any (hx1.below (bq k)) u)
  have ch := (fun k => hasFuncR_any _ _ _ _ 36 #[.pointer (some ⟨w.heap.size, 0, none⟩)] (fun x => matchQ q x.e) (w1.drewN k) (r4.drewN k) eg (fun W b v r _ hv => since1_any (rq1.below ((bq k).trans b)) (bcell ((bq k).trans b) hbx) hv))
  have k0 := hx1.c0
  have kq : ∀ k, (w1.drewN k).cell? ⟨gx, 0, none⟩ = some (.slice A2 es.length c2) := fun k => hx1.c0
  have HX := Go.Lib.hid hx1
  have BQ := Go.Lib.hid bq
  simp only [HR.out] at ch
  have CH := Go.Lib.hid ch
  clear hx1 rq1 hle r4 hbx bq eg ch HR
  generalize (if c2 = cntU u es.length then A2 else A2.map (·.add (cntU u es.length * 6))) = A3 at *
  generalize cntU u es.length = k at *
  generalize es.length = n at *
  go_region_held (fun w' => w'.cell? ⟨gx, 0, none⟩ = some (.slice A2 n c2))
    (first | exact k0 | exact kq _ | exact y6)
    (first
      | (go_at_call 35; refine (CN.out _).mono ?_; rintro e w5 ⟨rfl, rfl⟩)
      | (go_at_call 34; refine (CH.out _).mono ?_; rintro e w6 ⟨rfl, b6⟩; have b7 := (BQ.out _).trans b6; have y6 := (HX.out.below b7).c0; have B7 := Go.Lib.hid b7; clear b7 b6))
  all_goals
    go_wp2_with fail
    go_ret
    exact ⟨rfl, below_chain HB1.out B7.out⟩
end

end Go.Proofs.Ytiplfhmimpkplaa.IxWalk

/-
  Layer 12's mathematics, more: a stream's whole list; which part of it a bound tells; the landed Version's count. No walk here.
-/
namespace Go.Proofs.Ytiplfhmimpkplaa.SmWalk
open Go.RowKit Go.Proofs.Ytiplfhmimpkplaa.MemRow Go.Proofs.Ytiplfhmimpkplaa.Ev Go.Proofs.Ytiplfhmimpkplaa.NameMath Go.Proofs.Ytiplfhmimpkplaa.NameWalk Go.Proofs.Ytiplfhmimpkplaa.EvWalk

def allP (T : Tb) (s : ByteArray) : List Int := (T.filter fun x => decide (x.1 = s)).map (·.2)
theorem allP_nil (s : ByteArray) : allP [] s = [] := rfl
theorem allP_hit (T : Tb) (s : ByteArray) (p : Int) : allP (T ++ [(s, p)]) s = allP T s ++ [p] := by
  unfold allP
  rw [List.filter_append, List.map_append]
  simp
theorem allP_miss (T : Tb) {s t : ByteArray} (h : t ≠ s) (p : Int) : allP (T ++ [(s, p)]) t = allP T t := by
  unfold allP
  rw [List.filter_append, List.map_append]
  have : ¬ s = t := fun e => h e.symm
  simp [this]
theorem namesT_mem {T : Tb} {s : ByteArray} : s ∈ namesT T ↔ ∃ x ∈ T, x.1 = s := by
  unfold namesT
  rw [normTags_mem, List.mem_map]
theorem namesT_up (T : Tb) : Up (namesT T) := normTags_up _
theorem namesT_more {T : Tb} {s : ByteArray} {p : Int} (t : ByteArray) : t ∈ namesT (T ++ [(s, p)]) ↔ t = s ∨ t ∈ namesT T := by
  rw [namesT_mem, namesT_mem]
  constructor
  · rintro ⟨x, hx, rfl⟩
    rcases List.mem_append.1 hx with hx | hx
    · exact .inr ⟨x, hx, rfl⟩
    · rw [List.mem_singleton] at hx
      exact .inl (by rw [hx])
  · rintro (rfl | ⟨x, hx, rfl⟩)
    · exact ⟨(t, p), by simp, rfl⟩
    · exact ⟨x, by simp [hx], rfl⟩
theorem allP_some {T : Tb} {s : ByteArray} (h : s ∈ namesT T) : 0 < (allP T s).length := by
  obtain ⟨x, hx, rfl⟩ := namesT_mem.1 h
  unfold allP
  rw [List.length_map]
  exact List.length_pos_of_mem (List.mem_filter.2 ⟨hx, by simp⟩)
theorem allP_none {T : Tb} {s : ByteArray} (h : ¬ s ∈ namesT T) : allP T s = [] := by
  unfold allP
  rw [List.map_eq_nil_iff, List.filter_eq_nil_iff]
  intro x hx e
  exact h (namesT_mem.2 ⟨x, hx, by simpa using e⟩)
theorem allP_len (T : Tb) (s : ByteArray) : (allP T s).length ≤ T.length := by
  unfold allP
  rw [List.length_map]
  exact List.length_filter_le _ _
theorem namesT_len (T : Tb) : (namesT T).length ≤ T.length := by
  have := normTags_len (T.map (·.1))
  unfold namesT
  rwa [List.length_map] at this
theorem namesT_sz {T : Tb} (h : TOk T) {s : ByteArray} (hs : s ∈ namesT T) : s.size ≤ maxLen := by
  obtain ⟨x, hx, rfl⟩ := namesT_mem.1 hs
  exact h.sz x hx
theorem allP_rise {T : Tb} (h : RiseT T) (s : ByteArray) : (allP T s).Pairwise (· < ·) := by
  unfold allP
  rw [List.pairwise_map]
  exact h.1.sublist List.filter_sublist
theorem posF_all (T : Tb) (s : ByteArray) (u : Int) : posF T s u = (allP T s).filter fun q => decide (q ≤ u) := by
  induction T with
  | nil => rfl
  | cons x T ih =>
    have e : allP (x :: T) s = (if x.1 = s then [x.2] else []) ++ allP T s := by
      unfold allP
      rw [List.filter_cons]
      by_cases h : x.1 = s
      · rw [if_pos (by simpa using h), if_pos h]; rfl
      · rw [if_neg (by simpa using h), if_neg h]; rfl
    rw [posF_cons, e, List.filter_append, ih]
    congr 1
    by_cases h : x.1 = s
    · by_cases h2 : x.2 ≤ u
      · simp [h, h2]
      · simp [h, h2]
    · simp [h]
/-- How many of a rising row are not greater, as a search tells it. -/
def verN (l : List Int) (u : Int) : Nat := l.countP (· < u) + if u ∈ l then 1 else 0
theorem verN_filter {u : Int} : ∀ {l : List Int}, l.Pairwise (· < ·) → (l.filter fun q => decide (q ≤ u)) = l.take (verN l u) ∧ (l.filter fun q => decide (q ≤ u)).length = verN l u
  | [], _ => by simp [verN]
  | a :: l, h => by
    obtain ⟨h1, h2⟩ := List.pairwise_cons.1 h
    obtain ⟨i1, i2⟩ := verN_filter (u := u) h2
    rcases Int.lt_trichotomy a u with hl | rfl | hg
    · have e : verN (a :: l) u = verN l u + 1 := by
        unfold verN
        rw [List.countP_cons_of_pos (by simpa using hl)]
        have : u ∈ a :: l ↔ u ∈ l := by
          rw [List.mem_cons]
          exact ⟨fun h => h.resolve_left (by omega), .inr⟩
        by_cases hm : u ∈ l
        · rw [if_pos hm, if_pos (this.2 hm)]
        · rw [if_neg hm, if_neg fun h => hm (this.1 h)]
      have hle : a ≤ u := by omega
      rw [e, List.take_succ_cons, List.filter_cons, if_pos (by simpa using hle), List.length_cons, ← i1, i2]
      exact ⟨rfl, rfl⟩
    · have hz : (l.filter fun q => decide (q ≤ a)) = [] := List.filter_eq_nil_iff.2 fun q hq => by
        have := h1 q hq
        simp only [decide_eq_true_eq]
        omega
      have hc : l.countP (· < a) = 0 := List.countP_eq_zero.2 fun q hq => by
        have := h1 q hq
        simp only [decide_eq_true_eq]
        omega
      have e : verN (a :: l) a = 1 := by
        unfold verN
        rw [List.countP_cons_of_neg (by simp), hc, if_pos (by simp)]
      rw [e, List.filter_cons, if_pos (by simp), hz]
      exact ⟨by simp, rfl⟩
    · have hz : (l.filter fun q => decide (q ≤ u)) = [] := List.filter_eq_nil_iff.2 fun q hq => by
        have := h1 q hq
        simp only [decide_eq_true_eq]
        omega
      have hc : l.countP (· < u) = 0 := List.countP_eq_zero.2 fun q hq => by
        have := h1 q hq
        simp only [decide_eq_true_eq]
        omega
      have e : verN (a :: l) u = 0 := by
        unfold verN
        rw [List.countP_cons_of_neg (by simp only [decide_eq_true_eq]; omega), hc, if_neg]
        rintro h
        rcases List.mem_cons.1 h with h | h
        · omega
        · have := h1 u h
          omega
      rw [e, List.filter_cons, if_neg (by simp only [decide_eq_true_eq]; omega), hz]
      exact ⟨rfl, rfl⟩
theorem posF_take {T : Tb} (h : RiseT T) (s : ByteArray) (u : Int) : posF T s u = (allP T s).take (verN (allP T s) u) := by rw [posF_all, (verN_filter (allP_rise h s)).1]
theorem posF_ver {T : Tb} (h : RiseT T) (s : ByteArray) (u : Int) : (posF T s u).length = verN (allP T s) u := by rw [posF_all, (verN_filter (allP_rise h s)).2]
theorem verN_le {l : List Int} (h : l.Pairwise (· < ·)) (u : Int) : verN l u ≤ l.length := by
  rw [← (verN_filter h).2]
  exact List.length_filter_le _ _

end Go.Proofs.Ytiplfhmimpkplaa.SmWalk

/-
  Contracts of the library's own texts that the landed streams calls: slices.BinarySearch and slices.Clone at []int.
-/
namespace Go.Proofs.Ytiplfhmimpkplaa.SmWalk
open Go.RowKit Go.Proofs.Ytiplfhmimpkplaa.MemRow Go.Proofs.Ytiplfhmimpkplaa.Ev Go.Proofs.Ytiplfhmimpkplaa.NameMath Go.Proofs.Ytiplfhmimpkplaa.NameWalk Go.Proofs.Ytiplfhmimpkplaa.EvWalk Go.Proofs.Ytiplfhmimpkplaa.NumMem

set_option maxRecDepth 100000 in
theorem cmpNaN_any (x : Int) (w : World) : Calls Try.prog 102 #[.int .i64 x] w fun e w' => e = .returned (.bool false) ∧ w' = w := by
  have h : (x != x) = false := by simp
  go_enter Try.func102, Try.ntmps102
  go_wp2_with fail
  go_ret
  exact ⟨by simp, rfl⟩
set_option maxRecDepth 100000 in
theorem slNaN_any (x : Int) (w : World) : Calls Try.prog 84 #[.int .i64 x] w fun e w' => e = .returned (.bool false) ∧ w' = w := by
  have h : (x != x) = false := by simp
  go_enter Try.func84, Try.ntmps84
  go_wp2_with fail
  go_ret
  exact ⟨by simp, rfl⟩
set_option maxRecDepth 100000 in
theorem cmpLess_any (x y : Int) (w : World) : Calls Try.prog 83 #[.int .i64 x, .int .i64 y] w fun e w' => e = .returned (.bool (decide (x < y))) ∧ w' = w := by
  go_enter Try.func83, Try.ntmps83
  go_wp2_with (go_at_call 102; refine (cmpNaN_any _ _).mono ?_; rintro e w' ⟨rfl, rfl⟩)
  go_ret
  exact ⟨rfl, rfl⟩

set_option maxHeartbeats 4000000 in
set_option maxRecDepth 100000 in
theorem search_any (A : Option Addr) (n c : Nat) (l : List Int) (x : Int) (w : World) (h : RdI w A n c l) (hn : n ≤ 1000000) (hp : l.Pairwise (· ≤ ·)) :
    Calls Try.prog 56 #[.slice A n c, .int .i64 x] w fun e w' => e = .returned (.tuple #[.int .i64 (l.countP (· < x) : Nat), .bool (decide (x ∈ l))]) ∧ ∃ q, w' = w.drewN q := by
  have hlen := h.len
  have S : Hid (∀ a b, a ≤ b → b < n → l.getD a 0 ≤ l.getD b 0) := Go.Lib.hid (Lib.sorted_at l n (by omega) (by rw [← hlen, List.take_length]; exact hp))
  have EN : ∀ i, i ≤ n → (∀ t, t < i → l.getD t 0 < x) → (∀ t, i ≤ t → t < n → x ≤ l.getD t 0) → l.countP (· < x) = i ∧ decide (x ∈ l) = decide (i < n ∧ l.getD i 0 = x) := fun i hi h1 h2 => by
    obtain ⟨e1, e2⟩ := Lib.search_end l n i x (by omega) hi h1 h2 S.out
    rw [← hlen, List.take_length] at e1 e2
    refine ⟨e1, ?_⟩
    rw [← hlen]
    rw [← e2, List.contains_eq_mem]
  have EN := Go.Lib.hid EN
  have hc : ∀ j, j < n → ∃ b o, A = some ⟨b, o, none⟩ ∧ w.cell? ⟨b, o + j, none⟩ = some (.int .i64 (l.getD j 0)) := fun j hj => by
    obtain ⟨b, o, e, _, k⟩ := RdI.at_ h (by omega)
    exact ⟨b, o, e, k j hj⟩
  have HC := Go.Lib.hid hc
  clear hp hc h
  go_enter Try.func56, Try.ntmps56
  go_wp2_with fail
  go_loopw [7, 8] (fun s7 s8 wr => ∃ lo hi q : Nat, s7 = .int .i64 lo ∧ s8 = .int .i64 hi ∧ lo ≤ hi ∧ hi ≤ n ∧ wr = w.drewN q ∧ Hid ((∀ t, t < lo → l.getD t 0 < x) ∧ (∀ t, hi ≤ t → t < n → x ≤ l.getD t 0))) (fun s7 s8 _ => (intOf s8).toNat - (intOf s7).toNat)
  case atStart => exact ⟨0, n, 0, rfl, rfl, Nat.zero_le _, Nat.le_refl _, rfl, Go.Lib.hid ⟨fun t ht => absurd ht (Nat.not_lt_zero _), fun t h1 h2 => by omega⟩⟩
  case round =>
    obtain ⟨lo, hi, q, rfl, rfl, hlh, hin, rfl, I⟩ := hrel
    by_cases hlt : lo < hi
    · obtain ⟨b, o, rfl, cm⟩ := HC.out ((lo + hi) / 2) (by omega)
      have i1 : (lo : Int) < hi := by omega
      obtain ⟨y, hy⟩ : ∃ y, l.getD ((lo + hi) / 2) 0 = y := ⟨_, rfl⟩
      rw [hy] at cm
      have Y := Go.Lib.hid hy
      clear hy
      by_cases hyx : y < x
      · go_wp2_with (first | (go_at_call 83; refine (cmpLess_any _ _ _).mono ?_; rintro e w' ⟨rfl, rfl⟩))
        go_roundw
        case rel =>
          refine ⟨(lo + hi) / 2 + 1, hi, _, by rw [show ((lo : Int) + (hi : Int)) / 2 + 1 = (((lo + hi) / 2 + 1 : Nat) : Int) by omega], rfl, by omega, hin, rfl, Go.Lib.hid ⟨fun t ht => ?_, I.out.2⟩⟩
          have := S.out t ((lo + hi) / 2) (by omega) (by omega)
          rw [Y.out] at this
          omega
        case measure => simp [intOf]; omega
      · go_wp2_with (first | (go_at_call 83; refine (cmpLess_any _ _ _).mono ?_; rintro e w' ⟨rfl, rfl⟩))
        go_roundw
        case rel =>
          refine ⟨lo, (lo + hi) / 2, _, rfl, by rw [show ((lo : Int) + (hi : Int)) / 2 = (((lo + hi) / 2 : Nat) : Int) by omega], by omega, by omega, rfl, Go.Lib.hid ⟨I.out.1, fun t ht htn => ?_⟩⟩
          have := S.out ((lo + hi) / 2) t ht htn
          rw [Y.out] at this
          omega
        case measure => simp [intOf]; omega
    · obtain rfl : hi = lo := by omega
      have i1 : ¬ (hi : Int) < hi := by omega
      obtain ⟨e1, e2⟩ := EN.out hi hin I.out.1 I.out.2
      have E1 := Go.Lib.hid e1
      have E2 := Go.Lib.hid e2
      clear e1 e2
      by_cases hn2 : hi < n
      · obtain ⟨b, o, rfl, cl⟩ := HC.out hi hn2
        have i2 : (hi : Int) < n := by omega
        obtain ⟨y, hy⟩ : ∃ y, l.getD hi 0 = y := ⟨_, rfl⟩
        rw [hy] at cl
        have Y := Go.Lib.hid hy
        clear hy
        have i3 : (x != x) = false := by simp
        by_cases hyx : y = x
        · subst hyx
          go_wp2_with (first | (go_at_call 84; refine (slNaN_any _ _).mono ?_; rintro e w' ⟨rfl, rfl⟩))
          go_ret2
          refine ⟨?_, _, rfl⟩
          rw [E1.out, E2.out, Y.out, decide_eq_true (show hi < n ∧ y = y from ⟨hn2, rfl⟩)]
          first | rfl | simp [*]
        · 
          have i4 : (y == x) = false := by simpa using hyx
          go_wp2_with (first | (go_at_call 84; refine (slNaN_any _ _).mono ?_; rintro e w' ⟨rfl, rfl⟩))
          go_ret2
          refine ⟨?_, _, rfl⟩
          rw [E1.out, E2.out, Y.out, decide_eq_false (show ¬ (hi < n ∧ y = x) from fun h => hyx h.2)]
          first | rfl | simp [*]
      · have i2 : ¬ (hi : Int) < n := by omega
        go_wp2_with (first | (go_at_call 84; refine (slNaN_any _ _).mono ?_; rintro e w' ⟨rfl, rfl⟩))
        go_ret2
        refine ⟨?_, _, rfl⟩
        rw [E1.out, E2.out, decide_eq_false (show ¬ (hi < n ∧ l.getD hi 0 = x) from fun h => hn2 h.1)]
        first | rfl | simp [*]

set_option maxHeartbeats 4000000 in
set_option maxRecDepth 100000 in
theorem cloneI_any (A : Option Addr) (n c : Nat) (l : List Int) (w : World) (h : RdI w A n c l) (hnil : A = none → n = 0) (hn : n ≤ 1000000) :
    Calls Try.prog 46 #[.slice A n c] w fun e w' => ∃ B m cb, e = .returned (.slice B m cb) ∧ RdI w' B m cb l ∧ OwnC 1 w' w.heap.size 3 B m cb (nums l) ∧ Below w.heap.size w w' := by
  have qn : ∀ W, (binOp .eql 68 (.slice A n c) (.slice none 0 0)).run Try.prog W = .ok (.bool A.isNone) W := fun W => Lib.run_eql_slice_nil W _ _ _ _ _ _ _ Try.underlying68
  have hlen := h.len
  cases A with
  | none =>
    have h0 := hnil rfl
    subst h0
    obtain rfl : l = [] := List.eq_nil_of_length_eq_zero hlen
    go_enter Try.func46, Try.ntmps46
    go_wp2_with fail
    go_ret
    exact ⟨none, 0, 0, rfl, RdC.nil _, OwnC.nil _ _, Below.refl _ _⟩
  | some a =>
    have al : Below w.heap.size w (w.alloc (.cells #[] 3)) := (Below.refl _ _).alloc (Nat.le_refl _) _
    have r2 : RdC 1 (w.alloc (.cells #[] 3)) (some a) n c (nums l) := RdC.below h al
    go_enter Try.func46, Try.ntmps46
    go_wp2_with (at_builtin; refine wpList_copy_cells rfl (.tmp 5) (.tmp 6) 68 rfl 3 (.int .i64 0) 8 Try.underlying68 int_info rfl (by decide) rfl rfl (OwnC.empty w 3 (Nat.le_refl _)) r2 (nums_one l) (by unfold maxLen; omega) (by omega) al.size al ?_; intro A5 c5 w5 o5 b5)
    go_ret
    exact ⟨A5, n, c5, rfl, OwnC.rd o5, o5, b5⟩

end Go.Proofs.Ytiplfhmimpkplaa.SmWalk

/-
  The landed streams in memory: a table's box, its map of names to lists; lists that two tables may share: what an append of one number does to a list, and to those that share it.
-/
namespace Go.Proofs.Ytiplfhmimpkplaa.SmWalk
open Go.RowKit Go.Maps Go.Proofs.Ytiplfhmimpkplaa.MemRow Go.Proofs.Ytiplfhmimpkplaa.Ev Go.Proofs.Ytiplfhmimpkplaa.NameMath Go.Proofs.Ytiplfhmimpkplaa.NameWalk Go.Proofs.Ytiplfhmimpkplaa.EvWalk Go.Proofs.Ytiplfhmimpkplaa.NumMem Go.Proofs.Ytiplfhmimpkplaa.NMap Go.Proofs.Ytiplfhmimpkplaa.DkWalk

/-! ### A list: a slice of numbers -/
structure Hr where
  b : Nat
  n : Nat
  c : Nat
abbrev valL (h : Hr) : Value := .slice (some ⟨h.b, 0, none⟩) h.n h.c
def slR (v : Value) : Option (DataW Hr × List MemPlace) :=
  match v with
  | .slice (some ⟨b, 0, none⟩) n c => some (.held ⟨b, n, c⟩, [])
  | .slice none 0 0 => some (.nil, [])
  | _ => none
theorem slR_some (h : Hr) : slR (valL h) = some (.held h, []) := rfl
theorem slR_none : slR (.slice none 0 0) = some (.nil, []) := rfl
theorem slR_held (v : Value) (h : Hr) (ps : List MemPlace) (e : slR v = some (.held h, ps)) : v = valL h := by
  unfold slR at e
  split at e
  · simp only [Option.some.injEq, Prod.mk.injEq, DataW.held.injEq] at e
    rw [← e.1]
  · simp at e
  · cases e
theorem slR_nil {v : Value} {ps : List MemPlace} (e : slR v = some (.nil, ps)) : v = .slice none 0 0 := by
  unfold slR at e
  split at e
  · simp at e
  · rfl
  · cases e
def mkL (c : Option Hr) : Value := match c with | none => .slice none 0 0 | some h => valL h
theorem mkL_inv (v : Value) (y : DataW Hr × List MemPlace) (h : slR v = some y) : ∃ c, v = mkL c := by
  unfold slR at h
  split at h
  · exact ⟨some ⟨_, _, _⟩, rfl⟩
  · exact ⟨none, rfl⟩
  · cases h

structure LiR (w : World) (F G : Nat → Prop) (h : Hr) (l : List Int) : Prop where
  ex : ∃ cur, w.heap[h.b]? = some (.cells cur 3 (0, 0)) ∧ h.c ≤ cur.size ∧ cur.toList.take h.n = nums l
  len : l.length = h.n
  pos : 0 < h.n
  le : h.n ≤ h.c
  cap : h.c ≤ maxLen
  own : h.n < h.c → F h.b
  gb : G h.b
section
variable {w w' : World} {F F' G G' : Nat → Prop} {h : Hr} {l : List Int}
theorem LiR.rd (r : LiR w F G h l) : RdI w (some ⟨h.b, 0, none⟩) h.n h.c l := by
  obtain ⟨cur, hb, _, ht⟩ := r.ex
  refine RdC.of_block hb (by rw [nums_length, r.len, Nat.mul_one]) r.le r.cap fun i v hi => ?_
  rw [← ht] at hi
  have hlt : i < h.n := by
    have := (List.getElem?_eq_some_iff.1 hi).1
    rw [List.length_take] at this
    omega
  rw [List.getElem?_take_of_lt hlt] at hi
  simpa using hi
theorem LiR.blt (r : LiR w F G h l) : h.b < w.heap.size := by
  obtain ⟨cur, hb, _⟩ := r.ex
  exact (Array.getElem?_eq_some_iff.1 hb).1
theorem LiR.kept (r : LiR w F G h l) (hk : w'.heap[h.b]? = w.heap[h.b]?) : LiR w' F G h l := by
  obtain ⟨cur, hb, hc⟩ := r.ex
  exact ⟨⟨cur, hk.trans hb, hc⟩, r.len, r.pos, r.le, r.cap, r.own, r.gb⟩
theorem LiR.wide (r : LiR w F G h l) (hF : ∀ k, F k → F' k) (hG : ∀ k, G k → G' k) : LiR w F' G' h l := ⟨r.ex, r.len, r.pos, r.le, r.cap, fun e => hF _ (r.own e), hG _ r.gb⟩
theorem LiR.not {g : Nat} {o : Obj} (r : LiR w F G h l) (hg : w.heap[g]? = some o) (ho : ∀ cs T fr, o = .cells cs T fr → T ≠ 3) : h.b ≠ g := by
  intro e
  obtain ⟨cur, hb, _⟩ := r.ex
  rw [e, hg] at hb
  injection hb with hb
  exact ho _ _ _ hb rfl
theorem block_put (w : World) (b i : Nat) (v : Value) {cur : Array Value} {t : TypeId} {fr : Nat × Nat} (hb : w.heap[b]? = some (.cells cur t fr)) : (w.setCell ⟨b, i, none⟩ v).heap[b]? = some (.cells (cur.setIfInBounds i v) t fr) := by
  simp only [World.setCell, Array.getElem?_modify, hb]
  rfl
theorem block_other (w : World) (b i : Nat) (v : Value) {k : Nat} (h : k ≠ b) : (w.setCell ⟨b, i, none⟩ v).heap[k]? = w.heap[k]? := by
  have : b ≠ k := fun e => h e.symm
  simp [World.setCell, Array.getElem?_modify, this]
theorem setGrown (w : World) (g i : Nat) (x : Value) : w.grownBy (w.setCell ⟨g, i, none⟩ x) (some g) := by
  refine ⟨rfl, rfl, rfl, by simp [World.setCell], fun k _ hne => ?_⟩
  exact block_other w g i x fun e => hne (by rw [e])
/-- A number laid behind a list's own ones. -/
theorem LiR.put (r : LiR w F G h l) {b i : Nat} (v : Value) (hi : b = h.b → h.n ≤ i) : LiR (w.setCell ⟨b, i, none⟩ v) F G h l := by
  by_cases e : h.b = b
  · obtain ⟨cur, hb, hc, ht⟩ := r.ex
    have hin := hi e.symm
    subst e
    refine ⟨⟨_, block_put w _ i v hb, by simpa using hc, ?_⟩, r.len, r.pos, r.le, r.cap, r.own, r.gb⟩
    rw [← ht, Array.toList_setIfInBounds, List.take_set_of_le hin]
  · exact r.kept (block_other w b i v e)

/-! ### append(list, p) -/
/-- What was there: a list, or none. -/
def OldL (w : World) (F G : Nat → Prop) (old : Option Hr) (l : List Int) : Prop := (∃ h, old = some h ∧ LiR w F G h l) ∨ (old = none ∧ l = [])
structure AppOut (w w' : World) (F G : Nat → Prop) (old : Option Hr) (l : List Int) (p : Int) (h' : Hr) : Prop where
  li : LiR w' (up F w w') (up G w w') h' (l ++ [p])
  size : w.heap.size ≤ w'.heap.size
  how : (∃ h, old = some h ∧ h.n < h.c ∧ F h.b ∧ h' = ⟨h.b, h.n + 1, h.c⟩ ∧ w' = w.setCell ⟨h.b, h.n, none⟩ (.int .i64 p)) ∨ (Below w.heap.size w w' ∧ w.heap.size ≤ h'.b)
set_option maxRecDepth 100000 in
theorem app_room (r : LiR w F G h l) (hs : h.n < h.c) (p : Int) {a : Addr} {c : Nat} (hl : w.cell? (a.add 0) = some (.int .i64 p)) (ty : TypeId) :
    (Builtin.append_ #[68, 68] ty #[valL h, .slice (some a) 1 c]).run Try.prog w = .ok (valL ⟨h.b, h.n + 1, h.c⟩) (w.setCell ⟨h.b, h.n, none⟩ (.int .i64 p)) ∧ AppOut w (w.setCell ⟨h.b, h.n, none⟩ (.int .i64 p)) F G (some h) l p ⟨h.b, h.n + 1, h.c⟩ := by
  have hi := int_info
  have hT := Try.underlying68
  obtain ⟨i, h1, h2, h3, h4⟩ : ∃ i, Try.prog.info? 3 = some i ∧ i.zero = some (.int .i64 0) ∧ i.size = 1 ∧ i.bytes = 8 := by
    cases hq : Try.prog.info? 3 with
    | none => simp [hq] at hi
    | some i => simp [hq] at hi; exact ⟨i, rfl, hi.1, hi.2.1, hi.2.2⟩
  obtain ⟨cur, hb, hc, ht⟩ := r.ex
  have hcell : w.cell? ⟨h.b, h.n, none⟩ = some (cur[h.n]'(by omega)) := by
    rw [cell_of_row w h.b h.n _ _ _ hb, Array.getElem?_eq_getElem (by omega)]
  have hfr : w.frozen? ⟨h.b, h.n, none⟩ = false := by simp [World.frozen?, hb]
  have run := run_append_room_cells (P := Try.prog) w 68 ty 3 i hT h1 h.b 0 h.n h.c a 1 c [.int .i64 p] (by simp [h3]) (fun j u hj => by
    have : j = 0 := by
      have := (List.getElem?_eq_some_iff.1 hj).1
      simpa using this
    subst this
    simp only [List.getElem?_cons_zero, Option.some.injEq] at hj
    rw [← hj]
    exact hl) (fun u hu => by
    rw [List.mem_singleton] at hu
    rw [hu]
    rfl) (by omega) (fun j hj => by
    obtain rfl : j = 0 := by simpa using hj
    simp only [h3, Nat.mul_one, Nat.zero_add, Nat.add_zero, hcell]
    rfl) (fun j hj => by
    obtain rfl : j = 0 := by simpa using hj
    simp only [h3, Nat.mul_one, Nat.zero_add, Nat.add_zero, hfr])
  have e : w.setCells h.b (0 + h.n * i.size) [.int .i64 p] = w.setCell ⟨h.b, h.n, none⟩ (.int .i64 p) := by
    simp only [h3, Nat.mul_one, Nat.zero_add]
    rfl
  rw [e] at run
  have hsz : (w.setCell ⟨h.b, h.n, none⟩ (.int .i64 p)).heap.size = w.heap.size := by simp [World.setCell]
  refine ⟨run, ⟨⟨⟨_, block_put w _ h.n _ hb, by simpa using hc, ?_⟩, by rw [List.length_append, r.len]; rfl, by simp, by simp only; omega, r.cap, fun _ => .inl (r.own hs), .inl r.gb⟩, by omega, .inl ⟨h, rfl, hs, r.own hs, rfl, rfl⟩⟩⟩
  have hn : h.n < cur.toList.length := by simp; omega
  simp only
  rw [Array.toList_setIfInBounds, nums_append, ← ht]
  rw [List.take_add_one, List.getElem?_set_self hn, List.take_set_of_le (Nat.le_refl _)]
  rfl
set_option maxRecDepth 100000 in
theorem app_grow {old : Option Hr} (hold : OldL w F G old l) (hfull : ∀ h, old = some h → h.n = h.c) (hlen : l.length ≤ 1000000) (p : Int) {a : Addr} {c : Nat} (hl : w.cell? (a.add 0) = some (.int .i64 p)) (ty : TypeId) :
    ∃ h' w', (Builtin.append_ #[68, 68] ty #[mkL old, .slice (some a) 1 c]).run Try.prog w = .ok (valL h') w' ∧ AppOut w w' F G old l p h' := by
  have hi := int_info
  have hT := Try.underlying68
  obtain ⟨i, h1, h2, h3, h4⟩ : ∃ i, Try.prog.info? 3 = some i ∧ i.zero = some (.int .i64 0) ∧ i.size = 1 ∧ i.bytes = 8 := by
    cases hq : Try.prog.info? 3 with
    | none => simp [hq] at hi
    | some i => simp [hq] at hi; exact ⟨i, rfl, hi.1, hi.2.1, hi.2.2⟩
  have hnew : ∀ j u, [Value.int .i64 p][j]? = some u → w.cell? (a.add j) = some u := fun j u hj => by
    have : j = 0 := by
      have := (List.getElem?_eq_some_iff.1 hj).1
      simpa using this
    subst this
    simp only [List.getElem?_cons_zero, Option.some.injEq] at hj
    rw [← hj]
    exact hl
  have fin : ∀ v' w', w'.ownsRow w.heap.size 3 1 v' (l.length + 1) (nums l ++ [.int .i64 p]) → w.grownBy w' none → ∃ h', v' = valL h' ∧ AppOut w w' F G old l p h' := by
    intro v' w' ho hg
    rcases ho.2 with ⟨rfl, hn⟩ | ⟨g, c2, cur, rfl, hbg, hgb, hnc, hcm, hcs, htk⟩
    · omega
    · refine ⟨⟨g, l.length + 1, c2⟩, rfl, ⟨⟨⟨cur, hgb, by simp only; omega, ?_⟩, by rw [List.length_append]; rfl, by simp, hnc, hcm, fun _ => ?_, ?_⟩, hg.size, .inr ⟨grown_below hg, hbg⟩⟩⟩
      · rw [nums_append, ← Nat.mul_one (l.length + 1)]
        exact htk
      · have := (Array.getElem?_eq_some_iff.1 hgb).1
        exact .inr ⟨hbg, this⟩
      · have := (Array.getElem?_eq_some_iff.1 hgb).1
        exact .inr ⟨hbg, this⟩
  rcases hold with ⟨h, rfl, r⟩ | ⟨rfl, rfl⟩
  · have hn := r.len
    have hc := hfull h rfl
    obtain ⟨v', w', hrun, ho, hg⟩ := run_append_arg_grows (P := Try.prog) w 68 ty 3 i (.int .i64 0) 1 8 hT h1 h2 h3 h4 rfl (by omega) ⟨h.b, 0, none⟩ h.n h.c (nums l) (by rw [nums_length, r.len, Nat.mul_one]) (fun j u hj => by
      obtain ⟨b, o, hA, hcl⟩ := r.rd.2.2.2 r.pos
      injection hA with hA
      rw [hA, add_plain]
      exact hcl j u hj) a 1 c [.int .i64 p] (by simp) hnew (by omega) (by unfold maxLen; omega) (by omega)
    rw [← hn] at ho
    obtain ⟨h', rfl, out⟩ := fin v' w' ho hg
    exact ⟨h', w', hrun, out⟩
  · obtain ⟨v', w', hrun, ho, hg, _⟩ := run_append_own_at (P := Try.prog) w w.heap.size 68 ty 3 i (.int .i64 0) 1 8 hT h1 h2 h3 h4 rfl (by omega) (.slice none 0 0) 0 [] ⟨by simp, .inl ⟨rfl, rfl⟩⟩ a 1 c [.int .i64 p] (by simp) hnew (fun u hu => by
      rw [List.mem_singleton] at hu
      rw [hu]
      rfl) (by unfold maxLen; omega) (by omega) (Nat.le_refl _)
    obtain ⟨h', rfl, out⟩ := fin v' w' (by simpa [nums] using ho) hg
    exact ⟨h', w', hrun, out⟩
set_option maxRecDepth 100000 in
theorem app_any {old : Option Hr} (hold : OldL w F G old l) (hlen : l.length ≤ 1000000) (p : Int) {a : Addr} {c : Nat} (hl : w.cell? (a.add 0) = some (.int .i64 p)) (ty : TypeId) :
    ∃ h' w', (Builtin.append_ #[68, 68] ty #[mkL old, .slice (some a) 1 c]).run Try.prog w = .ok (valL h') w' ∧ AppOut w w' F G old l p h' := by
  by_cases hf : ∀ h, old = some h → h.n = h.c
  · exact app_grow hold hf hlen p hl ty
  · rcases hold with ⟨h, rfl, r⟩ | ⟨rfl, rfl⟩
    · have hs : h.n < h.c := by
        have := r.le
        rcases Nat.lt_or_ge h.n h.c with h1 | h1
        · exact h1
        · exact absurd (fun h' e => by injection e with e; rw [← e]; omega) hf
      obtain ⟨run, out⟩ := app_room r hs p hl ty
      exact ⟨_, _, run, out⟩
    · exact absurd (fun h' e => by cases e) hf
set_option maxRecDepth 100000 in
theorem wpList_app1 {old : Option Hr} {ops : Array Oper} {rest : List Oper} {o : Oper} {ac : Act} {Q : Exit → Act → World → Prop} (hgd : o.guard = none) (s x : Operand)
    (ho : o.op = .call { callee := .builtin .append, args := #[s, x], argTypes := #[68, 68] })
    {sv : Value} (hs : ac.eval s = sv) (hsv : sv = mkL old) {a : Addr} {c : Nat} (hx : ac.eval x = .slice (some a) 1 c) (hold : OldL w F G old l) (hlen : l.length ≤ 1000000) (p : Int) (hl : w.cell? (a.add 0) = some (.int .i64 p))
    (h : ∀ h' w', AppOut w w' F G old l p h' → wpList Try.prog ops Q rest (ac.put o.dst (.slice (some ⟨h'.b, 0, none⟩) h'.n h'.c)) w') : wpList Try.prog ops Q (o :: rest) ac w := by
  obtain ⟨h', w', hrun, out⟩ := app_any hold hlen p hl o.type
  refine wpList_plain hgd fun _ hK => ?_
  unfold Oper.wp execOp
  simp only [ho, resolve, invoke, builtin, Sem.run_bind, Sem.run_pure, Result.andThen_ok, List.map_toArray, List.map_cons, List.map_nil, hs, hsv, hx]
  rw [hrun]
  exact hK _ _ (h h' w' out)
theorem AppOut.other {old : Option Hr} {p : Int} {h' : Hr} (a : AppOut w w' F G old l p h') {k : Nat} (hk : k < w.heap.size) (hn : ∀ h, old = some h → k ≠ h.b) : w'.heap[k]? = w.heap[k]? := by
  rcases a.how with ⟨h, ho, _, _, _, rfl⟩ | ⟨hb, _⟩
  · exact block_other w _ _ _ (hn h ho)
  · exact hb.block k hk
end

end Go.Proofs.Ytiplfhmimpkplaa.SmWalk

/-
  The landed streams in memory: a table, and what Add's stores make of it, and of a table that shares its lists.
-/
namespace Go.Proofs.Ytiplfhmimpkplaa.SmWalk
open Go.RowKit Go.Maps Go.Proofs.Ytiplfhmimpkplaa.MemRow Go.Proofs.Ytiplfhmimpkplaa.Ev Go.Proofs.Ytiplfhmimpkplaa.NameMath Go.Proofs.Ytiplfhmimpkplaa.NameWalk Go.Proofs.Ytiplfhmimpkplaa.EvWalk Go.Proofs.Ytiplfhmimpkplaa.NumMem Go.Proofs.Ytiplfhmimpkplaa.NMap Go.Proofs.Ytiplfhmimpkplaa.DkWalk

/-- The table T behind g: its own blocks F, all blocks that it reads G. -/
structure TbR (w : World) (F G : Nat → Prop) (g : Nat) (T : Tb) (mb : Nat) (M : DataW Hr) (hd : ByteArray → Hr) : Prop where
  box : w.heap[g]? = some (.cells #[.map (some mb), .int .i64 (lastP T)] 67 (0, 0))
  own : w.ownsMap Try.prog 9 slR mb (Maps.size M) M
  nm : NOf M (namesT T) hd
  li : ∀ s ∈ namesT T, LiR w F G (hd s) (allP T s)
  apart : ∀ s ∈ namesT T, ∀ t ∈ namesT T, t ≠ s → (hd s).n < (hd s).c → (hd t).b ≠ (hd s).b
  fg : F g
  fm : F mb
  fG : ∀ k, F k → G k
  lt : ∀ k, G k → k < w.heap.size
/-- Where the first one may still write, the second one reads no more than the first. -/
def Apt (T : Tb) (hd : ByteArray → Hr) (T' : Tb) (hd' : ByteArray → Hr) : Prop := ∀ s ∈ namesT T, ∀ t ∈ namesT T', (hd s).n < (hd s).c → (hd' t).b = (hd s).b → (hd' t).n ≤ (hd s).n
def setHr (hd : ByteArray → Hr) (s : ByteArray) (x : Hr) : ByteArray → Hr := fun t => if t = s then x else hd t
theorem setHr_at (hd : ByteArray → Hr) (s : ByteArray) (x : Hr) : setHr hd s x s = x := if_pos rfl
theorem setHr_ne (hd : ByteArray → Hr) {s t : ByteArray} (x : Hr) (h : t ≠ s) : setHr hd s x t = hd t := if_neg h
section
variable {w w' : World} {F F' G G' : Nat → Prop} {g mb : Nat} {T : Tb} {M : DataW Hr} {hd : ByteArray → Hr}
theorem TbR.c0 (h : TbR w F G g T mb M hd) : w.cell? ⟨g, 0, none⟩ = some (.map (some mb)) := by rw [cell_of_row w g 0 _ _ _ h.box]; rfl
theorem TbR.c1 (h : TbR w F G g T mb M hd) : w.cell? ⟨g, 1, none⟩ = some (.int .i64 (lastP T)) := by rw [cell_of_row w g 1 _ _ _ h.box]; rfl
theorem TbR.frozen (h : TbR w F G g T mb M hd) (i : Nat) : w.frozen? ⟨g, i, none⟩ = false := by simp [World.frozen?, h.box]
theorem TbR.glt (h : TbR w F G g T mb M hd) : g < w.heap.size := h.lt _ (h.fG _ h.fg)
theorem TbR.mlt (h : TbR w F G g T mb M hd) : mb < w.heap.size := h.lt _ (h.fG _ h.fm)
set_option maxRecDepth 100000 in
theorem TbR.block (h : TbR w F G g T mb M hd) : ∃ es clock, w.heap[mb]? = some (.map es clock) := by
  obtain ⟨es, clock, hb, _⟩ := h.own
  exact ⟨es, clock, hb⟩
set_option maxRecDepth 100000 in
theorem TbR.ne (h : TbR w F G g T mb M hd) : mb ≠ g := by
  obtain ⟨es, clock, hb⟩ := h.block
  intro e
  rw [e, h.box] at hb
  injection hb with hb
  cases hb
set_option maxRecDepth 100000 in
theorem TbR.far (h : TbR w F G g T mb M hd) {F' G' : Nat → Prop} {x : Hr} {l : List Int} (r : LiR w F' G' x l) : x.b ≠ g ∧ x.b ≠ mb := by
  obtain ⟨es, clock, hb⟩ := h.block
  exact ⟨r.not h.box fun cs T fr e => by injection e with _ e _; subst e; decide, r.not hb fun cs T fr e => by cases e⟩
set_option maxRecDepth 100000 in
theorem TbR.keep (h : TbR w F G g T mb M hd) (hs : w.heap.size ≤ w'.heap.size) (hk : ∀ k, G k → w'.heap[k]? = w.heap[k]?) : TbR w' F G g T mb M hd := by
  obtain ⟨es, clock, hb, ft, hn, hD⟩ := h.own
  exact ⟨(hk g (h.fG _ h.fg)).trans h.box, ⟨es, clock, (hk mb (h.fG _ h.fm)).trans hb, ft, hn, hD⟩, h.nm, fun s hs => (h.li s hs).kept (hk _ (h.li s hs).gb), h.apart, h.fg, h.fm, h.fG, fun k hg => Nat.lt_of_lt_of_le (h.lt k hg) hs⟩
theorem TbR.below (h : TbR w F G g T mb M hd) (hb : Below w.heap.size w w') : TbR w' F G g T mb M hd := h.keep hb.size fun k hk => hb.block k (h.lt k hk)
set_option maxRecDepth 100000 in
theorem TbR.wide (h : TbR w F G g T mb M hd) (hs : ∀ k, G k → G' k) (hl : ∀ k, G' k → k < w.heap.size) : TbR w F G' g T mb M hd :=
  ⟨h.box, h.own, h.nm, fun s hk => (h.li s hk).wide (fun _ h => h) hs, h.apart, h.fg, h.fm, fun k hk => hs k (h.fG k hk), hl⟩
theorem TbR.size (h : TbR w F G g T mb M hd) : Maps.size M = (namesT T).length := h.nm.size (h.own.canon keyedN) (up_nodupN (namesT_up T))
theorem TbR.isMap (h : TbR w F G g T mb M hd) : IsMap M := isMapN h.own
/-- What a name is given by the map. -/
def oldOf (T : Tb) (hd : ByteArray → Hr) (s : ByteArray) (old : Option Hr) : Prop := (s ∈ namesT T ∧ old = some (hd s)) ∨ (¬ s ∈ namesT T ∧ old = none)
set_option maxRecDepth 100000 in
theorem oldOf_any (T : Tb) (hd : ByteArray → Hr) (s : ByteArray) : ∃ old, oldOf T hd s old := by
  by_cases h : s ∈ namesT T
  · exact ⟨_, .inl ⟨h, rfl⟩⟩
  · exact ⟨_, .inr ⟨h, rfl⟩⟩
set_option maxRecDepth 100000 in
theorem TbR.old (h : TbR w F G g T mb M hd) {s : ByteArray} {old : Option Hr} (ho : oldOf T hd s old) : OldL w F G old (allP T s) := by
  rcases ho with ⟨hs, rfl⟩ | ⟨hs, rfl⟩
  · exact .inl ⟨_, rfl, h.li s hs⟩
  · exact .inr ⟨rfl, allP_none hs⟩
theorem zeroSl (W : World) : (zeroValue 68).run Try.prog W = .ok (.slice none 0 0) W := Try.zeroValue68 W
set_option maxRecDepth 100000 in
theorem TbR.look (h : TbR w F G g T mb M hd) {s : ByteArray} {old : Option Hr} (ho : oldOf T hd s old) (hs : s.size ≤ maxLen) : (Instr.lookup 65 (.map (some mb)) (.string s) false).run Try.prog w = .ok (mkL old) w := by
  obtain ⟨v, ps, hrun, hv⟩ := h.own.lookup keyedN Try.underlying65 (zeroSl w) slR_none (keyN_of hs)
  rw [hrun]
  congr 1
  rcases ho with ⟨hk, rfl⟩ | ⟨hk, rfl⟩
  · rw [h.nm.at_ s hk] at hv
    exact slR_held _ _ _ hv
  · rw [atKey_of_not_has (h.nm.no hk)] at hv
    exact slR_nil hv
set_option maxRecDepth 100000 in
theorem mkL_rd (h : TbR w F G g T mb M hd) {s : ByteArray} {old : Option Hr} (ho : oldOf T hd s old) : ∃ A n c, mkL old = .slice A n c ∧ RdI w A n c (allP T s) ∧ (A = none → n = 0) := by
  rcases ho with ⟨hk, rfl⟩ | ⟨hk, rfl⟩
  · exact ⟨_, _, _, rfl, (h.li s hk).rd, fun e => by cases e⟩
  · rw [allP_none hk]
    exact ⟨none, 0, 0, rfl, RdC.nil _, fun _ => rfl⟩

/-! ### Add's stores -/
def Kin (w w' : World) (F : Nat → Prop) (T : Tb) (hd : ByteArray → Hr) (T1 : Tb) (hd1 : ByteArray → Hr) : Prop :=
  ∀ (F' G' : Nat → Prop) (g' : Nat) (T' : Tb) (mb' : Nat) (M' : DataW Hr) (hd' : ByteArray → Hr), TbR w F' G' g' T' mb' M' hd' → (∀ k, F k → ¬ F' k) → Apt T hd T' hd' → Apt T' hd' T hd → TbR w' F' G' g' T' mb' M' hd' ∧ Apt T1 hd1 T' hd' ∧ Apt T' hd' T1 hd1
theorem Kin.same (hb : Below w.heap.size w w') (F : Nat → Prop) (T : Tb) (hd : ByteArray → Hr) : Kin w w' F T hd T hd := fun _ _ _ _ _ _ _ h _ a1 a2 => ⟨h.below hb, a1, a2⟩
theorem Kin.from (hb : Below w.heap.size w w') {w2 : World} {T1 : Tb} {hd1 : ByteArray → Hr} (h : Kin w' w2 F T hd T1 hd1) : Kin w w2 F T hd T1 hd1 := fun _ _ _ _ _ _ _ h' hd a1 a2 => h _ _ _ _ _ _ _ (h'.below hb) hd a1 a2

variable {w2 w3 : World} {s : ByteArray} {p : Int} {old : Option Hr} {h' : Hr}
set_option maxRecDepth 100000 in
theorem TbR.app_box (h : TbR w F G g T mb M hd) (ho : oldOf T hd s old) (ap : AppOut w w2 F G old (allP T s) p h') : w2.heap[g]? = w.heap[g]? ∧ w2.heap[mb]? = w.heap[mb]? := by
  have hne : ∀ x, old = some x → g ≠ x.b ∧ mb ≠ x.b := fun x hx => by
    rcases ho with ⟨hs, rfl⟩ | ⟨_, rfl⟩
    · injection hx with hx
      subst hx
      obtain ⟨h1, h2⟩ := h.far (h.li s hs)
      exact ⟨h1.symm, h2.symm⟩
    · cases hx
  exact ⟨ap.other h.glt fun x hx => (hne x hx).1, ap.other h.mlt fun x hx => (hne x hx).2⟩
set_option maxRecDepth 100000 in
theorem TbR.app_own (h : TbR w F G g T mb M hd) (ho : oldOf T hd s old) (ap : AppOut w w2 F G old (allP T s) p h') : w2.ownsMap Try.prog 9 slR mb (Maps.size M) M := by
  obtain ⟨es, clock, hb, ft, hn, hD⟩ := h.own
  exact ⟨es, clock, (h.app_box ho ap).2.trans hb, ft, hn, hD⟩
set_option maxRecDepth 100000 in
theorem AppOut.ch (ap : AppOut w w2 F G old (allP T s) p h') : Ch F w w2 := by
  rcases ap.how with ⟨x, _, _, hF, _, rfl⟩ | ⟨hb, _⟩
  · exact Ch.of_grown (setGrown w x.b x.n (.int .i64 p)) fun r e => by injection e with e; subst e; exact .inl hF
  · exact Ch.of_below hb
set_option maxRecDepth 100000 in
theorem TbR.added (h : TbR w F G g T mb M hd) (ho : oldOf T hd s old) (ap : AppOut w w2 F G old (allP T s) p h') (hg3 : w2.grownBy w3 (some mb)) {n : Nat} (ho3 : w3.ownsMap Try.prog 9 slR mb n (M.put (keyN s) (.held h'))) :
    TbR (w3.setCell ⟨g, 1, none⟩ (.int .i64 p)) (up F w (w3.setCell ⟨g, 1, none⟩ (.int .i64 p))) (up G w (w3.setCell ⟨g, 1, none⟩ (.int .i64 p))) g (T ++ [(s, p)]) mb (M.put (keyN s) (.held h')) (setHr hd s h') ∧ Ch F w (w3.setCell ⟨g, 1, none⟩ (.int .i64 p)) ∧ Kin w (w3.setCell ⟨g, 1, none⟩ (.int .i64 p)) F T hd (T ++ [(s, p)]) (setHr hd s h') := by
  obtain ⟨e1, e2⟩ := h.app_box ho ap
  have hs4 := setGrown w3 g 1 (.int .i64 p)
  have hne := h.ne
  have glt := h.glt
  have mlt := h.mlt
  have z1 := ap.size
  have z2 := hg3.size
  have z3 := hs4.size
  have b2 := e1.trans h.box
  have b3 := (hg3.block g (by omega) (fun e => hne (by injection e with e; exact e.symm))).trans b2
  have b4 := two_set1 (v := .int .i64 p) b3
  have ch : Ch F w (w3.setCell ⟨g, 1, none⟩ (.int .i64 p)) := (ap.ch.then_grown hg3 fun r e => by injection e with e; subst e; exact .inl (.inl h.fm)).then_grown hs4 fun r e => by injection e with e; subst e; exact .inl (.inl h.fg)
  have m2 : ∃ es clock, w2.heap[mb]? = some (.map es clock) := by
    obtain ⟨es, clock, hb⟩ := h.block
    exact ⟨es, clock, e2.trans hb⟩
  -- a list of the world behind the append stays
  have L2 : ∀ {F' G' : Nat → Prop} {x : Hr} {l : List Int}, LiR w2 F' G' x l → LiR (w3.setCell ⟨g, 1, none⟩ (.int .i64 p)) F' G' x l := fun {F' G' x l} r => by
    have n1 : x.b ≠ g := r.not b2 fun cs T fr e => by injection e with _ e _; subst e; decide
    obtain ⟨es, clock, hb⟩ := m2
    have n2 : x.b ≠ mb := r.not hb fun cs T fr e => by cases e
    have := r.blt
    exact r.kept ((hs4.block _ (by omega) (fun e => n1 (by injection e))).trans (hg3.block _ this (fun e => n2 (by injection e))))
  -- a list of the world ahead of it, where it reads no more than was there
  have L0 : ∀ {F' G' : Nat → Prop} {x : Hr} {l : List Int}, LiR w F' G' x l → (s ∈ namesT T → (hd s).n < (hd s).c → (hd s).b = x.b → x.n ≤ (hd s).n) → LiR (w3.setCell ⟨g, 1, none⟩ (.int .i64 p)) F' G' x l := fun {F' G' x l} r hx => by
    refine L2 ?_
    rcases ap.how with ⟨y, hy, hsp, hF, _, rfl⟩ | ⟨hb, _⟩
    · rcases ho with ⟨hs, rfl⟩ | ⟨_, rfl⟩
      · injection hy with hy
        subst hy
        exact r.put _ fun e => hx hs hsp e
      · cases hy
    · exact r.kept (hb.block _ r.blt)
  have hh : ∀ t ∈ namesT T, (hd t).b < w.heap.size := fun t ht => (h.li t ht).blt
  have hnew : ((s ∈ namesT T ∧ (hd s).n < (hd s).c ∧ F (hd s).b ∧ h' = ⟨(hd s).b, (hd s).n + 1, (hd s).c⟩) ∨ w.heap.size ≤ h'.b) := by
    rcases ap.how with ⟨y, hy, hsp, hF, e, _⟩ | ⟨_, hb⟩
    · rcases ho with ⟨hs, rfl⟩ | ⟨_, rfl⟩
      · injection hy with hy
        subst hy
        exact .inl ⟨hs, hsp, hF, e⟩
      · cases hy
    · exact .inr hb
  refine ⟨⟨?_, tightN (ho3.kept hs4 (fun e => hne (by injection e))), ?_, fun t ht => ?_, fun a ha t ht hta hsp => ?_, .inl h.fg, .inl h.fm, fun k hk => ?_, fun k hk => up_lt h.lt ch.size hk⟩, ch, ?_⟩
  · rw [last_snoc]
    exact b4
  · have := h.nm.put (s := s) (h' := setHr hd s h') h.isMap (ns' := namesT (T ++ [(s, p)])) (fun t => namesT_more t) (fun t ht => setHr_ne _ _ ht)
    rwa [setHr_at] at this
  · by_cases e : t = s
    · subst e
      rw [setHr_at, allP_hit]
      exact (L2 ap.li).wide (fun k hk => up_mono (by omega) hk) (fun k hk => up_mono (by omega) hk)
    · have ht' := ((namesT_more t).1 ht).resolve_left e
      rw [setHr_ne _ _ e, allP_miss T e]
      exact (L0 (h.li t ht') fun hs hsp hb => absurd hb.symm (h.apart s hs t ht' e hsp)).wide (fun k hk => .inl hk) (fun k hk => .inl hk)
  · by_cases e : a = s
    · subst e
      have ht' := ((namesT_more t).1 ht).resolve_left hta
      rw [setHr_at] at hsp ⊢
      rw [setHr_ne _ _ hta]
      rcases hnew with ⟨hs, hsp', _, rfl⟩ | hb
      · exact h.apart a hs t ht' hta hsp'
      · have := hh t ht'
        omega
    · have ha' := ((namesT_more a).1 ha).resolve_left e
      rw [setHr_ne _ _ e] at hsp ⊢
      by_cases e2 : t = s
      · subst e2
        rw [setHr_at]
        rcases hnew with ⟨hs, _, _, rfl⟩ | hb
        · exact h.apart a ha' t hs hta hsp
        · have := hh a ha'
          omega
      · rw [setHr_ne _ _ e2]
        exact h.apart a ha' t (((namesT_more t).1 ht).resolve_left e2) hta hsp
  · rcases hk with hk | hk
    · exact .inl (h.fG k hk)
    · exact .inr hk
  · intro F' G' g' T' mb' M' hd' y hFF a1 a2
    have kn : ∀ k, F' k → (w3.setCell ⟨g, 1, none⟩ (.int .i64 p)).heap[k]? = w.heap[k]? := fun k hk => ch.block k (y.lt k (y.fG k hk)) fun hf => hFF k hf hk
    obtain ⟨es, clock, hb, ft, hn, hD⟩ := y.own
    refine ⟨⟨(kn g' y.fg).trans y.box, ⟨es, clock, (kn mb' y.fm).trans hb, ft, hn, hD⟩, y.nm, fun t ht => L0 (y.li t ht) fun hs hsp e => a1 s hs t ht hsp e.symm, y.apart, y.fg, y.fm, y.fG, fun k hk => Nat.lt_of_lt_of_le (y.lt k hk) ch.size⟩, fun a ha t ht hsp e => ?_, fun t ht a ha hsp e => ?_⟩
    · by_cases ea : a = s
      · subst ea
        rw [setHr_at] at hsp e ⊢
        rcases hnew with ⟨hs, hsp', _, rfl⟩ | hb
        · have := a1 a hs t ht hsp' e
          simp only
          omega
        · have := (y.li t ht).blt
          omega
      · rw [setHr_ne _ _ ea] at hsp e ⊢
        exact a1 a (((namesT_more a).1 ha).resolve_left ea) t ht hsp e
    · by_cases ea : a = s
      · subst ea
        rw [setHr_at] at e ⊢
        rcases hnew with ⟨hs, _, hF, rfl⟩ | hb
        · exact absurd ((y.li t ht).own hsp) (by rw [← e]; exact hFF _ hF)
        · have := (y.li t ht).blt
          omega
      · rw [setHr_ne _ _ ea] at e ⊢
        exact a2 t ht a (((namesT_more a).1 ha).resolve_left ea) hsp e
end

/-! ### Tables as things -/
def StL (g : Nat) (T : Tb) : Thing := fun w G => ∃ F mb M hd, TbR w F G g T mb M hd
/-- Two tables that may share lists. -/
def TwL (g : Nat) (T : Tb) (g' : Nat) (T' : Tb) : Thing := fun w G => ∃ F mb M hd F' mb' M' hd', TbR w F G g T mb M hd ∧ TbR w F' G g' T' mb' M' hd' ∧ (∀ k, F k → ¬ F' k) ∧ Apt T hd T' hd' ∧ Apt T' hd' T hd
theorem stL_keeps (g : Nat) (T : Tb) : Keeps (StL g T) := ⟨fun ⟨F, mb, M, hd, h⟩ hs hk => ⟨F, mb, M, hd, h.keep hs hk⟩, fun ⟨_, _, _, _, h⟩ => h.lt⟩
theorem twL_keeps (g : Nat) (T : Tb) (g' : Nat) (T' : Tb) : Keeps (TwL g T g' T') := ⟨fun ⟨F, mb, M, hd, F', mb', M', hd', h, h', hx⟩ hs hk => ⟨F, mb, M, hd, F', mb', M', hd', h.keep hs hk, h'.keep hs hk, hx⟩, fun ⟨_, _, _, _, _, _, _, _, h, _⟩ => h.lt⟩
theorem twL_swap (g : Nat) (T : Tb) (g' : Nat) (T' : Tb) : Imp (TwL g T g' T') (TwL g' T' g T) := fun _ _ ⟨F, mb, M, hd, F', mb', M', hd', h, h', h1, h2, h3⟩ => ⟨F', mb', M', hd', F, mb, M, hd, h', h, fun k hk hf => h1 k hf hk, h3, h2⟩
theorem twL_fst (g : Nat) (T : Tb) (g' : Nat) (T' : Tb) : Imp (TwL g T g' T') (StL g T) := fun _ _ ⟨F, mb, M, hd, _, _, _, _, h, _⟩ => ⟨F, mb, M, hd, h⟩

end Go.Proofs.Ytiplfhmimpkplaa.SmWalk

/-
  The landed index in memory: its table of streams; what Add's stores make of it, and of a table that shares its lists.
-/
namespace Go.Proofs.Ytiplfhmimpkplaa.InWalk
open Go.RowKit Go.Maps Go.Proofs.Ytiplfhmimpkplaa.MemRow Go.Proofs.Ytiplfhmimpkplaa.Ev Go.Proofs.Ytiplfhmimpkplaa.NameMath Go.Proofs.Ytiplfhmimpkplaa.NameWalk Go.Proofs.Ytiplfhmimpkplaa.EvWalk Go.Proofs.Ytiplfhmimpkplaa.NumMem Go.Proofs.Ytiplfhmimpkplaa.NMap Go.Proofs.Ytiplfhmimpkplaa.DkWalk Go.Proofs.Ytiplfhmimpkplaa.SmWalk

/-- The table T: its own blocks F, all blocks that it reads G; where its two cells lie is said beside. -/
structure TbC (w : World) (F G : Nat → Prop) (T : Tb) (mb : Option Nat) (M : DataW Hr) (hd : ByteArray → Hr) : Prop where
  own : OwnM slR w mb M
  nm : NOf M (namesT T) hd
  li : ∀ s ∈ namesT T, LiR w F G (hd s) (allP T s)
  apart : ∀ s ∈ namesT T, ∀ t ∈ namesT T, t ≠ s → (hd s).n < (hd s).c → (hd t).b ≠ (hd s).b
  fm : ∀ b, mb = some b → F b
  fG : ∀ k, F k → G k
  lt : ∀ k, G k → k < w.heap.size
section
variable {w w' : World} {F F' G G' : Nat → Prop} {mb : Option Nat} {T : Tb} {M : DataW Hr} {hd : ByteArray → Hr}
set_option maxRecDepth 100000 in
theorem TbC.keep (h : TbC w F G T mb M hd) (hs : w.heap.size ≤ w'.heap.size) (hk : ∀ k, G k → w'.heap[k]? = w.heap[k]?) : TbC w' F G T mb M hd :=
  ⟨h.own.kept fun b e => hk b (h.fG _ (h.fm b e)), h.nm, fun s hs => (h.li s hs).kept (hk _ (h.li s hs).gb), h.apart, h.fm, h.fG, fun k hg => Nat.lt_of_lt_of_le (h.lt k hg) hs⟩
theorem TbC.below (h : TbC w F G T mb M hd) (hb : Below w.heap.size w w') : TbC w' F G T mb M hd := h.keep hb.size fun k hk => hb.block k (h.lt k hk)
set_option maxRecDepth 100000 in
theorem TbC.wide (h : TbC w F G T mb M hd) (hF : ∀ k, F k → F' k) (hs : ∀ k, G k → G' k) (hFG : ∀ k, F' k → G' k) (hl : ∀ k, G' k → k < w.heap.size) : TbC w F' G' T mb M hd :=
  ⟨h.own, h.nm, fun s hk => (h.li s hk).wide hF hs, h.apart, fun b e => hF _ (h.fm b e), hFG, hl⟩
theorem TbC.size (h : TbC w F G T mb M hd) : Maps.size M = (namesT T).length := h.own.size h.nm (up_nodupN (namesT_up T))
set_option maxRecDepth 100000 in
theorem TbC.nil (h : TbC w F G T none M hd) : T = [] := by
  have e := h.own.nil h.nm
  cases T with
  | nil => rfl
  | cons x T =>
    have : x.1 ∈ namesT (x :: T) := namesT_mem.2 ⟨x, List.mem_cons_self, rfl⟩
    rw [e] at this
    cases this
set_option maxRecDepth 100000 in
theorem TbC.old (h : TbC w F G T mb M hd) {s : ByteArray} {old : Option Hr} (ho : oldOf T hd s old) : OldL w F G old (allP T s) := by
  rcases ho with ⟨hs, rfl⟩ | ⟨hs, rfl⟩
  · exact .inl ⟨_, rfl, h.li s hs⟩
  · exact .inr ⟨rfl, allP_none hs⟩
set_option maxRecDepth 100000 in
theorem TbC.look (h : TbC w F G T mb M hd) {s : ByteArray} {old : Option Hr} (ho : oldOf T hd s old) (hs : s.size ≤ maxLen) : (Instr.lookup 65 (.map mb) (.string s) false).run Try.prog w = .ok (mkL old) w := by
  obtain ⟨v, ps, hrun, hv⟩ := h.own.lookup Try.underlying65 (zeroSl w) slR_none hs
  rw [hrun]
  congr 1
  rcases ho with ⟨hk, rfl⟩ | ⟨hk, rfl⟩
  · rw [h.nm.at_ s hk] at hv
    exact slR_held _ _ _ hv
  · rw [atKey_of_not_has (h.nm.no hk)] at hv
    exact slR_nil hv
set_option maxRecDepth 100000 in
theorem TbC.rd (h : TbC w F G T mb M hd) {s : ByteArray} {old : Option Hr} (ho : oldOf T hd s old) : ∃ A n c, mkL old = .slice A n c ∧ RdI w A n c (allP T s) ∧ (A = none → n = 0) := by
  rcases ho with ⟨hk, rfl⟩ | ⟨hk, rfl⟩
  · exact ⟨_, _, _, rfl, (h.li s hk).rd, fun e => by cases e⟩
  · rw [allP_none hk]
    exact ⟨none, 0, 0, rfl, RdC.nil _, fun _ => rfl⟩
set_option maxRecDepth 100000 in
theorem TbC.empty (w : World) (hd : ByteArray → Hr) : TbC w (fun _ => False) (fun _ => False) [] none (.map []) hd :=
  ⟨rfl, NOf.empty _, fun s hs => (by cases hs), fun s hs => (by cases hs), fun b e => (by cases e), fun k hk => hk, fun k hk => hk.elim⟩

/-! ### Add's stores -/
def KinS (w w' : World) (F : Nat → Prop) (T : Tb) (hd : ByteArray → Hr) (T1 : Tb) (hd1 : ByteArray → Hr) : Prop :=
  ∀ (F' G' : Nat → Prop) (T' : Tb) (mb' : Option Nat) (M' : DataW Hr) (hd' : ByteArray → Hr), TbC w F' G' T' mb' M' hd' → (∀ k, F k → ¬ F' k) → Apt T hd T' hd' → Apt T' hd' T hd → TbC w' F' G' T' mb' M' hd' ∧ Apt T1 hd1 T' hd' ∧ Apt T' hd' T1 hd1
theorem KinS.same (hb : Below w.heap.size w w') (F : Nat → Prop) (T : Tb) (hd : ByteArray → Hr) : KinS w w' F T hd T hd := fun _ _ _ _ _ _ h _ a1 a2 => ⟨h.below hb, a1, a2⟩
theorem KinS.wide {T1 : Tb} {hd1 : ByteArray → Hr} (h : KinS w w' F T hd T1 hd1) (hF : ∀ k, F k → F' k) : KinS w w' F' T hd T1 hd1 := fun _ _ _ _ _ _ y hx a1 a2 => h _ _ _ _ _ _ y (fun k hk => hx k (hF k hk)) a1 a2
set_option maxRecDepth 100000 in
theorem KinS.trans {w2 : World} {T1 T2 : Tb} {hd1 hd2 : ByteArray → Hr} (h1 : KinS w w' F T hd T1 hd1) (h2 : KinS w' w2 (up F w w') T1 hd1 T2 hd2) : KinS w w2 F T hd T2 hd2 := fun F' G' T' mb' M' hd' y hx a1 a2 => by
  obtain ⟨y1, b1, b2⟩ := h1 _ _ _ _ _ _ y hx a1 a2
  refine h2 _ _ _ _ _ _ y1 (fun k hk hf => ?_) b1 b2
  rcases hk with hk | hk
  · exact hx k hk hf
  · have := y.lt k (y.fG k hf)
    omega
set_option maxRecDepth 100000 in
/-- A store into the block of an index. -/
theorem TbC.box {g : Nat} {r m lp a t y : Value} (hx : XBx w g r m lp a t y) (h : TbC w F G T mb M hd) (i : Nat) (v : Value) : TbC (w.setCell ⟨g, i, none⟩ v) F G T mb M hd := by
  refine ⟨h.own.kept fun b e => put_other w g i v fun e2 => ?_, h.nm, fun s hs => (h.li s hs).kept (put_other w g i v ?_), h.apart, h.fm, h.fG, fun k hg => by simpa [World.setCell] using h.lt k hg⟩
  · obtain ⟨es, clock, hb⟩ := h.own.block e
    rw [e2, hx] at hb
    injection hb with hb
    cases hb
  · exact (h.li s hs).not hx fun cs T fr e => by injection e with _ e _; subst e; decide
theorem KinS.box {g : Nat} {r m lp a t y : Value} (hx : XBx w g r m lp a t y) (i : Nat) (v : Value) (F : Nat → Prop) (T : Tb) (hd : ByteArray → Hr) : KinS w (w.setCell ⟨g, i, none⟩ v) F T hd T hd := fun _ _ _ _ _ _ h _ a1 a2 => ⟨h.box hx i v, a1, a2⟩

variable {w2 w3 : World} {s : ByteArray} {p : Int} {old : Option Hr} {h' : Hr} {b : Nat}
set_option maxRecDepth 100000 in
theorem TbC.app_own (h : TbC w F G T (some b) M hd) (ho : oldOf T hd s old) (ap : AppOut w w2 F G old (allP T s) p h') : w2.ownsMap Try.prog 9 slR b (Maps.size M) M := by
  obtain ⟨es0, clock0, hb0⟩ := h.own.block rfl
  have hne : ∀ x, old = some x → b ≠ x.b := fun x hx => by
    rcases ho with ⟨hs, rfl⟩ | ⟨_, rfl⟩
    · injection hx with hx
      subst hx
      exact fun e => (h.li s hs).not hb0 (fun cs T fr e => by cases e) e.symm
    · cases hx
  obtain ⟨es, clock, hb, ft, hn, hD⟩ := h.own
  exact ⟨es, clock, (ap.other (h.lt _ (h.fG _ (h.fm b rfl))) hne).trans hb, ft, hn, hD⟩
set_option maxRecDepth 100000 in
theorem TbC.app_box (h : TbC w F G T mb M hd) {g : Nat} {r m lp a t y : Value} (hx : XBx w g r m lp a t y) (ho : oldOf T hd s old) (ap : AppOut w w2 F G old (allP T s) p h') : XBx w2 g r m lp a t y := by
  refine hx.at_ (ap.other hx.lt fun x e => ?_)
  rcases ho with ⟨hs, rfl⟩ | ⟨_, rfl⟩
  · injection e with e
    subst e
    exact fun e => (h.li s hs).not hx (fun cs T fr e => by injection e with _ e _; subst e; decide) e.symm
  · cases e
set_option maxRecDepth 100000 in
theorem TbC.added (h : TbC w F G T (some b) M hd) (ho : oldOf T hd s old) (ap : AppOut w w2 F G old (allP T s) p h') (hg3 : w2.grownBy w3 (some b)) {n : Nat} (ho3 : w3.ownsMap Try.prog 9 slR b n (M.put (keyN s) (.held h'))) :
    TbC w3 (up F w w3) (up G w w3) (T ++ [(s, p)]) (some b) (M.put (keyN s) (.held h')) (setHr hd s h') ∧ Ch F w w3 ∧ KinS w w3 F T hd (T ++ [(s, p)]) (setHr hd s h') := by
  obtain ⟨es0, clock0, hb0⟩ := h.own.block rfl
  have own2 := h.app_own ho ap
  have z1 := ap.size
  have z2 := hg3.size
  have ch : Ch F w w3 := (SmWalk.AppOut.ch ap).then_grown hg3 fun r e => by injection e with e; subst e; exact .inl (.inl (h.fm _ rfl))
  -- a list of the world behind the append stays
  have L2 : ∀ {F' G' : Nat → Prop} {x : Hr} {l : List Int}, LiR w2 F' G' x l → LiR w3 F' G' x l := fun {F' G' x l} r => by
    obtain ⟨es, clock, hb, _⟩ := own2
    have n2 : x.b ≠ b := r.not hb fun cs T fr e => by cases e
    exact r.kept (hg3.block _ r.blt (fun e => n2 (by injection e)))
  -- a list of the world ahead of it, where it reads no more than was there
  have L0 : ∀ {F' G' : Nat → Prop} {x : Hr} {l : List Int}, LiR w F' G' x l → (s ∈ namesT T → (hd s).n < (hd s).c → (hd s).b = x.b → x.n ≤ (hd s).n) → LiR w3 F' G' x l := fun {F' G' x l} r hx => by
    refine L2 ?_
    rcases ap.how with ⟨y, hy, hsp, hF, _, rfl⟩ | ⟨hb, _⟩
    · rcases ho with ⟨hs, rfl⟩ | ⟨_, rfl⟩
      · injection hy with hy
        subst hy
        exact r.put _ fun e => hx hs hsp e
      · cases hy
    · exact r.kept (hb.block _ r.blt)
  have hh : ∀ t ∈ namesT T, (hd t).b < w.heap.size := fun t ht => (h.li t ht).blt
  have hnew : ((s ∈ namesT T ∧ (hd s).n < (hd s).c ∧ F (hd s).b ∧ h' = ⟨(hd s).b, (hd s).n + 1, (hd s).c⟩) ∨ w.heap.size ≤ h'.b) := by
    rcases ap.how with ⟨y, hy, hsp, hF, e, _⟩ | ⟨_, hb⟩
    · rcases ho with ⟨hs, rfl⟩ | ⟨_, rfl⟩
      · injection hy with hy
        subst hy
        exact .inl ⟨hs, hsp, hF, e⟩
      · cases hy
    · exact .inr hb
  refine ⟨⟨tightN ho3, ?_, fun t ht => ?_, fun a ha t ht hta hsp => ?_, fun b' e => .inl (h.fm b' e), fun k hk => ?_, fun k hk => up_lt h.lt ch.size hk⟩, ch, ?_⟩
  · have := h.nm.put (s := s) (h' := setHr hd s h') h.own.isMap (ns' := namesT (T ++ [(s, p)])) (fun t => namesT_more t) (fun t ht => setHr_ne _ _ ht)
    rwa [setHr_at] at this
  · by_cases e : t = s
    · subst e
      rw [setHr_at, allP_hit]
      exact (L2 ap.li).wide (fun k hk => up_mono (by omega) hk) (fun k hk => up_mono (by omega) hk)
    · have ht' := ((namesT_more t).1 ht).resolve_left e
      rw [setHr_ne _ _ e, allP_miss T e]
      exact (L0 (h.li t ht') fun hs hsp hb => absurd hb.symm (h.apart s hs t ht' e hsp)).wide (fun k hk => .inl hk) (fun k hk => .inl hk)
  · by_cases e : a = s
    · subst e
      have ht' := ((namesT_more t).1 ht).resolve_left hta
      rw [setHr_at] at hsp ⊢
      rw [setHr_ne _ _ hta]
      rcases hnew with ⟨hs, hsp', _, rfl⟩ | hb
      · exact h.apart a hs t ht' hta hsp'
      · have := hh t ht'
        omega
    · have ha' := ((namesT_more a).1 ha).resolve_left e
      rw [setHr_ne _ _ e] at hsp ⊢
      by_cases e2 : t = s
      · subst e2
        rw [setHr_at]
        rcases hnew with ⟨hs, _, _, rfl⟩ | hb
        · exact h.apart a ha' t hs hta hsp
        · have := hh a ha'
          omega
      · rw [setHr_ne _ _ e2]
        exact h.apart a ha' t (((namesT_more t).1 ht).resolve_left e2) hta hsp
  · rcases hk with hk | hk
    · exact .inl (h.fG k hk)
    · exact .inr hk
  · intro F' G' T' mb' M' hd' y hFF a1 a2
    have kn : ∀ k, F' k → w3.heap[k]? = w.heap[k]? := fun k hk => ch.block k (y.lt k (y.fG k hk)) fun hf => hFF k hf hk
    refine ⟨⟨y.own.kept fun b' e => kn b' (y.fm b' e), y.nm, fun t ht => L0 (y.li t ht) fun hs hsp e => a1 s hs t ht hsp e.symm, y.apart, y.fm, y.fG, fun k hk => Nat.lt_of_lt_of_le (y.lt k hk) ch.size⟩, fun a ha t ht hsp e => ?_, fun t ht a ha hsp e => ?_⟩
    · by_cases ea : a = s
      · subst ea
        rw [setHr_at] at hsp e ⊢
        rcases hnew with ⟨hs, hsp', _, rfl⟩ | hb
        · have := a1 a hs t ht hsp' e
          simp only
          omega
        · have := (y.li t ht).blt
          omega
      · rw [setHr_ne _ _ ea] at hsp e ⊢
        exact a1 a (((namesT_more a).1 ha).resolve_left ea) t ht hsp e
    · by_cases ea : a = s
      · subst ea
        rw [setHr_at] at e ⊢
        rcases hnew with ⟨hs, _, hF, rfl⟩ | hb
        · exact absurd ((y.li t ht).own hsp) (by rw [← e]; exact hFF _ hF)
        · have := (y.li t ht).blt
          omega
      · rw [setHr_ne _ _ ea] at e ⊢
        exact a2 t ht a (((namesT_more a).1 ha).resolve_left ea) hsp e
end

end Go.Proofs.Ytiplfhmimpkplaa.InWalk

/-
  Contracts of the landed streams: New, Add, Version, Positions.
-/
namespace Go.Proofs.Ytiplfhmimpkplaa.SmWalk
open Go.RowKit Go.Maps Go.Proofs.Ytiplfhmimpkplaa.MemRow Go.Proofs.Ytiplfhmimpkplaa.Ev Go.Proofs.Ytiplfhmimpkplaa.NameMath Go.Proofs.Ytiplfhmimpkplaa.NameWalk Go.Proofs.Ytiplfhmimpkplaa.EvWalk Go.Proofs.Ytiplfhmimpkplaa.NumMem Go.Proofs.Ytiplfhmimpkplaa.NMap Go.Proofs.Ytiplfhmimpkplaa.DkWalk

section
variable {w : World} {F G : Nat → Prop} {g mb : Nat} {T : Tb} {M : DataW Hr} {hd : ByteArray → Hr}
theorem lit_ints (w : World) {g : Nat} (hg : g = w.heap.size) (p : Int) : (w.alloc (.cells #[.int .i64 p] 3)).cell? ((⟨g, 0, none⟩ : Addr).add 0) = some (.int .i64 p) := by
  subst hg
  rw [add_plain, cell_of_row _ w.heap.size 0 _ _ _ (heap_alloc_new w (.cells #[.int .i64 p] 3))]
  rfl
set_option maxHeartbeats 4000000 in
set_option maxRecDepth 100000 in
theorem add12_any (h : TbR w F G g T mb M hd) (ok : TOk T) (hl : T.length < 200) {s : ByteArray} (hs : s.size ≤ maxLen) {p : Int} (hp : -9223372036854775808 ≤ p ∧ p ≤ 9223372036854775807) :
    Calls Try.prog 43 #[.pointer (some ⟨g, 0, none⟩), .string s, .int .i64 p] w fun e w' => e = .returned (.tuple #[.int .i64 (addF T s p).1, .int .i64 (addF T s p).2.1]) ∧
      ∃ F1 M1 hd1, TbR w' F1 (up G w w') g (addF T s p).2.2 mb M1 hd1 ∧ (∀ k, F1 k → up F w w' k) ∧ Ch F w w' ∧ Kin w w' F T hd (addF T s p).2.2 hd1 := by
  have k0 := h.c0
  have k1 := h.c1
  have z0 := h.frozen 0
  have z1 := h.frozen 1
  have hlast := last_pos ok.rise
  by_cases hc : p ≤ lastP T
  · rw [add_no s (.inr hc)]
    have H := Go.Lib.hid h
    clear h hlast
    go_enter Try.func43, Try.ntmps43
    go_wp2_with fail
    go_ret2
    exact ⟨rfl, F, M, hd, H.out.wide (fun _ hk => .inl hk) (fun k hk => up_lt H.out.lt (Nat.le_refl _) hk), fun _ hk => .inl hk, Ch.refl _ _, Kin.same (Below.refl _ _) _ _ _⟩
  · have hy := add_yes ok.rise s (p := p) (by omega) (by omega)
    have hall : (posF T s (lastP T)) = allP T s := by
      rw [posF_all, List.filter_eq_self.2]
      intro q hq
      unfold allP at hq
      obtain ⟨x, hx, rfl⟩ := List.mem_map.1 hq
      have := last_le ok.rise x (List.mem_filter.1 hx).1
      simpa using this
    rw [hall] at hy
    have hlen := allP_len T s
    obtain ⟨old, ho⟩ := oldOf_any T hd s
    have ql := h.look ho hs
    have al : Below w.heap.size w (w.alloc (.cells #[.int .i64 p] 3)) := (Below.refl _ _).alloc (Nat.le_refl _) _
    have h1 := h.below al
    have hold := h1.old ho
    have hlit := lit_ints w rfl p
    have qm : ∀ W, (binOp .eql 65 (.map (some mb)) (.map none)).run Try.prog W = .ok (.bool (some mb).isNone) W := fun W => run_eql_map_nil W _ _ _ _ Try.underlying65
    have hkey := keyN_of hs
    have hmx : Maps.size M < maxLen := by
      have := h.size
      have := namesT_len T
      unfold maxLen
      omega
    have HY := Go.Lib.hid hy
    have H := Go.Lib.hid h
    have H1 := Go.Lib.hid h1
    have HO := Go.Lib.hid ho
    have AL := Go.Lib.hid al
    clear hy h h1 ho hall al hlast
    go_enter Try.func43, Try.ntmps43
    go_upto_region 5 with (fail)
    go_upto_region 6 with (at_builtin; refine wpList_app1 (F := F) (G := G) rfl (.tmp 29) (.tmp 31) rfl rfl rfl rfl hold (by omega) p hlit ?_; intro h' w2 ap)
    have HB := H1.out.app_box HO.out ap
    have bx2 := HB.1.trans H1.out.box
    have own2 := H1.out.app_own HO.out ap
    have y0 : w2.cell? ⟨g, 0, none⟩ = some (.map (some mb)) := by rw [cell_of_row w2 g 0 _ _ _ bx2]; rfl
    have BX := Go.Lib.hid bx2
    have AP := Go.Lib.hid ap
    have HN := Go.Lib.hid ap.li.len
    clear HB bx2 ap hold hlit ql qm k0 k1 z0 z1
    go_upto_region 7 with (at_mapUpdate; refine wpList_mapUpdate_own _ rfl _ _ _ 65 rfl 9 68 keyedN Try.underlying65 slR mb (Maps.size M) M rfl own2 hmx _ _ _ rfl rfl hkey _ [] (slR_some h') ?_; intro w3 ho3 hg3)
    have bx3 := (hg3.block g (by have := AP.out.size; have := H1.out.glt; omega) (fun e => H1.out.ne (by injection e with e; exact e.symm))).trans BX.out
    have x1 : w3.cell? ⟨g, 1, none⟩ = some (.int .i64 (lastP T)) := by rw [cell_of_row w3 g 1 _ _ _ bx3]; rfl
    have zf : w3.frozen? ⟨g, 1, none⟩ = false := by simp [World.frozen?, bx3]
    obtain ⟨q1, q2, q3⟩ := H1.out.added HO.out AP.out hg3 ho3
    have Q1 := Go.Lib.hid q1
    have Q2 := Go.Lib.hid q2
    have Q3 := Go.Lib.hid q3
    clear q1 q2 q3 bx3 own2 y0 ho3 hg3
    obtain ⟨hb, hn, hcp⟩ := h'
    obtain rfl : hn = (allP T s).length + 1 := by
      have := HN.out
      rw [List.length_append] at this
      exact this.symm
    go_wp2_with fail
    go_ret2
    rw [HY.out]
    have hsz := AL.out.size
    have e1 := Q2.out.size
    refine ⟨by simp, _, _, _, Q1.out.wide (fun k hk => ?_) (fun k hk => ?_), fun k hk => ?_, (Ch.of_below AL.out).trans (Q2.out.wide fun k hk => .inl hk), Q3.out.from AL.out⟩
    · rcases hk with hk | ⟨hk, hk2⟩
      · exact .inl hk
      · exact .inr ⟨by omega, hk2⟩
    · exact up_lt H.out.lt (by omega) hk
    · rcases hk with hk | ⟨hk, hk2⟩
      · exact .inl hk
      · exact .inr ⟨by omega, hk2⟩

set_option maxHeartbeats 4000000 in
set_option maxRecDepth 100000 in
theorem ver12_any (h : TbR w F G g T mb M hd) (ok : TOk T) {s : ByteArray} (hs : s.size ≤ maxLen) (u : Int) :
    Calls Try.prog 38 #[.pointer (some ⟨g, 0, none⟩), .string s, .int .i64 u] w fun e w' => e = .returned (.int .i64 (verN (allP T s) u : Nat)) ∧ ∃ q, w' = w.drewN q := by
  have k0 := h.c0
  obtain ⟨old, ho⟩ := oldOf_any T hd s
  have ql := h.look ho hs
  obtain ⟨A, n, c, e, rd, _⟩ := mkL_rd h ho
  rw [e] at ql
  have hlen := allP_len T s
  have hl := ok.len
  have hn := rd.len
  have hp : (allP T s).Pairwise (· ≤ ·) := (allP_rise ok.rise s).imp fun h => by omega
  have hcp := List.countP_le_length (p := fun x : Int => decide (x < u)) (l := allP T s)
  generalize hL : allP T s = l at *
  have HV : Hid (verN l u = l.countP (· < u) + if u ∈ l then 1 else 0) := Go.Lib.hid rfl
  clear h ho e hL ok
  generalize verN l u = V at *
  go_enter Try.func38, Try.ntmps38
  go_wp2_with fail
  refine (search_any A n c l u w rd (by omega) hp).mono ?_
  rintro e w1 ⟨rfl, q, rfl⟩
  clear rd hp ql
  by_cases hu : u ∈ l
  · have hv := HV.out
    rw [if_pos hu] at hv
    rw [decide_eq_true hu]
    generalize l.countP (· < u) = cn at *
    subst hv
    clear HV hu
    have i1 : IntKind.i64.wrap ((cn : Int) + 1) = (cn : Int) + 1 := IntWalk.i64_in _ (by omega)
    go_wp2_with fail
    go_ret
    exact ⟨by simp, _, rfl⟩
  · have hv := HV.out
    rw [if_neg hu, Nat.add_zero] at hv
    rw [decide_eq_false hu]
    generalize l.countP (· < u) = cn at *
    subst hv
    clear HV hu
    go_wp2_with fail
    go_ret
    exact ⟨rfl, _, rfl⟩
end

end Go.Proofs.Ytiplfhmimpkplaa.SmWalk

/-
  Contracts of the landed streams, its table a part of an index: Add, Version.
-/
namespace Go.Proofs.Ytiplfhmimpkplaa.InWalk
open Go.RowKit Go.Maps Go.Proofs.Ytiplfhmimpkplaa.MemRow Go.Proofs.Ytiplfhmimpkplaa.Ev Go.Proofs.Ytiplfhmimpkplaa.NameMath Go.Proofs.Ytiplfhmimpkplaa.NameWalk Go.Proofs.Ytiplfhmimpkplaa.EvWalk Go.Proofs.Ytiplfhmimpkplaa.NumMem Go.Proofs.Ytiplfhmimpkplaa.NMap Go.Proofs.Ytiplfhmimpkplaa.DkWalk Go.Proofs.Ytiplfhmimpkplaa.SmWalk

section
variable {w : World} {F G : Nat → Prop} {g : Nat} {r a t y : Value} {mb : Option Nat} {T : Tb} {M : DataW Hr} {hd : ByteArray → Hr}
set_option maxRecDepth 100000 in
/-- A map where there was none. -/
theorem TbC.made {lp : Value} (hx : XBx w g r (.map none) lp a t y) (h : TbC w F G T none M hd) :
    XBx ((w.alloc (.map #[] 0)).setCell ⟨g, 1, none⟩ (.map (some w.heap.size))) g r (.map (some w.heap.size)) lp a t y ∧
    TbC ((w.alloc (.map #[] 0)).setCell ⟨g, 1, none⟩ (.map (some w.heap.size))) (up F w ((w.alloc (.map #[] 0)).setCell ⟨g, 1, none⟩ (.map (some w.heap.size)))) (up G w ((w.alloc (.map #[] 0)).setCell ⟨g, 1, none⟩ (.map (some w.heap.size)))) T (some w.heap.size) (.map []) hd ∧
    Ch (fun k => F k ∨ k = g) w ((w.alloc (.map #[] 0)).setCell ⟨g, 1, none⟩ (.map (some w.heap.size))) ∧
    KinS w ((w.alloc (.map #[] 0)).setCell ⟨g, 1, none⟩ (.map (some w.heap.size))) F T hd T hd := by
  obtain rfl := h.nil
  have al : Below w.heap.size w (w.alloc (.map #[] 0)) := (Below.refl _ _).alloc (Nat.le_refl _) _
  have hx1 := hx.below al
  have h1 := h.below al
  have s1 : (w.alloc (.map #[] 0)).heap.size = w.heap.size + 1 := by simp
  have s2 : ((w.alloc (.map #[] 0)).setCell ⟨g, 1, none⟩ (.map (some w.heap.size))).heap.size = w.heap.size + 1 := by simp [World.setCell]
  have own := (World.ownsMap_made w Try.prog 9 slR).kept (put_grown _ g 1 (.map (some w.heap.size))) (fun e => by
    injection e with e
    have := hx.lt
    omega)
  refine ⟨hx1.set1 _, ⟨own, NOf.empty _, fun s hs => (by cases hs), fun s hs => (by cases hs), fun b e => ?_, fun k hk => ?_, fun k hk => ?_⟩, ?_, ?_⟩
  · injection e with e
    subst e
    exact .inr ⟨Nat.le_refl _, by omega⟩
  · rcases hk with hk | hk
    · exact .inl (h.fG k hk)
    · exact .inr hk
  · exact up_lt h.lt (by omega) hk
  · exact (Ch.of_below al).trans (put_ch _ _ _ (.inl (.inr rfl)))
  · exact (KinS.same al F [] hd).trans ((KinS.box hx1 1 _ _ [] hd))
set_option maxHeartbeats 4000000 in
set_option maxRecDepth 100000 in
theorem add14s_any (hx : XBx w g r (.map mb) (.int .i64 (lastP T)) a t y) (h : TbC w F G T mb M hd) (ok : TOk T) (hl : T.length < 400) {s : ByteArray} (hs : s.size ≤ maxLen) {p : Int} (hp : -9223372036854775808 ≤ p ∧ p ≤ 9223372036854775807) :
    Calls Try.prog 43 #[.pointer (some ⟨g, 1, none⟩), .string s, .int .i64 p] w fun e w' => e = .returned (.tuple #[.int .i64 (addF T s p).1, .int .i64 (addF T s p).2.1]) ∧
      ∃ mb1 M1 hd1, XBx w' g r (.map mb1) (.int .i64 (lastP (addF T s p).2.2)) a t y ∧ TbC w' (up F w w') (up G w w') (addF T s p).2.2 mb1 M1 hd1 ∧ Ch (fun k => F k ∨ k = g) w w' ∧ KinS w w' F T hd (addF T s p).2.2 hd1 := by
  have k0 := hx.c1
  have k1 := hx.c2
  have z0 := hx.frozen 1
  have z1 := hx.frozen 2
  have hlast := last_pos ok.rise
  by_cases hc : p ≤ lastP T
  · rw [add_no s (.inr hc)]
    have H := Go.Lib.hid h
    have HX := Go.Lib.hid hx
    clear h hx hlast
    go_enter Try.func43, Try.ntmps43
    go_wp2_with fail
    go_ret2
    exact ⟨rfl, mb, M, hd, HX.out, H.out.wide (fun _ hk => .inl hk) (fun _ hk => .inl hk) (fun k hk => by rcases hk with hk | hk; exact .inl (H.out.fG k hk); exact .inr hk) (fun k hk => up_lt H.out.lt (Nat.le_refl _) hk), Ch.refl _ _, KinS.same (Below.refl _ _) _ _ _⟩
  · have hy := add_yes ok.rise s (p := p) (by omega) (by omega)
    have hall : (posF T s (lastP T)) = allP T s := by
      rw [posF_all, List.filter_eq_self.2]
      intro q hq
      unfold allP at hq
      obtain ⟨x, hx, rfl⟩ := List.mem_map.1 hq
      have := last_le ok.rise x (List.mem_filter.1 hx).1
      simpa using this
    rw [hall] at hy
    have hlen := allP_len T s
    have qm : ∀ W, (binOp .eql 65 (.map mb) (.map none)).run Try.prog W = .ok (.bool mb.isNone) W := fun W => run_eql_map_nil W _ _ _ _ Try.underlying65
    have hmm := fun W => run_makeMap (P := Try.prog) 65 W
    have hkey := keyN_of hs
    have HY := Go.Lib.hid hy
    have H := Go.Lib.hid h
    have HX := Go.Lib.hid hx
    clear hy h hx hall hlast
    go_enter Try.func43, Try.ntmps43
    go_upto_region 3 with (fail)
    go_upto_if 19 with (fail)
    go_cut [6] (fun _ wx => ∃ b M1, Hid (XBx wx g r (.map (some b)) (.int .i64 (lastP T)) a t y ∧ TbC wx (up F w wx) (up G w wx) T (some b) M1 hd ∧ Ch (fun k => F k ∨ k = g) w wx ∧ KinS w wx F T hd T hd))
    case first =>
      cases mb with
      | none =>
        obtain ⟨q1, q2, q3, q4⟩ := TbC.made HX.out H.out
        have Q := Go.Lib.hid (And.intro q1 (And.intro q2 (And.intro q3 q4)))
        have b1 : Below w.heap.size w (w.alloc (.map #[] 0)) := (Below.refl _ w).alloc (Nat.le_refl _) _
        have k2 := (HX.out.below b1).c1
        have z2 := (HX.out.below b1).frozen 1
        clear q1 q2 q3 q4 b1
        go_wp2_with fail
        go_meet
        exact ⟨_, _, Q⟩
      | some b =>
        have Q := Go.Lib.hid (And.intro HX.out (And.intro (H.out.wide (F' := up F w w) (G' := up G w w) (fun _ hk => .inl hk) (fun _ hk => .inl hk) (fun k hk => by rcases hk with hk | hk; exact .inl (H.out.fG k hk); exact .inr hk) (fun k hk => up_lt H.out.lt (Nat.le_refl _) hk)) (And.intro (Ch.refl (fun k => F k ∨ k = g) w) (show KinS w w F T hd T hd from KinS.same (Below.refl _ _) F T hd))))
        go_wp2_with fail
        go_meet
        exact ⟨_, _, Q⟩
    case rest =>
      obtain ⟨b, M1, HC⟩ := hcut
      obtain ⟨hx1, h1, hc1, hk1⟩ := HC.out
      clear k0 k1 z0 z1 qm hmm
      have k0 := hx1.c1
      have k1 := hx1.c2
      obtain ⟨old, ho⟩ := oldOf_any T hd s
      have ql := h1.look ho hs
      have al : Below wc.heap.size wc (wc.alloc (.cells #[.int .i64 p] 3)) := (Below.refl _ _).alloc (Nat.le_refl _) _
      have h2 := h1.below al
      have hx2 := hx1.below al
      have hold := h2.old ho
      have hlit := lit_ints wc rfl p
      have hmx : Maps.size M1 < maxLen := by
        have := h1.size
        have := namesT_len T
        unfold maxLen
        omega
      have H2 := Go.Lib.hid h2
      have HX2 := Go.Lib.hid hx2
      have HO := Go.Lib.hid ho
      have AL := Go.Lib.hid al
      clear h1 h2 ho al hx1 hx2 hc1 hk1
      go_upto_region 5 with (fail)
      go_upto_region 6 with (at_builtin; refine wpList_app1 rfl (.tmp 29) (.tmp 31) rfl rfl rfl rfl hold (by omega) p hlit ?_; intro h' w2 ap)
      have bx2 := H2.out.app_box HX2.out HO.out ap
      have own2 := H2.out.app_own HO.out ap
      have y0 : w2.cell? ⟨g, 1, none⟩ = some (.map (some b)) := bx2.c1
      have BX := Go.Lib.hid bx2
      have AP := Go.Lib.hid ap
      have HN := Go.Lib.hid ap.li.len
      clear bx2 ap hold hlit ql k0 k1
      go_upto_region 7 with (at_mapUpdate; refine wpList_mapUpdate_own _ rfl _ _ _ 65 rfl 9 68 keyedN Try.underlying65 slR b (Maps.size M1) M1 rfl own2 hmx _ _ _ rfl rfl hkey _ [] (slR_some h') ?_; intro w3 ho3 hg3)
      have bx3 := BX.out.at_ (hg3.block g BX.out.lt (fun e => by
        obtain ⟨es, clock, hb, _⟩ := own2
        injection e with e
        rw [← e, BX.out] at hb
        injection hb with hb
        cases hb))
      have x1 := bx3.c2
      have zf := bx3.frozen 2
      obtain ⟨q1, q2, q3⟩ := H2.out.added HO.out AP.out hg3 ho3
      have Q1 := Go.Lib.hid (q1.box bx3 2 (.int .i64 p))
      have Q2 := Go.Lib.hid (bx3.set2 (.int .i64 p))
      have Q3 := Go.Lib.hid (q3.trans (KinS.box bx3 2 (.int .i64 p) _ _ _))
      have Q4 := Go.Lib.hid (((q2.wide (G := fun k => up F w wc k ∨ k = g) fun k hk => .inl hk)).trans (put_ch w3 2 (.int .i64 p) (.inl (.inr rfl))))
      clear q1 q2 q3 bx3 own2 y0 ho3 hg3
      obtain ⟨hb, hn, hcp⟩ := h'
      obtain rfl : hn = (allP T s).length + 1 := by
        have := HN.out
        rw [List.length_append] at this
        exact this.symm
      go_wp2_with fail
      go_ret2
      rw [HY.out]
      obtain ⟨hx1, h1, hc1, hk1⟩ := HC.out
      have s1 := hc1.size
      have s2 := AL.out.size
      have s3 := Q4.out.size
      have hs3 : (w3.setCell ⟨g, 2, none⟩ (.int .i64 p)).heap.size = w3.heap.size := by simp [World.setCell]
      have X : XBx (w3.setCell ⟨g, 2, none⟩ (.int .i64 p)) g r (.map (some b)) (.int .i64 (lastP (T ++ [(s, p)]))) a t y := by
        rw [last_snoc]
        exact Q2.out
      have K3 : KinS (wc.alloc (.cells #[.int .i64 p] 3)) (w3.setCell ⟨g, 2, none⟩ (.int .i64 p)) (up (up F w wc) wc (wc.alloc (.cells #[.int .i64 p] 3))) T hd (T ++ [(s, p)]) (setHr hd s ⟨hb, (allP T s).length + 1, hcp⟩) := Q3.out.wide (fun k hk => Or.inl hk)
      have C4 : Ch (up (fun k => F k ∨ k = g) w wc) wc (w3.setCell ⟨g, 2, none⟩ (.int .i64 p)) := (Ch.of_below AL.out).trans (Q4.out.wide fun k hk => Or.inl (by
        rcases hk with (hk | hk) | hk
        · exact .inl (.inl hk)
        · exact .inr hk
        · exact .inl (.inr hk)))
      refine ⟨by simp, _, X, _, _, Q1.out.wide (fun k hk => ?_) (fun k hk => ?_) (fun k hk => ?_) (fun k hk => ?_), hc1.trans C4, hk1.trans ((KinS.same AL.out (up F w wc) T hd).trans K3)⟩
      · rcases hk with (hk | hk) | hk
        · exact .inl hk
        · exact .inr ⟨hk.1, by omega⟩
        · exact .inr ⟨by omega, by omega⟩
      · rcases hk with (hk | hk) | hk
        · exact .inl hk
        · exact .inr ⟨hk.1, by omega⟩
        · exact .inr ⟨by omega, by omega⟩
      · rcases hk with hk | hk
        · exact .inl (H.out.fG k hk)
        · exact .inr hk
      · exact up_lt H.out.lt (by omega) hk

set_option maxHeartbeats 4000000 in
set_option maxRecDepth 100000 in
theorem ver14s_any {lp : Value} (hx : XBx w g r (.map mb) lp a t y) (h : TbC w F G T mb M hd) (ok : TOk T) {s : ByteArray} (hs : s.size ≤ maxLen) (u : Int) :
    Calls Try.prog 38 #[.pointer (some ⟨g, 1, none⟩), .string s, .int .i64 u] w fun e w' => e = .returned (.int .i64 (verN (allP T s) u : Nat)) ∧ ∃ q, w' = w.drewN q := by
  have k0 := hx.c1
  obtain ⟨old, ho⟩ := oldOf_any T hd s
  have ql := h.look ho hs
  obtain ⟨A, n, c, e, rd, _⟩ := h.rd ho
  rw [e] at ql
  have hlen := allP_len T s
  have hl := ok.len
  have hn := rd.len
  have hp : (allP T s).Pairwise (· ≤ ·) := (allP_rise ok.rise s).imp fun h => by omega
  have hcp := List.countP_le_length (p := fun x : Int => decide (x < u)) (l := allP T s)
  generalize hL : allP T s = l at *
  have HV : Hid (verN l u = l.countP (· < u) + if u ∈ l then 1 else 0) := Go.Lib.hid rfl
  clear h ho e hL ok hx
  generalize verN l u = V at *
  go_enter Try.func38, Try.ntmps38
  go_wp2_with fail
  refine (search_any A n c l u w rd (by omega) hp).mono ?_
  rintro e w1 ⟨rfl, q, rfl⟩
  clear rd hp ql
  by_cases hu : u ∈ l
  · have hv := HV.out
    rw [if_pos hu] at hv
    rw [decide_eq_true hu]
    generalize l.countP (· < u) = cn at *
    subst hv
    clear HV hu
    have i1 : IntKind.i64.wrap ((cn : Int) + 1) = (cn : Int) + 1 := IntWalk.i64_in _ (by omega)
    go_wp2_with fail
    go_ret
    exact ⟨by simp, _, rfl⟩
  · have hv := HV.out
    rw [if_neg hu, Nat.add_zero] at hv
    rw [decide_eq_false hu]
    generalize l.countP (· < u) = cn at *
    subst hv
    clear HV hu
    go_wp2_with fail
    go_ret
    exact ⟨rfl, _, rfl⟩
end

end Go.Proofs.Ytiplfhmimpkplaa.InWalk

/-
  Contracts of the landed streams: Positions.
-/
namespace Go.Proofs.Ytiplfhmimpkplaa.SmWalk
open Go.RowKit Go.Maps Go.Proofs.Ytiplfhmimpkplaa.MemRow Go.Proofs.Ytiplfhmimpkplaa.Ev Go.Proofs.Ytiplfhmimpkplaa.NameMath Go.Proofs.Ytiplfhmimpkplaa.NameWalk Go.Proofs.Ytiplfhmimpkplaa.EvWalk Go.Proofs.Ytiplfhmimpkplaa.NumMem Go.Proofs.Ytiplfhmimpkplaa.NMap Go.Proofs.Ytiplfhmimpkplaa.DkWalk

set_option maxRecDepth 100000 in
theorem elem_ints : Try.prog.elem 68 = 3 := by kernel_rfl
section
variable {w : World} {F G : Nat → Prop} {g mb : Nat} {T : Tb} {M : DataW Hr} {hd : ByteArray → Hr}
set_option maxHeartbeats 4000000 in
set_option maxRecDepth 100000 in
theorem pos12_any (h : TbR w F G g T mb M hd) (ok : TOk T) {s : ByteArray} (hs : s.size ≤ maxLen) (u : Int) :
    Calls Try.prog 30 #[.pointer (some ⟨g, 0, none⟩), .string s, .int .i64 u] w fun e w' => ∃ B m c, e = .returned (.slice B m c) ∧ RdI w' B m c (posF T s u) ∧ OwnC 1 w' w.heap.size 3 B m c (nums (posF T s u)) ∧ Below w.heap.size w w' := by
  have k0 : w.drew.cell? ⟨g, 0, none⟩ = some (.map (some mb)) := h.c0
  obtain ⟨old, ho⟩ := oldOf_any T hd s
  have bq : ∀ q, Below w.heap.size w (w.drewN q) := fun q => ⟨rfl, rfl, rfl, Nat.le_refl _, fun _ _ => rfl⟩
  have bd : Below w.heap.size w w.drew := ⟨rfl, rfl, rfl, Nat.le_refl _, fun _ _ => rfl⟩
  have qd := (h.below bd).look ho hs
  have ql := fun q => (h.below (bq q)).look ho hs
  have LK : ∀ w', Below w.heap.size w w' → (Instr.lookup 65 (.map (some mb)) (.string s) false).run Try.prog w' = .ok (mkL old) w' := fun w' b => (h.below b).look ho hs
  have k00 := h.c0
  obtain ⟨A, n, c, e, rd, hA⟩ := mkL_rd h ho
  rw [e] at qd
  simp only [e] at ql LK
  have LK := Go.Lib.hid LK
  have hlen := allP_len T s
  have hl := ok.len
  have hn := rd.len
  have hv := verN_le (allP_rise ok.rise s) u
  obtain ⟨qs, rs⟩ := slice_hi (k := 1) 68 3 Try.underlying68 elem_ints (by kernel_rfl) rd (m := verN (allP T s) u) (by omega)
  have CV := Go.Lib.hid (ver12_any (h.below bd) ok hs u)
  have rs' : RdI w A (verN (allP T s) u) c (posF T s u) := by
    rw [posF_take ok.rise]
    unfold RdI
    have e2 : nums ((allP T s).take (verN (allP T s) u)) = (nums (allP T s)).take (verN (allP T s) u * 1) := by simp [nums, List.map_take]
    rw [e2]
    exact rs
  have hA' : A = none → verN (allP T s) u = 0 := fun e => by have := hA e; omega
  have hm : verN (allP T s) u ≤ 1000000 := by omega
  generalize verN (allP T s) u = m at *
  generalize posF T s u = pl at *
  have BQ := Go.Lib.hid bq
  clear h ho e ok rs hA hv rd bq bd
  go_enter Try.func30, Try.ntmps30
  go_wp2_with fail
  go_region_held (fun w' => w'.cell? ⟨g, 0, none⟩ = some (.map (some mb)) ∧ (Instr.lookup 65 (.map (some mb)) (.string s) false).run Try.prog w' = .ok (.slice A n c) w')
    (first | exact ⟨k0, qd⟩ | exact ⟨k0, ql _⟩ | exact ⟨y6, l6⟩)
    (first
      | (go_at_call 38; refine (CV.out).mono ?_; rintro e w5 ⟨rfl, q, rfl⟩)
      | (go_at_call 46; refine (cloneI_any A m c pl _ (RdC.drewN rs' _) hA' hm).mono ?_; rintro e w6 ⟨B, m2, c2, rfl, r6, o6, b6⟩; have B6 : Below w.heap.size w w6 := below_chain (BQ.out _) b6; have y6 := bcell B6 k00; have l6 := LK.out w6 B6))
  all_goals
    go_wp2_with fail
    go_ret
    exact ⟨_, _, _, rfl, r6, o6, B6⟩
end

end Go.Proofs.Ytiplfhmimpkplaa.SmWalk

/-
  Contracts of the landed streams: Clone.
-/
namespace Go.Proofs.Ytiplfhmimpkplaa.SmWalk
open Go.RowKit Go.Maps Go.Proofs.Ytiplfhmimpkplaa.MemRow Go.Proofs.Ytiplfhmimpkplaa.Ev Go.Proofs.Ytiplfhmimpkplaa.NameMath Go.Proofs.Ytiplfhmimpkplaa.NameWalk Go.Proofs.Ytiplfhmimpkplaa.EvWalk Go.Proofs.Ytiplfhmimpkplaa.NumMem Go.Proofs.Ytiplfhmimpkplaa.NMap Go.Proofs.Ytiplfhmimpkplaa.DkWalk

set_option maxRecDepth 100000 in
/-- v[:n:n] -/
theorem slice_fullI (x : Hr) (hc : x.n ≤ x.c) (W : World) : (Instr.slice 68 (valL x) none (some (.int .i64 (x.n : Int))) (some (.int .i64 (x.n : Int)))).run Try.prog W = .ok (.slice (some ⟨x.b, 0, none⟩) x.n x.n) W := by
  have hu : Try.prog.underlying 68 = some (.slice (Try.prog.elem 68)) := by rw [elem_ints]; exact Try.underlying68
  rw [run_slice_hm (P := Try.prog) W 68 _ x.n x.c hu .i64 .i64 (x.n : Int) (x.n : Int) (by omega) (by omega) (by omega), elem_ints, run_size (k := 1) (by kernel_rfl)]
  simp only [Result.andThen, sliced, Int.toNat_natCast, Nat.zero_mul, Option.map_some, Addr.add, Nat.sub_zero]
  congr 2
  split <;> rfl
/-- A list without room. -/
def fullH (hd : ByteArray → Hr) (s : ByteArray) : Hr := ⟨(hd s).b, (hd s).n, (hd s).n⟩
/-- A table that is being made. -/
structure CloR (w : World) (g mb : Nat) (lp : Int) (ns : List ByteArray) (M : DataW Hr) (hd : ByteArray → Hr) : Prop where
  box : w.heap[g]? = some (.cells #[.map (some mb), .int .i64 lp] 67 (0, 0))
  own : w.ownsMap Try.prog 9 slR mb (Maps.size M) M
  nm : NOf M ns (fullH hd)
set_option maxRecDepth 100000 in
theorem CloR.grown {w w' : World} {g mb : Nat} {lp : Int} {ns : List ByteArray} {M : DataW Hr} {hd : ByteArray → Hr} {row : Option Nat} (h : CloR w g mb lp ns M hd) (hg : w.grownBy w' row) (h1 : some g ≠ row) (h2 : some mb ≠ row) : CloR w' g mb lp ns M hd :=
  ⟨(hg.block g (Array.getElem?_eq_some_iff.1 h.box).1 h1).trans h.box, h.own.kept hg h2, h.nm⟩
section
variable {w : World} {F G : Nat → Prop} {g mb : Nat} {T : Tb} {M : DataW Hr} {hd : ByteArray → Hr}
set_option maxHeartbeats 8000000 in
set_option maxRecDepth 100000 in
theorem clone12_any (h : TbR w F G g T mb M hd) (ok : TOk T) :
    Calls Try.prog 40 #[.pointer (some ⟨g, 0, none⟩)] w fun e w' => ∃ g', e = .returned (.pointer (some ⟨g', 0, none⟩)) ∧ Below w.heap.size w w' ∧
      ∃ mb2 M2, TbR w' (fun k => w.heap.size ≤ k ∧ k < w'.heap.size) (up G w w') g' T mb2 M2 (fullH hd) := by
  have bd : Below w.heap.size w w.drew := ⟨rfl, rfl, rfl, Nat.le_refl _, fun _ _ => rfl⟩
  have k0 : w.drew.cell? ⟨g, 0, none⟩ = some (.map (some mb)) := h.c0
  have k1 : w.drew.cell? ⟨g, 1, none⟩ = some (.int .i64 (lastP T)) := h.c1
  have hsz := h.size
  have hns := namesT_len T
  have hlt := ok.len
  have ql : ∀ ty, (Builtin.len_ #[65] ty #[.map (some mb)]).run Try.prog w.drew = .ok (.int .i64 (Maps.size M : Nat)) w.drew := fun ty => (h.below bd).own.len Try.underlying65 ty
  have hmm := run_makeHintN (P := Try.prog) (t := 65) Try.underlying65
  have b1 := bd.alloc (Nat.le_refl _) (.map #[] 0)
  have x0 := bcell b1 h.c0
  have x1 := bcell b1 h.c1
  have B2 : Below w.heap.size w ((w.alloc (.map #[] 0)).alloc (.cells #[.map (some w.heap.size), .int .i64 (lastP T)] 67)) := ((Below.refl _ w).alloc (Nat.le_refl _) _).alloc (by simp) _
  have x2 := bcell B2 h.c0
  have x3 := bcell B2 h.c1
  have H := Go.Lib.hid h
  have OK := Go.Lib.hid ok
  have HSZ := Go.Lib.hid hsz
  clear h hsz b1 ok
  go_enter Try.func40, Try.ntmps40
  go_upto_region 1 with (fail)
  go_region_held (fun w' => w'.cell? ⟨g, 0, none⟩ = some (.map (some mb)) ∧ w'.cell? ⟨g, 1, none⟩ = some (.int .i64 (lastP T))) (first | exact ⟨k0, k1⟩ | exact ⟨x0, x1⟩ | exact ⟨x2, x3⟩) (fail)
  have bx := heap_alloc_new (w.alloc (.map #[] 0)) (.cells #[.map (some w.heap.size), .int .i64 (lastP T)] 67)
  have s1 : (w.alloc (.map #[] 0)).heap.size = w.heap.size + 1 := by simp
  have s2 : ((w.alloc (.map #[] 0)).alloc (.cells #[.map (some w.heap.size), .int .i64 (lastP T)] 67)).heap.size = w.heap.size + 2 := by simp
  have o2 := (World.ownsMap_made w Try.prog 9 slR).alloc (.cells #[.map (some w.heap.size), .int .i64 (lastP T)] 67)
  rw [s1] at bx
  have bz : Below w.heap.size ((w.alloc (.map #[] 0)).alloc (.cells #[.map (some w.heap.size), .int .i64 (lastP T)] 67)) ((w.alloc (.map #[] 0)).alloc (.cells #[.map (some w.heap.size), .int .i64 (lastP T)] 67)).drew := ⟨rfl, rfl, rfl, Nat.le_refl _, fun _ _ => rfl⟩
  have B3 := B2.trans bz
  have C3 : CloR ((w.alloc (.map #[] 0)).alloc (.cells #[.map (some w.heap.size), .int .i64 (lastP T)] 67)).drew (w.heap.size + 1) w.heap.size (lastP T) [] (.map []) hd := ⟨bx, o2, NOf.empty _⟩
  have s3 : ((w.alloc (.map #[] 0)).alloc (.cells #[.map (some w.heap.size), .int .i64 (lastP T)] 67)).drew.heap.size = w.heap.size + 2 := s2
  clear bx s1 s2 o2 bz B2 x0 x1 x2 x3 k0 k1 ql hmm bd
  go_upto_region 2 with (fail)
  generalize ((w.alloc (.map #[] 0)).alloc (.cells #[.map (some w.heap.size), .int .i64 (lastP T)] 67)).drew = w3 at *
  have h3 := H.out.below B3
  have p0 := h3.c0
  have hown := h3.own
  have NM := h3.nm
  have BB := Go.Lib.hid B3
  have CC := Go.Lib.hid C3
  have SS := Go.Lib.hid s3
  clear h3 B3 C3 s3
  go_wp2_with (at_range; refine wpList_range_own _ rfl _ 65 rfl 9 68 keyedN Try.underlying65 slR mb (Maps.size M) M rfl hown ?_; intro w4 hrg4 hg4 hs4)
  go_frame
  go_loopw [4, 5] (fun _ _ wr => ∃ (left : Lit → Bool) (cnt : Nat) (Mc : DataW Hr), wr.ranges Try.prog 9 slR mb w3.heap.size (Maps.size M) M left cnt ∧ Hid (CloR wr (w.heap.size + 1) w.heap.size (lastP T) (cameN left (namesT T)) Mc hd) ∧ Below w.heap.size w wr) (fun _ _ wr => wr.rangeLeft mb w3.heap.size)
  case atStart =>
    have hb4 := grown_below hg4
    have hl : ∀ s ∈ namesT T, has M (keyN s) = true := fun s hs => NM.yes hs
    refine ⟨_, _, .map [], hrg4, Go.Lib.hid ?_, below_chain BB.out hb4⟩
    rw [cameN_start hl]
    exact CC.out.grown hg4 (by simp) (by simp)
  case round =>
    obtain ⟨left, cnt, Mc, hrg, HA, hb⟩ := hrel
    clear hrg4 hg4 hs4
    go_wp2_with (at_next; refine wpList_next_ns _ slR mkL mkL_inv valL slR_held rfl _ rfl NM mb w3.heap.size (Maps.size M) _ _ rfl hrg ?_ ?_)
    · intro hc0 hl0
      have ha := HA.out
      rw [cameN_end _ hl0] at ha
      have h4 := H.out.below hb
      have HR : Hid (TbR wr (fun k => w.heap.size ≤ k ∧ k < wr.heap.size) (up G w wr) (w.heap.size + 1) T w.heap.size Mc (fullH hd)) := Go.Lib.hid (by
        have z1 := (Array.getElem?_eq_some_iff.1 ha.box).1
        refine ⟨ha.box, ha.own, ha.nm, fun s hs => ?_, fun s hs t ht _ hx => absurd hx (Nat.lt_irrefl _), ⟨by omega, z1⟩, ⟨Nat.le_refl _, by omega⟩, fun k hk => .inr hk, fun k hk => up_lt H.out.lt hb.size hk⟩
        have r := h4.li s hs
        obtain ⟨cur, e1, e2, e3⟩ := r.ex
        have := r.le
        have := r.cap
        exact ⟨⟨cur, e1, by simp only [fullH]; omega, e3⟩, r.len, r.pos, Nat.le_refl _, by simp only [fullH]; omega, fun hx => absurd hx (Nat.lt_irrefl _), .inl r.gb⟩)
      clear ha HA hrg h4
      go_wp2_with fail
      go_ret
      exact ⟨_, rfl, hb, _, _, HR.out⟩
    · intro s hs w5 cnt5 hlk hss hrg5 hlt5 hg5 hs5 hen
      have s3 := SS.out
      have h5 := HA.out.grown hg5 (by rw [s3]; simp) (by rw [s3]; simp)
      have b5 : Below w.heap.size w w5 := hb.grown hg5 hb.size (fun r e => by injection e with e; omega)
      have r := (H.out.below b5).li s hs
      have hle := r.le
      have hcn : (cameN left (namesT T)).length ≤ (namesT T).length := List.length_filter_le _ _
      have hmx : Maps.size Mc < maxLen := by
        rw [h5.nm.size (h5.own.canon keyedN) ((up_nodupN (namesT_up T)).sublist (List.filter_sublist (p := fun s => !left (keyN s))))]
        unfold maxLen
        omega
      have hkey := keyN_of hss
      obtain ⟨w8, hrun8, hown8, hg8⟩ := (show w5.drew.ownsMap Try.prog 9 slR w.heap.size (Maps.size Mc) Mc from h5.own).update keyedN Try.underlying65 hmx hkey (slR_some (fullH hd s))
      have hsl := slice_fullI (hd s) hle
      have y0 : w5.drew.cell? ⟨w.heap.size + 1, 0, none⟩ = some (.map (some w.heap.size)) := by
        show w5.cell? _ = _
        rw [cell_of_row w5 (w.heap.size + 1) 0 _ _ _ h5.box]
        rfl
      have y8 := hg8.cell (a := ⟨w.heap.size + 1, 0, none⟩) y0 (by simp)
      have hF : fullH hd s = ⟨(hd s).b, (hd s).n, (hd s).n⟩ := rfl
      have n1 : (some (w.heap.size + 1) : Option Nat) ≠ some w.heap.size := by simp
      have c8 : CloR w8 (w.heap.size + 1) w.heap.size (lastP T) (cameN (cutN left s) (namesT T)) (Mc.put (keyN s) (.held (fullH hd s))) hd :=
        ⟨(hg8.block (w.heap.size + 1) (Array.getElem?_eq_some_iff.1 h5.box).1 n1).trans h5.box, tightN hown8, h5.nm.put (isMapN h5.own) (s := s) (cameN_step hs) (fun _ _ => rfl)⟩
      have hmb := H.out.mlt
      have z5 := hb.size
      have b8 : Below w.heap.size w w8 := (b5.trans (show Below w.heap.size w5 w5.drew from ⟨rfl, rfl, rfl, Nat.le_refl _, fun _ _ => rfl⟩)).grown hg8 b5.size (fun j e => by injection e with e; omega)
      have hrg8 := (show w5.drew.ranges Try.prog 9 slR mb w3.heap.size (Maps.size M) M (cutN left s) cnt5 from hrg5).kept hg8 (fun e => by injection e with e; omega) (fun e => by injection e with e; omega)
      have HLEFT := hrg.left_eq
      rw [hF] at hrun8
      have C8 := Go.Lib.hid c8
      clear h5 r hcn hmx hb hown8 hg8 hrg hrg5 hg5 hs5 HA c8 hmb z5 n1 hF hle hlk s3
      generalize hd s = x at *
      obtain ⟨xb, xn, xc⟩ := x
      go_upto_region 5 with (fail)
      go_region_held_law (fun w' => w'.cell? ⟨w.heap.size + 1, 0, none⟩ = some (.map (some w.heap.size))) (first | exact y0 | exact y8) (fail)
      go_wp2_with fail
      go_roundw
      case rel => exact ⟨_, cnt5, _, hrg8, C8, b8⟩
      case measure => rw [hrg8.left_eq, HLEFT]; exact hlt5
end

end Go.Proofs.Ytiplfhmimpkplaa.SmWalk

