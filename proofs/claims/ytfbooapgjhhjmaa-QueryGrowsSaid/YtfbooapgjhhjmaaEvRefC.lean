/-
  Contracts of the document's answers of layer 4: Has, Value, Same.
-/
import Derived.Test.YtfbooapgjhhjmaaEvRefB
namespace Go.Proofs.Ytfbooapgjhhjmaa.EvWalk
open Go.RowKit Go.Proofs.Ytfbooapgjhhjmaa.MemRow Go.Proofs.Ytfbooapgjhhjmaa.Ev Go.Proofs.Ytfbooapgjhhjmaa.NameMath Go.Proofs.Ytfbooapgjhhjmaa.NameWalk

/-- A block of the call's own that holds an event's four cells. -/
def EvAt (w : World) (g : Nat) (v0 v1 v2 v3 : Value) : Prop := w.heap[g]? = some (.cells #[v0, v1, v2, v3] 33 (0, 0))
theorem EvAt.new (w : World) (v0 v1 v2 v3 : Value) : EvAt (w.alloc (.cells #[v0, v1, v2, v3] 33)) w.heap.size v0 v1 v2 v3 := heap_alloc_new w _
theorem EvAt.lt {w : World} {g : Nat} {v0 v1 v2 v3 : Value} (h : EvAt w g v0 v1 v2 v3) : g < w.heap.size := (Array.getElem?_eq_some_iff.1 h).1
theorem EvAt.below {w w' : World} {g : Nat} {v0 v1 v2 v3 : Value} (h : EvAt w g v0 v1 v2 v3) {B : Nat} (hb : Below B w w') (hg : g < B) : EvAt w' g v0 v1 v2 v3 := (hb.block g hg).trans h
theorem EvAt.drewN {w : World} {g : Nat} {v0 v1 v2 v3 : Value} (h : EvAt w g v0 v1 v2 v3) (n : Nat) : EvAt (w.drewN n) g v0 v1 v2 v3 := h
theorem EvAt.c0 {w : World} {g : Nat} {v0 v1 v2 v3 : Value} (h : EvAt w g v0 v1 v2 v3) : w.cell? ⟨g, 0, none⟩ = some v0 := by rw [cell_of_row w g 0 _ _ _ h]; rfl
theorem EvAt.c1 {w : World} {g : Nat} {v0 v1 v2 v3 : Value} (h : EvAt w g v0 v1 v2 v3) : w.cell? ⟨g, 1, none⟩ = some v1 := by rw [cell_of_row w g 1 _ _ _ h]; rfl
theorem EvAt.c2 {w : World} {g : Nat} {v0 v1 v2 v3 : Value} (h : EvAt w g v0 v1 v2 v3) : w.cell? ⟨g, 2, none⟩ = some v2 := by rw [cell_of_row w g 2 _ _ _ h]; rfl
theorem EvAt.c3 {w : World} {g : Nat} {v0 v1 v2 v3 : Value} (h : EvAt w g v0 v1 v2 v3) : w.cell? ⟨g, 3, none⟩ = some v3 := by rw [cell_of_row w g 3 _ _ _ h]; rfl

def hasB (ss : List ByteArray) (x : ByteArray) : Bool := ss.any fun y => decide (y = x)
theorem hasB_mem {ss : List ByteArray} {x : ByteArray} : hasB ss x = true ↔ x ∈ ss := by
  unfold hasB
  rw [List.any_eq_true]
  constructor
  · rintro ⟨y, h, e⟩
    rwa [of_decide_eq_true e] at h
  · intro h
    exact ⟨x, h, decide_eq_true rfl⟩
/-- The number of the first field with a name. -/
def valueF : List (ByteArray × Int) → ByteArray → Int × Bool
  | [], _ => (0, false)
  | f :: fs, x => if f.1 = x then (f.2, true) else valueF fs x

theorem drop_get (l : List (ByteArray × Int)) (j : Nat) (h : j < l.length) : l.drop j = l.getD j (ByteArray.empty, 0) :: l.drop (j + 1) := by
  rw [List.drop_eq_getElem_cons h]
  simp [List.getD, List.getElem?_eq_getElem h]

set_option maxHeartbeats 4000000 in
set_option maxRecDepth 100000 in
theorem refHas_any (v : Value) (ev : Ev) (x : ByteArray) (w : World) (hv : IsEv w v ev) :
    Calls Try.prog 54 #[v, .string x] w fun e w' => e = .returned (.bool (hasB ev.tags x)) ∧ Below w.heap.size w w' := by
  obtain ⟨A, n, ca, B, m, cb, rfl, ha, _⟩ := hv
  have hn := RdC.le ha
  unfold maxLen at hn
  have la := ha.len
  generalize hR : hasB ev.tags x = R
  have HR := Go.Lib.hid hR
  have LA := Go.Lib.hid la
  clear hR la
  have e0 := EvAt.new w (.string ev.s) (.string ev.t) (.slice A n ca) (.slice B m cb)
  have b0 : Below w.heap.size w (w.alloc (.cells #[.string ev.s, .string ev.t, .slice A n ca, .slice B m cb] 33)) := (Below.refl _ _).alloc (Nat.le_refl _) _
  have a0 := RdC.below ha b0
  have k2 := e0.c2
  clear e0
  go_enter Try.func54, Try.ntmps54
  go_wp2_with fail
  generalize hW : w.alloc (.cells #[.string ev.s, .string ev.t, .slice A n ca, .slice B m cb] 33) = w0 at *
  clear hW ha
  go_loop [5] (fun i => ∃ j : Nat, j ≤ n ∧ i = .int .i64 j ∧ hasB (ev.tags.take j) x = false) (fun i => n - (intOf i).toNat)
  case atStart => exact ⟨0, Nat.zero_le _, rfl, rfl⟩
  case round =>
    obtain ⟨j, hj, rfl, hq⟩ := hrel
    have HQ := Go.Lib.hid hq
    clear hq
    by_cases hlt : j < n
    · obtain ⟨ba, oa, rfl, _, ka⟩ := RdS.at_ a0 (by omega)
      have ka1 := ka j hlt
      have i1 : (j : Int) < n := by omega
      have ta := take_get ev.tags j (by rw [LA.out]; exact hlt)
      have hmem := mem_getD ev.tags j (by rw [LA.out]; exact hlt)
      have TA := Go.Lib.hid ta
      have HM := Go.Lib.hid hmem
      clear ka ta hmem
      generalize hy : ev.tags.getD j ByteArray.empty = y at *
      clear hy
      by_cases hxy : y = x
      · subst hxy
        have hR : R = true := by rw [← HR.out]; exact hasB_mem.2 HM.out
        subst hR
        go_wp2_with fail
        go_ret
        exact ⟨rfl, b0⟩
      · have hne := str_ne hxy
        go_wp2_with fail
        go_round
        case rel =>
          refine ⟨j + 1, by omega, by go_num, ?_⟩
          have h1 := HQ.out
          unfold hasB at h1 ⊢
          rw [TA.out, List.any_append, h1]
          simp [hxy]
        case measure => simp [intOf]; omega
    · obtain rfl : n = j := by omega
      have hR : R = false := by
        rw [← HR.out]
        have h1 := HQ.out
        rwa [List.take_of_length_le (by rw [LA.out]; exact Nat.le_refl _)] at h1
      subst hR
      go_wp2_with fail
      go_ret
      exact ⟨rfl, b0⟩


/-- Two events are the same. -/
def sameB (a b : Ev) : Bool := decide (a.s = b.s) && (decide (a.t = b.t) && (decide (a.tags = b.tags) && decide (a.fs = b.fs)))

theorem flds_step (fs gs : List (ByteArray × Int)) (j : Nat) (h1 : j < fs.length) (h2 : j < gs.length) (h : fs.take j = gs.take j) (he : fs.getD j (ByteArray.empty, 0) = gs.getD j (ByteArray.empty, 0)) : fs.take (j + 1) = gs.take (j + 1) := by
  rw [List.take_succ_eq_append_getElem h1, List.take_succ_eq_append_getElem h2, h]
  simp only [List.getD, List.getElem?_eq_getElem h1, List.getElem?_eq_getElem h2, Option.getD_some] at he
  rw [he]

theorem sameB_no {a b : Ev} (h : a.s ≠ b.s ∨ a.t ≠ b.t ∨ a.tags ≠ b.tags ∨ a.fs ≠ b.fs) : sameB a b = false := by
  unfold sameB
  rcases h with h | h | h | h
  · rw [decide_eq_false h]; rfl
  · rw [decide_eq_false h, Bool.false_and, Bool.and_false]
  · rw [decide_eq_false h, Bool.false_and, Bool.and_false, Bool.and_false]
  · rw [decide_eq_false h, Bool.and_false, Bool.and_false, Bool.and_false]
theorem sameB_refl (a : Ev) : sameB a a = true := by simp [sameB]



end Go.Proofs.Ytfbooapgjhhjmaa.EvWalk
