/-
  Events as data; opening an argument that is an event.
-/
import Derived.Test.YtfbooapgjhhjmaaOpen
import Derived.Test.YtfbooapgjhhjmaaMemRow
import Derived.Test.YtfbooapgjhhjmaaProg
import Derived.Lib.SmallJoins
import Derived.Deep.SlicePairs
namespace Go.Proofs.Ytfbooapgjhhjmaa.Ev
open Go.RowKit Go.ChangeShapes Go.WideShapes Go.Joins Go.Deep Go.Proofs.Ytfbooapgjhhjmaa.MemRow Go.Proofs.Ytfbooapgjhhjmaa.Open

/-- An event as data. -/
structure Ev where
  s : ByteArray
  t : ByteArray
  tags : List ByteArray
  fs : List (ByteArray × Int)

/-- The value v is the event e. -/
def IsEv (w : World) (v : Value) (e : Ev) : Prop :=
  ∃ A n ca B m cb, v = .agg #[.string e.s, .string e.t, .slice A n ca, .slice B m cb] ∧ RdS w A n ca e.tags ∧ RdF w B m cb e.fs

/-- All of it is of a size that a machine has. -/
structure EvOk (e : Ev) : Prop where
  s : e.s.size ≤ maxLen
  t : e.t.size ≤ maxLen
  tags : ∀ x ∈ e.tags, x.size ≤ maxLen
  names : ∀ f ∈ e.fs, f.1.size ≤ maxLen
  nums : ∀ f ∈ e.fs, -9223372036854775808 ≤ f.2 ∧ f.2 ≤ 9223372036854775807

theorem IsEv.below {w w' : World} {v : Value} {e : Ev} (h : IsEv w v e) (hb : Below w.heap.size w w') : IsEv w' v e := by
  obtain ⟨A, n, ca, B, m, cb, rfl, h1, h2⟩ := h
  exact ⟨A, n, ca, B, m, cb, rfl, RdC.below h1 hb, RdC.below h2 hb⟩

section
variable {H : Type} {enc : TypeId × Value → H} {P : Program} {W : World} {base : Nat} {t e : TypeId} {v : Value} {d : DataW H} {p : List MemPlace}

/-- A slice of texts that came in. -/
theorem tr_strs {fuel : Nat} {y : DataW H × List MemPlace} (ht : P.underlying t = some (.slice e)) (he : P.underlying e = some .string) (hce : P.cellsOf e = 1) (h : DataW.trod enc P W 0 (fun _ => true) true fuel t [v] = some y) :
    ∃ A n ca ss, v = .slice A n ca ∧ RdS W A n ca ss ∧ ∀ x ∈ ss, x.size ≤ maxLen := by
  rcases open_strings ht he hce h with ⟨hcs, _⟩ | ⟨x, l, c, zs, hcs, _, hl, hm, hz, _, hcell, hwz⟩
  · simp only [List.cons.injEq, and_true] at hcs
    subst hcs
    exact ⟨none, 0, 0, [], rfl, RdC.nil W, by simp⟩
  · simp only [List.cons.injEq, and_true] at hcs
    subst hcs
    have hz' : zs.length = c := by simpa using hz
    refine ⟨_, l, c, zs.take l, rfl, ⟨by rw [strs_length, List.length_take]; omega, hl, hm, fun hn => ?_⟩, fun s hs => hwz s (List.mem_of_mem_take hs)⟩
    have e0 := spot_none (hcell 0 (by omega))
    refine ⟨x.block, x.off, by rw [← e0], fun i u hi => ?_⟩
    have hi' : i < (zs.take l).length := by
      have := (List.getElem?_eq_some_iff.1 hi).1
      rwa [strs_length] at this
    rw [List.length_take] at hi'
    have hc := hcell i (by omega)
    rw [e0, add_at] at hc
    rw [hc]
    have h1 : i < l := by omega
    have h2 : i < zs.length := by omega
    simp [MemRow.strs, h1, List.getElem?_eq_getElem h2] at hi
    simp [List.getD, List.getElem?_eq_getElem h2, hi]

/-- A slice of numbers with a name that came in. -/
theorem tr_flds {f0 f1 : Field} {fuel : Nat} {y : DataW H × List MemPlace} (ht : P.underlying t = some (.slice e)) (he : P.underlying e = some (.struct #[f0, f1]))
    (ce : P.cellsOf e = 2) (o0 : f0.offset = 0) (o1 : f1.offset = 1) (c0 : P.cellsOf f0.type = 1) (c1 : P.cellsOf f1.type = 1) (t0 : P.underlying f0.type = some .string) (t1 : P.underlying f1.type = some (.int .i64))
    (h : DataW.trod enc P W 0 (fun _ => true) true fuel t [v] = some y) :
    ∃ A n ca fs, v = .slice A n ca ∧ RdF W A n ca fs ∧ (∀ f ∈ fs, f.1.size ≤ maxLen) ∧ ∀ f ∈ fs, -9223372036854775808 ≤ f.2 ∧ f.2 ≤ 9223372036854775807 := by
  rcases open_slice_pairs ht he ce o0 o1 c0 c1 h with ⟨hcs, _⟩ | ⟨a, l, c, m, nn, V0, V1, D0, D1, P0, P1, hcs, _, hl, hm, hmm, _, hx⟩
  · simp only [List.cons.injEq, and_true] at hcs
    subst hcs
    exact ⟨none, 0, 0, [], rfl, RdC.nil W, by simp, by simp⟩
  · simp only [List.cons.injEq, and_true] at hcs
    subst hcs
    have hm' : m = c := by simpa using hmm
    subst hm'
    have each : ∀ i, i < m → ∃ f : ByteArray × Int, V0 i = .string f.1 ∧ V1 i = .int .i64 f.2 ∧ f.1.size ≤ maxLen ∧ -9223372036854775808 ≤ f.2 ∧ f.2 ≤ 9223372036854775807 := by
      intro i hi
      obtain ⟨_, _, h0, h1⟩ := hx i hi
      obtain ⟨s, e0, _, ws⟩ := DataW.trod_string t0 h0
      obtain ⟨z, e1, _, wz⟩ := DataW.trod_int t1 h1
      have b := bounds_i64 wz
      injection e0 with e0
      injection e1 with e1
      exact ⟨(s, z), e0, e1, ws, b.1, b.2⟩
    have hex : ∃ F : Nat → ByteArray × Int, ∀ i, i < m → V0 i = .string (F i).1 ∧ V1 i = .int .i64 (F i).2 ∧ (F i).1.size ≤ maxLen ∧ -9223372036854775808 ≤ (F i).2 ∧ (F i).2 ≤ 9223372036854775807 :=
      ⟨fun i => if hi : i < m then (each i hi).choose else (ByteArray.empty, 0), fun i hi => by simp only [hi, dif_pos]; exact (each i hi).choose_spec⟩
    obtain ⟨F, hF⟩ := hex
    have hlen : ((List.range l).map F).length = l := by simp
    refine ⟨_, l, m, (List.range l).map F, rfl, ⟨by rw [flds_length, hlen], hl, hm, fun hn => ?_⟩, ?_, ?_⟩
    · have hc0 := (hx 0 (by omega)).1
      rw [Nat.zero_mul] at hc0
      have e0 := spot_none hc0
      refine ⟨a.block, a.off, by rw [← e0], fun i u hi => ?_⟩
      have hi' : i < l * 2 := by
        have := (List.getElem?_eq_some_iff.1 hi).1
        rwa [flds_length, hlen] at this
      have hj : i / 2 < l := by omega
      have hg := flds_get ((List.range l).map F) (i / 2) (by rw [hlen]; exact hj)
      have hFj : ((List.range l).map F).getD (i / 2) (ByteArray.empty, 0) = F (i / 2) := by simp [List.getD, hj]
      rw [hFj] at hg
      obtain ⟨k0, k1, _, _⟩ := hx (i / 2) (by omega)
      obtain ⟨q0, q1, _⟩ := hF (i / 2) (by omega)
      rcases Nat.mod_two_eq_zero_or_one i with hp | hp
      · have ei : i / 2 * 2 = i := by omega
        rw [ei] at hg k0
        rw [e0, add_at] at k0
        rw [k0, q0, ← hi, hg.1]
      · have ei : i / 2 * 2 + 1 = i := by omega
        rw [ei] at hg k1
        rw [e0, add_at] at k1
        rw [k1, q1, ← hi, hg.2]
    · intro f hf
      obtain ⟨j, hj, rfl⟩ := List.mem_map.1 hf
      exact (hF j (by have := List.mem_range.1 hj; omega)).2.2.1
    · intro f hf
      obtain ⟨j, hj, rfl⟩ := List.mem_map.1 hf
      exact (hF j (by have := List.mem_range.1 hj; omega)).2.2.2
end

section
variable {H : Type} {enc : TypeId × Value → H}
set_option maxRecDepth 100000 in
/-- An event that came in. -/
theorem op_event {W : World} {base : Nat} {v : Value} {d : DataW H} {p : List MemPlace} (ho : Value.okWide Try.prog W .any base 33 v) (h : DataW.Trod enc Try.prog W 0 (fun _ => true) true 33 v d p) :
    ∃ e : Ev, IsEv W v e ∧ EvOk e := by
  obtain ⟨v0, v1, v2, v3, y0, y1, y2, y3, n, rfl, _, _, h0, h1, h2, h3⟩ := open_agg4 Try.underlying33 (by kernel_rfl) (by kernel_rfl) ho h
  obtain ⟨s, e0, _, ws⟩ := DataW.trod_string Try.underlying9 h0
  obtain ⟨t, e1, _, wt⟩ := DataW.trod_string Try.underlying9 h1
  injection e0 with e0
  injection e1 with e1
  obtain ⟨A, na, ca, ss, rfl, hs, ws2⟩ := tr_strs Try.underlying30 Try.underlying9 (by kernel_rfl) h2
  obtain ⟨B, m, cb, fs, rfl, hf, wf, wz⟩ := tr_flds Try.underlying31 Try.underlying114 (by kernel_rfl) rfl rfl (by kernel_rfl) (by kernel_rfl) Try.underlying9 Try.underlying3 h3
  subst e0 e1
  exact ⟨⟨s, t, ss, fs⟩, ⟨A, na, ca, B, m, cb, rfl, hs, hf⟩, ws, wt, ws2, wf, wz⟩
end

end Go.Proofs.Ytfbooapgjhhjmaa.Ev
