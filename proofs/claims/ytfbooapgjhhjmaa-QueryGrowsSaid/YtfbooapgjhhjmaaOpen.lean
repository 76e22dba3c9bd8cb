/-
  Opening the arguments of a statement: what a value that can be read as data is. No Go text here.
-/
import Derived.Test.YtfbooapgjhhjmaaNumMem
import Derived.OpenShut
import Derived.ProofKit
import Derived.Deep.Grids
import Derived.SliceStrings
namespace Go.Proofs.Ytfbooapgjhhjmaa.Open
open Go.RowKit Go.ChangeShapes Go.WideShapes Go.Proofs.Ytfbooapgjhhjmaa.NumMem

/-- A slice of one-cell elements: its i-th cell holds f i. -/
def Sl (w : World) (A : Option Addr) (n cap : Nat) (f : Nat → Value) : Prop :=
  n ≤ cap ∧ cap ≤ maxLen ∧ (0 < n → ∃ b o, A = some ⟨b, o, none⟩ ∧ ∀ i, i < n → w.cell? ⟨b, o + i, none⟩ = some (f i))

theorem Sl.at_ {w : World} {A : Option Addr} {n cap : Nat} {f : Nat → Value} (h : Sl w A n cap f) (hn : 0 < n) : ∃ b o, A = some ⟨b, o, none⟩ ∧ b < w.heap.size ∧ ∀ i, i < n → w.cell? ⟨b, o + i, none⟩ = some (f i) := by
  obtain ⟨b, o, rfl, hc⟩ := h.2.2 hn
  exact ⟨b, o, rfl, World.block_lt_of_cell? w _ (hc 0 hn), hc⟩

theorem Sl.below {w w' : World} {B : Nat} {A : Option Addr} {n cap : Nat} {f : Nat → Value} (h : Sl w A n cap f) (hb : Below B w w') (hB : w.heap.size ≤ B) : Sl w' A n cap f :=
  ⟨h.1, h.2.1, fun hn => by
    obtain ⟨b, o, rfl, hlt, hc⟩ := h.at_ hn
    exact ⟨b, o, rfl, fun i hi => (hb.cell (p := ⟨b, o + i, none⟩) (Nat.lt_of_lt_of_le hlt hB)).trans (hc i hi)⟩⟩

section
variable {H : Type} {enc : TypeId × Value → H} {P : Program} {W : World} {base : Nat} {t e : TypeId} {v : Value} {d : DataW H} {p : List MemPlace}

theorem op_int {k : IntKind} (ht : P.underlying t = some (.int k)) (ho : Value.okWide P W .any base t v) (h : DataW.Trod enc P W 0 (fun _ => true) true t v d p) : ∃ x, v = .int k x ∧ (Lit.int k x).wf = true := by
  obtain ⟨x, rfl, _, _, wx⟩ := open_int ht ho h
  exact ⟨x, rfl, wx⟩

theorem op_i64 (ht : P.underlying t = some (.int .i64)) (ho : Value.okWide P W .any base t v) (h : DataW.Trod enc P W 0 (fun _ => true) true t v d p) :
    ∃ x, v = .int .i64 x ∧ -9223372036854775808 ≤ x ∧ x ≤ 9223372036854775807 := by
  obtain ⟨x, rfl, wx⟩ := op_int ht ho h
  exact ⟨x, rfl, bounds_i64 wx⟩

theorem op_bool (ht : P.underlying t = some .bool) (ho : Value.okWide P W .any base t v) (h : DataW.Trod enc P W 0 (fun _ => true) true t v d p) : ∃ x, v = .bool x := by
  obtain ⟨x, rfl, _, _⟩ := open_bool ht ho h
  exact ⟨x, rfl⟩

theorem op_string (ht : P.underlying t = some .string) (ho : Value.okWide P W .any base t v) (h : DataW.Trod enc P W 0 (fun _ => true) true t v d p) : ∃ s, v = .string s ∧ s.size ≤ maxLen := by
  obtain ⟨s, rfl, _, _, hs⟩ := Go.ChangeMaps.open_string ht ho h
  exact ⟨s, rfl, hs⟩

theorem spot_none {w : World} {x : Addr} {v : Value} (h : w.cell? (x.add 0) = some v) : x = ⟨x.block, x.off, none⟩ := by
  have := World.cell?_spot h
  obtain ⟨b, o, s⟩ := x
  have hs : s = none := by simpa [Addr.add] using this
  subst hs
  rfl

theorem add_at (b o i : Nat) : (⟨b, o, none⟩ : Addr).add i = ⟨b, o + i, none⟩ := by unfold Addr.add; split <;> simp_all

/-- From cells up to the capacity to 'Sl'. -/
theorem sl_of {a : Addr} {len cap : Nat} {f : Nat → Value} (hl : len ≤ cap) (hm : cap ≤ maxLen) (hc : ∀ i, i < cap → W.cell? (a.add i) = some (f i)) : Sl W (some a) len cap f :=
  ⟨hl, hm, fun hn => by
    have e := spot_none (hc 0 (by omega))
    refine ⟨a.block, a.off, by rw [← e], fun i hi => ?_⟩
    have := hc i (by omega)
    rw [e, add_at] at this
    exact this⟩

theorem op_ints {k : IntKind} (ht : P.underlying t = some (.slice e)) (he : P.underlying e = some (.int k)) (hce : P.cellsOf e = 1) (ho : Value.okWide P W .any base t v) (h : DataW.Trod enc P W 0 (fun _ => true) true t v d p) :
    ∃ (A : Option Addr) (n cap : Nat) (zs : List Int), v = .slice A n cap ∧ zs.length = n ∧ (∀ z ∈ zs, (Lit.int k z).wf = true) ∧ Sl W A n cap (fun i => .int k (zs.getD i 0)) := by
  obtain ⟨a, len, cap, rfl⟩ := okWide_slice ht ho
  obtain ⟨fuel, hf⟩ := h
  rcases open_ints ht he hce hf with ⟨hcs, _⟩ | ⟨x, l, c, zs, hcs, _, hl, hm, hz, _, hcell, hwz⟩
  · simp [Value.cells] at hcs
    obtain ⟨rfl, rfl, rfl⟩ := hcs
    exact ⟨none, 0, 0, [], rfl, rfl, by simp, Nat.le_refl _, Nat.zero_le _, fun h => absurd h (by omega)⟩
  · simp [Value.cells] at hcs
    obtain ⟨rfl, rfl, rfl⟩ := hcs
    have hz' : zs.length = cap := by simpa using hz
    have hs := sl_of (W := W) (f := fun i => .int k (zs.getD i 0)) hl hm (by rw [← hz']; exact hcell)
    refine ⟨_, _, _, zs.take len, rfl, by simp; omega, fun z hz => hwz z (List.mem_of_mem_take hz), hs.1, hs.2.1, fun hn => ?_⟩
    obtain ⟨b, o, hA, hc⟩ := hs.2.2 hn
    refine ⟨b, o, hA, fun i hi => ?_⟩
    rw [hc i hi]
    simp [List.getD, hi]

theorem op_bytes (ht : P.underlying t = some (.slice e)) (he : P.underlying e = some (.int .u8)) (hce : P.cellsOf e = 1) (ho : Value.okWide P W .any base t v) (h : DataW.Trod enc P W 0 (fun _ => true) true t v d p) :
    ∃ (A : Option Addr) (n cap : Nat) (l : List UInt8), v = .slice A n cap ∧ Rd W A n cap l := by
  obtain ⟨A, n, cap, zs, rfl, hl, hw, hs⟩ := op_ints ht he hce ho h
  refine ⟨A, n, cap, zs.map fun z => UInt8.ofNat z.toNat, rfl, by simpa using hl, hs.1, hs.2.1, fun hn => ?_⟩
  obtain ⟨b, o, hA, hc⟩ := hs.2.2 hn
  refine ⟨b, o, hA, fun i hi => ?_⟩
  have hi' : i < zs.length := by omega
  have hb := bounds_u8 (hw zs[i] (List.getElem_mem hi'))
  rw [hc i hi]
  simp only [List.getD, List.getElem?_map, List.getElem?_eq_getElem hi', Option.map_some, Option.getD_some]
  congr 2
  have : zs[i].toNat < 256 := by omega
  simp [Nat.mod_eq_of_lt this]
  omega

theorem op_bools (ht : P.underlying t = some (.slice e)) (he : P.underlying e = some .bool) (hce : P.cellsOf e = 1) (ho : Value.okWide P W .any base t v) (h : DataW.Trod enc P W 0 (fun _ => true) true t v d p) :
    ∃ (A : Option Addr) (n cap : Nat) (B : Nat → Bool), v = .slice A n cap ∧ Sl W A n cap (fun i => .bool (B i)) := by
  obtain ⟨a, len, cap, rfl⟩ := okWide_slice ht ho
  obtain ⟨fuel, hf⟩ := h
  rcases Go.Deep.open_bools ht he hce hf with ⟨hcs, _⟩ | ⟨x, l, c, B, hcs, _, hl, hm, _, hcell⟩
  · simp [Value.cells] at hcs
    obtain ⟨rfl, rfl, rfl⟩ := hcs
    exact ⟨none, 0, 0, fun _ => false, rfl, Nat.le_refl _, Nat.zero_le _, fun h => absurd h (by omega)⟩
  · simp [Value.cells] at hcs
    obtain ⟨rfl, rfl, rfl⟩ := hcs
    exact ⟨_, _, _, B, rfl, sl_of hl hm hcell⟩

theorem op_strings (ht : P.underlying t = some (.slice e)) (he : P.underlying e = some .string) (hce : P.cellsOf e = 1) (ho : Value.okWide P W .any base t v) (h : DataW.Trod enc P W 0 (fun _ => true) true t v d p) :
    ∃ (A : Option Addr) (n cap : Nat) (ss : List ByteArray), v = .slice A n cap ∧ ss.length = n ∧ (∀ s ∈ ss, s.size ≤ maxLen) ∧ Sl W A n cap (fun i => .string (ss.getD i ByteArray.empty)) := by
  obtain ⟨a, len, cap, rfl⟩ := okWide_slice ht ho
  obtain ⟨fuel, hf⟩ := h
  rcases open_strings ht he hce hf with ⟨hcs, _⟩ | ⟨x, l, c, zs, hcs, _, hl, hm, hz, _, hcell, hwz⟩
  · simp [Value.cells] at hcs
    obtain ⟨rfl, rfl, rfl⟩ := hcs
    exact ⟨none, 0, 0, [], rfl, rfl, by simp, Nat.le_refl _, Nat.zero_le _, fun h => absurd h (by omega)⟩
  · simp [Value.cells] at hcs
    obtain ⟨rfl, rfl, rfl⟩ := hcs
    have hz' : zs.length = cap := by simpa using hz
    have hs := sl_of (W := W) (f := fun i => .string (zs.getD i ByteArray.empty)) hl hm (by rw [← hz']; exact hcell)
    refine ⟨_, _, _, zs.take len, rfl, by simp; omega, fun z hz => hwz z (List.mem_of_mem_take hz), hs.1, hs.2.1, fun hn => ?_⟩
    obtain ⟨b, o, hA, hc⟩ := hs.2.2 hn
    refine ⟨b, o, hA, fun i hi => ?_⟩
    rw [hc i hi]
    simp [List.getD, hi]
end

end Go.Proofs.Ytfbooapgjhhjmaa.Open
