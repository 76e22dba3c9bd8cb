/-
  Words on memory for layer 1: a slice that reads as bytes; its conversion to a string; a reader behind a pointer. No Go text here.
-/
import Derived.Below
import Derived.Laws.OwnMore
import Derived.Laws.IdiomStrings
import Derived.Laws.CopyOwn
import Derived.Deep.Draws
import Derived.Lib.Hide
import Derived.Lib.BufferWrite
import Derived.OpenShut
import Derived.ProofKit
import Derived.Deep.Grids
import Derived.SliceStrings
import Derived.Maps.AppendAt
import Derived.OwnWalk
import Derived.Laws.Slices
import Derived.Test.YtlmdkbhcocfhdaaProg
import Derived.Lib.SmallJoins
import Derived.Deep.SlicePairs
import Derived.Lib.TrimUEq
import Derived.WalkKit
import Derived.BigCall
import Derived.LoopTactic
import Derived.Laws.RangeAny
import Derived.Shelf.Strings.Search2
import Derived.WalkMore
import Derived.Laws.Strings3
import Derived.Lib.Strings
import Derived.Lib.Bytealg
import Derived.Deep.QuietTactic
import Derived.BigQuiet
import Derived.WalkLawsBesides
import Derived.Deep.RegionWith
import Derived.Sort.Walk0
import Derived.Deep.DeepCutAuto
import Derived.Deep.CutBlock
namespace Go.Proofs.Ytlmdkbhcocfhdaa.NumMem
open Go.RowKit

/-- The cells of bytes. -/
def cellsOf (l : List UInt8) : List Value := l.map fun c => .int .u8 (c.toNat : Int)

theorem cellsOf_length (l : List UInt8) : (cellsOf l).length = l.length := by simp [cellsOf]
theorem cellsOf_append (a b : List UInt8) : cellsOf (a ++ b) = cellsOf a ++ cellsOf b := by simp [cellsOf]
theorem cellsOf_one (l : List UInt8) : ∀ v ∈ cellsOf l, v.oneCell' = true := by
  intro v hv
  simp only [cellsOf, List.mem_map] at hv
  obtain ⟨c, _, rfl⟩ := hv
  rfl

/-- The slice value (A, n, cap) reads as the bytes l: nil and empty let in. -/
def Rd (w : World) (A : Option Addr) (n cap : Nat) (l : List UInt8) : Prop :=
  l.length = n ∧ n ≤ cap ∧ cap ≤ maxLen ∧ (0 < n → ∃ b o, A = some ⟨b, o, none⟩ ∧ ∀ i, i < n → w.cell? ⟨b, o + i, none⟩ = some (.int .u8 ((l.getD i 0).toNat : Int)))

variable {w w' : World} {A : Option Addr} {n cap : Nat} {l : List UInt8}

theorem Rd.nil (w : World) : Rd w none 0 0 [] := ⟨rfl, Nat.le_refl _, Nat.zero_le _, fun h => absurd h (by omega)⟩
theorem Rd.empty (w : World) (A : Option Addr) (h : cap ≤ maxLen) : Rd w A 0 cap [] := ⟨rfl, Nat.zero_le _, h, fun h => absurd h (by omega)⟩
theorem Rd.len (h : Rd w A n cap l) : l.length = n := h.1
theorem Rd.le (h : Rd w A n cap l) : n ≤ maxLen := Nat.le_trans h.2.1 h.2.2.1
theorem Rd.le_cap (h : Rd w A n cap l) : n ≤ cap := h.2.1

/-- The address, where there is a byte. -/
theorem Rd.at_ (h : Rd w A n cap l) (hn : 0 < n) : ∃ b o, A = some ⟨b, o, none⟩ ∧ b < w.heap.size ∧ ∀ i, i < n → w.cell? ⟨b, o + i, none⟩ = some (.int .u8 ((l.getD i 0).toNat : Int)) := by
  obtain ⟨b, o, rfl, hc⟩ := h.2.2.2 hn
  exact ⟨b, o, rfl, World.block_lt_of_cell? w _ (hc 0 hn), hc⟩

theorem Rd.keep (h : Rd w A n cap l) (hk : ∀ b o, A = some ⟨b, o, none⟩ → 0 < n → ∀ i, i < n → w'.cell? ⟨b, o + i, none⟩ = w.cell? ⟨b, o + i, none⟩) : Rd w' A n cap l :=
  ⟨h.1, h.2.1, h.2.2.1, fun hn => by
    obtain ⟨b, o, rfl, hc⟩ := h.2.2.2 hn
    exact ⟨b, o, rfl, fun i hi => (hk b o rfl hn i hi).trans (hc i hi)⟩⟩

theorem Rd.below (h : Rd w A n cap l) (hb : Below w.heap.size w w') : Rd w' A n cap l :=
  ⟨h.1, h.2.1, h.2.2.1, fun hn => by
    obtain ⟨b, o, rfl, hlt, hc⟩ := h.at_ hn
    exact ⟨b, o, rfl, fun i hi => (hb.cell (p := ⟨b, o + i, none⟩) hlt).trans (hc i hi)⟩⟩

theorem Rd.drewN (h : Rd w A n cap l) (k : Nat) : Rd (w.drewN k) A n cap l := h
theorem Rd.drew (h : Rd w A n cap l) : Rd w.drew A n cap l := h

/-- Kept where just block g has changed, and block g holds no byte at the place. -/
theorem Rd.grown {g : Nat} (h : Rd w A n cap l) (hg : w.grownBy w' (some g)) (hne : ∀ o k, w.cell? ⟨g, o, none⟩ ≠ some (.int .u8 k)) : Rd w' A n cap l :=
  ⟨h.1, h.2.1, h.2.2.1, fun hn => by
    obtain ⟨b, o, rfl, hlt, hc⟩ := h.at_ hn
    have hbg : b ≠ g := by
      rintro rfl
      exact hne _ _ (hc 0 hn)
    exact ⟨b, o, rfl, fun i hi => hg.cell (hc i hi) (by simpa using hbg)⟩⟩

/-- What stands behind the first k bytes: the slice v[k:]. The model keeps the address where k is the capacity. -/
theorem Rd.cut (h : Rd w A n cap l) {k : Nat} (hk : k ≤ n) : Rd w (if cap = k then A else A.map (·.add k)) (n - k) (cap - k) (l.drop k) := by
  refine ⟨by rw [List.length_drop, h.1], by have := h.2.1; omega, by have := h.2.2.1; omega, fun hn => ?_⟩
  obtain ⟨b, o, rfl, hc⟩ := h.2.2.2 (by omega)
  have := h.2.1
  rw [if_neg (by omega)]
  refine ⟨b, o + k, by simp [Addr.add], fun i hi => ?_⟩
  have := hc (k + i) (by omega)
  rw [Nat.add_assoc, this]
  simp [List.getD, List.getElem?_drop]

/-- The first k bytes: v[:k]. -/
theorem Rd.first (h : Rd w A n cap l) {k : Nat} (hk : k ≤ n) : Rd w A k cap (l.take k) := by
  refine ⟨by rw [List.length_take, h.1]; omega, by have := h.2.1; omega, h.2.2.1, fun hn => ?_⟩
  obtain ⟨b, o, rfl, hc⟩ := h.2.2.2 (by omega)
  refine ⟨b, o, rfl, fun i hi => ?_⟩
  rw [hc i (by omega)]
  simp [List.getD, hi]

/-- A row of the call's own, whole. -/
theorem Rd.of_block {g : Nat} {t : TypeId} {fr : Nat × Nat} {cs : Array Value} (hg : w.heap[g]? = some (.cells cs t fr)) (hl : l.length = n) (hn : n ≤ cap) (hc : cap ≤ maxLen) (h : ∀ i, i < n → cs[i]? = some (.int .u8 ((l.getD i 0).toNat : Int))) :
    Rd w (some ⟨g, 0, none⟩) n cap l :=
  ⟨hl, hn, hc, fun _ => ⟨g, 0, rfl, fun i hi => by rw [Nat.zero_add, cell_of_row w g i cs t fr hg]; exact h i hi⟩⟩

/-- string(v). -/
theorem Rd.string {P : Program} (h : Rd w A n cap l) (src dst e : TypeId) (hs : P.underlying src = some (.slice e)) (he : P.underlying e = some (.int .u8)) (hd : P.underlying dst = some .string) :
    (convert src dst (.slice A n cap)).run P w = .ok (.string ⟨l.toArray⟩) w := by
  obtain ⟨hl, h1, h2, h3⟩ := h
  subst hl
  rcases Nat.eq_zero_or_pos l.length with h0 | h0
  · have hl0 : l = [] := List.eq_nil_of_length_eq_zero h0
    subst hl0
    rw [run_convert_bytes_string w src dst e A _ cap hs he hd]
    cases A with
    | none => simp [Conv.bytesToString, Sem.run_pure]; rfl
    | some a =>
      have hlo := run_loadCells_list (P := P) w a [] (fun j v hj => by simp at hj)
      rw [run_bytesToString w a _ cap [] (by simpa using hlo)]
      rfl
  · obtain ⟨b, o, rfl, hc⟩ := h3 h0
    refine run_convert_bytes_back w src dst e ⟨b, o, none⟩ cap l hs he hd fun j hj => ?_
    have hadd : (⟨b, o, none⟩ : Addr).add j = ⟨b, o + j, none⟩ := by unfold Addr.add; split <;> simp_all
    rw [hadd, hc j hj]
    simp [List.getD, List.getElem?_eq_getElem hj]

/-- The source of a copy or an append. -/
theorem Rd.src (h : Rd w A n cap l) (h0 : 0 < (cellsOf l).length) : ∃ ad, A = some ad ∧ ∀ j v, (cellsOf l)[j]? = some v → w.cell? (ad.add j) = some v := by
  rw [cellsOf_length, h.1] at h0
  obtain ⟨b, o, rfl, hc⟩ := h.2.2.2 h0
  refine ⟨_, rfl, fun j v hj => ?_⟩
  have hadd : (⟨b, o, none⟩ : Addr).add j = ⟨b, o + j, none⟩ := by unfold Addr.add; split <;> simp_all
  have hjn : j < l.length := by
    have := (List.getElem?_eq_some_iff.1 hj).1
    simpa [cellsOf] using this
  rw [hadd, hc j (by rw [← h.1]; exact hjn)]
  simp [cellsOf, List.getElem?_eq_getElem hjn] at hj
  simp [List.getD, List.getElem?_eq_getElem hjn, hj]

/-- Block g is just the cells of the bytes l, none frozen. -/
def Row (w : World) (g : Nat) (t : TypeId) (l : List UInt8) : Prop := w.heap[g]? = some (.cells (cellsOf l).toArray t (0, 0))

section
variable {g : Nat} {t : TypeId}
theorem Row.lt (h : Row w g t l) : g < w.heap.size := (Array.getElem?_eq_some_iff.1 h).1
theorem Row.cell (h : Row w g t l) {i : Nat} (hi : i < l.length) : w.cell? ⟨g, i, none⟩ = some (.int .u8 ((l.getD i 0).toNat : Int)) := by
  rw [cell_of_row w g i _ t (0, 0) h]
  simp [cellsOf, List.getElem?_eq_getElem hi, List.getD]
theorem Row.frozen (h : Row w g t l) (i : Nat) : w.frozen? ⟨g, i, none⟩ = false := by
  unfold Row at h
  simp [World.frozen?, h]
theorem Row.rd (h : Row w g t l) (hn : l.length ≤ maxLen) : Rd w (some ⟨g, 0, none⟩) l.length l.length l :=
  Rd.of_block h rfl (Nat.le_refl _) hn fun i hi => by simp [cellsOf, List.getElem?_eq_getElem hi, List.getD]
theorem Row.set_ (h : Row w g t l) (i : Nat) (c : UInt8) : Row (w.setCell ⟨g, i, none⟩ (.int .u8 (c.toNat : Int))) g t (l.set i c) := by
  unfold Row at h ⊢
  simp only [World.setCell, Array.getElem?_modify, h]
  simp [cellsOf, List.map_set]
theorem Row.below {B : Nat} (h : Row w g t l) (hb : Below B w w') (hg : g < B) : Row w' g t l := (hb.block g hg).trans h
theorem Row.new (w : World) (t : TypeId) (l : List UInt8) : Row (w.alloc (.cells (cellsOf l).toArray t)) w.heap.size t l := heap_alloc_new w _
end

theorem grown_setCell {a w : World} {g : Nat} (h : a.grownBy w (some g)) (i : Nat) (u : Value) : a.grownBy (w.setCell ⟨g, i, none⟩ u) (some g) :=
  ⟨h.os, h.tape, h.output, by simpa [World.setCell] using h.size, fun k hk hne => (Below.heap_setCell w _ u k (fun e => hne (by simp [e]))).trans (h.block k hk hne)⟩
theorem grown_below {a w : World} (h : a.grownBy w none) : Below a.heap.size a w := ⟨h.os, h.tape, h.output, h.size, fun k hk => h.block k hk (by simp)⟩
theorem below_grown {a w : World} (h : Below a.heap.size a w) (row : Option Nat) : a.grownBy w row := ⟨h.os, h.tape, h.output, h.size, fun k hk _ => h.block k hk⟩

/-- make([]byte, k). -/
theorem run_make_bytes {P : Program} (T e : TypeId) (hT : P.underlying T = some (.slice e)) (hi : (P.info? e).map (fun i => (i.zero, i.size, i.bytes)) = some (some (.int .u8 0), 1, 1))
    (k : Nat) (hk : k ≤ 281474976710656) (x : Int) (hx : x = (k : Int)) (w : World) :
    (Instr.makeSlice T (.int .i64 x) (.int .i64 x)).run P w = .ok (.slice (some ⟨w.heap.size, 0, none⟩) k k) (w.alloc (.cells (cellsOf (List.replicate k 0)).toArray e)) := by
  subst hx
  obtain ⟨i, h1, h2, h3, h4⟩ : ∃ i, P.info? e = some i ∧ i.zero = some (.int .u8 0) ∧ i.size = 1 ∧ i.bytes = 1 := by
    cases hq : P.info? e with
    | none => simp [hq] at hi
    | some i => simp [hq] at hi; exact ⟨i, rfl, hi.1, hi.2.1, hi.2.2⟩
  rw [run_make w T e i (.int .u8 0) hT h1 h2 .i64 .i64 k k (by omega) (by omega) (by rw [h4]; omega) (by omega)]
  have hm : madeCells (Value.int .u8 0).cells ((k : Int).toNat * i.size) = (cellsOf (List.replicate k 0)).toArray := by
    apply Array.toList_inj.1
    rw [h3, Nat.mul_one, Int.toNat_natCast]
    show (madeCells #[Value.int .u8 0] k).toList = _
    rw [toList_madeCells_one]
    simp [cellsOf]
  rw [hm, Int.toNat_natCast]

/-- copy(dst, s), s a text that just fits, dst in a row of the call's own. -/
theorem wpList_copy_text {P : Program} {w : World} {ops : Array Oper} {rest : List Oper} {o : Oper} {a : Act} {Q : Exit → Act → World → Prop} (hgd : o.guard = none) (d s : Operand) (dT sT : TypeId)
    (ho : o.op = .call { callee := .builtin .copy, args := #[d, s], argTypes := #[dT, sT] }) (elem : TypeId) (hu : P.underlying dT = some (.slice elem)) (hsz : (P.info? elem).map (·.size) = some 1)
    (dp : Option Addr) (dLen dCap : Nat) (x : ByteArray) (hd : a.eval d = .slice dp dLen dCap) (hs : a.eval s = .string x)
    (g off : Nat) (L : List UInt8) (t : TypeId) (hg : Row w g t L) (hle : x.size = dLen) (hpos : 0 < x.size → dp = some ⟨g, off, none⟩) (hfit : off + x.size ≤ L.length)
    (h : ∀ w', Row w' g t (L.take off ++ (x.data.toList ++ L.drop (off + x.size))) → w.grownBy w' (some g) → wpList P ops Q rest (a.put o.dst (goInt x.size)) w') :
    wpList P ops Q (o :: rest) a w := by
  refine wpList_plain hgd fun K hK => ?_
  by_cases h0 : x.size = 0
  · have hrun := Go.Lib.run_copy_empty_string (P := P) w dT sT o.type elem dp dLen dCap x hu (by rw [hsz]; rfl) h0
    unfold Oper.wp
    simp [execOp, ho, resolve, invoke, builtin, hd, hs, hrun, Result.andThen]
    have hx : x.data.toList = [] := List.eq_nil_of_length_eq_zero (by simpa using h0)
    have := h w (by rw [hx, h0]; simpa using hg) ⟨rfl, rfl, rfl, Nat.le_refl _, fun _ _ _ => rfl⟩
    rw [h0] at this
    exact hK _ _ this
  · obtain rfl := hpos (by omega)
    have hrun := Go.Lib.run_copy_row_string (P := P) w dT sT o.type elem g off dLen dCap x _ t hu hsz hg (by omega) (by simpa [cellsOf] using hfit)
    unfold Oper.wp
    simp [execOp, ho, resolve, invoke, builtin, hd, hs, hrun, Result.andThen]
    refine hK _ _ (h _ ?_ ⟨rfl, rfl, rfl, by simp [World.setRow], fun k _ hne => setRow_other w g k _ (fun e => hne (by simp [e]))⟩)
    have e := setRow_heap w g _ (cellsOf (L.take off ++ (x.data.toList ++ L.drop (off + x.size)))).toArray t _ hg
    have e2 : List.take off (cellsOf L) ++ (Go.Lib.byteCells x.data.toList ++ List.drop (off + x.size) (cellsOf L)) = cellsOf (L.take off ++ (x.data.toList ++ L.drop (off + x.size))) := by
      simp [cellsOf, Go.Lib.byteCells]
    rw [Row, e2]
    exact e

/-- A slice's row is older than block g. -/
def Old (A : Option Addr) (g : Nat) : Prop := ∀ a, A = some a → a.block < g
theorem Old.none (g : Nat) : Old none g := fun _ h => by cases h
theorem Old.add {A : Option Addr} {g : Nat} (h : Old A g) (k : Nat) : Old (A.map (·.add k)) g := by
  intro a ha
  cases A with
  | none => cases ha
  | some b =>
    simp only [Option.map_some, Option.some.injEq] at ha
    have := h b rfl
    rw [← ha]
    unfold Addr.add
    split <;> exact this

/-- A reader behind a pointer: block g (of type T) holds a slice that reads as l, its row older than g, and whether it is bad. -/
def Rdr (w : World) (T : TypeId) (g : Nat) (l : List UInt8) (bad : Bool) : Prop :=
  ∃ A n cap, w.heap[g]? = some (.cells #[.slice A n cap, .bool bad] T (0, 0)) ∧ Rd w A n cap l ∧ Old A g

section
variable {T : TypeId} {g : Nat} {bad : Bool}
theorem two_cell {c0 c1 : Value} (h : w.heap[g]? = some (.cells #[c0, c1] T (0, 0))) : w.cell? ⟨g, 0, none⟩ = some c0 ∧ w.cell? ⟨g, 1, none⟩ = some c1 ∧ (∀ i, w.frozen? ⟨g, i, none⟩ = false) :=
  ⟨by rw [cell_of_row w g 0 _ T (0, 0) h]; rfl, by rw [cell_of_row w g 1 _ T (0, 0) h]; rfl, fun i => by simp [World.frozen?, h]⟩
theorem two_no_byte {c0 c1 : Value} (h : w.heap[g]? = some (.cells #[c0, c1] T (0, 0))) (h0 : ∀ k, c0 ≠ .int .u8 k) (h1 : ∀ k, c1 ≠ .int .u8 k) : ∀ o k, w.cell? ⟨g, o, none⟩ ≠ some (.int .u8 k) := by
  intro o k
  rw [cell_of_row w g o _ T (0, 0) h]
  match o with
  | 0 => simpa using h0 k
  | 1 => simpa using h1 k
  | n + 2 => simp
theorem two_set0 {c0 c1 v : Value} (h : w.heap[g]? = some (.cells #[c0, c1] T (0, 0))) : (w.setCell ⟨g, 0, none⟩ v).heap[g]? = some (.cells #[v, c1] T (0, 0)) := by
  simp [World.setCell, Array.getElem?_modify, h]
theorem two_set1 {c0 c1 v : Value} (h : w.heap[g]? = some (.cells #[c0, c1] T (0, 0))) : (w.setCell ⟨g, 1, none⟩ v).heap[g]? = some (.cells #[c0, v] T (0, 0)) := by
  simp [World.setCell, Array.getElem?_modify, h]
theorem Rdr.lt (h : Rdr w T g l bad) : g < w.heap.size := by
  obtain ⟨A, n, cap, hh, _⟩ := h
  exact (Array.getElem?_eq_some_iff.1 hh).1
theorem Rdr.no_byte (h : Rdr w T g l bad) : ∀ o k, w.cell? ⟨g, o, none⟩ ≠ some (.int .u8 k) := by
  obtain ⟨A, n, cap, hh, _⟩ := h
  exact two_no_byte hh (by simp) (by simp)
theorem Rdr.below (h : Rdr w T g l bad) (hb : Below w.heap.size w w') : Rdr w' T g l bad := by
  have hlt := h.lt
  obtain ⟨A, n, cap, hh, hr, ho⟩ := h
  exact ⟨A, n, cap, (hb.block g hlt).trans hh, hr.below hb, ho⟩
/-- Kept where another reader's block alone has changed. -/
theorem Rdr.grown {g' : Nat} (h : Rdr w T g l bad) (hg : w.grownBy w' (some g')) (hne : g ≠ g') (hno : ∀ o k, w.cell? ⟨g', o, none⟩ ≠ some (.int .u8 k)) : Rdr w' T g l bad := by
  have hlt := h.lt
  obtain ⟨A, n, cap, hh, hr, ho⟩ := h
  exact ⟨A, n, cap, (hg.block g hlt (by simpa using hne)).trans hh, hr.grown hg hno, ho⟩
end

end Go.Proofs.Ytlmdkbhcocfhdaa.NumMem

/-
  Opening the arguments of a statement: what a value that can be read as data is. No Go text here.
-/
namespace Go.Proofs.Ytlmdkbhcocfhdaa.Open
open Go.RowKit Go.ChangeShapes Go.WideShapes Go.Proofs.Ytlmdkbhcocfhdaa.NumMem

/-- A slice of one-cell elements: its i-th cell holds f i. -/
def Sl (w : World) (A : Option Addr) (n cap : Nat) (f : Nat → Value) : Prop :=
  n ≤ cap ∧ cap ≤ maxLen ∧ (0 < n → ∃ b o, A = some ⟨b, o, none⟩ ∧ ∀ i, i < n → w.cell? ⟨b, o + i, none⟩ = some (f i))

theorem Sl.at_ {w : World} {A : Option Addr} {n cap : Nat} {f : Nat → Value} (h : Sl w A n cap f) (hn : 0 < n) : ∃ b o, A = some ⟨b, o, none⟩ ∧ b < w.heap.size ∧ ∀ i, i < n → w.cell? ⟨b, o + i, none⟩ = some (f i) := by
  obtain ⟨b, o, rfl, hc⟩ := h.2.2 hn
  exact ⟨b, o, rfl, World.block_lt_of_cell? w _ (hc 0 hn), hc⟩

theorem Sl.below {w w' : World} {B : Nat} {A : Option Addr} {n cap : Nat} {f : Nat → Value} (h : Sl w A n cap f) (hb : Below B w w') (hB : w.heap.size ≤ B) : Sl w' A n cap f :=
  ⟨h.1, h.2.1, fun hn => by
    obtain ⟨b, o, rfl, hlt, hc⟩ := h.at_ hn
    exact ⟨b, o, rfl, fun i hi => (hb.cell (p := ⟨b, o + i, none⟩) (Nat.lt_of_lt_of_le hlt hB)).trans (hc i hi)⟩⟩

section
variable {H : Type} {enc : TypeId × Value → H} {P : Program} {W : World} {base : Nat} {t e : TypeId} {v : Value} {d : DataW H} {p : List MemPlace}

theorem op_int {k : IntKind} (ht : P.underlying t = some (.int k)) (ho : Value.okWide P W .any base t v) (h : DataW.Trod enc P W 0 (fun _ => true) true t v d p) : ∃ x, v = .int k x ∧ (Lit.int k x).wf = true := by
  obtain ⟨x, rfl, _, _, wx⟩ := open_int ht ho h
  exact ⟨x, rfl, wx⟩

theorem op_i64 (ht : P.underlying t = some (.int .i64)) (ho : Value.okWide P W .any base t v) (h : DataW.Trod enc P W 0 (fun _ => true) true t v d p) :
    ∃ x, v = .int .i64 x ∧ -9223372036854775808 ≤ x ∧ x ≤ 9223372036854775807 := by
  obtain ⟨x, rfl, wx⟩ := op_int ht ho h
  exact ⟨x, rfl, bounds_i64 wx⟩

theorem op_bool (ht : P.underlying t = some .bool) (ho : Value.okWide P W .any base t v) (h : DataW.Trod enc P W 0 (fun _ => true) true t v d p) : ∃ x, v = .bool x := by
  obtain ⟨x, rfl, _, _⟩ := open_bool ht ho h
  exact ⟨x, rfl⟩

theorem op_string (ht : P.underlying t = some .string) (ho : Value.okWide P W .any base t v) (h : DataW.Trod enc P W 0 (fun _ => true) true t v d p) : ∃ s, v = .string s ∧ s.size ≤ maxLen := by
  obtain ⟨s, rfl, _, _, hs⟩ := Go.ChangeMaps.open_string ht ho h
  exact ⟨s, rfl, hs⟩

theorem spot_none {w : World} {x : Addr} {v : Value} (h : w.cell? (x.add 0) = some v) : x = ⟨x.block, x.off, none⟩ := by
  have := World.cell?_spot h
  obtain ⟨b, o, s⟩ := x
  have hs : s = none := by simpa [Addr.add] using this
  subst hs
  rfl

theorem add_at (b o i : Nat) : (⟨b, o, none⟩ : Addr).add i = ⟨b, o + i, none⟩ := by unfold Addr.add; split <;> simp_all

/-- From cells up to the capacity to 'Sl'. -/
theorem sl_of {a : Addr} {len cap : Nat} {f : Nat → Value} (hl : len ≤ cap) (hm : cap ≤ maxLen) (hc : ∀ i, i < cap → W.cell? (a.add i) = some (f i)) : Sl W (some a) len cap f :=
  ⟨hl, hm, fun hn => by
    have e := spot_none (hc 0 (by omega))
    refine ⟨a.block, a.off, by rw [← e], fun i hi => ?_⟩
    have := hc i (by omega)
    rw [e, add_at] at this
    exact this⟩

theorem op_ints {k : IntKind} (ht : P.underlying t = some (.slice e)) (he : P.underlying e = some (.int k)) (hce : P.cellsOf e = 1) (ho : Value.okWide P W .any base t v) (h : DataW.Trod enc P W 0 (fun _ => true) true t v d p) :
    ∃ (A : Option Addr) (n cap : Nat) (zs : List Int), v = .slice A n cap ∧ zs.length = n ∧ (∀ z ∈ zs, (Lit.int k z).wf = true) ∧ Sl W A n cap (fun i => .int k (zs.getD i 0)) := by
  obtain ⟨a, len, cap, rfl⟩ := okWide_slice ht ho
  obtain ⟨fuel, hf⟩ := h
  rcases open_ints ht he hce hf with ⟨hcs, _⟩ | ⟨x, l, c, zs, hcs, _, hl, hm, hz, _, hcell, hwz⟩
  · simp [Value.cells] at hcs
    obtain ⟨rfl, rfl, rfl⟩ := hcs
    exact ⟨none, 0, 0, [], rfl, rfl, by simp, Nat.le_refl _, Nat.zero_le _, fun h => absurd h (by omega)⟩
  · simp [Value.cells] at hcs
    obtain ⟨rfl, rfl, rfl⟩ := hcs
    have hz' : zs.length = cap := by simpa using hz
    have hs := sl_of (W := W) (f := fun i => .int k (zs.getD i 0)) hl hm (by rw [← hz']; exact hcell)
    refine ⟨_, _, _, zs.take len, rfl, by simp; omega, fun z hz => hwz z (List.mem_of_mem_take hz), hs.1, hs.2.1, fun hn => ?_⟩
    obtain ⟨b, o, hA, hc⟩ := hs.2.2 hn
    refine ⟨b, o, hA, fun i hi => ?_⟩
    rw [hc i hi]
    simp [List.getD, hi]

theorem op_bytes (ht : P.underlying t = some (.slice e)) (he : P.underlying e = some (.int .u8)) (hce : P.cellsOf e = 1) (ho : Value.okWide P W .any base t v) (h : DataW.Trod enc P W 0 (fun _ => true) true t v d p) :
    ∃ (A : Option Addr) (n cap : Nat) (l : List UInt8), v = .slice A n cap ∧ Rd W A n cap l := by
  obtain ⟨A, n, cap, zs, rfl, hl, hw, hs⟩ := op_ints ht he hce ho h
  refine ⟨A, n, cap, zs.map fun z => UInt8.ofNat z.toNat, rfl, by simpa using hl, hs.1, hs.2.1, fun hn => ?_⟩
  obtain ⟨b, o, hA, hc⟩ := hs.2.2 hn
  refine ⟨b, o, hA, fun i hi => ?_⟩
  have hi' : i < zs.length := by omega
  have hb := bounds_u8 (hw zs[i] (List.getElem_mem hi'))
  rw [hc i hi]
  simp only [List.getD, List.getElem?_map, List.getElem?_eq_getElem hi', Option.map_some, Option.getD_some]
  congr 2
  have : zs[i].toNat < 256 := by omega
  simp [Nat.mod_eq_of_lt this]
  omega

theorem op_bools (ht : P.underlying t = some (.slice e)) (he : P.underlying e = some .bool) (hce : P.cellsOf e = 1) (ho : Value.okWide P W .any base t v) (h : DataW.Trod enc P W 0 (fun _ => true) true t v d p) :
    ∃ (A : Option Addr) (n cap : Nat) (B : Nat → Bool), v = .slice A n cap ∧ Sl W A n cap (fun i => .bool (B i)) := by
  obtain ⟨a, len, cap, rfl⟩ := okWide_slice ht ho
  obtain ⟨fuel, hf⟩ := h
  rcases Go.Deep.open_bools ht he hce hf with ⟨hcs, _⟩ | ⟨x, l, c, B, hcs, _, hl, hm, _, hcell⟩
  · simp [Value.cells] at hcs
    obtain ⟨rfl, rfl, rfl⟩ := hcs
    exact ⟨none, 0, 0, fun _ => false, rfl, Nat.le_refl _, Nat.zero_le _, fun h => absurd h (by omega)⟩
  · simp [Value.cells] at hcs
    obtain ⟨rfl, rfl, rfl⟩ := hcs
    exact ⟨_, _, _, B, rfl, sl_of hl hm hcell⟩

theorem op_strings (ht : P.underlying t = some (.slice e)) (he : P.underlying e = some .string) (hce : P.cellsOf e = 1) (ho : Value.okWide P W .any base t v) (h : DataW.Trod enc P W 0 (fun _ => true) true t v d p) :
    ∃ (A : Option Addr) (n cap : Nat) (ss : List ByteArray), v = .slice A n cap ∧ ss.length = n ∧ (∀ s ∈ ss, s.size ≤ maxLen) ∧ Sl W A n cap (fun i => .string (ss.getD i ByteArray.empty)) := by
  obtain ⟨a, len, cap, rfl⟩ := okWide_slice ht ho
  obtain ⟨fuel, hf⟩ := h
  rcases open_strings ht he hce hf with ⟨hcs, _⟩ | ⟨x, l, c, zs, hcs, _, hl, hm, hz, _, hcell, hwz⟩
  · simp [Value.cells] at hcs
    obtain ⟨rfl, rfl, rfl⟩ := hcs
    exact ⟨none, 0, 0, [], rfl, rfl, by simp, Nat.le_refl _, Nat.zero_le _, fun h => absurd h (by omega)⟩
  · simp [Value.cells] at hcs
    obtain ⟨rfl, rfl, rfl⟩ := hcs
    have hz' : zs.length = cap := by simpa using hz
    have hs := sl_of (W := W) (f := fun i => .string (zs.getD i ByteArray.empty)) hl hm (by rw [← hz']; exact hcell)
    refine ⟨_, _, _, zs.take len, rfl, by simp; omega, fun z hz => hwz z (List.mem_of_mem_take hz), hs.1, hs.2.1, fun hn => ?_⟩
    obtain ⟨b, o, hA, hc⟩ := hs.2.2 hn
    refine ⟨b, o, hA, fun i hi => ?_⟩
    rw [hc i hi]
    simp [List.getD, hi]
end

end Go.Proofs.Ytlmdkbhcocfhdaa.Open

/-
  Words on memory for slices of any elements: a slice that reads as a row of cells (k cells an element; nil and empty let in), rows of the call's own, append. No Go text here.
-/
namespace Go.Proofs.Ytlmdkbhcocfhdaa.MemRow
open Go.RowKit
set_option linter.unusedVariables false

/-- The slice value (A, n, cap) of elements of k cells reads as the cells cs. -/
def RdC (k : Nat) (w : World) (A : Option Addr) (n cap : Nat) (cs : List Value) : Prop :=
  cs.length = n * k ∧ n ≤ cap ∧ cap ≤ maxLen ∧ (0 < n → ∃ b o, A = some ⟨b, o, none⟩ ∧ ∀ i v, cs[i]? = some v → w.cell? ⟨b, o + i, none⟩ = some v)

variable {w w' : World} {A : Option Addr} {n cap k : Nat} {cs : List Value} {ss : List ByteArray} {fs : List (ByteArray × Int)}

theorem RdC.nil (w : World) : RdC k w none 0 0 [] := ⟨by simp, Nat.le_refl _, Nat.zero_le _, fun h => absurd h (by omega)⟩
theorem RdC.empty (w : World) (A : Option Addr) (h : cap ≤ maxLen) : RdC k w A 0 cap [] := ⟨by simp, Nat.zero_le _, h, fun h => absurd h (by omega)⟩
theorem RdC.len (h : RdC k w A n cap cs) : cs.length = n * k := h.1
theorem RdC.le_cap (h : RdC k w A n cap cs) : n ≤ cap := h.2.1
theorem RdC.cap_le (h : RdC k w A n cap cs) : cap ≤ maxLen := h.2.2.1
theorem RdC.le (h : RdC k w A n cap cs) : n ≤ maxLen := Nat.le_trans h.2.1 h.2.2.1

theorem RdC.at_ (h : RdC k w A n cap cs) (hk : 0 < k) (hn : 0 < n) : ∃ b o, A = some ⟨b, o, none⟩ ∧ b < w.heap.size ∧ ∀ i v, cs[i]? = some v → w.cell? ⟨b, o + i, none⟩ = some v := by
  obtain ⟨b, o, rfl, hc⟩ := h.2.2.2 hn
  have h0 : 0 < cs.length := by rw [h.1]; exact Nat.mul_pos hn hk
  exact ⟨b, o, rfl, World.block_lt_of_cell? w _ (hc 0 _ (List.getElem?_eq_getElem h0)), hc⟩

theorem RdC.keep (h : RdC k w A n cap cs) (hk : ∀ b o, A = some ⟨b, o, none⟩ → ∀ i v, w.cell? ⟨b, o + i, none⟩ = some v → w'.cell? ⟨b, o + i, none⟩ = some v) : RdC k w' A n cap cs :=
  ⟨h.1, h.2.1, h.2.2.1, fun hn => by
    obtain ⟨b, o, rfl, hc⟩ := h.2.2.2 hn
    exact ⟨b, o, rfl, fun i v hi => hk b o rfl i v (hc i v hi)⟩⟩

/-- As 'keep', where the slice may be empty. -/
theorem RdC.keepN (h : RdC k w A n cap cs) (hk : 0 < n → ∀ b o, A = some ⟨b, o, none⟩ → ∀ i v, w.cell? ⟨b, o + i, none⟩ = some v → w'.cell? ⟨b, o + i, none⟩ = some v) : RdC k w' A n cap cs :=
  ⟨h.1, h.2.1, h.2.2.1, fun hn => by
    obtain ⟨b, o, rfl, hc⟩ := h.2.2.2 hn
    exact ⟨b, o, rfl, fun i v hi => hk hn b o rfl i v (hc i v hi)⟩⟩

theorem RdC.below (h : RdC k w A n cap cs) (hb : Below w.heap.size w w') : RdC k w' A n cap cs :=
  h.keep fun b o _ i v hi => (hb.cell (p := ⟨b, o + i, none⟩) (World.block_lt_of_cell? w _ hi)).trans hi

theorem RdC.drewN (h : RdC k w A n cap cs) (m : Nat) : RdC k (w.drewN m) A n cap cs := h
theorem RdC.drew (h : RdC k w A n cap cs) : RdC k w.drew A n cap cs := h

/-- Kept where just block g has changed, and the slice lies in another. -/
theorem RdC.grown {row : Option Nat} (h : RdC k w A n cap cs) (hg : w.grownBy w' row) (hne : ∀ b o, A = some ⟨b, o, none⟩ → some b ≠ row) : RdC k w' A n cap cs :=
  h.keep fun b o hA i v hi => hg.cell hi (hne b o hA)

theorem add_plain (b o i : Nat) : (⟨b, o, none⟩ : Addr).add i = ⟨b, o + i, none⟩ := by unfold Addr.add; split <;> simp_all

/-- v[m:]. The model keeps the address where m is the capacity. -/
theorem RdC.cut (h : RdC k w A n cap cs) {m : Nat} (hm : m ≤ n) : RdC k w (if cap = m then A else A.map (·.add (m * k))) (n - m) (cap - m) (cs.drop (m * k)) := by
  refine ⟨by rw [List.length_drop, h.1, Nat.sub_mul], by have := h.2.1; omega, by have := h.2.2.1; omega, fun hn => ?_⟩
  obtain ⟨b, o, rfl, hc⟩ := h.2.2.2 (by omega)
  have := h.2.1
  rw [if_neg (by omega)]
  refine ⟨b, o + m * k, by simp [Addr.add], fun i v hi => ?_⟩
  rw [List.getElem?_drop] at hi
  rw [Nat.add_assoc]
  exact hc _ v hi

/-- v[:m]. -/
theorem RdC.first (h : RdC k w A n cap cs) {m : Nat} (hm : m ≤ n) : RdC k w A m cap (cs.take (m * k)) := by
  have hmk : m * k ≤ n * k := Nat.mul_le_mul_right k hm
  refine ⟨by rw [List.length_take, h.1]; omega, by have := h.2.1; omega, h.2.2.1, fun hn => ?_⟩
  obtain ⟨b, o, rfl, hc⟩ := h.2.2.2 (by omega)
  refine ⟨b, o, rfl, fun i v hi => hc i v ?_⟩
  by_cases h1 : i < m * k
  · rwa [List.getElem?_take_of_lt h1] at hi
  · rw [List.getElem?_eq_none (by rw [List.length_take]; omega)] at hi
    cases hi

theorem RdC.of_block {g : Nat} {t : TypeId} {fr : Nat × Nat} {ar : Array Value} (hg : w.heap[g]? = some (.cells ar t fr)) (hl : cs.length = n * k) (hn : n ≤ cap) (hc : cap ≤ maxLen) (h : ∀ (i : Nat) (v : Value), cs[i]? = some v → ar[i]? = some v) :
    RdC k w (some ⟨g, 0, none⟩) n cap cs :=
  ⟨hl, hn, hc, fun _ => ⟨g, 0, rfl, fun i v hi => by rw [Nat.zero_add, cell_of_row w g i ar t fr hg]; exact h i v hi⟩⟩

/-- A new row. -/
theorem RdC.new (w : World) (t : TypeId) (cs : List Value) (hl : cs.length = n * k) (hn : n ≤ maxLen) : RdC k (w.alloc (.cells cs.toArray t)) (some ⟨w.heap.size, 0, none⟩) n n cs :=
  RdC.of_block (heap_alloc_new w _) hl (Nat.le_refl _) hn fun i v hi => by simpa using hi

/-- A slice of the call's own (its block from 'base' on) that holds the cells cs. -/
def OwnC (k : Nat) (w : World) (base : Nat) (t : TypeId) (A : Option Addr) (n cap : Nat) (cs : List Value) : Prop := w.ownsRow base t k (.slice A n cap) n cs

variable {base : Nat} {t : TypeId}

theorem OwnC.len (h : OwnC k w base t A n cap cs) : cs.length = n * k := h.1

theorem OwnC.rd (h : OwnC k w base t A n cap cs) : RdC k w A n cap cs := by
  have hl := h.len
  rcases h.2 with ⟨hv, hn⟩ | ⟨g, c, cur, hv, hb, hg, hnc, hcm, hcs, htake⟩
  · injection hv with e1 e2 e3
    subst e1 e3
    refine ⟨hl, by omega, Nat.zero_le _, fun h0 => absurd h0 (by omega)⟩
  · injection hv with e1 e2 e3
    subst e1 e3
    refine RdC.of_block hg hl hnc hcm fun i v hi => ?_
    rw [← htake] at hi
    have hlt : i < n * k := by
      have := (List.getElem?_eq_some_iff.1 hi).1
      rw [List.length_take] at this
      omega
    rw [List.getElem?_take_of_lt hlt] at hi
    simpa using hi

theorem OwnC.lt (h : OwnC k w base t A n cap cs) : ∀ a, A = some a → base ≤ a.block ∧ a.block < w.heap.size := by
  rintro a rfl
  exact World.ownsRow.lt h a.block rfl

theorem OwnC.below (h : OwnC k w base t A n cap cs) (hb : Below w.heap.size w w') : OwnC k w' base t A n cap cs := World.ownsRow.kept h (below_grown_ hb) (by
  cases hv : (Value.slice A n cap).ownBlock <;> simp)
where below_grown_ (hb : Below w.heap.size w w') : w.grownBy w' none := ⟨hb.os, hb.tape, hb.output, hb.size, fun j hj _ => hb.block j hj⟩

theorem OwnC.nil (w : World) (t : TypeId) : OwnC k w base t none 0 0 [] := ⟨by simp, .inl ⟨rfl, rfl⟩⟩

theorem OwnC.empty (w : World) (t : TypeId) (hb : base ≤ w.heap.size) : OwnC k (w.alloc (.cells #[] t)) base t (some ⟨w.heap.size, 0, none⟩) 0 0 [] :=
  ⟨by simp, .inr ⟨w.heap.size, 0, #[], rfl, hb, heap_alloc_new w _, Nat.le_refl _, Nat.zero_le _, by simp, by simp⟩⟩

/-- A row of the call's own stays where another one of the call's own has grown. -/
theorem OwnC.grown {row : Option Nat} (h : OwnC k w base t A n cap cs) (hg : w.grownBy w' row) (hne : ∀ a, A = some a → some a.block ≠ row) : OwnC k w' base t A n cap cs := World.ownsRow.kept h hg (by
  cases A with
  | none => simp [Value.ownBlock]
  | some a => right; simpa [Value.ownBlock] using hne a rfl)

section
variable {P : Program}
/-- append: of a row of the call's own and what reads as cells. -/
theorem run_append_cells (T ty e : TypeId) (z : Value) (by_ : Nat) (hT : P.underlying T = some (.slice e)) (hi : (P.info? e).map (fun i => (i.zero, i.size, i.bytes)) = some (some z, k, by_)) (hzk : z.cells.size = k) (hk : 0 < k)
    (hown : OwnC k w base e A n cap cs) {B : Option Addr} {m c : Nat} {ds : List Value} (hr : RdC k w B m c ds) (h1 : ∀ v ∈ ds, v.oneCell' = true) (h63 : n + m ≤ maxLen) (hsz : (n + m) * by_ ≤ 140737488355328) (hbase : base ≤ w.heap.size) :
    ∃ A' cap' w', (Builtin.append_ #[T, T] ty #[.slice A n cap, .slice B m c]).run P w = .ok (.slice A' (n + m) cap') w' ∧ OwnC k w' base e A' (n + m) cap' (cs ++ ds) ∧ w.grownBy w' (A.map (·.block)) ∧ (A'.map (·.block) = A.map (·.block) ∨ A'.map (·.block) = some w.heap.size) := by
  obtain ⟨i, g1, g2, g3, g4⟩ : ∃ i, P.info? e = some i ∧ i.zero = some z ∧ i.size = k ∧ i.bytes = by_ := by
    cases hq : P.info? e with
    | none => simp [hq] at hi
    | some i => simp [hq] at hi; exact ⟨i, rfl, hi.1, hi.2.1, hi.2.2⟩
  have ob : (Value.slice A n cap).ownBlock = A.map (·.block) := by cases A <;> rfl
  have done : ∀ v' w2, (Builtin.append_ #[T, T] ty #[.slice A n cap, .slice B m c]).run P w = .ok v' w2 → w2.ownsRow base e k v' (n + m) (cs ++ ds) → w.grownBy w2 (Value.slice A n cap).ownBlock → (v'.ownBlock = (Value.slice A n cap).ownBlock ∨ v'.ownBlock = some w.heap.size) →
      ∃ A' cap' w', (Builtin.append_ #[T, T] ty #[.slice A n cap, .slice B m c]).run P w = .ok (.slice A' (n + m) cap') w' ∧ OwnC k w' base e A' (n + m) cap' (cs ++ ds) ∧ w.grownBy w' (A.map (·.block)) ∧ (A'.map (·.block) = A.map (·.block) ∨ A'.map (·.block) = some w.heap.size) := by
    intro v' w2 hrun ho hg hbl
    rw [ob] at hg hbl
    rcases ho.2 with ⟨rfl, hn⟩ | ⟨g, c2, cur, rfl, hrest⟩
    · refine ⟨none, 0, w2, by rw [hrun, hn], ?_, hg, hbl⟩
      rw [hn] at ho ⊢
      exact ho
    · exact ⟨_, c2, w2, hrun, ho, hg, hbl⟩
  cases B with
  | none =>
    have hm : m = 0 := by
      rcases Nat.eq_zero_or_pos m with h0 | h0
      · exact h0
      · obtain ⟨b, o, h, _⟩ := hr.2.2.2 h0
        cases h
    subst hm
    have hd : ds = [] := List.eq_nil_of_length_eq_zero (by rw [hr.1]; simp)
    subst hd
    refine done (.slice A n cap) w ?_ (by simpa [OwnC] using hown) (World.grownBy.refl _ _) (.inl rfl)
    have hown' := hown
    rcases hown'.2 with ⟨hv, rfl⟩ | ⟨g, c2, cur, hv, _, _, hnc, _⟩
    · injection hv with e1 e2 e3
      subst e1 e3
      simp [Builtin.append_, run_underlying hT, sizeOf, typeInfo, g1, Builtin.lenOf, Builtin.firstCells]
    · injection hv with e1 e2 e3
      subst e1 e3
      simp [Builtin.append_, run_underlying hT, sizeOf, typeInfo, g1, Builtin.lenOf, Builtin.firstCells, hnc, storeCells]
  | some ad =>
    have hsrc : ∀ j u, ds[j]? = some u → w.cell? (ad.add j) = some u := by
      intro j u hu
      have hm : 0 < m := by
        have := (List.getElem?_eq_some_iff.1 hu).1
        rw [hr.1] at this
        exact Nat.pos_of_mul_pos_right (by omega : 0 < m * k) |> fun h => h
      obtain ⟨b, o, h, hc⟩ := hr.2.2.2 hm
      injection h with h
      subst h
      rw [add_plain]
      exact hc j u hu
    obtain ⟨v', w2, hrun, ho, hg, _, hbl⟩ := run_append_own_at (P := P) w base T ty e i z k by_ hT g1 g2 g3 g4 hzk hk _ n _ hown ad m c ds hr.1 hsrc h1 h63 hsz hbase
    exact done v' w2 hrun ho hg hbl

theorem wp_append_cells {o : Oper} {a : Act} {K : Act → World → Prop} {Q : Exit → Act → World → Prop} (s x : Operand) (T : TypeId)
    (ho : o.op = .call { callee := .builtin .append, args := #[s, x], argTypes := #[T, T] }) (e : TypeId) (z : Value) (by_ : Nat) (hT : P.underlying T = some (.slice e)) (hi : (P.info? e).map (fun i => (i.zero, i.size, i.bytes)) = some (some z, k, by_)) (hzk : z.cells.size = k) (hk : 0 < k)
    (hs : a.eval s = .slice A n cap) {B : Option Addr} {m c : Nat} {ds : List Value} (hx : a.eval x = .slice B m c) (hown : OwnC k w base e A n cap cs) (hr : RdC k w B m c ds) (h1 : ∀ v ∈ ds, v.oneCell' = true) (h63 : n + m ≤ maxLen) (hsz : (n + m) * by_ ≤ 140737488355328) (hbase : base ≤ w.heap.size)
    (h : ∀ A' cap' w', OwnC k w' base e A' (n + m) cap' (cs ++ ds) → w.grownBy w' (A.map (·.block)) → (A'.map (·.block) = A.map (·.block) ∨ A'.map (·.block) = some w.heap.size) → K (a.put o.dst (.slice A' (n + m) cap')) w') : o.wp P a w K Q := by
  obtain ⟨A', cap', w', hrun, h2, h3, h4⟩ := run_append_cells (P := P) T o.type e z by_ hT hi hzk hk hown hr h1 h63 hsz hbase
  unfold Oper.wp execOp
  simp only [ho, resolve, invoke, builtin, Sem.run_bind, Sem.run_pure, Result.andThen_ok, List.map_toArray, List.map_cons, List.map_nil, hs, hx, hrun]
  exact h A' cap' w' h2 h3 h4

theorem wpList_append_cells {ops : Array Oper} {rest : List Oper} {o : Oper} {a : Act} {Q : Exit → Act → World → Prop} (hgd : o.guard = none) (s x : Operand) (T : TypeId)
    (ho : o.op = .call { callee := .builtin .append, args := #[s, x], argTypes := #[T, T] }) (e : TypeId) (z : Value) (by_ : Nat) (hT : P.underlying T = some (.slice e)) (hi : (P.info? e).map (fun i => (i.zero, i.size, i.bytes)) = some (some z, k, by_)) (hzk : z.cells.size = k) (hk : 0 < k)
    (hs : a.eval s = .slice A n cap) {B : Option Addr} {m c : Nat} {ds : List Value} (hx : a.eval x = .slice B m c) (hown : OwnC k w base e A n cap cs) (hr : RdC k w B m c ds) (h1 : ∀ v ∈ ds, v.oneCell' = true) (h63 : n + m ≤ maxLen) (hsz : (n + m) * by_ ≤ 140737488355328) (hbase : base ≤ w.heap.size)
    (h : ∀ A' cap' w', OwnC k w' base e A' (n + m) cap' (cs ++ ds) → w.grownBy w' (A.map (·.block)) → (A'.map (·.block) = A.map (·.block) ∨ A'.map (·.block) = some w.heap.size) → wpList P ops Q rest (a.put o.dst (.slice A' (n + m) cap')) w') : wpList P ops Q (o :: rest) a w :=
  wpList_plain hgd fun _ hK => wp_append_cells s x T ho e z by_ hT hi hzk hk hs hx hown hr h1 h63 hsz hbase fun A' cap' w' h2 h3 h4 => hK _ _ (h A' cap' w' h2 h3 h4)

theorem step_append_cells {ops : Array Oper} {o : Oper} {a : Act} {K : Act → World → Prop} {Q : Exit → Act → World → Prop} {E : Prop} (hw : Region.wanted o (yielded ops a.tmps) = true) (s x : Operand) (T : TypeId)
    (ho : o.op = .call { callee := .builtin .append, args := #[s, x], argTypes := #[T, T] }) (e : TypeId) (z : Value) (by_ : Nat) (hT : P.underlying T = some (.slice e)) (hi : (P.info? e).map (fun i => (i.zero, i.size, i.bytes)) = some (some z, k, by_)) (hzk : z.cells.size = k) (hk : 0 < k)
    (hs : a.eval s = .slice A n cap) {B : Option Addr} {m c : Nat} {ds : List Value} (hx : a.eval x = .slice B m c) (hown : OwnC k w base e A n cap cs) (hr : RdC k w B m c ds) (h1 : ∀ v ∈ ds, v.oneCell' = true) (h63 : n + m ≤ maxLen) (hsz : (n + m) * by_ ≤ 140737488355328) (hbase : base ≤ w.heap.size)
    (h : ∀ A' cap' w', OwnC k w' base e A' (n + m) cap' (cs ++ ds) → w.grownBy w' (A.map (·.block)) → (A'.map (·.block) = A.map (·.block) ∨ A'.map (·.block) = some w.heap.size) → K (a.put o.dst (.slice A' (n + m) cap')) w') :
    if Region.wanted o (yielded ops a.tmps) = true then Oper.wp P o a w K Q else E := by
  rw [if_pos hw]
  exact wp_append_cells s x T ho e z by_ hT hi hzk hk hs hx hown hr h1 h63 hsz hbase h
end

/-- Below, where a row of the call's own has grown. -/
theorem below_grown_own (hown : OwnC k w base t A n cap cs) {w0 : World} (hb : Below base w0 w) (hg : w.grownBy w' (A.map (·.block))) (hbase : base ≤ w.heap.size) : Below base w0 w' :=
  hb.grown hg hbase fun g hg' => by
    cases A with
    | none => simp at hg'
    | some a =>
      simp only [Option.map_some, Option.some.injEq] at hg'
      subst hg'
      exact (hown.lt a rfl).1

section
variable {P : Program}
theorem run_size {e : TypeId} (hi : (P.info? e).map (·.size) = some k) (W : World) : (sizeOf e).run P W = .ok k W := by
  cases hq : P.info? e with
  | none => simp [hq] at hi
  | some i =>
    have hs : i.size = k := by simpa [hq] using hi
    simp [sizeOf, typeInfo, hq, hs]
/-- v[m:] -/
theorem slice_lo (T e : TypeId) (hT : P.underlying T = some (.slice e)) (he : P.elem T = e) (hi : (P.info? e).map (·.size) = some k) (h : RdC k w A n cap cs) {m : Nat} (hm : m ≤ n) :
    ∃ A1, (∀ W, (Instr.slice T (.slice A n cap) (some (.int .i64 (m : Int))) none none).run P W = .ok (.slice A1 (n - m) (cap - m)) W) ∧ RdC k w A1 (n - m) (cap - m) (cs.drop (m * k)) := by
  refine ⟨_, fun W => ?_, h.cut hm⟩
  have hu : P.underlying T = some (.slice (P.elem T)) := by rw [he]; exact hT
  rw [run_slice_l (P := P) W T _ n cap hu .i64 (m : Int) (by omega) (by omega), he, run_size hi]
  simp only [Result.andThen, sliced, Int.toNat_natCast]
/-- v[:m] -/
theorem slice_hi (T e : TypeId) (hT : P.underlying T = some (.slice e)) (he : P.elem T = e) (hi : (P.info? e).map (·.size) = some k) (h : RdC k w A n cap cs) {m : Nat} (hm : m ≤ n) :
    (∀ W, (Instr.slice T (.slice A n cap) none (some (.int .i64 (m : Int))) none).run P W = .ok (.slice A m cap) W) ∧ RdC k w A m cap (cs.take (m * k)) := by
  refine ⟨fun W => ?_, h.first hm⟩
  have hc := h.le_cap
  have hu : P.underlying T = some (.slice (P.elem T)) := by rw [he]; exact hT
  have e0 : A.map (·.add 0) = A := by cases A <;> simp [Addr.add]
  rw [run_slice_h (P := P) W T _ n cap hu .i64 (m : Int) (by omega) (by omega), he, run_size hi]
  simp only [Result.andThen, sliced, Int.toNat_natCast, Nat.zero_mul, e0, Nat.sub_zero]
  congr 2
  split <;> rfl
end

/-- append([]T{}, x...): a copy. -/
theorem wpList_copy_cells {P : Program} {ops : Array Oper} {rest : List Oper} {o : Oper} {a : Act} {Q : Exit → Act → World → Prop} (hgd : o.guard = none) (s x : Operand) (T : TypeId)
    (ho : o.op = .call { callee := .builtin .append, args := #[s, x], argTypes := #[T, T] }) (e : TypeId) (z : Value) (by_ : Nat) (hT : P.underlying T = some (.slice e)) (hi : (P.info? e).map (fun i => (i.zero, i.size, i.bytes)) = some (some z, k, by_)) (hzk : z.cells.size = k) (hk : 0 < k)
    {c0 : Nat} (hs : a.eval s = .slice A 0 c0) {B : Option Addr} {m c : Nat} {ds : List Value} (hx : a.eval x = .slice B m c) (hown : OwnC k w base e A 0 c0 []) (hr : RdC k w B m c ds) (h1 : ∀ v ∈ ds, v.oneCell' = true) (h63 : m ≤ maxLen) (hsz : m * by_ ≤ 140737488355328) (hbase : base ≤ w.heap.size) {w0 : World} (hb : Below base w0 w)
    (h : ∀ A' cap' w', OwnC k w' base e A' m cap' ds → Below base w0 w' → wpList P ops Q rest (a.put o.dst (.slice A' m cap')) w') : wpList P ops Q (o :: rest) a w :=
  wpList_append_cells hgd s x T ho e z by_ hT hi hzk hk hs hx hown hr h1 (by omega) (by rw [Nat.zero_add]; exact hsz) hbase fun A' cap' w' h2 h3 _ => by
    have h4 := h A' cap' w' (by simpa using h2) (below_grown_own hown hb h3 hbase)
    rw [Nat.zero_add]
    exact h4
/-- append(v, x...), v of the call's own. -/
theorem wpList_more_cells {P : Program} {ops : Array Oper} {rest : List Oper} {o : Oper} {a : Act} {Q : Exit → Act → World → Prop} (hgd : o.guard = none) (s x : Operand) (T : TypeId)
    (ho : o.op = .call { callee := .builtin .append, args := #[s, x], argTypes := #[T, T] }) (e : TypeId) (z : Value) (by_ : Nat) (hT : P.underlying T = some (.slice e)) (hi : (P.info? e).map (fun i => (i.zero, i.size, i.bytes)) = some (some z, k, by_)) (hzk : z.cells.size = k) (hk : 0 < k)
    (hs : a.eval s = .slice A n cap) {B : Option Addr} {m c : Nat} {ds : List Value} (hx : a.eval x = .slice B m c) (hown : OwnC k w base e A n cap cs) (hr : RdC k w B m c ds) (h1 : ∀ v ∈ ds, v.oneCell' = true) (h63 : n + m ≤ maxLen) (hsz : (n + m) * by_ ≤ 140737488355328) (hbase : base ≤ w.heap.size) {w0 : World} (hb : Below base w0 w)
    (h : ∀ A' cap' w', OwnC k w' base e A' (n + m) cap' (cs ++ ds) → Below base w0 w' → w.grownBy w' (A.map (·.block)) → wpList P ops Q rest (a.put o.dst (.slice A' (n + m) cap')) w') : wpList P ops Q (o :: rest) a w :=
  wpList_append_cells hgd s x T ho e z by_ hT hi hzk hk hs hx hown hr h1 h63 hsz hbase fun A' cap' w' h2 h3 _ => h A' cap' w' h2 (below_grown_own hown hb h3 hbase) h3

/-! ### Texts, and numbers with a name -/

def strs (ss : List ByteArray) : List Value := ss.map .string
theorem strs_length (ss : List ByteArray) : (strs ss).length = ss.length := by simp [strs]
theorem strs_append (a b : List ByteArray) : strs (a ++ b) = strs a ++ strs b := by simp [strs]
theorem strs_one (ss : List ByteArray) : ∀ v ∈ strs ss, v.oneCell' = true := by
  intro v hv
  simp only [strs, List.mem_map] at hv
  obtain ⟨c, _, rfl⟩ := hv
  rfl
theorem strs_take (ss : List ByteArray) (i : Nat) : (strs ss).take (i * 1) = strs (ss.take i) := by simp [strs]
theorem strs_drop (ss : List ByteArray) (i : Nat) : (strs ss).drop (i * 1) = strs (ss.drop i) := by simp [strs]

/-- A slice of texts. -/
def RdS (w : World) (A : Option Addr) (n cap : Nat) (ss : List ByteArray) : Prop := RdC 1 w A n cap (strs ss)
theorem RdS.len (h : RdS w A n cap ss) : ss.length = n := by have := h.1; rw [strs_length] at this; omega
theorem RdS.at_ (h : RdS w A n cap ss) (hn : 0 < n) : ∃ b o, A = some ⟨b, o, none⟩ ∧ b < w.heap.size ∧ ∀ i, i < n → w.cell? ⟨b, o + i, none⟩ = some (.string (ss.getD i ByteArray.empty)) := by
  obtain ⟨b, o, rfl, hb, hc⟩ := RdC.at_ h (by omega) hn
  refine ⟨b, o, rfl, hb, fun i hi => hc i _ ?_⟩
  have hi' : i < ss.length := by rw [h.len]; exact hi
  simp [strs, List.getD, List.getElem?_eq_getElem hi']

def fld (f : ByteArray × Int) : List Value := [.string f.1, .int .i64 f.2]
def flds (fs : List (ByteArray × Int)) : List Value := fs.flatMap fld
theorem flds_length (fs : List (ByteArray × Int)) : (flds fs).length = fs.length * 2 := by
  induction fs with
  | nil => rfl
  | cons f fs ih => rw [flds, List.flatMap_cons, List.length_append, ← flds, ih]; simp [fld]; omega
theorem flds_append (a b : List (ByteArray × Int)) : flds (a ++ b) = flds a ++ flds b := by simp [flds]
theorem flds_one (fs : List (ByteArray × Int)) : ∀ v ∈ flds fs, v.oneCell' = true := by
  intro v hv
  simp only [flds, List.mem_flatMap, fld] at hv
  obtain ⟨c, _, hv⟩ := hv
  simp at hv
  rcases hv with rfl | rfl <;> rfl
theorem flds_take (fs : List (ByteArray × Int)) : ∀ i : Nat, (flds fs).take (i * 2) = flds (fs.take i) := by
  induction fs with
  | nil => intro i; simp [flds]
  | cons f fs ih =>
    intro i
    cases i with
    | zero => simp [flds]
    | succ i =>
      have e : (i + 1) * 2 = i * 2 + 2 := by omega
      rw [e, List.take_succ_cons, show flds (f :: fs) = Value.string f.1 :: Value.int .i64 f.2 :: flds fs from rfl, List.take_succ_cons, List.take_succ_cons, ih i]
      rfl
theorem flds_drop (fs : List (ByteArray × Int)) : ∀ i : Nat, (flds fs).drop (i * 2) = flds (fs.drop i) := by
  induction fs with
  | nil => intro i; simp [flds]
  | cons f fs ih =>
    intro i
    cases i with
    | zero => simp
    | succ i =>
      have e : (i + 1) * 2 = i * 2 + 2 := by omega
      rw [e, List.drop_succ_cons, show flds (f :: fs) = Value.string f.1 :: Value.int .i64 f.2 :: flds fs from rfl, List.drop_succ_cons, List.drop_succ_cons, ih i]
theorem flds_get (fs : List (ByteArray × Int)) : ∀ i : Nat, i < fs.length → (flds fs)[i * 2]? = some (.string (fs.getD i (ByteArray.empty, 0)).1) ∧ (flds fs)[i * 2 + 1]? = some (.int .i64 (fs.getD i (ByteArray.empty, 0)).2) := by
  induction fs with
  | nil => intro i hi; simp at hi
  | cons f fs ih =>
    intro i hi
    cases i with
    | zero => exact ⟨rfl, rfl⟩
    | succ i =>
      have e : (i + 1) * 2 = i * 2 + 2 := by omega
      have hi' : i < fs.length := by simpa using hi
      rw [e, show flds (f :: fs) = Value.string f.1 :: Value.int .i64 f.2 :: flds fs from rfl]
      have := ih i hi'
      simpa using this

/-- A slice of numbers with a name. -/
def RdF (w : World) (A : Option Addr) (n cap : Nat) (fs : List (ByteArray × Int)) : Prop := RdC 2 w A n cap (flds fs)
theorem RdF.len (h : RdF w A n cap fs) : fs.length = n := by have := h.1; rw [flds_length] at this; omega
theorem RdF.at_ (h : RdF w A n cap fs) (hn : 0 < n) : ∃ b o, A = some ⟨b, o, none⟩ ∧ b < w.heap.size ∧ ∀ i, i < n → w.cell? ⟨b, o + i * 2, none⟩ = some (.string (fs.getD i (ByteArray.empty, 0)).1) ∧ w.cell? ⟨b, o + i * 2 + 1, none⟩ = some (.int .i64 (fs.getD i (ByteArray.empty, 0)).2) := by
  obtain ⟨b, o, rfl, hb, hc⟩ := RdC.at_ h (by omega) hn
  refine ⟨b, o, rfl, hb, fun i hi => ?_⟩
  have hg := flds_get fs i (by rw [h.len]; exact hi)
  exact ⟨hc _ _ hg.1, by rw [Nat.add_assoc]; exact hc _ _ hg.2⟩

theorem RdF.get {b o : Nat} (h : RdF w (some ⟨b, o, none⟩) n cap fs) {i : Nat} (hi : i < n) : w.cell? ⟨b, o + i * 2, none⟩ = some (.string (fs.getD i (ByteArray.empty, 0)).1) ∧ w.cell? ⟨b, o + i * 2 + 1, none⟩ = some (.int .i64 (fs.getD i (ByteArray.empty, 0)).2) := by
  obtain ⟨b', o', e, _, hc⟩ := h.at_ (by omega)
  injection e with e
  injection e with e1 e2
  subst e1 e2
  exact hc i hi
theorem RdS.get {b o : Nat} (h : RdS w (some ⟨b, o, none⟩) n cap ss) {i : Nat} (hi : i < n) : w.cell? ⟨b, o + i, none⟩ = some (.string (ss.getD i ByteArray.empty)) := by
  obtain ⟨b', o', e, _, hc⟩ := h.at_ (by omega)
  injection e with e
  injection e with e1 e2
  subst e1 e2
  exact hc i hi
theorem bcell {b o : Nat} {v : Value} (hb : Below w.heap.size w w') (hc : w.cell? ⟨b, o, none⟩ = some v) : w'.cell? ⟨b, o, none⟩ = some v := (hb.cell (p := ⟨b, o, none⟩) (World.block_lt_of_cell? w _ hc)).trans hc

end Go.Proofs.Ytlmdkbhcocfhdaa.MemRow

/-
  Events as data; opening an argument that is an event.
-/
namespace Go.Proofs.Ytlmdkbhcocfhdaa.Ev
open Go.RowKit Go.ChangeShapes Go.WideShapes Go.Joins Go.Deep Go.Proofs.Ytlmdkbhcocfhdaa.MemRow Go.Proofs.Ytlmdkbhcocfhdaa.Open

/-- An event as data. -/
structure Ev where
  s : ByteArray
  t : ByteArray
  tags : List ByteArray
  fs : List (ByteArray × Int)

/-- The value v is the event e. -/
def IsEv (w : World) (v : Value) (e : Ev) : Prop :=
  ∃ A n ca B m cb, v = .agg #[.string e.s, .string e.t, .slice A n ca, .slice B m cb] ∧ RdS w A n ca e.tags ∧ RdF w B m cb e.fs

/-- All of it is of a size that a machine has. -/
structure EvOk (e : Ev) : Prop where
  s : e.s.size ≤ maxLen
  t : e.t.size ≤ maxLen
  tags : ∀ x ∈ e.tags, x.size ≤ maxLen
  names : ∀ f ∈ e.fs, f.1.size ≤ maxLen
  nums : ∀ f ∈ e.fs, -9223372036854775808 ≤ f.2 ∧ f.2 ≤ 9223372036854775807

theorem IsEv.below {w w' : World} {v : Value} {e : Ev} (h : IsEv w v e) (hb : Below w.heap.size w w') : IsEv w' v e := by
  obtain ⟨A, n, ca, B, m, cb, rfl, h1, h2⟩ := h
  exact ⟨A, n, ca, B, m, cb, rfl, RdC.below h1 hb, RdC.below h2 hb⟩

section
variable {H : Type} {enc : TypeId × Value → H} {P : Program} {W : World} {base : Nat} {t e : TypeId} {v : Value} {d : DataW H} {p : List MemPlace}

/-- A slice of texts that came in. -/
theorem tr_strs {fuel : Nat} {y : DataW H × List MemPlace} (ht : P.underlying t = some (.slice e)) (he : P.underlying e = some .string) (hce : P.cellsOf e = 1) (h : DataW.trod enc P W 0 (fun _ => true) true fuel t [v] = some y) :
    ∃ A n ca ss, v = .slice A n ca ∧ RdS W A n ca ss ∧ ∀ x ∈ ss, x.size ≤ maxLen := by
  rcases open_strings ht he hce h with ⟨hcs, _⟩ | ⟨x, l, c, zs, hcs, _, hl, hm, hz, _, hcell, hwz⟩
  · simp only [List.cons.injEq, and_true] at hcs
    subst hcs
    exact ⟨none, 0, 0, [], rfl, RdC.nil W, by simp⟩
  · simp only [List.cons.injEq, and_true] at hcs
    subst hcs
    have hz' : zs.length = c := by simpa using hz
    refine ⟨_, l, c, zs.take l, rfl, ⟨by rw [strs_length, List.length_take]; omega, hl, hm, fun hn => ?_⟩, fun s hs => hwz s (List.mem_of_mem_take hs)⟩
    have e0 := spot_none (hcell 0 (by omega))
    refine ⟨x.block, x.off, by rw [← e0], fun i u hi => ?_⟩
    have hi' : i < (zs.take l).length := by
      have := (List.getElem?_eq_some_iff.1 hi).1
      rwa [strs_length] at this
    rw [List.length_take] at hi'
    have hc := hcell i (by omega)
    rw [e0, add_at] at hc
    rw [hc]
    have h1 : i < l := by omega
    have h2 : i < zs.length := by omega
    simp [MemRow.strs, h1, List.getElem?_eq_getElem h2] at hi
    simp [List.getD, List.getElem?_eq_getElem h2, hi]

/-- A slice of numbers with a name that came in. -/
theorem tr_flds {f0 f1 : Field} {fuel : Nat} {y : DataW H × List MemPlace} (ht : P.underlying t = some (.slice e)) (he : P.underlying e = some (.struct #[f0, f1]))
    (ce : P.cellsOf e = 2) (o0 : f0.offset = 0) (o1 : f1.offset = 1) (c0 : P.cellsOf f0.type = 1) (c1 : P.cellsOf f1.type = 1) (t0 : P.underlying f0.type = some .string) (t1 : P.underlying f1.type = some (.int .i64))
    (h : DataW.trod enc P W 0 (fun _ => true) true fuel t [v] = some y) :
    ∃ A n ca fs, v = .slice A n ca ∧ RdF W A n ca fs ∧ (∀ f ∈ fs, f.1.size ≤ maxLen) ∧ ∀ f ∈ fs, -9223372036854775808 ≤ f.2 ∧ f.2 ≤ 9223372036854775807 := by
  rcases open_slice_pairs ht he ce o0 o1 c0 c1 h with ⟨hcs, _⟩ | ⟨a, l, c, m, nn, V0, V1, D0, D1, P0, P1, hcs, _, hl, hm, hmm, _, hx⟩
  · simp only [List.cons.injEq, and_true] at hcs
    subst hcs
    exact ⟨none, 0, 0, [], rfl, RdC.nil W, by simp, by simp⟩
  · simp only [List.cons.injEq, and_true] at hcs
    subst hcs
    have hm' : m = c := by simpa using hmm
    subst hm'
    have each : ∀ i, i < m → ∃ f : ByteArray × Int, V0 i = .string f.1 ∧ V1 i = .int .i64 f.2 ∧ f.1.size ≤ maxLen ∧ -9223372036854775808 ≤ f.2 ∧ f.2 ≤ 9223372036854775807 := by
      intro i hi
      obtain ⟨_, _, h0, h1⟩ := hx i hi
      obtain ⟨s, e0, _, ws⟩ := DataW.trod_string t0 h0
      obtain ⟨z, e1, _, wz⟩ := DataW.trod_int t1 h1
      have b := bounds_i64 wz
      injection e0 with e0
      injection e1 with e1
      exact ⟨(s, z), e0, e1, ws, b.1, b.2⟩
    have hex : ∃ F : Nat → ByteArray × Int, ∀ i, i < m → V0 i = .string (F i).1 ∧ V1 i = .int .i64 (F i).2 ∧ (F i).1.size ≤ maxLen ∧ -9223372036854775808 ≤ (F i).2 ∧ (F i).2 ≤ 9223372036854775807 :=
      ⟨fun i => if hi : i < m then (each i hi).choose else (ByteArray.empty, 0), fun i hi => by simp only [hi, dif_pos]; exact (each i hi).choose_spec⟩
    obtain ⟨F, hF⟩ := hex
    have hlen : ((List.range l).map F).length = l := by simp
    refine ⟨_, l, m, (List.range l).map F, rfl, ⟨by rw [flds_length, hlen], hl, hm, fun hn => ?_⟩, ?_, ?_⟩
    · have hc0 := (hx 0 (by omega)).1
      rw [Nat.zero_mul] at hc0
      have e0 := spot_none hc0
      refine ⟨a.block, a.off, by rw [← e0], fun i u hi => ?_⟩
      have hi' : i < l * 2 := by
        have := (List.getElem?_eq_some_iff.1 hi).1
        rwa [flds_length, hlen] at this
      have hj : i / 2 < l := by omega
      have hg := flds_get ((List.range l).map F) (i / 2) (by rw [hlen]; exact hj)
      have hFj : ((List.range l).map F).getD (i / 2) (ByteArray.empty, 0) = F (i / 2) := by simp [List.getD, hj]
      rw [hFj] at hg
      obtain ⟨k0, k1, _, _⟩ := hx (i / 2) (by omega)
      obtain ⟨q0, q1, _⟩ := hF (i / 2) (by omega)
      rcases Nat.mod_two_eq_zero_or_one i with hp | hp
      · have ei : i / 2 * 2 = i := by omega
        rw [ei] at hg k0
        rw [e0, add_at] at k0
        rw [k0, q0, ← hi, hg.1]
      · have ei : i / 2 * 2 + 1 = i := by omega
        rw [ei] at hg k1
        rw [e0, add_at] at k1
        rw [k1, q1, ← hi, hg.2]
    · intro f hf
      obtain ⟨j, hj, rfl⟩ := List.mem_map.1 hf
      exact (hF j (by have := List.mem_range.1 hj; omega)).2.2.1
    · intro f hf
      obtain ⟨j, hj, rfl⟩ := List.mem_map.1 hf
      exact (hF j (by have := List.mem_range.1 hj; omega)).2.2.2
end

section
variable {H : Type} {enc : TypeId × Value → H}
end

end Go.Proofs.Ytlmdkbhcocfhdaa.Ev

/-
  Names as lists of bytes: letters, folding, and how a text that is read rune by rune reads byte by byte. No Go text here.
-/
namespace Go.Proofs.Ytlmdkbhcocfhdaa.NameMath

/-- A rune that is a letter of a name. -/
def isL (r : Nat) : Bool := decide (r = 45 ∨ r = 95 ∨ r = 233 ∨ r = 248 ∨ r = 223 ∨ r = 955 ∨ (97 ≤ r ∧ r ≤ 122) ∨ (48 ≤ r ∧ r ≤ 57))
/-- A rune that a name may begin with. -/
def begR (r : Nat) : Bool := decide (r ≠ 45 ∧ ¬ (48 ≤ r ∧ r ≤ 57))
/-- What a rune is folded to (0: to nothing). -/
def foldR (r : Nat) : Nat :=
  if r = 201 then 233 else if r = 216 then 248 else if r = 923 then 955 else if r = 32 ∨ r = 46 ∨ r = 47 then 45 else if 65 ≤ r ∧ r ≤ 90 then r + 32 else if isL r = true then r else 0
/-- The bytes of a rune below 2048. -/
def enc (r : Nat) : List UInt8 := if r < 128 then [UInt8.ofNat r] else [UInt8.ofNat (192 + r / 64), UInt8.ofNat (128 + r % 64)]

/-- A byte that is a letter. -/
def low (a : UInt8) : Bool := decide ((97 ≤ a.toNat ∧ a.toNat ≤ 122) ∨ (48 ≤ a.toNat ∧ a.toNat ≤ 57) ∨ a.toNat = 45 ∨ a.toNat = 95)
/-- Two bytes that are a letter. -/
def two (a b : UInt8) : Bool := decide ((a.toNat = 195 ∧ (b.toNat = 169 ∨ b.toNat = 184 ∨ b.toNat = 159)) ∨ (a.toNat = 206 ∧ b.toNat = 187))

/-- All of it are letters. -/
def allL : List UInt8 → Bool
  | [] => true
  | [a] => low a
  | a :: b :: l => if low a = true then allL (b :: l) else if two a b = true then allL l else false

def first : List UInt8 → Bool
  | [] => false
  | a :: _ => decide (a.toNat ≠ 45 ∧ ¬ (48 ≤ a.toNat ∧ a.toNat ≤ 57))

/-- It is a name. -/
def may (l : List UInt8) : Bool := decide (1 ≤ l.length ∧ l.length ≤ 24) && (first l && allL l)

/-- What one byte is folded to. -/
def one (a : UInt8) : List UInt8 :=
  if low a = true then [a] else if 65 ≤ a.toNat ∧ a.toNat ≤ 90 then [UInt8.ofNat (a.toNat + 32)] else if a.toNat = 32 ∨ a.toNat = 46 ∨ a.toNat = 47 then [45] else []
/-- What two bytes are folded to. -/
def pair (a b : UInt8) : Option (UInt8 × UInt8) :=
  if a.toNat = 195 then (if b.toNat = 169 ∨ b.toNat = 137 then some (195, 169) else if b.toNat = 184 ∨ b.toNat = 152 then some (195, 184) else if b.toNat = 159 then some (195, 159) else none)
  else if a.toNat = 206 then (if b.toNat = 187 ∨ b.toNat = 155 then some (206, 187) else none) else none

def fold : List UInt8 → List UInt8
  | [] => []
  | [a] => one a
  | a :: b :: l => match pair a b with
    | some p => p.1 :: p.2 :: fold l
    | none => one a ++ fold (b :: l)

theorem pair_none {a b : UInt8} (h1 : a.toNat ≠ 195) (h2 : a.toNat ≠ 206) : pair a b = none := by
  simp [pair, h1, h2]

theorem fold_one {a : UInt8} (l : List UInt8) (h1 : a.toNat ≠ 195) (h2 : a.toNat ≠ 206) : fold (a :: l) = one a ++ fold l := by
  cases l with
  | nil => simp [fold]
  | cons b l => rw [fold, pair_none h1 h2]

theorem one_high {a : UInt8} (h : 128 ≤ a.toNat) : one a = [] := by
  have h0 : low a = false := by simp only [low, decide_eq_false_iff_not]; omega
  unfold one
  rw [h0, if_neg (by decide), if_neg (by omega), if_neg (by omega)]

theorem fold_skip {a : UInt8} (l : List UInt8) (h : 128 ≤ a.toNat) (h1 : a.toNat ≠ 195) (h2 : a.toNat ≠ 206) : fold (a :: l) = fold l := by
  rw [fold_one l h1 h2, one_high h, List.nil_append]

theorem low_high {a : UInt8} (h : 128 ≤ a.toNat) : low a = false := by simp only [low, decide_eq_false_iff_not]; omega

theorem allL_low {a : UInt8} (l : List UInt8) (h : low a = true) : allL (a :: l) = allL l := by
  cases l with
  | nil => simp [allL, h]
  | cons b l => rw [allL, if_pos h]

theorem two_low {a b : UInt8} (h : two a b = true) : low a = false := by
  simp only [two, decide_eq_true_eq] at h
  simp only [low, decide_eq_false_iff_not]
  omega

theorem allL_two {a b : UInt8} (l : List UInt8) (h : two a b = true) : allL (a :: b :: l) = allL l := by
  rw [allL, two_low h, if_neg (by decide), if_pos h]

theorem u8ext {a b : UInt8} (h : a.toNat = b.toNat) : a = b := UInt8.toNat_inj.1 h

theorem pair_two {a b : UInt8} (h : two a b = true) : pair a b = some (a, b) := by
  simp only [two, decide_eq_true_eq] at h
  rcases h with ⟨ha, hb | hb | hb⟩ | ⟨ha, hb⟩
  · rw [u8ext (b := 195) ha, u8ext (b := 169) hb]; decide
  · rw [u8ext (b := 195) ha, u8ext (b := 184) hb]; decide
  · rw [u8ext (b := 195) ha, u8ext (b := 159) hb]; decide
  · rw [u8ext (b := 206) ha, u8ext (b := 187) hb]; decide

theorem low_ne {a : UInt8} (h : low a = true) : a.toNat < 128 := by
  simp only [low, decide_eq_true_eq] at h
  omega

theorem one_low {a : UInt8} (h : low a = true) : one a = [a] := by unfold one; rw [if_pos h]

theorem fold_low {a : UInt8} (l : List UInt8) (h : low a = true) : fold (a :: l) = a :: fold l := by
  have := low_ne h
  rw [fold_one l (by omega) (by omega), one_low h]; rfl

theorem fold_two {a b : UInt8} (l : List UInt8) (h : two a b = true) : fold (a :: b :: l) = a :: b :: fold l := by
  rw [fold, pair_two h]

/-- What stands behind letters. -/
theorem allL_append : ∀ (a b : List UInt8), allL a = true → allL (a ++ b) = allL b
  | [], b, _ => rfl
  | [x], b, h => by
    rw [List.singleton_append]
    exact allL_low b (by simpa [allL] using h)
  | x :: y :: l, b, h => by
    by_cases hx : low x = true
    · rw [allL_low _ hx] at h
      have := allL_append (y :: l) b h
      rw [List.cons_append, allL_low _ hx, this]
    · have hx' : low x = false := by simpa using hx
      rw [allL, hx', if_neg (by decide)] at h
      by_cases ht : two x y = true
      · rw [if_pos ht] at h
        have := allL_append l b h
        rw [List.cons_append, List.cons_append, allL_two _ ht, this]
      · rw [if_neg ht] at h
        exact absurd h (by decide)

theorem fold_append : ∀ (a b : List UInt8), allL a = true → fold (a ++ b) = a ++ fold b
  | [], b, _ => rfl
  | [x], b, h => by
    rw [List.singleton_append, fold_low b (by simpa [allL] using h)]; rfl
  | x :: y :: l, b, h => by
    by_cases hx : low x = true
    · rw [allL_low _ hx] at h
      have := fold_append (y :: l) b h
      rw [List.cons_append, fold_low _ hx, this]; rfl
    · have hx' : low x = false := by simpa using hx
      rw [allL, hx', if_neg (by decide)] at h
      by_cases ht : two x y = true
      · rw [if_pos ht] at h
        have := fold_append l b h
        rw [List.cons_append, List.cons_append, fold_two _ ht, this]; rfl
      · rw [if_neg ht] at h
        exact absurd h (by decide)

theorem fold_self {a : List UInt8} (h : allL a = true) : fold a = a := by
  have := fold_append a [] h
  simpa [fold] using this

theorem one_cases (a : UInt8) : one a = [] ∨ ∃ c, one a = [c] ∧ low c = true := by
  unfold one
  by_cases h1 : low a = true
  · rw [if_pos h1]; exact .inr ⟨a, rfl, h1⟩
  · rw [if_neg h1]
    by_cases h2 : 65 ≤ a.toNat ∧ a.toNat ≤ 90
    · rw [if_pos h2]
      refine .inr ⟨_, rfl, ?_⟩
      have : (UInt8.ofNat (a.toNat + 32)).toNat = a.toNat + 32 := by simp; omega
      simp only [low, this, decide_eq_true_eq]; omega
    · rw [if_neg h2]
      by_cases h3 : a.toNat = 32 ∨ a.toNat = 46 ∨ a.toNat = 47
      · rw [if_pos h3]; exact .inr ⟨45, rfl, by decide⟩
      · rw [if_neg h3]; exact .inl rfl

theorem pair_cases {a b : UInt8} {p : UInt8 × UInt8} (h : pair a b = some p) : two p.1 p.2 = true ∧ 128 ≤ a.toNat := by
  unfold pair at h
  by_cases h1 : a.toNat = 195
  · rw [if_pos h1] at h
    refine ⟨?_, by omega⟩
    split at h
    · cases h; decide
    · split at h
      · cases h; decide
      · split at h
        · cases h; decide
        · cases h
  · rw [if_neg h1] at h
    by_cases h2 : a.toNat = 206
    · rw [if_pos h2] at h
      refine ⟨?_, by omega⟩
      split at h
      · cases h; decide
      · cases h
    · rw [if_neg h2] at h; cases h

theorem allL_one (a : UInt8) (l : List UInt8) (h : allL l = true) : allL (one a ++ l) = true := by
  rcases one_cases a with h1 | ⟨c, h1, h2⟩
  · rw [h1]; exact h
  · rw [h1, List.singleton_append, allL_low _ h2, h]

theorem allL_fold : ∀ l : List UInt8, allL (fold l) = true
  | [] => rfl
  | [a] => by
    have := allL_one a [] rfl
    simpa [fold] using this
  | a :: b :: l => by
    rw [fold]
    cases hp : pair a b with
    | none => exact allL_one a _ (allL_fold (b :: l))
    | some p => show allL (p.1 :: p.2 :: fold l) = true; rw [allL_two _ (pair_cases hp).1, allL_fold l]

theorem fold_fold (l : List UInt8) : fold (fold l) = fold l := fold_self (allL_fold l)

theorem allL_iff (l : List UInt8) : allL l = decide (fold l = l) := by
  by_cases h : fold l = l
  · rw [decide_eq_true h, ← h, allL_fold]
  · rw [decide_eq_false h]
    cases hb : allL l
    · rfl
    · exact absurd (fold_self hb) h

theorem one_len (a : UInt8) : (one a).length ≤ 1 := by
  rcases one_cases a with h | ⟨c, h, _⟩ <;> rw [h] <;> simp

theorem fold_len : ∀ l : List UInt8, (fold l).length ≤ l.length
  | [] => Nat.le_refl _
  | [a] => by simpa [fold] using one_len a
  | a :: b :: l => by
    rw [fold]
    cases hp : pair a b with
    | none =>
      have h1 := one_len a
      have h2 := fold_len (b :: l)
      simp only [List.length_append, List.length_cons] at *
      omega
    | some p =>
      have h2 := fold_len l
      simp only [List.length_cons]
      omega

theorem first_append {a : List UInt8} (b : List UInt8) (h : a ≠ []) : first (a ++ b) = first a := by
  cases a with
  | nil => exact absurd rfl h
  | cons x l => rfl

theorem may_parts {l : List UInt8} (h : may l = true) : 1 ≤ l.length ∧ l.length ≤ 24 ∧ first l = true ∧ allL l = true := by
  simp only [may, Bool.and_eq_true, decide_eq_true_eq] at h
  exact ⟨h.1.1, h.1.2, h.2.1, h.2.2⟩

theorem may_of {l : List UInt8} (h1 : 1 ≤ l.length) (h2 : l.length ≤ 24) (h3 : first l = true) (h4 : allL l = true) : may l = true := by
  simp [may, h1, h2, h3, h4]

/-! ### Read rune by rune -/

def dec (t : List UInt8) : Nat × Nat := Lib.decodeN t.length (t.getD 0 0).toNat (t.getD 1 0).toNat (t.getD 2 0).toNat (t.getD 3 0).toNat

theorem getD_drop (l : List UInt8) (p i : Nat) : (l.drop p).getD i 0 = l.getD (p + i) 0 := by
  simp [List.getD]

theorem dec_at (s : ByteArray) (pos : Nat) : Utf8.decode s pos = dec (s.data.toList.drop pos) := by
  rw [Lib.decode_N s pos]
  unfold dec
  rw [getD_drop, getD_drop, getD_drop, getD_drop, List.length_drop]
  rfl

theorem dec_low {a : UInt8} (l : List UInt8) (h : a.toNat < 128) : dec (a :: l) = (a.toNat, 1) := by
  unfold dec Lib.decodeN
  simp only [List.getD_cons_zero]
  rw [if_pos h]

/-- A byte from 128 on begins a rune of two bytes, or what is no letter and is folded to nothing. -/
theorem dec_high {a : UInt8} (l : List UInt8) (h : 128 ≤ a.toNat) :
    (∃ b l', l = b :: l' ∧ dec (a :: l) = (a.toNat % 32 * 64 + b.toNat % 64, 2) ∧ a.toNat / 32 = 6 ∧ b.toNat / 64 = 2 ∧ 128 ≤ a.toNat % 32 * 64 + b.toNat % 64) ∨
    (2048 ≤ (dec (a :: l)).1 ∧ 1 ≤ (dec (a :: l)).2 ∧ fold (a :: l) = fold ((a :: l).drop (dec (a :: l)).2) ∧ allL (a :: l) = false) := by
  have la := UInt8.toNat_lt a
  have hlow := low_high h
  by_cases h2 : ∃ b l', l = b :: l' ∧ a.toNat / 32 = 6 ∧ b.toNat / 64 = 2 ∧ 128 ≤ a.toNat % 32 * 64 + b.toNat % 64
  · obtain ⟨b, l', rfl, e1, e2, e3⟩ := h2
    refine .inl ⟨b, l', rfl, ?_, e1, e2, e3⟩
    unfold dec Lib.decodeN
    simp only [List.getD_cons_zero, List.getD_cons_succ, List.length_cons]
    rw [if_neg (by omega), if_pos ⟨e1, by omega, e2⟩, if_pos e3]
  · right
    have hno : ∀ b l', l = b :: l' → ¬ (a.toNat / 32 = 6 ∧ b.toNat / 64 = 2 ∧ 128 ≤ a.toNat % 32 * 64 + b.toNat % 64) := fun b l' e hh => h2 ⟨b, l', e, hh⟩
    have hall : allL (a :: l) = false := by
      cases l with
      | nil => simpa [allL] using hlow
      | cons b l' =>
        have hn := hno b l' rfl
        have ht : two a b = false := by
          simp only [two, decide_eq_false_iff_not]
          omega
        rw [allL, hlow, ht]; rfl
    have hf1 : fold (a :: l) = fold l := by
      cases l with
      | nil => simp [fold, one_high h]
      | cons b l' =>
        have hn := hno b l' rfl
        have hp : pair a b = none := by
          unfold pair
          by_cases c1 : a.toNat = 195
          · rw [if_pos c1, if_neg (by omega), if_neg (by omega), if_neg (by omega)]
          · rw [if_neg c1]
            by_cases c2 : a.toNat = 206
            · rw [if_pos c2, if_neg (by omega)]
            · rw [if_neg c2]
        rw [fold, hp, one_high h]; rfl
    have hw1 : ∀ q : Nat × Nat, dec (a :: l) = q → q = (65533, 1) → (2048 ≤ q.1 ∧ 1 ≤ q.2 ∧ fold (a :: l) = fold ((a :: l).drop q.2) ∧ allL (a :: l) = false) := by
      rintro q _ rfl
      exact ⟨by decide, by decide, hf1, hall⟩
    generalize hd : dec (a :: l) = q
    have hd' := hd
    unfold dec Lib.decodeN at hd'
    simp only [List.getD_cons_zero] at hd'
    rw [if_neg (by omega)] at hd'
    split at hd'
    · rename_i hc
      rw [if_neg ?_] at hd'
      · exact hw1 q hd hd'.symm
      · intro hge
        cases l with
        | nil => simp at hc
        | cons b l' =>
          simp only [List.getD_cons_succ, List.getD_cons_zero] at hc hge
          exact hno b l' rfl ⟨hc.1, hc.2.2, hge⟩
    · split at hd'
      · rename_i _ hc
        split at hd'
        · rename_i hv
          subst hd'
          refine ⟨hv.1, by show 1 ≤ 3; decide, ?_, hall⟩
          clear hv hw1 hd h2
          rcases l with _ | ⟨b, _ | ⟨c, l'⟩⟩
          · simp at hc
          · simp at hc
          · simp only [List.getD_cons_succ, List.getD_cons_zero] at hc
            show fold (a :: b :: c :: l') = fold l'
            rw [hf1, fold_skip _ (by omega) (by omega) (by omega), fold_skip _ (by omega) (by omega) (by omega)]
        · exact hw1 q hd hd'.symm
      · split at hd'
        · rename_i _ _ hc
          split at hd'
          · rename_i hv
            subst hd'
            refine ⟨by have := hv.1; simp only; omega, by show 1 ≤ 4; decide, ?_, hall⟩
            clear hv hw1 hd h2
            rcases l with _ | ⟨b, _ | ⟨c, _ | ⟨d, l'⟩⟩⟩
            · simp at hc
            · simp at hc
            · simp at hc
            · simp only [List.getD_cons_succ, List.getD_cons_zero] at hc
              show fold (a :: b :: c :: d :: l') = fold l'
              rw [hf1, fold_skip _ (by omega) (by omega) (by omega), fold_skip _ (by omega) (by omega) (by omega), fold_skip _ (by omega) (by omega) (by omega)]
          · exact hw1 q hd hd'.symm
        · exact hw1 q hd hd'.symm

/-- A rune that is a letter. -/
theorem rune_letter {t : List UInt8} (h0 : t ≠ []) (h : isL (dec t).1 = true) : allL t = allL (t.drop (dec t).2) ∧ begR (dec t).1 = first t := by
  cases t with
  | nil => exact absurd rfl h0
  | cons a l =>
    by_cases ha : a.toNat < 128
    · rw [dec_low l ha] at h ⊢
      simp only [isL, decide_eq_true_eq] at h
      have hl : low a = true := by simp only [low, decide_eq_true_eq]; omega
      refine ⟨allL_low l hl, ?_⟩
      simp [begR, first]
    · rcases dec_high (a := a) l (by omega) with ⟨b, l', rfl, e, e1, e2, e3⟩ | ⟨h1, _⟩
      · rw [e] at h ⊢
        simp only [isL, decide_eq_true_eq] at h
        have ht : two a b = true := by simp only [two, decide_eq_true_eq]; omega
        refine ⟨allL_two l' ht, ?_⟩
        simp only [begR, first]
        rw [decide_eq_true (by omega), decide_eq_true (by omega)]
      · simp only [isL, decide_eq_true_eq] at h
        omega

theorem rune_other {t : List UInt8} (h0 : t ≠ []) (h : isL (dec t).1 = false) : allL t = false := by
  cases t with
  | nil => exact absurd rfl h0
  | cons a l =>
    by_cases ha : a.toNat < 128
    · rw [dec_low l ha] at h
      simp only [isL, decide_eq_false_iff_not] at h
      have hl : low a = false := by simp only [low, decide_eq_false_iff_not]; omega
      cases l with
      | nil => simpa [allL] using hl
      | cons b l =>
        have ht : two a b = false := by simp only [two, decide_eq_false_iff_not]; omega
        rw [allL, hl, ht]; rfl
    · rcases dec_high (a := a) l (by omega) with ⟨b, l', rfl, e, e1, e2, e3⟩ | ⟨_, _, _, h1⟩
      · rw [e] at h
        simp only [isL, decide_eq_false_iff_not] at h
        have ht : two a b = false := by simp only [two, decide_eq_false_iff_not]; omega
        have hl := low_high (a := a) (by omega)
        rw [allL, hl, ht]; rfl
      · exact h1

theorem enc_small {r : Nat} (h : r < 128) : enc r = [UInt8.ofNat r] := by unfold enc; rw [if_pos h]

theorem foldR_lt (r : Nat) : foldR r < 2048 := by
  unfold foldR isL
  repeat' split
  all_goals (try simp only [decide_eq_true_eq] at *)
  all_goals omega

/-- What a rune is folded to, byte by byte. -/
theorem rune_fold {t : List UInt8} (h0 : t ≠ []) : fold t = (if foldR (dec t).1 = 0 then [] else enc (foldR (dec t).1)) ++ fold (t.drop (dec t).2) := by
  cases t with
  | nil => exact absurd rfl h0
  | cons a l =>
    by_cases ha : a.toNat < 128
    · rw [dec_low l ha, fold_one l (by omega) (by omega)]
      simp only [List.drop_succ_cons, List.drop_zero]
      congr 1
      have hcast : UInt8.ofNat a.toNat = a := by simp
      have hL : low a = isL a.toNat := by simp only [low, isL]; exact decide_eq_decide.2 ⟨fun h => by omega, fun h => by omega⟩
      by_cases c1 : a.toNat = 32 ∨ a.toNat = 46 ∨ a.toNat = 47
      · have hl : low a = false := by simp only [low, decide_eq_false_iff_not]; omega
        have hf : foldR a.toNat = 45 := by unfold foldR; rw [if_neg (by omega), if_neg (by omega), if_neg (by omega), if_pos c1]
        have ho : one a = [45] := by unfold one; rw [hl, if_neg (by decide), if_neg (by omega), if_pos c1]
        rw [hf, ho]; rfl
      · by_cases c2 : 65 ≤ a.toNat ∧ a.toNat ≤ 90
        · have hl : low a = false := by simp only [low, decide_eq_false_iff_not]; omega
          have hf : foldR a.toNat = a.toNat + 32 := by unfold foldR; rw [if_neg (by omega), if_neg (by omega), if_neg (by omega), if_neg c1, if_pos c2]
          have ho : one a = [UInt8.ofNat (a.toNat + 32)] := by unfold one; rw [hl, if_neg (by decide), if_pos c2]
          rw [hf, ho, if_neg (by omega), enc_small (by omega)]
        · by_cases c3 : isL a.toNat = true
          · have hf : foldR a.toNat = a.toNat := by unfold foldR; rw [if_neg (by omega), if_neg (by omega), if_neg (by omega), if_neg c1, if_neg c2, if_pos c3]
            have ho : one a = [a] := one_low (hL.trans c3)
            have h00 : a.toNat ≠ 0 := by simp only [isL, decide_eq_true_eq] at c3; omega
            rw [hf, ho, if_neg h00, enc_small ha, hcast]
          · have hf : foldR a.toNat = 0 := by unfold foldR; rw [if_neg (by omega), if_neg (by omega), if_neg (by omega), if_neg c1, if_neg c2, if_neg c3]
            have ho : one a = [] := by unfold one; rw [hL, if_neg c3, if_neg c2, if_neg c1]
            rw [hf, ho, if_pos rfl]
    · rcases dec_high (a := a) l (by omega) with ⟨b, l', rfl, e, e1, e2, e3⟩ | ⟨h1, _, h3, _⟩
      · rw [e, fold]
        simp only [List.drop_succ_cons, List.drop_zero]
        have lb := UInt8.toNat_lt b
        have hbs : fold (b :: l') = fold l' := fold_skip l' (by omega) (by omega) (by omega)
        have hab : a.toNat = 192 + (a.toNat % 32 * 64 + b.toNat % 64) / 64 := by omega
        have hbb : b.toNat = 128 + (a.toNat % 32 * 64 + b.toNat % 64) % 64 := by omega
        generalize hr : a.toNat % 32 * 64 + b.toNat % 64 = r at *
        have hr2 : r < 2048 := by omega
        by_cases c1 : r = 201
        · subst c1
          rw [show foldR 201 = 233 from rfl, u8ext (a := a) (b := 195) hab, u8ext (a := b) (b := 137) hbb]; rfl
        by_cases c2 : r = 216
        · subst c2
          rw [show foldR 216 = 248 from rfl, u8ext (a := a) (b := 195) hab, u8ext (a := b) (b := 152) hbb]; rfl
        by_cases c3 : r = 923
        · subst c3
          rw [show foldR 923 = 955 from rfl, u8ext (a := a) (b := 206) hab, u8ext (a := b) (b := 155) hbb]; rfl
        by_cases c4 : isL r = true
        · simp only [isL, decide_eq_true_eq] at c4
          have c5 : r = 233 ∨ r = 248 ∨ r = 223 ∨ r = 955 := by omega
          rcases c5 with rfl | rfl | rfl | rfl
          · rw [show foldR 233 = 233 from rfl, u8ext (a := a) (b := 195) hab, u8ext (a := b) (b := 169) hbb]; rfl
          · rw [show foldR 248 = 248 from rfl, u8ext (a := a) (b := 195) hab, u8ext (a := b) (b := 184) hbb]; rfl
          · rw [show foldR 223 = 223 from rfl, u8ext (a := a) (b := 195) hab, u8ext (a := b) (b := 159) hbb]; rfl
          · rw [show foldR 955 = 955 from rfl, u8ext (a := a) (b := 206) hab, u8ext (a := b) (b := 187) hbb]; rfl
        · have hz : foldR r = 0 := by
            unfold foldR
            rw [if_neg c1, if_neg c2, if_neg c3, if_neg (by omega), if_neg (by omega), if_neg c4]
          simp only [isL, decide_eq_true_eq] at c4
          have hp : pair a b = none := by
            unfold pair
            by_cases d1 : a.toNat = 195
            · rw [if_pos d1, if_neg (by omega), if_neg (by omega), if_neg (by omega)]
            · rw [if_neg d1]
              by_cases d2 : a.toNat = 206
              · rw [if_pos d2, if_neg (by omega)]
              · rw [if_neg d2]
          rw [hp, hz, if_pos rfl, List.nil_append]
          show one a ++ fold (b :: l') = fold l'
          rw [one_high (by omega), List.nil_append, hbs]
      · have hz : foldR (dec (a :: l)).1 = 0 := by
          generalize (dec (a :: l)).1 = r at *
          unfold foldR
          rw [if_neg (by omega), if_neg (by omega), if_neg (by omega), if_neg (by omega), if_neg (by omega), if_neg (by simp only [isL, decide_eq_true_eq]; omega)]
        rw [hz, if_pos rfl, List.nil_append]
        exact h3

theorem dec_pos {t : List UInt8} (h0 : t ≠ []) : 1 ≤ (dec t).2 := by
  cases t with
  | nil => exact absurd rfl h0
  | cons a l =>
    by_cases ha : a.toNat < 128
    · rw [dec_low l ha]; exact Nat.le_refl _
    · rcases dec_high (a := a) l (by omega) with ⟨b, l', rfl, e, _⟩ | ⟨_, h1, _⟩
      · rw [e]; show 1 ≤ 2; decide
      · exact h1

end Go.Proofs.Ytlmdkbhcocfhdaa.NameMath

/-
  Contracts of layer 3's small functions: isDigit, isLetter, mayBegin.
-/
namespace Go.Proofs.Ytlmdkbhcocfhdaa.NameWalk
open Go.RowKit Go.Proofs.Ytlmdkbhcocfhdaa.NameMath

def digR (r : Nat) : Bool := decide (48 ≤ r ∧ r ≤ 57)

end Go.Proofs.Ytlmdkbhcocfhdaa.NameWalk

/-
  Contracts of layer 3: May.
-/
namespace Go.Proofs.Ytlmdkbhcocfhdaa.NameWalk
open Go.RowKit Go.Proofs.Ytlmdkbhcocfhdaa.NameMath

theorem drop_ne {s : ByteArray} {pos : Nat} (h : pos < s.size) : s.data.toList.drop pos ≠ [] := by
  intro e
  have := congrArg List.length e
  simp at this
  have h2 : s.size = s.data.size := rfl
  omega

theorem size_list (s : ByteArray) : s.size = s.data.toList.length := (Array.length_toList).symm

theorem below_iter (w : World) (s : ByteArray) (pos : Nat) : Below w.heap.size w (w.iter s pos) := by
  have h : Below w.heap.size w (w.iter s pos) := (Below.refl _ w).alloc (Nat.le_refl _) _
  exact h

end Go.Proofs.Ytlmdkbhcocfhdaa.NameWalk

/-
  The contract of stringslite.Index at one byte, laid at this dump (as the shelf's tool writes it, in plain words; its numbers by name).
-/
namespace Go.Proofs
open Go.Shelf
end Go.Proofs

/-
  Tags: cutting at the first colon; contracts of strings.Cut at ":", Parts, MayTag, Tag; the laws' head (shown, short).
-/
namespace Go.Proofs.Ytlmdkbhcocfhdaa.NameMath

/-- A text cut at its first colon. -/
def cutC : List UInt8 → Option (List UInt8 × List UInt8)
  | [] => none
  | a :: l => if a.toNat = 58 then some ([], l) else (cutC l).map fun p => (a :: p.1, p.2)

def parts (l : List UInt8) : List UInt8 × List UInt8 × Bool := match cutC l with
  | some p => if (may p.1 && may p.2) = true then (p.1, p.2, true) else ([], [], false)
  | none => ([], [], false)

def tag (a b : List UInt8) : List UInt8 := if (may a && may b) = true then a ++ 58 :: b else []

theorem cut_index : ∀ l : List UInt8, (Lib.indexByte l 58 = -1 ∧ cutC l = none) ∨ ∃ i : Nat, i < l.length ∧ Lib.indexByte l 58 = (i : Int) ∧ cutC l = some (l.take i, l.drop (i + 1))
  | [] => .inl ⟨rfl, rfl⟩
  | a :: l => by
    by_cases h : a.toNat = 58
    · right
      have : a = 58 := u8ext h
      subst this
      exact ⟨0, by simp, rfl, rfl⟩
    · have hne : (a == 58) = false := by
        simp only [beq_eq_false_iff_ne]
        rintro rfl
        exact h rfl
      rcases cut_index l with ⟨h1, h2⟩ | ⟨i, h0, h1, h2⟩
      · left
        refine ⟨?_, ?_⟩
        · rw [Lib.indexByte, hne, h1]; rfl
        · rw [cutC, if_neg h, h2]; rfl
      · right
        refine ⟨i + 1, by simp; omega, ?_, ?_⟩
        · rw [Lib.indexByte, hne, h1]
          have h4 : (((i : Nat) : Int) == -1) = false := by simp only [beq_eq_false_iff_ne]; omega
          rw [h4]; simp
        · rw [cutC, if_neg h, h2]; rfl

theorem cut_none {l : List UInt8} (h : ∀ x ∈ l, x.toNat ≠ 58) (b : List UInt8) : cutC (l ++ 58 :: b) = some (l, b) := by
  induction l with
  | nil => rfl
  | cons a l ih =>
    rw [List.cons_append, cutC, if_neg (h a (by simp)), ih (fun x hx => h x (by simp [hx]))]
    rfl

theorem cut_all {l : List UInt8} (h : ∀ x ∈ l, x.toNat ≠ 58) : cutC l = none := by
  induction l with
  | nil => rfl
  | cons a l ih =>
    rw [cutC, if_neg (h a (by simp)), ih (fun x hx => h x (by simp [hx]))]
    rfl

theorem allL_colon : ∀ {l : List UInt8}, allL l = true → ∀ x ∈ l, x.toNat ≠ 58
  | [], _, x, hx => by simp at hx
  | [a], h, x, hx => by
    simp [allL] at h hx
    subst hx
    simp only [low, decide_eq_true_eq] at h
    omega
  | a :: b :: l, h, x, hx => by
    by_cases ha : low a = true
    · rw [allL_low _ ha] at h
      rcases List.mem_cons.1 hx with rfl | hx
      · simp only [low, decide_eq_true_eq] at ha; omega
      · exact allL_colon h x hx
    · have ha' : low a = false := by simpa using ha
      rw [allL, ha', if_neg (by decide)] at h
      by_cases ht : two a b = true
      · rw [if_pos ht] at h
        simp only [two, decide_eq_true_eq] at ht
        rcases List.mem_cons.1 hx with rfl | hx
        · omega
        · rcases List.mem_cons.1 hx with rfl | hx
          · omega
          · exact allL_colon h x hx
      · rw [if_neg ht] at h
        exact absurd h (by decide)

theorem parts_tag {a b : List UInt8} (ha : may a = true) : cutC (a ++ 58 :: b) = some (a, b) := cut_none (allL_colon (may_parts ha).2.2.2) b

theorem parts_name {a : List UInt8} (ha : may a = true) : parts a = ([], [], false) := by
  unfold parts
  rw [cut_all (allL_colon (may_parts ha).2.2.2)]

theorem parts_both {a b : List UInt8} (ha : may a = true) (hb : may b = true) : parts (a ++ 58 :: b) = (a, b, true) := by
  unfold parts
  rw [parts_tag ha]
  simp [ha, hb]

theorem parts_behind {a b : List UInt8} (ha : may a = true) (hb : may b = false) : parts (a ++ 58 :: b) = ([], [], false) := by
  unfold parts
  rw [parts_tag ha]
  simp [hb]

end Go.Proofs.Ytlmdkbhcocfhdaa.NameMath

namespace Go.Proofs.Ytlmdkbhcocfhdaa.NameWalk
open Go.RowKit Go.Proofs.Ytlmdkbhcocfhdaa.NameMath

theorem below_chain {w w1 w2 : World} (h1 : Below w.heap.size w w1) (h2 : Below w1.heap.size w1 w2) : Below w.heap.size w w2 := h1.trans (h2.mono h1.size)
theorem bel_drewN {B : Nat} {a w : World} (h : Below B a w) (n : Nat) : Below B a (w.drewN n) := ⟨h.os, h.tape, h.output, h.size, h.block⟩
theorem bel_drew {B : Nat} {a w : World} (h : Below B a w) : Below B a w.drew := ⟨h.os, h.tape, h.output, h.size, h.block⟩

theorem ba_ext {a b : ByteArray} (h : a.data.toList = b.data.toList) : a = b := by
  cases a; cases b
  congr 1
  exact Array.toList_inj.1 h

theorem ba_list (l : List UInt8) : (⟨l.toArray⟩ : ByteArray).data.toList = l := rfl

theorem ba_append (a b : ByteArray) : (a ++ b).data.toList = a.data.toList ++ b.data.toList := by
  rw [ByteArray.data_append, Array.toList_append]

theorem ba_take (s : ByteArray) (n : Nat) : (s.extract 0 n).data.toList = s.data.toList.take n := by
  simp [ByteArray.data_extract]

theorem ba_drop (s : ByteArray) (i : Nat) : (s.extract i s.size).data.toList = s.data.toList.drop i := by
  rw [ByteArray.data_extract, Array.toList_extract]
  show (s.data.toList.drop i).take (s.size - i) = _
  rw [List.take_of_length_le]
  rw [List.length_drop, ← size_list]
  exact Nat.le_refl _

end Go.Proofs.Ytlmdkbhcocfhdaa.NameWalk

/-
  Contracts of the document's own answers for layer 3 (registrarref03): plain, begins, letter, folded.
-/
namespace Go.Proofs.Ytlmdkbhcocfhdaa.NameMath

/-- How many bytes the letter has that it begins with. -/
def lw : List UInt8 → Nat
  | [] => 0
  | [a] => if low a = true then 1 else 0
  | a :: b :: _ => if low a = true then 1 else if two a b = true then 2 else 0

/-- It begins with just these two. -/
def isP (x y : UInt8) (t : List UInt8) : Bool := decide (t.take 2 = [x, y])

end Go.Proofs.Ytlmdkbhcocfhdaa.NameMath
namespace Go.Proofs.Ytlmdkbhcocfhdaa.NameWalk
open Go.RowKit Go.Proofs.Ytlmdkbhcocfhdaa.NameMath

theorem drop_at {s : ByteArray} {p : Nat} (h : p < s.size) : s.data.toList.drop p = s[p] :: s.data.toList.drop (p + 1) := by
  have h2 : p < s.data.toList.length := by rw [← size_list]; exact h
  rw [List.drop_eq_getElem_cons h2]
  rfl

def lets : Nat → ByteArray
  | 0 => ⟨#[195, 169]⟩
  | 1 => ⟨#[195, 184]⟩
  | 2 => ⟨#[195, 159]⟩
  | _ => ⟨#[206, 187]⟩
def bigs : Nat → ByteArray
  | 0 => ⟨#[195, 137]⟩
  | 1 => ⟨#[195, 152]⟩
  | _ => ⟨#[206, 155]⟩
def smalls : Nat → ByteArray
  | 0 => ⟨#[195, 169]⟩
  | 1 => ⟨#[195, 184]⟩
  | _ => ⟨#[206, 187]⟩

theorem lt4 {k : Nat} (h : k < 4) : k = 0 ∨ k = 1 ∨ k = 2 ∨ k = 3 := by omega
theorem lt3 {k : Nat} (h : k < 3) : k = 0 ∨ k = 1 ∨ k = 2 := by omega
theorem lets_size {k : Nat} (h : k < 4) : (lets k).size = 2 := by rcases lt4 h with rfl | rfl | rfl | rfl <;> rfl
theorem bigs_size {k : Nat} (h : k < 3) : (bigs k).size = 2 := by rcases lt3 h with rfl | rfl | rfl <;> rfl

theorem lw_low {a : UInt8} (l : List UInt8) (h : low a = true) : lw (a :: l) = 1 := by
  cases l with
  | nil => rw [lw, if_pos h]
  | cons b l => rw [lw, if_pos h]

theorem lw_two {a : UInt8} {l : List UInt8} (h : low a = false) {k : Nat} (hk : k < 4) (ht : (a :: l).take 2 = (lets k).data.toList) : lw (a :: l) = 2 := by
  cases l with
  | nil => rcases lt4 hk with rfl | rfl | rfl | rfl <;> simp [lets] at ht
  | cons b l =>
    have h2 : two a b = true := by
      rcases lt4 hk with rfl | rfl | rfl | rfl <;> (simp [lets] at ht; obtain ⟨rfl, rfl⟩ := ht; decide)
    rw [lw, h, if_neg (by decide), if_pos h2]

theorem lw_zero {a : UInt8} {l : List UInt8} (h : low a = false) (ht : ∀ k, k < 4 → ¬ (a :: l).take 2 = (lets k).data.toList) : lw (a :: l) = 0 := by
  cases l with
  | nil => rw [lw, h, if_neg (by decide)]
  | cons b l =>
    have h2 : ¬ two a b = true := by
      intro hh
      simp only [two, decide_eq_true_eq] at hh
      rcases hh with ⟨ha, hb | hb | hb⟩ | ⟨ha, hb⟩
      · exact ht 0 (by omega) (by rw [u8ext (b := 195) ha, u8ext (b := 169) hb]; rfl)
      · exact ht 1 (by omega) (by rw [u8ext (b := 195) ha, u8ext (b := 184) hb]; rfl)
      · exact ht 2 (by omega) (by rw [u8ext (b := 195) ha, u8ext (b := 159) hb]; rfl)
      · exact ht 3 (by omega) (by rw [u8ext (b := 206) ha, u8ext (b := 187) hb]; rfl)
    rw [lw, h, if_neg (by decide), if_neg h2]

end Go.Proofs.Ytlmdkbhcocfhdaa.NameWalk

/-
  Contracts of the document's own answers for layer 3 (registrarref03): May, Fold.
-/
namespace Go.Proofs.Ytlmdkbhcocfhdaa.NameMath

theorem lw_none {a : UInt8} {l : List UInt8} (h : lw (a :: l) = 0) : low a = false ∧ allL (a :: l) = false := by
  cases l with
  | nil =>
    rw [lw] at h
    have h1 : ¬ low a = true := fun hh => by rw [if_pos hh] at h; exact absurd h (by decide)
    have h2 : low a = false := by simpa using h1
    exact ⟨h2, by simpa [allL] using h2⟩
  | cons b l =>
    rw [lw] at h
    have h1 : ¬ low a = true := fun hh => by rw [if_pos hh] at h; exact absurd h (by decide)
    rw [if_neg h1] at h
    have h3 : ¬ two a b = true := fun hh => by rw [if_pos hh] at h; exact absurd h (by decide)
    have h2 : low a = false := by simpa using h1
    refine ⟨h2, ?_⟩
    rw [allL, if_neg h1, if_neg h3]

theorem lw_some {t : List UInt8} (h : lw t ≠ 0) : lw t ≤ t.length ∧ allL t = allL (t.drop (lw t)) ∧ fold t = t.take (lw t) ++ fold (t.drop (lw t)) := by
  match t with
  | [] => exact absurd rfl h
  | [a] =>
    by_cases h1 : low a = true
    · have e : lw [a] = 1 := by rw [lw, if_pos h1]
      rw [e]
      exact ⟨by simp, allL_low [] h1, fold_low [] h1⟩
    · exact absurd (by rw [lw, if_neg h1]) h
  | a :: b :: l =>
    by_cases h1 : low a = true
    · have e : lw (a :: b :: l) = 1 := by rw [lw, if_pos h1]
      rw [e]
      exact ⟨by simp, allL_low _ h1, fold_low _ h1⟩
    · by_cases h2 : two a b = true
      · have e : lw (a :: b :: l) = 2 := by rw [lw, if_neg h1, if_pos h2]
        rw [e]
        exact ⟨by simp, allL_two _ h2, fold_two _ h2⟩
      · exact absurd (by rw [lw, if_neg h1, if_neg h2]) h

end Go.Proofs.Ytlmdkbhcocfhdaa.NameMath
namespace Go.Proofs.Ytlmdkbhcocfhdaa.NameWalk
open Go.RowKit Go.Proofs.Ytlmdkbhcocfhdaa.NameMath

end Go.Proofs.Ytlmdkbhcocfhdaa.NameWalk

/-
  Contracts of the document's own answers for layer 3 (registrarref03): Tag, Parts.
-/
namespace Go.Proofs.Ytlmdkbhcocfhdaa.NameWalk
open Go.RowKit Go.Proofs.Ytlmdkbhcocfhdaa.NameMath

end Go.Proofs.Ytlmdkbhcocfhdaa.NameWalk

/-
  Contracts of the document's answers of layer 4: Texts, Rise, Put, tags.
-/
namespace Go.Proofs.Ytlmdkbhcocfhdaa.EvWalk
open Go.RowKit Go.Proofs.Ytlmdkbhcocfhdaa.MemRow Go.Proofs.Ytlmdkbhcocfhdaa.Ev Go.Proofs.Ytlmdkbhcocfhdaa.NameMath Go.Proofs.Ytlmdkbhcocfhdaa.NameWalk

/-- Go's '<' on texts. -/
def less (a b : ByteArray) : Bool := Op.bytesLess a.toList b.toList

def riseB : List ByteArray → Bool
  | [] => true
  | [_] => true
  | a :: b :: l => less a b && riseB (b :: l)

/-- One more, at its place. -/
def putL : List ByteArray → ByteArray → List ByteArray
  | [], s => [s]
  | a :: l, s => if less a s = true then a :: putL l s else if a = s then a :: l else s :: a :: l

theorem toList_ne {a b : ByteArray} (h : a ≠ b) : ¬ a.toList = b.toList := by
  intro e
  rw [ByteArray.toList_eq, ByteArray.toList_eq] at e
  exact h (ba_ext e)

theorem str_ne {a b : ByteArray} (h : a ≠ b) : (a.toList == b.toList) = false := by
  rw [beq_eq_false_iff_ne]
  exact toList_ne h

theorem take_get (l : List ByteArray) (j : Nat) (h : j < l.length) : l.take (j + 1) = l.take j ++ [l.getD j ByteArray.empty] := by
  rw [List.take_succ_eq_append_getElem h]
  simp [List.getD, List.getElem?_eq_getElem h]

set_option maxHeartbeats 4000000 in
set_option maxRecDepth 100000 in
theorem refTexts_any (A B : Option Addr) (n m ca cb : Nat) (ss tt : List ByteArray) (w : World) (ha : RdS w A n ca ss) (hb : RdS w B m cb tt) :
    Calls Try.prog 14 #[.slice A n ca, .slice B m cb] w fun e w' => e = .returned (.bool (decide (ss = tt))) ∧ ∃ k, w' = w.drewN k := by
  have hn := RdC.le ha
  have hm := RdC.le hb
  unfold maxLen at hn hm
  have la := ha.len
  have lb := hb.len
  by_cases hnm : n = m
  · subst hnm
    generalize hR : decide (ss = tt) = R
    have HR := Go.Lib.hid hR
    have LA := Go.Lib.hid la
    have LB := Go.Lib.hid lb
    clear hR la lb
    go_enter Try.func14, Try.ntmps14
    go_wp2_with fail
    go_loopw [5] (fun i wr => ∃ j : Nat, j ≤ n ∧ i = .int .i64 j ∧ ss.take j = tt.take j ∧ ∃ q, wr = w.drewN q) (fun i _ => n - (intOf i).toNat)
    case atStart => exact ⟨0, Nat.zero_le _, rfl, rfl, 0, rfl⟩
    case round =>
      obtain ⟨j, hj, rfl, hq, q, hw⟩ := hrel
      have HQ := Go.Lib.hid hq
      clear hq
      have ha' : RdS wr A n ca ss := by rw [hw]; exact ha
      have hb' : RdS wr B n cb tt := by rw [hw]; exact hb
      have HW := Go.Lib.hid hw
      clear hw
      by_cases hlt : j < n
      · obtain ⟨ba, oa, rfl, _, ka⟩ := ha'.at_ (by omega)
        obtain ⟨bb, ob, rfl, _, kb⟩ := hb'.at_ (by omega)
        have ka1 := ka j hlt
        have kb1 := kb j hlt
        have i1 : (j : Int) < n := by omega
        have ta := take_get ss j (by rw [LA.out]; exact hlt)
        have tb := take_get tt j (by rw [LB.out]; exact hlt)
        have TA := Go.Lib.hid ta
        have TB := Go.Lib.hid tb
        clear ka kb ta tb ha' hb'
        generalize hx : ss.getD j ByteArray.empty = x at *
        generalize hy : tt.getD j ByteArray.empty = y at *
        have HX := Go.Lib.hid hx
        have HY := Go.Lib.hid hy
        clear hx hy
        by_cases hxy : x = y
        · subst hxy
          go_wp2_with fail
          go_quiet (fail)
          go_wp2_with fail
          go_roundw
          case rel => exact ⟨j + 1, by omega, by go_num, by rw [TA.out, TB.out, HQ.out], q + nq, by rw [HW.out, World.drewN_drewN]⟩
          case measure => simp [intOf]; omega
        · have hne := str_ne hxy
          have hR : R = false := by
            rw [← HR.out]
            refine decide_eq_false fun h => hxy ?_
            rw [← HX.out, ← HY.out, h]
          subst hR
          go_wp2_with fail
          go_quiet (fail)
          go_wp2_with fail
          go_ret
          exact ⟨rfl, q + nq, by rw [HW.out, World.drewN_drewN]⟩
      · obtain rfl : n = j := by omega
        have hR : R = true := by
          rw [← HR.out]
          refine decide_eq_true ?_
          have h1 := HQ.out
          rwa [List.take_of_length_le (by rw [LA.out]; exact Nat.le_refl _), List.take_of_length_le (by rw [LB.out]; exact Nat.le_refl _)] at h1
        subst hR
        go_wp2_with fail
        go_ret
        exact ⟨rfl, q, HW.out⟩
  · have hR : decide (ss = tt) = false := decide_eq_false fun h => hnm (by rw [← la, ← lb, h])
    rw [hR]
    have i1 : ((n : Int) != (m : Int)) = true := by rw [bne_iff_ne]; omega
    clear la lb hR
    go_enter Try.func14, Try.ntmps14
    go_wp2_with fail
    go_ret
    exact ⟨rfl, 0, rfl⟩

theorem rise_snoc (l : List ByteArray) (a b : ByteArray) : riseB (l ++ [a, b]) = (riseB (l ++ [a]) && less a b) := by
  induction l with
  | nil => simp [riseB]
  | cons x l ih =>
    cases l with
    | nil => simp [riseB]
    | cons y l =>
      simp only [List.cons_append, riseB] at ih ⊢
      rw [ih, Bool.and_assoc]
theorem rise_prefix : ∀ (l m : List ByteArray), riseB (l ++ m) = true → riseB l = true
  | [], _, _ => rfl
  | [_], _, _ => rfl
  | x :: y :: l, m, h => by
    simp only [List.cons_append, riseB, Bool.and_eq_true] at h ⊢
    exact ⟨h.1, rise_prefix (y :: l) m h.2⟩

theorem take_two (l : List ByteArray) (k : Nat) (h : k + 1 < l.length) : l.take (k + 2) = l.take k ++ [l.getD k ByteArray.empty, l.getD (k + 1) ByteArray.empty] := by
  rw [take_get l (k + 1) h, take_get l k (by omega)]
  simp

end Go.Proofs.Ytlmdkbhcocfhdaa.EvWalk

/-
  Contracts of the document's answers of layer 4: tags, Put.
-/
namespace Go.Proofs.Ytlmdkbhcocfhdaa.EvWalk
open Go.RowKit Go.Proofs.Ytlmdkbhcocfhdaa.MemRow Go.Proofs.Ytlmdkbhcocfhdaa.Ev Go.Proofs.Ytlmdkbhcocfhdaa.NameMath Go.Proofs.Ytlmdkbhcocfhdaa.NameWalk

/-- It is a tag. -/
def tagB (s : ByteArray) : Bool := (parts s.data.toList).2.2

theorem all_take {p : ByteArray → Bool} (l : List ByteArray) (h : l.all p = true) (j : Nat) (hj : j < l.length) : p (l.getD j ByteArray.empty) = true := by
  rw [List.all_eq_true] at h
  simp only [List.getD, List.getElem?_eq_getElem hj, Option.getD_some]
  exact h _ (List.getElem_mem hj)

theorem mem_getD (l : List ByteArray) (j : Nat) (hj : j < l.length) : l.getD j ByteArray.empty ∈ l := by
  simp only [List.getD, List.getElem?_eq_getElem hj, Option.getD_some]
  exact List.getElem_mem hj

theorem put_at : ∀ (l : List ByteArray) (s : ByteArray) (j : Nat), j ≤ l.length → (∀ i, i < j → less (l.getD i ByteArray.empty) s = true) →
    (j < l.length → less (l.getD j ByteArray.empty) s = false) → putL l s = if j < l.length ∧ l.getD j ByteArray.empty = s then l else l.take j ++ s :: l.drop j
  | [], s, j, hj, _, _ => by
    have : j = 0 := by simpa using hj
    subst this
    rw [if_neg (by simp)]
    rfl
  | a :: l, s, 0, _, _, h2 => by
    have h := h2 (by simp)
    simp only [List.getD_cons_zero] at h
    rw [putL, h, if_neg (by decide)]
    by_cases e : a = s
    · rw [if_pos e, if_pos (by simp [e])]
    · rw [if_neg e, if_neg (by simp [e])]
      rfl
  | a :: l, s, j + 1, hj, h1, h2 => by
    have h := h1 0 (by omega)
    simp only [List.getD_cons_zero] at h
    have ih := put_at l s j (by simpa using hj) (fun i hi => by simpa using h1 (i + 1) (by omega)) (fun hl => by simpa using h2 (by simpa using hl))
    rw [putL, if_pos h, ih]
    by_cases e : j < l.length ∧ l.getD j ByteArray.empty = s
    · rw [if_pos e, if_pos (by simpa using e)]
    · rw [if_neg e, if_neg (by simpa using e)]
      simp

theorem string_info : (Try.prog.info? 9).map (fun i => (i.zero, i.size, i.bytes)) = some (some (.string ByteArray.empty), 1, 16) := by kernel_rfl
theorem string_size : (Try.prog.info? 9).map (·.size) = some 1 := by kernel_rfl
theorem elem_strs : Try.prog.elem 35 = 9 := by kernel_rfl

/-- A slice that reads as texts. -/
def SomeS (w : World) (A0 : Option Addr) (ss : List ByteArray) (e : Ending) (w' : World) : Prop := ∃ A n ca, e = .returned (.slice A n ca) ∧ RdS w' A n ca ss ∧ Below w.heap.size w w' ∧ (A = A0 ∨ ∀ a, A = some a → w.heap.size ≤ a.block)

set_option maxHeartbeats 4000000 in
set_option maxRecDepth 100000 in
theorem refPut_any (A : Option Addr) (n ca : Nat) (ss : List ByteArray) (s : ByteArray) (w : World) (ha : RdS w A n ca ss) (hsm : n ≤ 1000000) :
    Calls Try.prog 23 #[.slice A n ca, .string s] w (SomeS w A (putL ss s)) := by
  have la := ha.len
  have hput := fun j => put_at ss s j
  have HP := Go.Lib.hid hput
  have LA := Go.Lib.hid la
  clear la hput
  go_enter Try.func23, Try.ntmps23
  go_wp2_with fail
  go_loop [5] (fun i => ∃ j : Nat, j ≤ n ∧ i = .int .i64 j ∧ (∀ i, i < j → less (ss.getD i ByteArray.empty) s = true)) (fun i => n - (intOf i).toNat)
  case atStart => exact ⟨0, Nat.zero_le _, rfl, fun i hi => by omega⟩
  case round =>
    obtain ⟨j, hj, rfl, hq⟩ := hrel
    have HQ := Go.Lib.hid hq
    clear hq
    by_cases hlt : j < n
    · obtain ⟨ba, oa, rfl, _, ka⟩ := ha.at_ (by omega)
      have ka1 := ka j hlt
      have i1 : (j : Int) < n := by omega
      clear ka
      generalize hx : ss.getD j ByteArray.empty = x at *
      have HX := Go.Lib.hid hx
      clear hx
      by_cases hl : less x s = true
      · have hb : Op.bytesLess x.toList s.toList = true := hl
        go_wp2_with fail
        go_round
        case rel =>
          refine ⟨j + 1, by omega, by go_num, fun i hi => ?_⟩
          rcases Nat.lt_succ_iff_lt_or_eq.1 hi with h | rfl
          · exact HQ.out i h
          · rw [HX.out]; exact hl
        case measure => simp [intOf]; omega
      · have hb : Op.bytesLess x.toList s.toList = false := by simpa [less] using hl
        have hq := HP.out j (by rw [LA.out]; exact hj) HQ.out (fun _ => by rw [HX.out]; simpa using hl)
        by_cases hxs : x = s
        · subst hxs
          rw [if_pos ⟨by rw [LA.out]; exact hlt, HX.out⟩] at hq
          have HE := Go.Lib.hid hq
          clear hq
          go_wp2_with fail
          go_ret
          exact ⟨_, _, _, rfl, by rw [HE.out]; exact ha, Below.refl _ _, .inl rfl⟩
        · rw [if_neg (fun h => hxs (HX.out.symm.trans h.2))] at hq
          have hne := str_ne hxs
          have HE := Go.Lib.hid hq
          clear hq
          obtain ⟨A1, q1, d1⟩ := slice_lo (P := Try.prog) 35 9 Try.underlying35 elem_strs string_size ha (m := j) (by omega)
          obtain ⟨q2, d2⟩ := slice_hi (P := Try.prog) 35 9 Try.underlying35 elem_strs string_size ha (m := j) (by omega)
          rw [strs_drop] at d1
          rw [strs_take] at d2
          have ba : Below w.heap.size w (w.alloc (.cells #[] 9)) := (Below.refl _ _).alloc (Nat.le_refl _) _
          have d3 := d1.below ba
          have o1 : OwnC 1 (w.alloc (.cells #[] 9)) w.heap.size 9 (some ⟨w.heap.size, 0, none⟩) 0 0 [] := OwnC.empty w 9 (Nat.le_refl _)
          go_wp2_with (first
            | (at_builtin; refine wpList_copy_cells rfl (.tmp 35) (.tmp 38) 35 rfl 9 (.string ByteArray.empty) 16 Try.underlying35 string_info rfl (by decide) rfl rfl o1 d3 (strs_one _) (by unfold maxLen; omega) (by omega) ba.size ba ?_; intro A5 c5 w5 o5 b5; have bb := (Below.refl w5.heap.size w5).alloc (Nat.le_refl _) (.cells #[] 9); have d5 := (d2.below b5).below bb; have o6 : OwnC 1 (w5.alloc (.cells #[] 9)) w5.heap.size 9 (some ⟨w5.heap.size, 0, none⟩) 0 0 [] := OwnC.empty w5 9 (Nat.le_refl _))
            | (at_builtin; refine wpList_copy_cells rfl (.tmp 40) (.tmp 43) 35 rfl 9 (.string ByteArray.empty) 16 Try.underlying35 string_info rfl (by decide) rfl rfl o6 d5 (strs_one _) (by unfold maxLen; omega) (by omega) bb.size bb ?_; intro A7 c7 w7 o7 b7; have bc := (Below.refl w7.heap.size w7).alloc (Nat.le_refl _) (.cells #[.string s] 9); have o8 := o7.below bc; have d8 : RdC 1 (w7.alloc (.cells #[.string s] 9)) (some ⟨w7.heap.size, 0, none⟩) 1 1 (strs [s]) := RdC.new w7 9 (strs [s]) rfl (by decide); have b8 := below_chain b7 bc)
            | (at_builtin; refine wpList_more_cells rfl (.tmp 45) (.tmp 47) 35 rfl 9 (.string ByteArray.empty) 16 Try.underlying35 string_info rfl (by decide) rfl rfl o8 d8 (strs_one _) (by unfold maxLen; omega) (by omega) b8.size b8 ?_; intro A9 c9 w9 o9 b9 g9; have d9 := (OwnC.rd o5).below b9)
            | (at_builtin; refine wpList_more_cells rfl (.tmp 49) (.tmp 50) 35 rfl 9 (.string ByteArray.empty) 16 Try.underlying35 string_info rfl (by decide) rfl rfl o9 d9 (strs_one _) (by unfold maxLen; omega) (by omega) b9.size b9 ?_; intro A10 c10 w10 o10 b10 g10))
          go_ret
          refine ⟨_, _, _, rfl, ?_, below_chain b5 b10, .inr fun a ha => Nat.le_trans b5.size (OwnC.lt o10 a ha).1⟩
          rw [HE.out]
          have h10 := OwnC.rd o10
          rw [← strs_append, ← strs_append, List.append_assoc] at h10
          exact h10
    · have hq := HP.out j (by rw [LA.out]; exact hj) HQ.out (fun h => by rw [LA.out] at h; omega)
      rw [if_neg (fun h => by have := h.1; rw [LA.out] at this; omega)] at hq
      have i2 : ¬ (j : Int) < n := by omega
      have HE := Go.Lib.hid hq
      clear hq
      obtain ⟨A1, q1, d1⟩ := slice_lo (P := Try.prog) 35 9 Try.underlying35 elem_strs string_size ha (m := j) (by omega)
      obtain ⟨q2, d2⟩ := slice_hi (P := Try.prog) 35 9 Try.underlying35 elem_strs string_size ha (m := j) (by omega)
      rw [strs_drop] at d1
      rw [strs_take] at d2
      have ba : Below w.heap.size w (w.alloc (.cells #[] 9)) := (Below.refl _ _).alloc (Nat.le_refl _) _
      have d3 := d1.below ba
      have o1 : OwnC 1 (w.alloc (.cells #[] 9)) w.heap.size 9 (some ⟨w.heap.size, 0, none⟩) 0 0 [] := OwnC.empty w 9 (Nat.le_refl _)
      go_wp2_with (first
        | (at_builtin; refine wpList_copy_cells rfl (.tmp 35) (.tmp 38) 35 rfl 9 (.string ByteArray.empty) 16 Try.underlying35 string_info rfl (by decide) rfl rfl o1 d3 (strs_one _) (by unfold maxLen; omega) (by omega) ba.size ba ?_; intro A5 c5 w5 o5 b5; have bb := (Below.refl w5.heap.size w5).alloc (Nat.le_refl _) (.cells #[] 9); have d5 := (d2.below b5).below bb; have o6 : OwnC 1 (w5.alloc (.cells #[] 9)) w5.heap.size 9 (some ⟨w5.heap.size, 0, none⟩) 0 0 [] := OwnC.empty w5 9 (Nat.le_refl _))
        | (at_builtin; refine wpList_copy_cells rfl (.tmp 40) (.tmp 43) 35 rfl 9 (.string ByteArray.empty) 16 Try.underlying35 string_info rfl (by decide) rfl rfl o6 d5 (strs_one _) (by unfold maxLen; omega) (by omega) bb.size bb ?_; intro A7 c7 w7 o7 b7; have bc := (Below.refl w7.heap.size w7).alloc (Nat.le_refl _) (.cells #[.string s] 9); have o8 := o7.below bc; have d8 : RdC 1 (w7.alloc (.cells #[.string s] 9)) (some ⟨w7.heap.size, 0, none⟩) 1 1 (strs [s]) := RdC.new w7 9 (strs [s]) rfl (by decide); have b8 := below_chain b7 bc)
        | (at_builtin; refine wpList_more_cells rfl (.tmp 45) (.tmp 47) 35 rfl 9 (.string ByteArray.empty) 16 Try.underlying35 string_info rfl (by decide) rfl rfl o8 d8 (strs_one _) (by unfold maxLen; omega) (by omega) b8.size b8 ?_; intro A9 c9 w9 o9 b9 g9; have d9 := (OwnC.rd o5).below b9)
        | (at_builtin; refine wpList_more_cells rfl (.tmp 49) (.tmp 50) 35 rfl 9 (.string ByteArray.empty) 16 Try.underlying35 string_info rfl (by decide) rfl rfl o9 d9 (strs_one _) (by unfold maxLen; omega) (by omega) b9.size b9 ?_; intro A10 c10 w10 o10 b10 g10))
      go_ret
      refine ⟨_, _, _, rfl, ?_, below_chain b5 b10, .inr fun a ha => Nat.le_trans b5.size (OwnC.lt o10 a ha).1⟩
      rw [HE.out]
      have h10 := OwnC.rd o10
      rw [← strs_append, ← strs_append, List.append_assoc] at h10
      exact h10

end Go.Proofs.Ytlmdkbhcocfhdaa.EvWalk

/-
  Contracts of the document's answers of layer 4: Has, Value, Same.
-/
namespace Go.Proofs.Ytlmdkbhcocfhdaa.EvWalk
open Go.RowKit Go.Proofs.Ytlmdkbhcocfhdaa.MemRow Go.Proofs.Ytlmdkbhcocfhdaa.Ev Go.Proofs.Ytlmdkbhcocfhdaa.NameMath Go.Proofs.Ytlmdkbhcocfhdaa.NameWalk

def hasB (ss : List ByteArray) (x : ByteArray) : Bool := ss.any fun y => decide (y = x)
theorem hasB_mem {ss : List ByteArray} {x : ByteArray} : hasB ss x = true ↔ x ∈ ss := by
  unfold hasB
  rw [List.any_eq_true]
  constructor
  · rintro ⟨y, h, e⟩
    rwa [of_decide_eq_true e] at h
  · intro h
    exact ⟨x, h, decide_eq_true rfl⟩
/-- The number of the first field with a name. -/
def valueF : List (ByteArray × Int) → ByteArray → Int × Bool
  | [], _ => (0, false)
  | f :: fs, x => if f.1 = x then (f.2, true) else valueF fs x

theorem drop_get (l : List (ByteArray × Int)) (j : Nat) (h : j < l.length) : l.drop j = l.getD j (ByteArray.empty, 0) :: l.drop (j + 1) := by
  rw [List.drop_eq_getElem_cons h]
  simp [List.getD, List.getElem?_eq_getElem h]



/-- Two events are the same. -/
def sameB (a b : Ev) : Bool := decide (a.s = b.s) && (decide (a.t = b.t) && (decide (a.tags = b.tags) && decide (a.fs = b.fs)))

theorem flds_step (fs gs : List (ByteArray × Int)) (j : Nat) (h1 : j < fs.length) (h2 : j < gs.length) (h : fs.take j = gs.take j) (he : fs.getD j (ByteArray.empty, 0) = gs.getD j (ByteArray.empty, 0)) : fs.take (j + 1) = gs.take (j + 1) := by
  rw [List.take_succ_eq_append_getElem h1, List.take_succ_eq_append_getElem h2, h]
  simp only [List.getD, List.getElem?_eq_getElem h1, List.getElem?_eq_getElem h2, Option.getD_some] at he
  rw [he]

theorem sameB_no {a b : Ev} (h : a.s ≠ b.s ∨ a.t ≠ b.t ∨ a.tags ≠ b.tags ∨ a.fs ≠ b.fs) : sameB a b = false := by
  unfold sameB
  rcases h with h | h | h | h
  · rw [decide_eq_false h]; rfl
  · rw [decide_eq_false h, Bool.false_and, Bool.and_false]
  · rw [decide_eq_false h, Bool.false_and, Bool.and_false, Bool.and_false]
  · rw [decide_eq_false h, Bool.and_false, Bool.and_false, Bool.and_false]
theorem sameB_refl (a : Ev) : sameB a a = true := by simp [sameB]



end Go.Proofs.Ytlmdkbhcocfhdaa.EvWalk

/-
  Contract of the document's answer of layer 4: May.
-/
namespace Go.Proofs.Ytlmdkbhcocfhdaa.EvWalk
open Go.RowKit Go.Proofs.Ytlmdkbhcocfhdaa.MemRow Go.Proofs.Ytlmdkbhcocfhdaa.Ev Go.Proofs.Ytlmdkbhcocfhdaa.NameMath Go.Proofs.Ytlmdkbhcocfhdaa.NameWalk

/-- It is a name. -/
def nameB (s : ByteArray) : Bool := may s.data.toList
/-- A number that a field may have. -/
def fitB (f : ByteArray × Int) : Bool := decide (-1099511627776 ≤ f.2 ∧ f.2 ≤ 1099511627776)

/-- What is wrong with an event. -/
def mayE (e : Ev) : Int :=
  if (nameB e.s && nameB e.t) = false then 5
  else if 6 < e.tags.length ∨ 4 < e.fs.length then 3
  else if ((e.fs.all fun f => nameB f.1) && e.tags.all tagB) = false then 5
  else if (e.fs.all fitB && (riseB e.tags && riseB (e.fs.map (·.1)))) = false then 1 else 0

theorem fs_take (fs : List (ByteArray × Int)) (j : Nat) (h : j < fs.length) : fs.take (j + 1) = fs.take j ++ [fs.getD j (ByteArray.empty, 0)] := by
  rw [List.take_succ_eq_append_getElem h]
  simp [List.getD, List.getElem?_eq_getElem h]
theorem fs_mem (fs : List (ByteArray × Int)) (j : Nat) (h : j < fs.length) : fs.getD j (ByteArray.empty, 0) ∈ fs := by
  simp only [List.getD, List.getElem?_eq_getElem h, Option.getD_some]
  exact List.getElem_mem h

/-- What stands at the head of a round of May. -/
structure MayAt (wr w2 : World) (Nm : Option Addr) (j cn : Nat) (fs : List (ByteArray × Int)) : Prop where
  own : OwnC 1 wr w2.heap.size 9 Nm j cn (strs ((fs.take j).map (·.1)))
  bel : Below w2.heap.size w2 wr
  names : (fs.take j).all (fun f => nameB f.1) = true

end Go.Proofs.Ytlmdkbhcocfhdaa.EvWalk

/-
  Contract of the document's answer of layer 4: Norm.
-/
namespace Go.Proofs.Ytlmdkbhcocfhdaa.EvWalk
open Go.RowKit Go.Proofs.Ytlmdkbhcocfhdaa.MemRow Go.Proofs.Ytlmdkbhcocfhdaa.Ev Go.Proofs.Ytlmdkbhcocfhdaa.NameMath Go.Proofs.Ytlmdkbhcocfhdaa.NameWalk

/-- Texts in order, each once. -/
def normTags (ss : List ByteArray) : List ByteArray := ss.foldl putL []
/-- The last field with a name. -/
def lastF (fs : List (ByteArray × Int)) (x : ByteArray) : ByteArray × Int := fs.foldl (fun a f => if f.1 = x then f else a) (ByteArray.empty, 0)
def normFs (fs : List (ByteArray × Int)) : List (ByteArray × Int) := (normTags (fs.map (·.1))).map (lastF fs)
/-- An event in order. -/
def normE (e : Ev) : Ev := ⟨e.s, e.t, normTags e.tags, normFs e.fs⟩

theorem normTags_snoc (l : List ByteArray) (x : ByteArray) : normTags (l ++ [x]) = putL (normTags l) x := by simp [normTags, List.foldl_append]
theorem putL_len (l : List ByteArray) (x : ByteArray) : (putL l x).length ≤ l.length + 1 := by
  induction l with
  | nil => simp [putL]
  | cons a l ih =>
    rw [putL]
    split
    · simpa using ih
    · split <;> simp
theorem normTags_len (l : List ByteArray) : (normTags l).length ≤ l.length := by
  suffices h : ∀ (l m : List ByteArray), (l.foldl putL m).length ≤ m.length + l.length by simpa [normTags] using h l []
  intro l
  induction l with
  | nil => intro m; simp
  | cons a l ih =>
    intro m
    have := ih (putL m a)
    have := putL_len m a
    simp only [List.foldl_cons, List.length_cons]
    omega
theorem lastF_snoc (l : List (ByteArray × Int)) (f : ByteArray × Int) (x : ByteArray) : lastF (l ++ [f]) x = if f.1 = x then f else lastF l x := by simp [lastF, List.foldl_append]

variable {wr w w' : World} {s t : ByteArray} {va vb vt vf : Value}
theorem cell_far {b o g i : Nat} {v x : Value} (h : w.cell? ⟨b, o, none⟩ = some v) (hne : b ≠ g) : (w.setCell ⟨g, i, none⟩ x).cell? ⟨b, o, none⟩ = some v := by
  rw [World.cell?_setCell_other _ _ _ _ (fun e => hne (by injection e with e1 e2; exact e1.symm))]
  exact h

/-- A row that no store into the made event's cell touches. -/
theorem RdC.off {k : Nat} {A : Option Addr} {n cap : Nat} {cs : List Value} {g i : Nat} (h : RdC k wr A n cap cs) (hne : ∀ a, A = some a → a.block ≠ g) (x : Value) : RdC k (wr.setCell ⟨g, i, none⟩ x) A n cap cs :=
  h.keep fun b o hA j v hc => by
    rw [World.cell?_setCell_other _ _ _ _ (fun e => hne _ hA (by injection e with e1 e2; exact e1.symm))]
    exact hc

theorem RdC.all {k : Nat} {A : Option Addr} {n cap : Nat} {cs : List Value} {g : Nat} (h : RdC k wr A n cap cs) (hne : ∀ a, A = some a → a.block ≠ g) (x0 x1 x2 x3 : Value) : RdC k ((((wr.setCell ⟨g, 0, none⟩ x0).setCell ⟨g, 1, none⟩ x1).setCell ⟨g, 2, none⟩ x2).setCell ⟨g, 3, none⟩ x3) A n cap cs :=
  RdC.off (RdC.off (RdC.off (RdC.off h hne x0) hne x1) hne x2) hne x3



end Go.Proofs.Ytlmdkbhcocfhdaa.EvWalk

/-
  Mathematics of layer 4: the order of texts, what is put in order, events that may be. No walk here.
-/
namespace Go.Proofs.Ytlmdkbhcocfhdaa.EvWalk
open Go.RowKit Go.Proofs.Ytlmdkbhcocfhdaa.MemRow Go.Proofs.Ytlmdkbhcocfhdaa.Ev Go.Proofs.Ytlmdkbhcocfhdaa.NameMath Go.Proofs.Ytlmdkbhcocfhdaa.NameWalk

theorem less_eq (a b : ByteArray) : less a b = decide (a.data.toList < b.data.toList) := by
  unfold less
  rw [Go.Proofs.bytesLess_eq, ByteArray.toList_eq, ByteArray.toList_eq]
theorem less_irrefl (a : ByteArray) : less a a = false := by
  rw [less_eq]
  exact decide_eq_false (List.lt_irrefl _)
theorem less_trans {a b c : ByteArray} (h1 : less a b = true) (h2 : less b c = true) : less a c = true := by
  rw [less_eq] at *
  exact decide_eq_true (List.lt_trans (of_decide_eq_true h1) (of_decide_eq_true h2))
theorem less_tri {a b : ByteArray} (h1 : less a b = false) (h2 : a ≠ b) : less b a = true := by
  rw [less_eq] at *
  refine decide_eq_true ?_
  have h3 : ¬ a.data.toList < b.data.toList := of_decide_eq_false h1
  rcases List.le_iff_lt_or_eq.1 (List.not_lt.1 h3) with h | h
  · exact h
  · exact absurd (ba_ext h.symm) h2
theorem less_ne {a b : ByteArray} (h : less a b = true) : a ≠ b := by
  rintro rfl
  rw [less_irrefl] at h
  cases h

/-- Each text is ahead of all behind it. -/
def Up (l : List ByteArray) : Prop := l.Pairwise fun a b => less a b = true

theorem rise_up : ∀ (l : List ByteArray), riseB l = true ↔ Up l
  | [] => by simp [riseB, Up]
  | [a] => by simp [riseB, Up]
  | a :: b :: l => by
    have ih := rise_up (b :: l)
    unfold Up at ih ⊢
    rw [riseB, Bool.and_eq_true, ih]
    constructor
    · rintro ⟨h1, h2⟩
      refine List.pairwise_cons.2 ⟨fun x hx => ?_, h2⟩
      rcases List.mem_cons.1 hx with rfl | hx
      · exact h1
      · exact less_trans h1 ((List.pairwise_cons.1 h2).1 x hx)
    · intro h
      have h3 := List.pairwise_cons.1 h
      exact ⟨h3.1 b (by simp), h3.2⟩

theorem putL_mem (l : List ByteArray) (s x : ByteArray) : x ∈ putL l s ↔ x = s ∨ x ∈ l := by
  induction l with
  | nil => simp [putL]
  | cons a l ih =>
    rw [putL]
    split
    · rw [List.mem_cons, ih, List.mem_cons]
      constructor
      · rintro (h | h | h) <;> simp [h]
      · rintro (h | h | h) <;> simp [h]
    · split
      · next h => subst h; simp
      · simp

theorem putL_up {l : List ByteArray} (h : Up l) (s : ByteArray) : Up (putL l s) := by
  induction l with
  | nil => simp [putL, Up]
  | cons a l ih =>
    have h1 := List.pairwise_cons.1 h
    rw [putL]
    split
    · next hl =>
      refine List.pairwise_cons.2 ⟨fun x hx => ?_, ih h1.2⟩
      rcases (putL_mem l s x).1 hx with rfl | hx
      · exact hl
      · exact h1.1 x hx
    · next hl =>
      split
      · exact h
      · next hne =>
        have hs : less s a = true := less_tri (by simpa using hl) hne
        refine List.pairwise_cons.2 ⟨fun x hx => ?_, h⟩
        rcases List.mem_cons.1 hx with rfl | hx
        · exact hs
        · exact less_trans hs (h1.1 x hx)

theorem foldl_up (l m : List ByteArray) (h : Up m) : Up (l.foldl putL m) := by
  induction l generalizing m with
  | nil => exact h
  | cons a l ih => exact ih _ (putL_up h a)
theorem normTags_up (l : List ByteArray) : Up (normTags l) := foldl_up l [] (by simp [Up])
theorem foldl_mem (l m : List ByteArray) (x : ByteArray) : x ∈ l.foldl putL m ↔ x ∈ l ∨ x ∈ m := by
  induction l generalizing m with
  | nil => simp
  | cons a l ih =>
    rw [List.foldl_cons, ih, putL_mem, List.mem_cons]
    constructor
    · rintro (h | h | h) <;> simp [h]
    · rintro ((h | h) | h) <;> simp [h]
theorem normTags_mem (l : List ByteArray) (x : ByteArray) : x ∈ normTags l ↔ x ∈ l := by
  unfold normTags
  rw [foldl_mem]
  simp

/-- Texts in order that have the same elements are the same. -/
theorem up_ext : ∀ {l m : List ByteArray}, Up l → Up m → (∀ x, x ∈ l ↔ x ∈ m) → l = m
  | [], [], _, _, _ => rfl
  | [], b :: m, _, _, h => by have := (h b).2 (by simp); simp at this
  | a :: l, [], _, _, h => by have := (h a).1 (by simp); simp at this
  | a :: l, b :: m, hl, hm, h => by
    have hl1 := List.pairwise_cons.1 hl
    have hm1 := List.pairwise_cons.1 hm
    have hab : a = b := by
      by_cases e : a = b
      · exact e
      · have h1 : b ∈ l := by
          rcases List.mem_cons.1 ((h b).2 (by simp)) with e2 | h2
          · exact absurd e2.symm e
          · exact h2
        have h2 : a ∈ m := by
          rcases List.mem_cons.1 ((h a).1 (by simp)) with e2 | h2
          · exact absurd e2 e
          · exact h2
        have h3 := less_trans (hl1.1 b h1) (hm1.1 a h2)
        rw [less_irrefl] at h3
        cases h3
    subst hab
    congr 1
    refine up_ext hl1.2 hm1.2 fun x => ?_
    have hx := h x
    simp only [List.mem_cons] at hx
    constructor
    · intro hxl
      rcases hx.1 (.inr hxl) with e | h4
      · subst e
        have := hl1.1 x hxl
        rw [less_irrefl] at this
        cases this
      · exact h4
    · intro hxm
      rcases hx.2 (.inr hxm) with e | h4
      · subst e
        have := hm1.1 x hxm
        rw [less_irrefl] at this
        cases this
      · exact h4

/-- What is in order stays so. -/
theorem normTags_self {l : List ByteArray} (h : Up l) : normTags l = l := up_ext (normTags_up l) h (normTags_mem l)
theorem normTags_same {l m : List ByteArray} (h : ∀ x, x ∈ l ↔ x ∈ m) : normTags l = normTags m :=
  up_ext (normTags_up l) (normTags_up m) fun x => by rw [normTags_mem, normTags_mem, h]

theorem up_sub {l m : List ByteArray} (h : Up m) (hs : l.Sublist m) : Up l := List.Pairwise.sublist hs h

/-! ### Fields -/
theorem lastF_name (fs : List (ByteArray × Int)) (x : ByteArray) (h : x ∈ fs.map (·.1)) : (lastF fs x).1 = x := by
  suffices g : ∀ (fs : List (ByteArray × Int)) (a : ByteArray × Int), (a.1 = x ∨ x ∈ fs.map (·.1)) → (fs.foldl (fun a f => if f.1 = x then f else a) a).1 = x from g fs _ (.inr h)
  intro fs
  induction fs with
  | nil =>
    rintro a (h | h)
    · exact h
    · simp at h
  | cons f fs ih =>
    intro a h
    rw [List.foldl_cons]
    by_cases e : f.1 = x
    · rw [if_pos e]
      exact ih f (.inl e)
    · rw [if_neg e]
      refine ih a ?_
      rcases h with h | h
      · exact .inl h
      · right
        simp only [List.map_cons, List.mem_cons] at h
        rcases h with h | h
        · exact absurd h.symm e
        · exact h
theorem normFs_names (fs : List (ByteArray × Int)) : (normFs fs).map (·.1) = normTags (fs.map (·.1)) := by
  unfold normFs
  rw [List.map_map]
  conv => rhs; rw [← List.map_id (normTags (fs.map (·.1)))]
  refine List.map_congr_left fun x hx => ?_
  exact lastF_name fs x ((normTags_mem _ x).1 hx)

/-- With names in order each field is the last one with its name. -/
theorem lastF_self {fs : List (ByteArray × Int)} (h : Up (fs.map (·.1))) : (fs.map (·.1)).map (lastF fs) = fs := by
  suffices g : ∀ (pre fs : List (ByteArray × Int)), Up ((pre ++ fs).map (·.1)) → (fs.map (·.1)).map (lastF (pre ++ fs)) = fs by simpa using g [] fs (by simpa using h)
  intro pre fs
  induction fs generalizing pre with
  | nil => intro _; rfl
  | cons f fs ih =>
    intro hu
    have e : pre ++ f :: fs = (pre ++ [f]) ++ fs := by simp
    have h1 := ih (pre ++ [f]) (by rw [← e]; exact hu)
    rw [← e] at h1
    rw [List.map_cons, List.map_cons, h1]
    congr 1
    have hn : ∀ g ∈ fs, g.1 ≠ f.1 := by
      intro g hg
      have h2 : Up ((f :: fs).map (·.1)) := up_sub hu (by simp)
      have h3 := (List.pairwise_cons.1 h2).1 g.1 (List.mem_map_of_mem hg)
      exact fun e => less_ne h3 e.symm
    have hk : ∀ (l : List (ByteArray × Int)) (a : ByteArray × Int), (∀ g ∈ l, g.1 ≠ f.1) → l.foldl (fun a g => if g.1 = f.1 then g else a) a = a := by
      intro l
      induction l with
      | nil => intro a _; rfl
      | cons g l ih2 =>
        intro a hl
        rw [List.foldl_cons, if_neg (hl g (by simp))]
        exact ih2 a fun g hg => hl g (by simp [hg])
    unfold lastF
    rw [List.foldl_append, List.foldl_cons, if_pos rfl]
    exact hk fs f hn
theorem normFs_self {fs : List (ByteArray × Int)} (h : Up (fs.map (·.1))) : normFs fs = fs := by
  unfold normFs
  rw [normTags_self h, lastF_self h]
theorem normFs_up (fs : List (ByteArray × Int)) : Up ((normFs fs).map (·.1)) := by
  rw [normFs_names]
  exact normTags_up _

theorem normE_norm (e : Ev) : normE (normE e) = normE e := by
  unfold normE
  simp only
  rw [normTags_self (normTags_up _), normFs_self (normFs_up _)]
theorem normE_tags {e : Ev} {ts : List ByteArray} (h : ∀ x, x ∈ ts ↔ x ∈ e.tags) : normE ⟨e.s, e.t, ts, e.fs⟩ = normE e := by
  unfold normE
  simp only
  rw [normTags_same h]

/-- What it is for an event to be one that may be. -/
theorem mayE_zero (e : Ev) : mayE e = 0 ↔ nameB e.s = true ∧ nameB e.t = true ∧ e.tags.length ≤ 6 ∧ e.fs.length ≤ 4 ∧ (e.fs.all fun f => nameB f.1) = true ∧ e.tags.all tagB = true ∧ e.fs.all fitB = true ∧ Up e.tags ∧ Up (e.fs.map (·.1)) := by
  rw [← rise_up, ← rise_up]
  unfold mayE
  by_cases h1 : (nameB e.s && nameB e.t) = false
  · rw [if_pos h1]
    simp only [Bool.and_eq_false_iff] at h1
    constructor
    · intro h; omega
    · rintro ⟨a, b, _⟩
      rcases h1 with h1 | h1
      · rw [a] at h1; cases h1
      · rw [b] at h1; cases h1
  · rw [if_neg h1]
    simp only [Bool.not_eq_false, Bool.and_eq_true] at h1
    by_cases h2 : 6 < e.tags.length ∨ 4 < e.fs.length
    · rw [if_pos h2]
      constructor
      · intro h; omega
      · rintro ⟨_, _, a, b, _⟩; omega
    · rw [if_neg h2]
      by_cases h3 : ((e.fs.all fun f => nameB f.1) && e.tags.all tagB) = false
      · rw [if_pos h3]
        constructor
        · intro h; omega
        · rintro ⟨_, _, _, _, a, b, _⟩
          rw [a, b] at h3
          cases h3
      · rw [if_neg h3]
        simp only [Bool.not_eq_false, Bool.and_eq_true] at h3
        by_cases h4 : (e.fs.all fitB && (riseB e.tags && riseB (e.fs.map (·.1)))) = false
        · rw [if_pos h4]
          constructor
          · intro h; omega
          · rintro ⟨_, _, _, _, _, _, a, b, c⟩
            rw [a, b, c] at h4
            cases h4
        · rw [if_neg h4]
          simp only [Bool.not_eq_false, Bool.and_eq_true] at h4
          refine ⟨fun _ => ⟨h1.1, h1.2, by omega, by omega, h3.1, h3.2, h4.1, h4.2.1, h4.2.2⟩, fun _ => rfl⟩

/-- An event that may be is in order. -/
theorem normE_may {e : Ev} (h : mayE e = 0) : normE e = e := by
  obtain ⟨_, _, _, _, _, _, _, h1, h2⟩ := (mayE_zero e).1 h
  unfold normE
  rw [normTags_self h1, normFs_self h2]

/-- The value of a field whose name stands once. -/
theorem value_up {fs : List (ByteArray × Int)} (h : Up (fs.map (·.1))) {f : ByteArray × Int} (hf : f ∈ fs) : valueF fs f.1 = (f.2, true) := by
  induction fs with
  | nil => simp at hf
  | cons g fs ih =>
    have h1 := List.pairwise_cons.1 h
    rw [valueF]
    rcases List.mem_cons.1 hf with rfl | hf
    · rw [if_pos rfl]
    · have h2 := less_ne (h1.1 f.1 (List.mem_map_of_mem hf))
      rw [if_neg h2]
      exact ih h1.2 hf
theorem value_none {fs : List (ByteArray × Int)} {x : ByteArray} (h : x ∉ fs.map (·.1)) : valueF fs x = (0, false) := by
  induction fs with
  | nil => rfl
  | cons g fs ih =>
    simp only [List.map_cons, List.mem_cons, not_or] at h
    rw [valueF, if_neg (fun e => h.1 e.symm)]
    exact ih h.2

theorem hasB_norm (e : Ev) (x : ByteArray) : hasB (normE e).tags x = hasB e.tags x := by
  rw [Bool.eq_iff_iff, hasB_mem, hasB_mem]
  exact normTags_mem _ _

theorem lastF_mem (fs : List (ByteArray × Int)) (x : ByteArray) (h : x ∈ fs.map (·.1)) : lastF fs x ∈ fs := by
  suffices g : ∀ (fs : List (ByteArray × Int)) (a : ByteArray × Int), (x ∈ fs.map (·.1)) → (fs.foldl (fun a f => if f.1 = x then f else a) a) ∈ fs from g fs _ h
  intro fs
  induction fs with
  | nil => intro a h; simp at h
  | cons f fs ih =>
    intro a h
    rw [List.foldl_cons]
    by_cases hx : x ∈ fs.map (·.1)
    · exact List.mem_cons_of_mem _ (ih _ hx)
    · have hk : ∀ (l : List (ByteArray × Int)) (b : ByteArray × Int), x ∉ l.map (·.1) → l.foldl (fun a g => if g.1 = x then g else a) b = b := by
        intro l
        induction l with
        | nil => intro b _; rfl
        | cons g l ih2 =>
          intro b hl
          simp only [List.map_cons, List.mem_cons, not_or] at hl
          rw [List.foldl_cons, if_neg (fun e => hl.1 e.symm)]
          exact ih2 b hl.2
      rw [hk fs _ hx]
      simp only [List.map_cons, List.mem_cons] at h
      rcases h with h | h
      · rw [if_pos h.symm]; simp
      · exact absurd h hx
theorem normFs_mem {fs : List (ByteArray × Int)} {f : ByteArray × Int} (h : f ∈ normFs fs) : f ∈ fs := by
  unfold normFs at h
  obtain ⟨x, hx, rfl⟩ := List.mem_map.1 h
  exact lastF_mem fs x ((normTags_mem _ x).1 hx)
theorem normFs_len (fs : List (ByteArray × Int)) : (normFs fs).length ≤ fs.length := by
  unfold normFs
  rw [List.length_map]
  have := normTags_len (fs.map (·.1))
  rwa [List.length_map] at this

/-- What comes of an event whose order alone, or whose numbers, are not as they should be. -/
theorem mayE_norm {e : Ev} (h : mayE e = 1) : mayE (normE e) = 0 ∨ mayE (normE e) = 1 := by
  have hl1 := normTags_len e.tags
  have hl2 := normFs_len e.fs
  show mayE ⟨e.s, e.t, normTags e.tags, normFs e.fs⟩ = 0 ∨ mayE ⟨e.s, e.t, normTags e.tags, normFs e.fs⟩ = 1
  unfold mayE at h ⊢
  simp only at h ⊢
  by_cases h1 : (nameB e.s && nameB e.t) = false
  · rw [if_pos h1] at h; omega
  rw [if_neg h1] at h ⊢
  by_cases h2 : 6 < e.tags.length ∨ 4 < e.fs.length
  · rw [if_pos h2] at h; omega
  rw [if_neg h2] at h
  rw [if_neg (by omega)]
  by_cases h3 : ((e.fs.all fun f => nameB f.1) && e.tags.all tagB) = false
  · rw [if_pos h3] at h; omega
  simp only [Bool.not_eq_false, Bool.and_eq_true, List.all_eq_true] at h3
  have h4 : (((normFs e.fs).all fun f => nameB f.1) && (normTags e.tags).all tagB) = true := by
    rw [Bool.and_eq_true, List.all_eq_true, List.all_eq_true]
    exact ⟨fun f hf => h3.1 f (normFs_mem hf), fun x hx => h3.2 x ((normTags_mem _ x).1 hx)⟩
  rw [h4, if_neg (by decide)]
  split
  · exact .inr rfl
  · exact .inl rfl

/-! ### Without one, with one twice -/
theorem up_without {l : List ByteArray} (h : Up l) (i : Nat) : Up (l.take i ++ l.drop (i + 1)) := by
  refine up_sub h ?_
  conv => rhs; rw [← List.take_append_drop i l]
  exact List.Sublist.append (List.Sublist.refl _) (by rw [show l.drop (i + 1) = (l.drop i).drop 1 by rw [List.drop_drop]]; exact List.drop_sublist _ _)
theorem mem_without {α : Type} {l : List α} {i : Nat} {x : α} (h : x ∈ l.take i ++ l.drop (i + 1)) : x ∈ l := by
  rcases List.mem_append.1 h with h | h
  · exact List.mem_of_mem_take h
  · exact List.mem_of_mem_drop h
theorem up_not {l : List ByteArray} (h : Up l) {i : Nat} (hi : i < l.length) : l.getD i ByteArray.empty ∉ l.take i ++ l.drop (i + 1) := by
  have e : l = l.take i ++ l.getD i ByteArray.empty :: l.drop (i + 1) := by
    conv => lhs; rw [← List.take_append_drop i l, List.drop_eq_getElem_cons hi]
    simp [List.getD, List.getElem?_eq_getElem hi]
  rw [e] at h
  have h1 := List.pairwise_append.1 h
  have h2 := List.pairwise_cons.1 h1.2.1
  intro hm
  rcases List.mem_append.1 hm with hm | hm
  · exact less_ne (h1.2.2 _ hm _ (by simp)) rfl
  · exact less_ne (h2.1 _ hm) rfl
theorem up_twice {l : List ByteArray} {i : Nat} (hi : i < l.length) : ¬ Up (l.take (i + 1) ++ l.drop i) := by
  intro h
  have h1 := List.pairwise_append.1 h
  have ha : l[i] ∈ l.take (i + 1) := by rw [List.take_succ_eq_append_getElem hi]; exact List.mem_append.2 (.inr (List.mem_singleton.2 rfl))
  have hb : l[i] ∈ l.drop i := by rw [List.drop_eq_getElem_cons hi]; exact List.mem_cons_self
  exact less_ne (h1.2.2 _ ha _ hb) rfl

/-- Without one of its tags. -/
theorem mayE_less {e : Ev} (h : mayE e = 0) (i : Nat) : mayE ⟨e.s, e.t, e.tags.take i ++ e.tags.drop (i + 1), e.fs⟩ = 0 := by
  obtain ⟨h1, h2, h3, h4, h5, h6, h7, h8, h9⟩ := (mayE_zero e).1 h
  refine (mayE_zero _).2 ⟨h1, h2, ?_, h4, h5, ?_, h7, up_without h8 i, h9⟩
  · simp only [List.length_append, List.length_take, List.length_drop]; omega
  · rw [List.all_eq_true] at h6 ⊢
    exact fun x hx => h6 x (mem_without hx)
/-- With one of its tags twice. -/
theorem mayE_more {e : Ev} {i : Nat} (hi : i < e.tags.length) : mayE ⟨e.s, e.t, e.tags.take (i + 1) ++ e.tags.drop i, e.fs⟩ ≠ 0 :=
  fun h => up_twice hi ((mayE_zero _).1 h).2.2.2.2.2.2.2.1
/-- Without one of its fields. -/
theorem mayE_lessF {e : Ev} (h : mayE e = 0) (k : Nat) : mayE ⟨e.s, e.t, e.tags, e.fs.take k ++ e.fs.drop (k + 1)⟩ = 0 := by
  obtain ⟨h1, h2, h3, h4, h5, h6, h7, h8, h9⟩ := (mayE_zero e).1 h
  refine (mayE_zero _).2 ⟨h1, h2, h3, ?_, ?_, h6, ?_, h8, ?_⟩
  · simp only [List.length_append, List.length_take, List.length_drop]; omega
  · rw [List.all_eq_true] at h5 ⊢
    exact fun x hx => h5 x (mem_without hx)
  · rw [List.all_eq_true] at h7 ⊢
    exact fun x hx => h7 x (mem_without hx)
  · simp only [List.map_append, List.map_take, List.map_drop]
    exact up_without h9 k

end Go.Proofs.Ytlmdkbhcocfhdaa.EvWalk

/-
  Mathematics of layer 12: positions of streams, as data. No walk here.
-/
namespace Go.Proofs.Ytlmdkbhcocfhdaa.SmWalk
open Go.RowKit Go.Proofs.Ytlmdkbhcocfhdaa.MemRow Go.Proofs.Ytlmdkbhcocfhdaa.Ev Go.Proofs.Ytlmdkbhcocfhdaa.NameMath Go.Proofs.Ytlmdkbhcocfhdaa.NameWalk Go.Proofs.Ytlmdkbhcocfhdaa.EvWalk

/-- Streams' positions, rising. -/
abbrev Tb := List (ByteArray × Int)
def posF (T : Tb) (s : ByteArray) (u : Int) : List Int := (T.filter fun x => decide (x.1 = s ∧ x.2 ≤ u)).map (·.2)
def lastP (T : Tb) : Int := match T.getLast? with | some x => x.2 | none => 0
def addF (T : Tb) (s : ByteArray) (p : Int) : Int × Int × Tb := if p < 1 ∨ p ≤ lastP T then (0, 1, T) else (((posF (T ++ [(s, p)]) s p).length : Int), 0, T ++ [(s, p)])
def namesT (T : Tb) : List ByteArray := normTags (T.map (·.1))
/-- Positions rise, from 1 on. -/
def RiseT (T : Tb) : Prop := T.Pairwise (fun a b => a.2 < b.2) ∧ ∀ x ∈ T, 1 ≤ x.2

theorem posF_nil (s : ByteArray) (u : Int) : posF [] s u = [] := rfl
theorem posF_append (A B : Tb) (s : ByteArray) (u : Int) : posF (A ++ B) s u = posF A s u ++ posF B s u := by simp [posF]
theorem posF_cons (x : ByteArray × Int) (B : Tb) (s : ByteArray) (u : Int) : posF (x :: B) s u = (if x.1 = s ∧ x.2 ≤ u then [x.2] else []) ++ posF B s u := by
  unfold posF
  rw [List.filter_cons]
  by_cases h : x.1 = s ∧ x.2 ≤ u
  · rw [if_pos (by simpa using h), if_pos h]; rfl
  · rw [if_neg (by simpa using h), if_neg h]; rfl
theorem posF_hit {s : ByteArray} {p u : Int} (h : p ≤ u) (T : Tb) : posF (T ++ [(s, p)]) s u = posF T s u ++ [p] := by
  rw [posF_append, posF_cons, if_pos ⟨rfl, h⟩]; rfl
theorem posF_miss {s t : ByteArray} {p u : Int} (h : ¬ (t = s ∧ p ≤ u)) (T : Tb) : posF (T ++ [(t, p)]) s u = posF T s u := by
  rw [posF_append, posF_cons, if_neg h]; simp [posF]
theorem posF_len (T : Tb) (s : ByteArray) (u : Int) : (posF T s u).length ≤ T.length := by
  unfold posF
  rw [List.length_map]
  exact List.length_filter_le _ _
theorem posF_mem {T : Tb} {s : ByteArray} {u q : Int} : q ∈ posF T s u ↔ (s, q) ∈ T ∧ q ≤ u := by
  unfold posF
  rw [List.mem_map]
  constructor
  · rintro ⟨x, hx, rfl⟩
    rw [List.mem_filter] at hx
    obtain ⟨h1, h2⟩ := hx
    obtain ⟨h3, h4⟩ := of_decide_eq_true h2
    refine ⟨?_, h4⟩
    rw [← h3]
    exact h1
  · rintro ⟨h1, h2⟩
    exact ⟨(s, q), List.mem_filter.2 ⟨h1, by simpa using h2⟩, rfl⟩
/-- A bound behind all positions tells no more than another one. -/
theorem posF_big {T : Tb} {s : ByteArray} {u v : Int} (hu : ∀ x ∈ T, x.2 ≤ u) (hv : ∀ x ∈ T, x.2 ≤ v) : posF T s u = posF T s v := by
  unfold posF
  congr 1
  refine List.filter_congr fun x hx => ?_
  have h1 := hu x hx
  have h2 := hv x hx
  simp [h1, h2]
/-- What is told up to an earlier bound. -/
theorem posF_filter {T : Tb} {s : ByteArray} {u v : Int} (h : u ≤ v) : posF T s u = (posF T s v).filter fun q => decide (q ≤ u) := by
  induction T with
  | nil => rfl
  | cons x T ih =>
    rw [posF_cons, posF_cons, List.filter_append, ← ih]
    congr 1
    by_cases h1 : x.1 = s ∧ x.2 ≤ u
    · rw [if_pos h1, if_pos ⟨h1.1, by omega⟩]
      simp [h1.2]
    · rw [if_neg h1]
      by_cases h2 : x.1 = s ∧ x.2 ≤ v
      · rw [if_pos h2]
        have : ¬ x.2 ≤ u := fun h3 => h1 ⟨h2.1, h3⟩
        simp [this]
      · rw [if_neg h2]; rfl
theorem posF_rise {T : Tb} (h : RiseT T) (s : ByteArray) (u : Int) : (posF T s u).Pairwise (· < ·) := by
  unfold posF
  rw [List.pairwise_map]
  exact h.1.sublist List.filter_sublist
theorem last_snoc (T : Tb) (x : ByteArray × Int) : lastP (T ++ [x]) = x.2 := by simp [lastP]
theorem last_le {T : Tb} (h : RiseT T) : ∀ x ∈ T, x.2 ≤ lastP T := by
  rcases List.eq_nil_or_concat T with rfl | ⟨L, y, rfl⟩
  · intro x hx; cases hx
  · intro x hx
    rw [List.concat_eq_append, last_snoc]
    rw [List.concat_eq_append] at h hx
    rcases List.mem_append.1 hx with hx | hx
    · have := (List.pairwise_append.1 h.1).2.2 x hx y (by simp)
      omega
    · rw [List.mem_singleton] at hx
      rw [hx]
      omega
theorem last_pos {T : Tb} (h : RiseT T) : 0 ≤ lastP T := by
  rcases List.eq_nil_or_concat T with rfl | ⟨L, y, rfl⟩
  · simp [lastP]
  · rw [List.concat_eq_append, last_snoc]
    have := h.2 y (by simp)
    omega
theorem RiseT.nil : RiseT [] := ⟨List.Pairwise.nil, fun _ h => by cases h⟩
theorem RiseT.more {T : Tb} (h : RiseT T) {s : ByteArray} {p : Int} (h1 : 1 ≤ p) (h2 : lastP T < p) : RiseT (T ++ [(s, p)]) := by
  refine ⟨List.pairwise_append.2 ⟨h.1, by simp, fun a ha b hb => ?_⟩, fun x hx => ?_⟩
  · rw [List.mem_singleton] at hb
    subst hb
    have := last_le h a ha
    show a.2 < p
    omega
  · rcases List.mem_append.1 hx with hx | hx
    · exact h.2 x hx
    · rw [List.mem_singleton] at hx
      subst hx
      exact h1
theorem add_rise {T : Tb} (h : RiseT T) (s : ByteArray) (p : Int) : RiseT (addF T s p).2.2 := by
  unfold addF
  by_cases hc : p < 1 ∨ p ≤ lastP T
  · rw [if_pos hc]; exact h
  · rw [if_neg hc]
    exact h.more (by omega) (by omega)
theorem add_len (T : Tb) (s : ByteArray) (p : Int) : (addF T s p).2.2.length ≤ T.length + 1 := by
  unfold addF
  split <;> simp
theorem add_no {T : Tb} {p : Int} (s : ByteArray) (h : p < 1 ∨ p ≤ lastP T) : addF T s p = (0, 1, T) := if_pos h
theorem add_yes {T : Tb} {p : Int} (hr : RiseT T) (s : ByteArray) (h1 : 1 ≤ p) (h2 : lastP T < p) : addF T s p = (((posF T s (lastP T)).length : Int) + 1, 0, T ++ [(s, p)]) := by
  unfold addF
  rw [if_neg (by omega), posF_hit (Int.le_refl p), posF_big (v := lastP T) (fun x hx => by have := last_le hr x hx; omega) (last_le hr)]
  simp

/-! ### Streams, each at the next position -/
theorem snoc_ind {α : Type} {P : List α → Prop} (h0 : P []) (h1 : ∀ L y, P L → P (L ++ [y])) (l : List α) : P l := by
  suffices h : ∀ l : List α, P l.reverse by simpa using h l.reverse
  intro l
  induction l with
  | nil => exact h0
  | cons a l ih => rw [List.reverse_cons]; exact h1 _ _ ih
/-- How often a text stands there. -/
def cnt (l : List ByteArray) (s : ByteArray) : Nat := (l.filter fun x => decide (x = s)).length
theorem cnt_nil (s : ByteArray) : cnt [] s = 0 := rfl
theorem cnt_cons (a : ByteArray) (l : List ByteArray) (s : ByteArray) : cnt (a :: l) s = (if a = s then 1 else 0) + cnt l s := by
  unfold cnt
  rw [List.filter_cons]
  by_cases h : a = s
  · rw [if_pos (by simpa using h), if_pos h, List.length_cons]; omega
  · rw [if_neg (by simpa using h), if_neg h]; omega
theorem cnt_append (l m : List ByteArray) (s : ByteArray) : cnt (l ++ m) s = cnt l s + cnt m s := by simp [cnt]
theorem cnt_one (a s : ByteArray) : cnt [a] s = if a = s then 1 else 0 := by rw [cnt_cons, cnt_nil]; rfl
theorem cnt_le (l : List ByteArray) (s : ByteArray) : cnt l s ≤ l.length := List.length_filter_le _ _
theorem cnt_pos {l : List ByteArray} {s : ByteArray} : 0 < cnt l s ↔ s ∈ l := by
  induction l with
  | nil => simp [cnt_nil]
  | cons a l ih =>
    rw [cnt_cons, List.mem_cons]
    by_cases h : a = s
    · rw [if_pos h]
      exact ⟨fun _ => .inl h.symm, fun _ => by omega⟩
    · rw [if_neg h, Nat.zero_add, ih]
      exact ⟨.inr, fun h2 => h2.resolve_left fun e => h e.symm⟩
theorem cnt_nodup {l : List ByteArray} (h : l.Nodup) (s : ByteArray) (hs : s ∈ l) : cnt l s = 1 := by
  induction l with
  | nil => cases hs
  | cons a l ih =>
    obtain ⟨h1, h2⟩ := List.nodup_cons.1 h
    rw [cnt_cons]
    by_cases e : a = s
    · subst e
      rw [if_pos rfl]
      have : ¬ 0 < cnt l a := fun h => h1 (cnt_pos.1 h)
      omega
    · rw [if_neg e, Nat.zero_add]
      exact ih h2 ((List.mem_cons.1 hs).resolve_left fun h => e h.symm)
def seqT (l : List ByteArray) : Tb := l.mapIdx fun i s => (s, (i : Int) + 1)
theorem seq_nil : seqT [] = [] := rfl
theorem seq_snoc (l : List ByteArray) (s : ByteArray) : seqT (l ++ [s]) = seqT l ++ [(s, (l.length : Int) + 1)] := by simp [seqT, List.mapIdx_append]
theorem seq_len (l : List ByteArray) : (seqT l).length = l.length := by simp [seqT]
theorem seq_last (l : List ByteArray) : lastP (seqT l) = l.length := by
  rcases List.eq_nil_or_concat l with rfl | ⟨L, y, rfl⟩
  · rfl
  · rw [List.concat_eq_append, seq_snoc, last_snoc]
    simp
theorem seq_rise (l : List ByteArray) : RiseT (seqT l) := by
  refine snoc_ind (P := fun l => RiseT (seqT l)) RiseT.nil (fun L y ih => ?_) l
  rw [seq_snoc]
  exact ih.more (by omega) (by rw [seq_last]; omega)
theorem seq_mem {l : List ByteArray} {s : ByteArray} {q : Int} : (s, q) ∈ seqT l ↔ 1 ≤ q ∧ q ≤ l.length ∧ l[(q - 1).toNat]? = some s := by
  unfold seqT
  rw [List.mem_mapIdx]
  constructor
  · rintro ⟨i, hi, h⟩
    obtain ⟨h1, h2⟩ := Prod.mk.inj h
    refine ⟨by omega, by omega, ?_⟩
    rw [show (q - 1).toNat = i by omega, List.getElem?_eq_getElem hi, h1]
  · rintro ⟨h1, h2, h3⟩
    have hi : (q - 1).toNat < l.length := by omega
    refine ⟨(q - 1).toNat, hi, ?_⟩
    rw [List.getElem?_eq_getElem hi] at h3
    injection h3 with h3
    rw [h3]
    congr 1
    omega
theorem seq_names (l : List ByteArray) : namesT (seqT l) = normTags l := by
  unfold namesT
  congr 1
  refine snoc_ind (P := fun l => (seqT l).map (·.1) = l) rfl (fun L y ih => ?_) l
  rw [seq_snoc, List.map_append, ih]; rfl
/-- How many there are up to a bound. -/
theorem seq_count (l : List ByteArray) (s : ByteArray) (u : Nat) : (posF (seqT l) s (u : Int)).length = cnt (l.take u) s := by
  refine snoc_ind (P := fun l => (posF (seqT l) s (u : Int)).length = cnt (l.take u) s) (by simp [seq_nil, posF_nil, cnt_nil]) (fun L y ih => ?_) l
  · rw [seq_snoc]
    by_cases hu : L.length + 1 ≤ u
    · rw [List.take_of_length_le (l := L ++ [y]) (by simpa using hu), cnt_append, cnt_one]
      rw [List.take_of_length_le (by omega)] at ih
      by_cases hy : y = s
      · subst hy
        rw [posF_hit (by omega), List.length_append, ih, if_pos rfl]
        rfl
      · rw [posF_miss (by rintro ⟨h, _⟩; exact hy h), ih, if_neg hy]
        omega
    · rw [posF_miss (by rintro ⟨_, h⟩; omega), ih, List.take_append_of_le_length (by omega)]
theorem seq_neg (l : List ByteArray) (s : ByteArray) {u : Int} (hu : u < 1) : posF (seqT l) s u = [] := by
  rw [List.eq_nil_iff_forall_not_mem]
  intro q hq
  have h1 := (posF_mem.1 hq)
  have h2 := (seq_mem.1 h1.1).1
  omega
/-- The next one, added. -/
theorem seq_add (l : List ByteArray) (s : ByteArray) : addF (seqT l) s ((l.length : Int) + 1) = ((cnt l s : Int) + 1, 0, seqT (l ++ [s])) := by
  rw [add_yes (seq_rise l) s (by omega) (by rw [seq_last]; omega), seq_last, seq_count, List.take_length, seq_snoc]
/-- What is told up to a position stays. -/
theorem seq_stays (l m : List ByteArray) (s : ByteArray) {u : Int} (hu : u ≤ l.length) : posF (seqT (l ++ m)) s u = posF (seqT l) s u := by
  refine snoc_ind (P := fun m => posF (seqT (l ++ m)) s u = posF (seqT l) s u) (by rw [List.append_nil]) (fun L y ih => ?_) m
  · rw [← List.append_assoc, seq_snoc, posF_miss (by rintro ⟨_, h⟩; rw [List.length_append] at h; omega), ih]
/-- Each name's share: together they are all. -/
theorem counts_all (l : List ByteArray) : ∀ ns : List ByteArray, ns.Nodup → (∀ x ∈ l, x ∈ ns) → (ns.map fun x => cnt l x).sum = l.length := by
  induction l with
  | nil =>
    intro ns hn hm
    clear hn hm
    induction ns with
    | nil => rfl
    | cons b ns ih => rw [List.map_cons, List.sum_cons, ih]; rfl
  | cons a l ih =>
    intro ns hn hm
    have h1 := ih ns hn fun x hx => hm x (List.mem_cons_of_mem _ hx)
    have h2 : ∀ ns : List ByteArray, (ns.map fun x => cnt (a :: l) x).sum = (ns.map fun x => cnt l x).sum + cnt ns a := by
      intro ns
      induction ns with
      | nil => rfl
      | cons b ns ih2 =>
        rw [List.map_cons, List.sum_cons, ih2, List.map_cons, List.sum_cons, cnt_cons, cnt_cons]
        by_cases hab : a = b
        · rw [if_pos hab, if_pos hab.symm]; omega
        · rw [if_neg hab, if_neg fun e => hab e.symm]; omega
    rw [h2, h1, List.length_cons, cnt_nodup hn a (hm a (by simp))]
theorem up_nodup {l : List ByteArray} (h : Up l) : l.Nodup := List.Pairwise.imp (fun h => less_ne h) h

/-- The first ones and those behind. -/
theorem seq_split (l m : List ByteArray) : ∃ X, seqT (l ++ m) = seqT l ++ X ∧ ∀ x ∈ X, (l.length : Int) < x.2 := by
  refine snoc_ind (P := fun m => ∃ X, seqT (l ++ m) = seqT l ++ X ∧ ∀ x ∈ X, (l.length : Int) < x.2) ⟨[], by simp, by simp⟩ (fun L y ih => ?_) m
  obtain ⟨X, h1, h2⟩ := ih
  refine ⟨X ++ [(y, ((l ++ L).length : Int) + 1)], by rw [← List.append_assoc, seq_snoc, h1, List.append_assoc], fun x hx => ?_⟩
  rcases List.mem_append.1 hx with hx | hx
  · exact h2 x hx
  · rw [List.mem_singleton] at hx
    rw [hx, List.length_append]
    show (l.length : Int) < ((l.length + L.length : Nat) : Int) + 1
    omega
/-- All are those up to a position, and then others. -/
theorem pos_split (l m : List ByteArray) (s : ByteArray) {u v : Int} (hu : u = l.length) (hv : u ≤ v) : ∃ Y, posF (seqT (l ++ m)) s v = posF (seqT (l ++ m)) s u ++ Y ∧ ∀ q ∈ Y, u < q := by
  obtain ⟨X, h1, h2⟩ := seq_split l m
  refine ⟨posF X s v, ?_, fun q hq => ?_⟩
  · have e1 : posF X s u = [] := by
      rw [List.eq_nil_iff_forall_not_mem]
      intro q hq
      obtain ⟨h3, h4⟩ := posF_mem.1 hq
      have := h2 _ h3
      have h5 : (l.length : Int) < q := this
      omega
    have hall : ∀ x ∈ seqT l, x.2 ≤ u := fun x hx => by
      have := (seq_mem (s := x.1) (q := x.2)).1 hx
      omega
    rw [h1, posF_append, posF_append, e1, List.append_nil, posF_big (fun x hx => by have := hall x hx; omega) hall]
  · have := h2 _ (posF_mem.1 hq).1
    have h5 : (l.length : Int) < q := this
    omega
/-- A table that is in order. -/
structure TOk (T : Tb) : Prop where
  rise : RiseT T
  len : T.length ≤ 200
  sz : ∀ x ∈ T, x.1.size ≤ maxLen
  hi : ∀ x ∈ T, x.2 ≤ 9223372036854775807
theorem TOk.nil : TOk [] := ⟨RiseT.nil, (by decide), (fun _ h => by cases h), (fun _ h => by cases h)⟩
theorem add_ok {T : Tb} (h : TOk T) {s : ByteArray} {p : Int} (hl : T.length < 200) (hs : s.size ≤ maxLen) (hp : p ≤ 9223372036854775807) : TOk (addF T s p).2.2 := by
  refine ⟨add_rise h.rise s p, by have := add_len T s p; omega, ?_, ?_⟩
  all_goals
    intro x hx
    unfold addF at hx
    by_cases hc : p < 1 ∨ p ≤ lastP T
    · rw [if_pos hc] at hx
      first | exact h.sz x hx | exact h.hi x hx
    · rw [if_neg hc] at hx
      rcases List.mem_append.1 hx with hx | hx
      · first | exact h.sz x hx | exact h.hi x hx
      · rw [List.mem_singleton] at hx
        rw [hx]
        first | exact hs | exact hp
theorem seq_ok {l : List ByteArray} (hl : l.length ≤ 200) (hs : ∀ s ∈ l, s.size ≤ maxLen) : TOk (seqT l) := by
  refine ⟨seq_rise l, by rw [seq_len]; exact hl, fun x hx => ?_, fun x hx => ?_⟩
  · obtain ⟨_, _, h⟩ := (seq_mem (s := x.1) (q := x.2)).1 hx
    exact hs _ (List.mem_of_getElem? h)
  · obtain ⟨_, h, _⟩ := (seq_mem (s := x.1) (q := x.2)).1 hx
    omega
theorem seq_next {l : List ByteArray} {j : Nat} (h : j < l.length) : addF (seqT (l.take j)) (l.getD j ByteArray.empty) ((j : Int) + 1) = ((cnt (l.take j) (l.getD j ByteArray.empty) : Int) + 1, 0, seqT (l.take (j + 1))) := by
  have e := seq_add (l.take j) (l.getD j ByteArray.empty)
  rw [List.length_take, Nat.min_eq_left (by omega), ← take_get l j h] at e
  exact e
/-- How many, at a bound that is behind all. -/
theorem seq_all (l : List ByteArray) (s : ByteArray) {u : Int} (hu : (l.length : Int) ≤ u) : (posF (seqT l) s u).length = cnt l s := by
  obtain ⟨k, rfl⟩ : ∃ k : Nat, u = (k : Int) := ⟨u.toNat, by omega⟩
  rw [seq_count, List.take_of_length_le (by omega)]
theorem cnt_take_succ {l : List ByteArray} {j : Nat} (h : j < l.length) (s : ByteArray) : cnt (l.take (j + 1)) s = cnt (l.take j) s + (if l.getD j ByteArray.empty = s then 1 else 0) := by
  rw [take_get l j h, cnt_append, cnt_one]

end Go.Proofs.Ytlmdkbhcocfhdaa.SmWalk

/-
  Rows of numbers; the document's answer Ints (layer 12).
-/
namespace Go.Proofs.Ytlmdkbhcocfhdaa.SmWalk
open Go.RowKit Go.Proofs.Ytlmdkbhcocfhdaa.MemRow Go.Proofs.Ytlmdkbhcocfhdaa.Ev Go.Proofs.Ytlmdkbhcocfhdaa.NameMath Go.Proofs.Ytlmdkbhcocfhdaa.NameWalk Go.Proofs.Ytlmdkbhcocfhdaa.EvWalk Go.Proofs.Ytlmdkbhcocfhdaa.NumMem

/-- Numbers in a row. -/
def nums (l : List Int) : List Value := l.map (.int .i64)
theorem nums_length (l : List Int) : (nums l).length = l.length := by simp [nums]
theorem nums_append (a b : List Int) : nums (a ++ b) = nums a ++ nums b := by simp [nums]
theorem nums_one (l : List Int) : ∀ v ∈ nums l, v.oneCell' = true := by
  intro v hv
  obtain ⟨x, _, rfl⟩ := List.mem_map.1 hv
  rfl
def RdI (w : World) (A : Option Addr) (n cap : Nat) (l : List Int) : Prop := RdC 1 w A n cap (nums l)
theorem RdI.len {w : World} {A : Option Addr} {n cap : Nat} {l : List Int} (h : RdI w A n cap l) : l.length = n := by have := h.1; rw [nums_length] at this; omega
theorem RdI.at_ {w : World} {A : Option Addr} {n cap : Nat} {l : List Int} (h : RdI w A n cap l) (hn : 0 < n) : ∃ b o, A = some ⟨b, o, none⟩ ∧ b < w.heap.size ∧ ∀ i, i < n → w.cell? ⟨b, o + i, none⟩ = some (.int .i64 (l.getD i 0)) := by
  obtain ⟨b, o, hA, hb, hc⟩ := RdC.at_ h (by decide) hn
  refine ⟨b, o, hA, hb, fun i hi => ?_⟩
  have hi' : i < l.length := by rw [h.len]; exact hi
  refine hc i _ ?_
  simp [nums, List.getD, List.getElem?_eq_getElem hi']

theorem int_info : (Try.prog.info? 3).map (fun i => (i.zero, i.size, i.bytes)) = some (some (.int .i64 0), 1, 8) := by kernel_rfl
set_option maxHeartbeats 4000000 in
set_option maxRecDepth 100000 in
theorem refInts_any (A B : Option Addr) (n m ca cb : Nat) (l : List Int) (w : World) (ha : RdI w A n ca l) (hb : RdI w B m cb l) :
    Calls Try.prog 17 #[.slice A n ca, .slice B m cb] w fun e w' => e = .returned (.bool true) ∧ ∃ k, w' = w.drewN k := by
  obtain rfl : n = m := ha.len.symm.trans hb.len
  have hn := RdC.le ha
  unfold maxLen at hn
  go_enter Try.func17, Try.ntmps17
  go_wp2_with fail
  go_loopw [5] (fun iv wr => ∃ (j : Nat), iv = .int .i64 (j : Int) ∧ j ≤ n ∧ Hid (∃ k, wr = w.drewN k)) (fun iv _ => n - (intOf iv).toNat)
  case atStart => exact ⟨0, rfl, Nat.zero_le _, Go.Lib.hid ⟨0, rfl⟩⟩
  case round =>
    obtain ⟨j, rfl, hj, HW⟩ := hrel
    by_cases hlt : j < n
    · have i1 : (j : Int) < n := by omega
      have ha1 : RdI wr A n ca l := by obtain ⟨k, rfl⟩ := HW.out; exact ha
      have hb1 : RdI wr B n cb l := by obtain ⟨k, rfl⟩ := HW.out; exact hb
      obtain ⟨b1, o1, rfl, _, k1⟩ := RdI.at_ ha1 (by omega)
      obtain ⟨b2, o2, rfl, _, k2⟩ := RdI.at_ hb1 (by omega)
      have y1 := k1 j hlt
      have y2 := k2 j hlt
      clear k1 k2 ha hb ha1 hb1
      generalize l.getD j 0 = x at *
      have i2 : (x != x) = false := by simp
      go_upto_region 6 with (fail)
      go_quiet (fail)
      go_wp2_with fail
      go_roundw
      case rel => exact ⟨j + 1, by go_num, by omega, Go.Lib.hid (by obtain ⟨k, hk⟩ := HW.out; exact ⟨_, by rw [hk, World.drewN_drewN]⟩)⟩
      case measure => simp [intOf]; omega
    · obtain rfl : j = n := by omega
      have i1 : ¬ (j : Int) < j := by omega
      go_wp2_with fail
      go_ret
      exact ⟨rfl, HW.out⟩


end Go.Proofs.Ytlmdkbhcocfhdaa.SmWalk

/-
  Layer 12: arguments that are rows of texts, of positions of streams.
-/
namespace Go.Proofs.Ytlmdkbhcocfhdaa.SmWalk
open Go.RowKit Go.WideShapes Go.ChangeShapes Go.Proofs.Ytlmdkbhcocfhdaa.MemRow Go.Proofs.Ytlmdkbhcocfhdaa.Ev Go.Proofs.Ytlmdkbhcocfhdaa.Open Go.Proofs.Ytlmdkbhcocfhdaa.NumMem

section
variable {H : Type} {enc : TypeId × Value → H}
set_option maxRecDepth 100000 in
theorem op_texts {W : World} {base : Nat} {v : Value} {d : DataW H} {p : List MemPlace} (ho : Value.okWide Try.prog W .any base 35 v) (h : DataW.Trod enc Try.prog W 0 (fun _ => true) true 35 v d p) :
    ∃ A n ca ss, v = .slice A n ca ∧ RdS W A n ca ss ∧ ∀ s ∈ ss, s.size ≤ maxLen := by
  obtain ⟨a, len, cap, rfl⟩ := okWide_slice Try.underlying35 ho
  obtain ⟨fuel, hf⟩ := h
  exact tr_strs (v := .slice a len cap) Try.underlying35 Try.underlying9 (by kernel_rfl) hf
set_option maxRecDepth 100000 in
theorem op_ats {W : World} {base : Nat} {v : Value} {d : DataW H} {p : List MemPlace} (ho : Value.okWide Try.prog W .any base 22 v) (h : DataW.Trod enc Try.prog W 0 (fun _ => true) true 22 v d p) :
    ∃ A n ca fs, v = .slice A n ca ∧ RdF W A n ca fs ∧ (∀ f ∈ fs, f.1.size ≤ maxLen) ∧ ∀ f ∈ fs, -9223372036854775808 ≤ f.2 ∧ f.2 ≤ 9223372036854775807 := by
  obtain ⟨a, len, cap, rfl⟩ := okWide_slice Try.underlying22 ho
  obtain ⟨fuel, hf⟩ := h
  exact tr_flds (v := .slice a len cap) Try.underlying22 Try.underlying33 (by kernel_rfl) rfl rfl (by kernel_rfl) (by kernel_rfl) Try.underlying9 Try.underlying3 hf
end

end Go.Proofs.Ytlmdkbhcocfhdaa.SmWalk

/-
  append on bytes: onto a row of the call's own, from a slice that reads as bytes (nil and empty let in). No Go text here.
-/
namespace Go.Proofs.Ytlmdkbhcocfhdaa.NumMem
open Go.RowKit

/-- A slice of the call's own (its block from 'base' on) that holds the bytes l. -/
def Own (w : World) (base : Nat) (t : TypeId) (A : Option Addr) (n cap : Nat) (l : List UInt8) : Prop := w.ownsRow base t 1 (.slice A n cap) n (cellsOf l)

variable {w w' : World} {base : Nat} {t : TypeId} {A : Option Addr} {n cap : Nat} {l : List UInt8}

theorem Own.len (h : Own w base t A n cap l) : l.length = n := by
  have := h.1
  simpa [cellsOf] using this

theorem Own.rd (h : Own w base t A n cap l) : Rd w A n cap l := by
  have hl := h.len
  rcases h.2 with ⟨hv, hn⟩ | ⟨g, c, cur, hv, hb, hg, hnc, hcm, hcs, htake⟩
  · injection hv with e1 e2 e3
    subst e1 e3
    refine ⟨hl, by omega, Nat.zero_le _, fun h0 => absurd h0 (by omega)⟩
  · injection hv with e1 e2 e3
    subst e1 e3
    refine Rd.of_block hg hl hnc hcm fun i hi => ?_
    have hh : (cellsOf l)[i]? = cur.toList[i]? := by
      rw [← htake, List.getElem?_take_of_lt (by omega)]
    have hi' : i < l.length := by omega
    rw [← Array.getElem?_toList, ← hh]
    simp [cellsOf, List.getElem?_eq_getElem hi', List.getD]

theorem Own.block (h : Own w base t A n cap l) {b o : Nat} (hA : A = some ⟨b, o, none⟩) : base ≤ b ∧ b < w.heap.size := by
  subst hA
  exact h.lt b rfl

theorem Own.below (h : Own w base t A n cap l) (hb : Below w.heap.size w w') : Own w' base t A n cap l := World.ownsRow.kept h (below_grown hb none) (by
  cases hv : (Value.slice A n cap).ownBlock <;> simp)

theorem Own.empty (w : World) (t : TypeId) (hb : base ≤ w.heap.size) : Own (w.alloc (.cells #[] t)) base t (some ⟨w.heap.size, 0, none⟩) 0 0 [] :=
  World.ownsRow_made w #[] 0 hb (Nat.zero_le _) (by simp)

section
variable {P : Program}
theorem run_append_bytes (T ty e : TypeId) (hT : P.underlying T = some (.slice e)) (hi : (P.info? e).map (fun i => (i.zero, i.size, i.bytes)) = some (some (.int .u8 0), 1, 1))
    (hown : Own w base e A n cap l) {B : Option Addr} {m c : Nat} {k : List UInt8} (hr : Rd w B m c k) (hsz : n + m ≤ 140737488355328) (hbase : base ≤ w.heap.size) :
    ∃ A' cap' w', (Builtin.append_ #[T, T] ty #[.slice A n cap, .slice B m c]).run P w = .ok (.slice A' (n + m) cap') w' ∧ Own w' base e A' (n + m) cap' (l ++ k) ∧ w.grownBy w' (Value.slice A n cap).ownBlock := by
  obtain ⟨i, h1, h2, h3, h4⟩ : ∃ i, P.info? e = some i ∧ i.zero = some (.int .u8 0) ∧ i.size = 1 ∧ i.bytes = 1 := by
    cases hq : P.info? e with
    | none => simp [hq] at hi
    | some i => simp [hq] at hi; exact ⟨i, rfl, hi.1, hi.2.1, hi.2.2⟩
  have done : ∀ v' w2, (Builtin.append_ #[T, T] ty #[.slice A n cap, .slice B m c]).run P w = .ok v' w2 → w2.ownsRow base e 1 v' (n + m) (cellsOf l ++ cellsOf k) → w.grownBy w2 (Value.slice A n cap).ownBlock →
      ∃ A' cap' w', (Builtin.append_ #[T, T] ty #[.slice A n cap, .slice B m c]).run P w = .ok (.slice A' (n + m) cap') w' ∧ Own w' base e A' (n + m) cap' (l ++ k) ∧ w.grownBy w' (Value.slice A n cap).ownBlock := by
    intro v' w2 hrun ho hg
    rcases ho.2 with ⟨rfl, hn⟩ | ⟨g, c2, cur, rfl, hrest⟩
    · refine ⟨none, 0, w2, by rw [hrun, hn], ?_, hg⟩
      unfold Own
      rw [cellsOf_append, hn]
      rw [hn] at ho
      exact ho
    · refine ⟨_, c2, w2, hrun, ?_, hg⟩
      unfold Own
      rw [cellsOf_append]
      exact ho
  cases B with
  | none =>
    have hm : m = 0 := by
      rcases Nat.eq_zero_or_pos m with h0 | h0
      · exact h0
      · obtain ⟨b, o, h, _⟩ := hr.2.2.2 h0
        cases h
    subst hm
    have hk : k = [] := List.eq_nil_of_length_eq_zero hr.len
    subst hk
    refine done (.slice A n cap) w ?_ (by simpa [cellsOf, Own] using hown) (World.grownBy.refl _ _)
    have hown' := hown
    rcases hown'.2 with ⟨hv, rfl⟩ | ⟨g, c2, cur, hv, _, _, hnc, _⟩
    · injection hv with e1 e2 e3
      subst e1 e3
      simp [Builtin.append_, run_underlying hT, sizeOf, typeInfo, h1, Builtin.lenOf, Builtin.firstCells]
    · injection hv with e1 e2 e3
      subst e1 e3
      simp [Builtin.append_, run_underlying hT, sizeOf, typeInfo, h1, Builtin.lenOf, Builtin.firstCells, hnc, storeCells]
  | some ad =>
    have hsrc : ∀ j u, (cellsOf k)[j]? = some u → w.cell? (ad.add j) = some u := by
      intro j u hu
      obtain ⟨ad', h, hc⟩ := hr.src (by have := (List.getElem?_eq_some_iff.1 hu).1; omega)
      injection h with h
      subst h
      exact hc j u hu
    obtain ⟨v', w2, hrun, ho, hg, _, _⟩ := run_append_own_at (P := P) w base T ty e i (.int .u8 0) 1 1 hT h1 h2 h3 h4 rfl (by omega) _ n _ hown ad m c (cellsOf k) (by rw [cellsOf_length, hr.len, Nat.mul_one]) hsrc (cellsOf_one k) (by unfold maxLen; omega) (by omega) hbase
    exact done v' w2 hrun ho hg

theorem wp_append_bytes {o : Oper} {a : Act} {K : Act → World → Prop} {Q : Exit → Act → World → Prop} (s x : Operand) (T : TypeId)
    (ho : o.op = .call { callee := .builtin .append, args := #[s, x], argTypes := #[T, T] }) (e : TypeId) (hT : P.underlying T = some (.slice e)) (hi : (P.info? e).map (fun i => (i.zero, i.size, i.bytes)) = some (some (.int .u8 0), 1, 1))
    (hs : a.eval s = .slice A n cap) {B : Option Addr} {m c : Nat} {k : List UInt8} (hx : a.eval x = .slice B m c) (hown : Own w base e A n cap l) (hr : Rd w B m c k) (hsz : n + m ≤ 140737488355328) (hbase : base ≤ w.heap.size)
    (h : ∀ A' cap' w', Own w' base e A' (n + m) cap' (l ++ k) → w.grownBy w' (Value.slice A n cap).ownBlock → K (a.put o.dst (.slice A' (n + m) cap')) w') : o.wp P a w K Q := by
  obtain ⟨A', cap', w', hrun, h2, h3⟩ := run_append_bytes (P := P) T o.type e hT hi hown hr hsz hbase
  unfold Oper.wp execOp
  simp only [ho, resolve, invoke, builtin, Sem.run_bind, Sem.run_pure, Result.andThen_ok, List.map_toArray, List.map_cons, List.map_nil, hs, hx, hrun]
  exact h A' cap' w' h2 h3

theorem wpList_append_bytes {ops : Array Oper} {rest : List Oper} {o : Oper} {a : Act} {Q : Exit → Act → World → Prop} (hgd : o.guard = none) (s x : Operand) (T : TypeId)
    (ho : o.op = .call { callee := .builtin .append, args := #[s, x], argTypes := #[T, T] }) (e : TypeId) (hT : P.underlying T = some (.slice e)) (hi : (P.info? e).map (fun i => (i.zero, i.size, i.bytes)) = some (some (.int .u8 0), 1, 1))
    (hs : a.eval s = .slice A n cap) {B : Option Addr} {m c : Nat} {k : List UInt8} (hx : a.eval x = .slice B m c) (hown : Own w base e A n cap l) (hr : Rd w B m c k) (hsz : n + m ≤ 140737488355328) (hbase : base ≤ w.heap.size)
    (h : ∀ A' cap' w', Own w' base e A' (n + m) cap' (l ++ k) → w.grownBy w' (Value.slice A n cap).ownBlock → wpList P ops Q rest (a.put o.dst (.slice A' (n + m) cap')) w') : wpList P ops Q (o :: rest) a w :=
  wpList_plain hgd fun _ hK => wp_append_bytes s x T ho e hT hi hs hx hown hr hsz hbase fun A' cap' w' h2 h3 => hK _ _ (h A' cap' w' h2 h3)

theorem step_append_bytes {ops : Array Oper} {o : Oper} {a : Act} {K : Act → World → Prop} {Q : Exit → Act → World → Prop} {E : Prop} (hw : Region.wanted o (yielded ops a.tmps) = true) (s x : Operand) (T : TypeId)
    (ho : o.op = .call { callee := .builtin .append, args := #[s, x], argTypes := #[T, T] }) (e : TypeId) (hT : P.underlying T = some (.slice e)) (hi : (P.info? e).map (fun i => (i.zero, i.size, i.bytes)) = some (some (.int .u8 0), 1, 1))
    (hs : a.eval s = .slice A n cap) {B : Option Addr} {m c : Nat} {k : List UInt8} (hx : a.eval x = .slice B m c) (hown : Own w base e A n cap l) (hr : Rd w B m c k) (hsz : n + m ≤ 140737488355328) (hbase : base ≤ w.heap.size)
    (h : ∀ A' cap' w', Own w' base e A' (n + m) cap' (l ++ k) → w.grownBy w' (Value.slice A n cap).ownBlock → K (a.put o.dst (.slice A' (n + m) cap')) w') :
    if Region.wanted o (yielded ops a.tmps) = true then Oper.wp P o a w K Q else E := by
  rw [if_pos hw]
  exact wp_append_bytes s x T ho e hT hi hs hx hown hr hsz hbase h
/-- append([]byte{}, x...): a copy of x. -/
theorem wpList_append_fresh {ops : Array Oper} {rest : List Oper} {o : Oper} {a : Act} {Q : Exit → Act → World → Prop} (hgd : o.guard = none) (s x : Operand) (T : TypeId)
    (ho : o.op = .call { callee := .builtin .append, args := #[s, x], argTypes := #[T, T] }) (e : TypeId) (hT : P.underlying T = some (.slice e)) (hi : (P.info? e).map (fun i => (i.zero, i.size, i.bytes)) = some (some (.int .u8 0), 1, 1))
    {c0 : Nat} (hs : a.eval s = .slice A 0 c0) {B : Option Addr} {m c : Nat} {k : List UInt8} (hx : a.eval x = .slice B m c) (hown : Own w base e A 0 c0 []) (hr : Rd w B m c k) (hsz : m ≤ 140737488355328) (hbase : base ≤ w.heap.size) (w0 : World) (hb : Below base w0 w)
    (h : ∀ A' cap' w', Own w' base e A' m cap' k → Below base w0 w' → wpList P ops Q rest (a.put o.dst (.slice A' m cap')) w') : wpList P ops Q (o :: rest) a w :=
  wpList_append_bytes hgd s x T ho e hT hi hs hx hown hr (by omega) hbase fun A' cap' w' h2 h3 => by
    have h4 := h A' cap' w' (by simpa using h2) (hb.grown h3 hbase (fun g hg => (World.ownsRow.lt hown g hg).1))
    rw [Nat.zero_add]
    exact h4

/-- append(v, x...), v of the call's own. -/
theorem wpList_append_more {ops : Array Oper} {rest : List Oper} {o : Oper} {a : Act} {Q : Exit → Act → World → Prop} (hgd : o.guard = none) (s x : Operand) (T : TypeId)
    (ho : o.op = .call { callee := .builtin .append, args := #[s, x], argTypes := #[T, T] }) (e : TypeId) (hT : P.underlying T = some (.slice e)) (hi : (P.info? e).map (fun i => (i.zero, i.size, i.bytes)) = some (some (.int .u8 0), 1, 1))
    (hs : a.eval s = .slice A n cap) {B : Option Addr} {m c : Nat} {k : List UInt8} (hx : a.eval x = .slice B m c) (hown : Own w base e A n cap l) (hr : Rd w B m c k) (hsz : n + m ≤ 140737488355328) (hbase : base ≤ w.heap.size) (w0 : World) (hb : Below base w0 w)
    (h : ∀ A' cap' w', Own w' base e A' (n + m) cap' (l ++ k) → Below base w0 w' → wpList P ops Q rest (a.put o.dst (.slice A' (n + m) cap')) w') : wpList P ops Q (o :: rest) a w :=
  wpList_append_bytes hgd s x T ho e hT hi hs hx hown hr hsz hbase fun A' cap' w' h2 h3 =>
    h A' cap' w' h2 (hb.grown h3 hbase (fun g hg => (World.ownsRow.lt hown g hg).1))
/-- append([]byte{}, x...) inside a region that draws its order. -/
theorem step_append_fresh {ops : Array Oper} {o : Oper} {a : Act} {K : Act → World → Prop} {Q : Exit → Act → World → Prop} {E : Prop} (hw : Region.wanted o (yielded ops a.tmps) = true) (s x : Operand) (T : TypeId)
    (ho : o.op = .call { callee := .builtin .append, args := #[s, x], argTypes := #[T, T] }) (e : TypeId) (hT : P.underlying T = some (.slice e)) (hi : (P.info? e).map (fun i => (i.zero, i.size, i.bytes)) = some (some (.int .u8 0), 1, 1))
    {c0 : Nat} (hs : a.eval s = .slice A 0 c0) {B : Option Addr} {m c : Nat} {k : List UInt8} (hx : a.eval x = .slice B m c) (hown : Own w base e A 0 c0 []) (hr : Rd w B m c k) (hsz : m ≤ 140737488355328) (hbase : base ≤ w.heap.size) (w0 : World) (hb : Below base w0 w)
    (h : ∀ A' cap' w', Own w' base e A' m cap' k → Below base w0 w' → K (a.put o.dst (.slice A' m cap')) w') :
    if Region.wanted o (yielded ops a.tmps) = true then Oper.wp P o a w K Q else E :=
  step_append_bytes hw s x T ho e hT hi hs hx hown hr (by omega) hbase fun A' cap' w' h2 h3 => by
    have h4 := h A' cap' w' (by simpa using h2) (hb.grown h3 hbase (fun g hg => (World.ownsRow.lt hown g hg).1))
    rw [Nat.zero_add]
    exact h4
end

end Go.Proofs.Ytlmdkbhcocfhdaa.NumMem

/-
  Things in memory, with their blocks: what a call may have changed, things beside each other, boxes. No function of the program here.
-/
namespace Go.Proofs.Ytlmdkbhcocfhdaa.DkWalk
open Go.RowKit Go.Proofs.Ytlmdkbhcocfhdaa.MemRow Go.Proofs.Ytlmdkbhcocfhdaa.Ev Go.Proofs.Ytlmdkbhcocfhdaa.NameMath Go.Proofs.Ytlmdkbhcocfhdaa.NameWalk Go.Proofs.Ytlmdkbhcocfhdaa.EvWalk Go.Proofs.Ytlmdkbhcocfhdaa.NumMem

/-! ### What a call may have changed: the blocks of F, and none that was there besides -/
structure Ch (F : Nat → Prop) (w w' : World) : Prop where
  os : w'.os = w.os
  tape : w'.tape = w.tape
  output : w'.output = w.output
  size : w.heap.size ≤ w'.heap.size
  block : ∀ k, k < w.heap.size → ¬ F k → w'.heap[k]? = w.heap[k]?
/-- The blocks of F, and all that are new since w. -/
def up (F : Nat → Prop) (w w' : World) (k : Nat) : Prop := F k ∨ (w.heap.size ≤ k ∧ k < w'.heap.size)
section
variable {F G : Nat → Prop} {w w1 w' : World}
theorem Ch.refl (F : Nat → Prop) (w : World) : Ch F w w := ⟨rfl, rfl, rfl, Nat.le_refl _, fun _ _ _ => rfl⟩
theorem Ch.trans (h : Ch F w w1) (k : Ch (up F w w1) w1 w') : Ch F w w' :=
  ⟨k.os.trans h.os, k.tape.trans h.tape, k.output.trans h.output, Nat.le_trans h.size k.size, fun i hi hn => (k.block i (Nat.lt_of_lt_of_le hi h.size) (fun hu => by
    rcases hu with hu | hu
    · exact hn hu
    · omega)).trans (h.block i hi hn)⟩
theorem Ch.wide (h : Ch F w w') (hs : ∀ k, F k → G k) : Ch G w w' := ⟨h.os, h.tape, h.output, h.size, fun k hk hn => h.block k hk fun hf => hn (hs k hf)⟩
theorem Ch.of_below (h : Below w.heap.size w w') : Ch F w w' := ⟨h.os, h.tape, h.output, h.size, fun k hk _ => h.block k hk⟩
theorem Ch.of_grown {row : Option Nat} (h : w.grownBy w' row) (hr : ∀ r, row = some r → F r ∨ w.heap.size ≤ r) : Ch F w w' :=
  ⟨h.os, h.tape, h.output, h.size, fun k hk hn => h.block k hk fun e => by
    rcases hr k e.symm with h1 | h1
    · exact hn h1
    · omega⟩
/-- A step behind a call. -/
theorem Ch.then_below (h : Ch F w w1) (k : Below w1.heap.size w1 w') : Ch F w w' := h.trans (Ch.of_below k)
theorem Ch.then_grown {row : Option Nat} (h : Ch F w w1) (k : w1.grownBy w' row) (hr : ∀ r, row = some r → up F w w1 r ∨ w1.heap.size ≤ r) : Ch F w w' := h.trans (Ch.of_grown k hr)
theorem up_mono (hs : w1.heap.size ≤ w'.heap.size) {k : Nat} (h : up F w w1 k) : up F w w' k := by
  rcases h with h | h
  · exact .inl h
  · exact .inr ⟨h.1, Nat.lt_of_lt_of_le h.2 hs⟩
theorem up_up (h1 : w.heap.size ≤ w1.heap.size) (h2 : w1.heap.size ≤ w'.heap.size) {k : Nat} (h : up (up F w w1) w1 w' k) : up F w w' k := by
  rcases h with h | h
  · exact up_mono h2 h
  · exact .inr ⟨by omega, h.2⟩
theorem up_lt (hF : ∀ k, F k → k < w.heap.size) (hs : w.heap.size ≤ w'.heap.size) {k : Nat} (h : up F w w' k) : k < w'.heap.size := by
  rcases h with h | h
  · exact Nat.lt_of_lt_of_le (hF k h) hs
  · exact h.2
end

/-! ### Rows that stay -/
theorem own_keep {k : Nat} {w w' : World} {base : Nat} {t : TypeId} {A : Option Addr} {n cap : Nat} {cs : List Value} (h : OwnC k w base t A n cap cs) (hk : ∀ a, A = some a → w'.heap[a.block]? = w.heap[a.block]?) : OwnC k w' base t A n cap cs := by
  refine ⟨h.1, ?_⟩
  rcases h.2 with h2 | ⟨g, c, cur, hv, hb, hg, rest⟩
  · exact .inl h2
  · have e1 : A = some ⟨g, 0, none⟩ := by injection hv
    exact .inr ⟨g, c, cur, hv, hb, (hk ⟨g, 0, none⟩ e1).trans hg, rest⟩
theorem rd_keep {w w' : World} {A : Option Addr} {n cap : Nat} {l : List UInt8} (h : Rd w A n cap l) (hk : ∀ a, A = some a → w'.heap[a.block]? = w.heap[a.block]?) : Rd w' A n cap l :=
  h.keep fun b o hA _ i _ => World.cell?_of_block (w := w) (a := ⟨b, o + i, none⟩) (hk ⟨b, o, none⟩ hA)
theorem own8_keep {w w' : World} {base : Nat} {t : TypeId} {A : Option Addr} {n cap : Nat} {l : List UInt8} (h : Own w base t A n cap l) (hk : ∀ a, A = some a → w'.heap[a.block]? = w.heap[a.block]?) : Own w' base t A n cap l := own_keep (k := 1) (cs := cellsOf l) h hk
theorem own8_grown {w w' : World} {base : Nat} {t : TypeId} {A : Option Addr} {n cap : Nat} {l : List UInt8} {row : Option Nat} (h : Own w base t A n cap l) (hg : w.grownBy w' row) (hne : ∀ a, A = some a → some a.block ≠ row) : Own w' base t A n cap l := OwnC.grown (k := 1) (cs := cellsOf l) h hg hne
theorem own8_lower {w : World} {base : Nat} {t : TypeId} {A : Option Addr} {n cap : Nat} {l : List UInt8} (h : Own w base t A n cap l) : Own w 0 t A n cap l := by
  refine ⟨h.1, ?_⟩
  rcases h.2 with h2 | ⟨g, c, cur, hv, _, rest⟩
  · exact .inl h2
  · exact .inr ⟨g, c, cur, hv, Nat.zero_le _, rest⟩
/-- A row of a call's own lies in no block of other elements. -/
theorem own_not {k : Nat} {w : World} {base : Nat} {t T : TypeId} {A : Option Addr} {n cap g : Nat} {cs : List Value} {x : Array Value} {fr : Nat × Nat} (h : OwnC k w base t A n cap cs) (hg : w.heap[g]? = some (.cells x T fr)) (ht : t ≠ T) : ∀ a, A = some a → a.block ≠ g := by
  intro a ha e
  rcases h.2 with ⟨hv, _⟩ | ⟨g', c, cur, hv, _, hg', _⟩
  · rw [ha] at hv
    cases hv
  · have e1 : A = some ⟨g', 0, none⟩ := by injection hv
    rw [ha] at e1
    injection e1 with e1
    rw [e1] at e
    simp only at e
    rw [e, hg] at hg'
    injection hg' with hg'
    injection hg' with _ e3
    exact ht e3.symm
theorem own8_not {w : World} {base : Nat} {t T : TypeId} {A : Option Addr} {n cap g : Nat} {l : List UInt8} {x : Array Value} {fr : Nat × Nat} (h : Own w base t A n cap l) (hg : w.heap[g]? = some (.cells x T fr)) (ht : t ≠ T) : ∀ a, A = some a → a.block ≠ g := own_not (k := 1) (cs := cellsOf l) h hg ht

/-- An object in memory, with its blocks. -/
abbrev Thing := World → (Nat → Prop) → Prop
/-- It stays while its blocks do. -/
structure Keeps (P : Thing) : Prop where
  keep : ∀ {w w' : World} {F : Nat → Prop}, P w F → w.heap.size ≤ w'.heap.size → (∀ k, F k → w'.heap[k]? = w.heap[k]?) → P w' F
  lt : ∀ {w : World} {F : Nat → Prop}, P w F → ∀ k, F k → k < w.heap.size
def NoT : Thing := fun _ F => ∀ k, ¬ F k
theorem noT_keeps : Keeps NoT := ⟨fun h _ _ => h, fun h k hk => absurd hk (h k)⟩

/-- Two objects that share no block, both behind base. -/
def Pair (base : Nat) (w : World) (P Q : Thing) : Prop := ∃ F G, P w F ∧ Q w G ∧ (∀ k, F k → base ≤ k) ∧ (∀ k, G k → base ≤ k) ∧ ∀ k, F k → ¬ G k
theorem ch_below {base : Nat} {F : Nat → Prop} {a w w' : World} (hb : Below base a w) (hc : Ch F w w') (hF : ∀ k, F k → base ≤ k) (ha : base ≤ a.heap.size) : Below base a w' :=
  ⟨hc.os.trans hb.os, hc.tape.trans hb.tape, hc.output.trans hb.output, Nat.le_trans hb.size hc.size, fun k hk => (hc.block k (Nat.lt_of_lt_of_le hk (Nat.le_trans ha hb.size)) (fun hf => by have := hF k hf; omega)).trans (hb.block k hk)⟩
section
variable {base : Nat} {w w' : World} {P P' Q Q' : Thing}
theorem Pair.swap (h : Pair base w P Q) : Pair base w Q P := by
  obtain ⟨F, G, hp, hq, h1, h2, h3⟩ := h
  exact ⟨G, F, hq, hp, h2, h1, fun k hg hf => h3 k hf hg⟩
theorem Pair.below (h : Pair base w P Q) (kp : Keeps P) (kq : Keeps Q) (hb : Below w.heap.size w w') : Pair base w' P Q := by
  obtain ⟨F, G, hp, hq, h1, h2, h3⟩ := h
  exact ⟨F, G, kp.keep hp hb.size fun k hk => hb.block k (kp.lt hp k hk), kq.keep hq hb.size fun k hk => hb.block k (kq.lt hq k hk), h1, h2, h3⟩
/-- A call of the first one. -/
theorem Pair.left {F G : Nat → Prop} (hq : Q w G) (kq : Keeps Q) (h1 : ∀ k, F k → base ≤ k) (h2 : ∀ k, G k → base ≤ k) (h3 : ∀ k, F k → ¬ G k) (hb : base ≤ w.heap.size) (hp' : P' w' (up F w w')) (hc : Ch F w w') : Pair base w' P' Q := by
  refine ⟨_, G, hp', kq.keep hq hc.size fun k hk => hc.block k (kq.lt hq k hk) fun hf => h3 k hf hk, fun k hk => ?_, h2, fun k hk hg => ?_⟩
  · rcases hk with hk | hk
    · exact h1 k hk
    · omega
  · rcases hk with hk | hk
    · exact h3 k hk hg
    · have := kq.lt hq k hg
      omega
/-- A new object beside one. -/
theorem Pair.fresh {G : Nat → Prop} (hq : Q w G) (kq : Keeps Q) (h2 : ∀ k, G k → base ≤ k) (hb : base ≤ w.heap.size) (hp' : P' w' (fun k => w.heap.size ≤ k ∧ k < w'.heap.size)) (hc : Below w.heap.size w w') : Pair base w' P' Q :=
  ⟨_, G, hp', kq.keep hq hc.size fun k hk => hc.block k (kq.lt hq k hk), fun k hk => by have := hk.1; omega, h2, fun k hk hg => by
    have := kq.lt hq k hg
    have := hk.1
    omega⟩
end

/-- Two objects that share no block, seen as one. -/
def With (Q R : Thing) : Thing := fun w G => ∃ G1 G2, Q w G1 ∧ R w G2 ∧ (∀ k, G1 k → G k) ∧ (∀ k, G2 k → G k) ∧ (∀ k, G k → k < w.heap.size) ∧ ∀ k, G1 k → ¬ G2 k
theorem with_keeps {Q R : Thing} (kq : Keeps Q) (kr : Keeps R) : Keeps (With Q R) :=
  ⟨fun ⟨G1, G2, h1, h2, i1, i2, hl, hx⟩ hs hk => ⟨G1, G2, kq.keep h1 hs fun k h => hk k (i1 k h), kr.keep h2 hs fun k h => hk k (i2 k h), i1, i2, fun k h => Nat.lt_of_lt_of_le (hl k h) hs, hx⟩, fun ⟨_, _, _, _, _, _, hl, _⟩ => hl⟩
/-- A slice that holds bytes. -/
def SlT (A : Option Addr) (n c : Nat) (l : List UInt8) : Thing := fun w G => Rd w A n c l ∧ (∀ a, A = some a → G a.block) ∧ ∀ k, G k → k < w.heap.size
theorem slT_keeps (A : Option Addr) (n c : Nat) (l : List UInt8) : Keeps (SlT A n c l) :=
  ⟨fun ⟨h, i, hl⟩ hs hk => ⟨rd_keep h fun a ha => hk _ (i a ha), i, fun k h => Nat.lt_of_lt_of_le (hl k h) hs⟩, fun h => h.2.2⟩
/-- A row of bytes of the law's own. -/
def OwT (A : Option Addr) (n c : Nat) (l : List UInt8) : Thing := fun w G => Own w 0 5 A n c l ∧ (∀ a, A = some a → G a.block) ∧ ∀ k, G k → k < w.heap.size
theorem owT_keeps (A : Option Addr) (n c : Nat) (l : List UInt8) : Keeps (OwT A n c l) :=
  ⟨fun ⟨h, i, hl⟩ hs hk => ⟨own8_keep h fun a ha => hk _ (i a ha), i, fun k h => Nat.lt_of_lt_of_le (hl k h) hs⟩, fun h => h.2.2⟩
/-- A box. -/
def BxT (g : Nat) (cs : Array Value) (t : TypeId) : Thing := fun w G => w.heap[g]? = some (.cells cs t (0, 0)) ∧ G g ∧ ∀ k, G k → k < w.heap.size
theorem bxT_keeps (g : Nat) (cs : Array Value) (t : TypeId) : Keeps (BxT g cs t) :=
  ⟨fun ⟨h, i, hl⟩ hs hk => ⟨(hk _ i).trans h, i, fun k h => Nat.lt_of_lt_of_le (hl k h) hs⟩, fun h => h.2.2⟩
theorem pair_rd {base : Nat} {w : World} {P Q : Thing} {A : Option Addr} {n c : Nat} {l : List UInt8} (h : Pair base w P (With Q (SlT A n c l))) : Rd w A n c l := by
  obtain ⟨_, _, _, ⟨_, _, _, hr, _⟩, _⟩ := h
  exact hr.1
theorem pair_ow {base : Nat} {w : World} {P Q : Thing} {A : Option Addr} {n c : Nat} {l : List UInt8} (h : Pair base w P (With Q (OwT A n c l))) : Own w 0 5 A n c l := by
  obtain ⟨_, _, _, ⟨_, _, _, hr, _⟩, _⟩ := h
  exact hr.1
theorem pair_bx {base : Nat} {w : World} {P Q : Thing} {g : Nat} {cs : Array Value} {t : TypeId} (h : Pair base w P (With Q (BxT g cs t))) : w.heap[g]? = some (.cells cs t (0, 0)) := by
  obtain ⟨_, _, _, ⟨_, _, _, hr, _⟩, _⟩ := h
  exact hr.1
theorem pair_first {base : Nat} {w : World} {P Q R : Thing} (h : Pair base w P (With Q R)) : Pair base w P Q := by
  obtain ⟨F, G, hp, ⟨G1, _, h1, _, i1, _, _⟩, hF, hG, hd⟩ := h
  exact ⟨F, G1, hp, h1, hF, fun k hk => hG k (i1 k hk), fun k hf hg => hd k hf (i1 k hg)⟩
theorem pair_rot {base : Nat} {w : World} {P Q R : Thing} (kp : Keeps P) (h : Pair base w P (With Q R)) : Pair base w Q (With P R) := by
  obtain ⟨F, G, hp, ⟨G1, G2, h1, h2, i1, i2, hl, hx⟩, hF, hG, hd⟩ := h
  refine ⟨G1, fun k => F k ∨ G2 k, h1, ⟨F, G2, hp, h2, fun k hk => .inl hk, fun k hk => .inr hk, fun k hk => ?_, fun k hf hg => hd k hf (i2 k hg)⟩, fun k hk => hG k (i1 k hk), fun k hk => ?_, fun k hk hg => ?_⟩
  · rcases hk with hk | hk
    · exact kp.lt hp k hk
    · exact hl k (i2 k hk)
  · rcases hk with hk | hk
    · exact hF k hk
    · exact hG k (i2 k hk)
  · rcases hg with hg | hg
    · exact hd k hg (i1 k hk)
    · exact hx k hk hg
theorem pair_last {base : Nat} {w : World} {P Q S : Thing} (kp : Keeps P) (h : Pair base w P (With Q S)) : Pair base w S (With P Q) := by
  obtain ⟨F, G, hp, ⟨G1, G2, h1, h2, i1, i2, hl, hx⟩, hF, hG, hd⟩ := h
  refine ⟨G2, fun k => F k ∨ G1 k, h2, ⟨F, G1, hp, h1, fun k hk => .inl hk, fun k hk => .inr hk, fun k hk => ?_, fun k hf hg => hd k hf (i1 k hg)⟩, fun k hk => hG k (i2 k hk), fun k hk => ?_, fun k hk hg => ?_⟩
  · rcases hk with hk | hk
    · exact kp.lt hp k hk
    · exact hl k (i1 k hk)
  · rcases hk with hk | hk
    · exact hF k hk
    · exact hG k (i1 k hk)
  · rcases hg with hg | hg
    · exact hd k hg (i2 k hk)
    · exact hx k hg hk
theorem pair_drop {base : Nat} {w : World} {P Q S : Thing} (h : Pair base w S (With P Q)) : Pair base w P Q := by
  obtain ⟨F, G, hp, ⟨G1, G2, h1, h2, i1, i2, hl, hx⟩, hF, hG, hd⟩ := h
  exact ⟨G1, G2, h1, h2, fun k hk => hG k (i1 k hk), fun k hk => hG k (i2 k hk), hx⟩
/-- A new thing beside. -/
theorem pair_more {base : Nat} {w w' : World} {P Q R : Thing} (h : Pair base w P Q) (kp : Keeps P) (kq : Keeps Q) (hb : base ≤ w.heap.size) (hbl : Below w.heap.size w w') (hn : R w' (fun k => w.heap.size ≤ k ∧ k < w'.heap.size)) : Pair base w' P (With Q R) := by
  obtain ⟨F, G, hp, hq, h1, h2, h3⟩ := h
  have hp' := kp.keep hp hbl.size fun k hk => hbl.block k (kp.lt hp k hk)
  have hq' := kq.keep hq hbl.size fun k hk => hbl.block k (kq.lt hq k hk)
  refine ⟨F, fun k => G k ∨ (w.heap.size ≤ k ∧ k < w'.heap.size), hp', ⟨G, fun k => w.heap.size ≤ k ∧ k < w'.heap.size, hq', hn, fun k hk => .inl hk, fun k hk => .inr hk, fun k hk => ?_, fun k hg hk => ?_⟩, h1, fun k hk => ?_, fun k hf hk => ?_⟩
  · rcases hk with hk | hk
    · exact kq.lt hq' k hk
    · exact hk.2
  · have := kq.lt hq k hg
    omega
  · rcases hk with hk | hk
    · exact h2 k hk
    · omega
  · rcases hk with hk | hk
    · exact h3 k hf hk
    · have := kp.lt hp k hf
      omega

theorem pair_second {base : Nat} {w : World} {P Q R : Thing} (h : Pair base w P (With Q R)) : Pair base w P R := by
  obtain ⟨F, G, hp, ⟨_, G2, _, h2, _, i2, _⟩, hF, hG, hd⟩ := h
  exact ⟨F, G2, hp, h2, hF, fun k hk => hG k (i2 k hk), fun k hf hg => hd k hf (i2 k hg)⟩

/-- What holds the one holds the other. -/
def Imp (Q R : Thing) : Prop := ∀ w G, Q w G → R w G
theorem pair_imp {base : Nat} {w : World} {P Q R : Thing} (i : Imp Q R) (h : Pair base w P Q) : Pair base w P R := by
  obtain ⟨F, G, hp, hq, h1, h2, h3⟩ := h
  exact ⟨F, G, hp, i w G hq, h1, h2, h3⟩
theorem th_left {Q Q' R : Thing} (i : Imp Q Q') : Imp (With Q R) (With Q' R) := fun w _ ⟨G1, G2, h1, h2, i1, i2, hl, hx⟩ => ⟨G1, G2, i w G1 h1, h2, i1, i2, hl, hx⟩
theorem th_place {Q R S : Thing} : Imp (With (With Q R) S) (With (With Q S) R) := fun w G ⟨G1, G2, ⟨H1, H2, hq, hr, a1, a2, a3, a4⟩, hs, i1, i2, hl, hx⟩ => by
  refine ⟨fun k => H1 k ∨ G2 k, H2, ⟨H1, G2, hq, hs, fun k hk => .inl hk, fun k hk => .inr hk, fun k hk => ?_, fun k h1 h2 => hx k (a1 k h1) h2⟩, hr, fun k hk => ?_, fun k hk => i1 k (a2 k hk), hl, fun k hk h2 => ?_⟩
  · rcases hk with hk | hk
    · exact a3 k (a1 k hk)
    · exact hl k (i2 k hk)
  · rcases hk with hk | hk
    · exact i1 k (a1 k hk)
    · exact i2 k hk
  · rcases hk with hk | hk
    · exact a4 k hk h2
    · exact hx k (a2 k h2) hk
/-- The middle one is let go. -/
theorem th_drop {Q R S : Thing} : Imp (With (With Q R) S) (With Q S) := fun _ _ ⟨_, G2, ⟨H1, _, hq, _, a1, _, _, _⟩, hs, i1, i2, hl, hx⟩ => ⟨H1, G2, hq, hs, fun k hk => i1 k (a1 k hk), i2, hl, fun k hk h2 => hx k (a1 k hk) h2⟩
theorem th_trans {Q R S : Thing} (i : Imp Q R) (j : Imp R S) : Imp Q S := fun w G h => j w G (i w G h)
/-- The one ahead of the last two comes last, and the last one ahead of two. -/
theorem th_mv2 {A R B C : Thing} : Imp (With (With (With A R) B) C) (With (With (With A B) C) R) := th_trans (th_left th_place) th_place
theorem th_mv2' {A R B C : Thing} : Imp (With (With (With A B) C) R) (With (With (With A R) B) C) := th_trans th_place (th_left th_place)
theorem th_mv3 {A R B C D : Thing} : Imp (With (With (With (With A R) B) C) D) (With (With (With (With A B) C) D) R) := th_trans (th_left th_mv2) th_place
theorem th_mv3' {A R B C D : Thing} : Imp (With (With (With (With A B) C) D) R) (With (With (With (With A R) B) C) D) := th_trans th_place (th_left th_mv2')
theorem th_mv4 {A R B C D E : Thing} : Imp (With (With (With (With (With A R) B) C) D) E) (With (With (With (With (With A B) C) D) E) R) := th_trans (th_left th_mv3) th_place
theorem th_mv4' {A R B C D E : Thing} : Imp (With (With (With (With (With A B) C) D) E) R) (With (With (With (With (With A R) B) C) D) E) := th_trans th_place (th_left th_mv3')

theorem bel_up {base : Nat} {w w' : World} (hb : base ≤ w.heap.size) (h : Below w.heap.size w w') : Below base w w' := ⟨h.os, h.tape, h.output, h.size, fun k hk => h.block k (Nat.lt_of_lt_of_le hk hb)⟩

section
variable {base : Nat} {w : World} {P Q : Thing} {gl : Nat}
theorem lg_put {cs cs' : Array Value} {t : TypeId} {i : Nat} {v : Value} (kp : Keeps P) (kq : Keeps Q) (h : Pair base w P (With Q (BxT gl cs t))) (hn : (w.setCell ⟨gl, i, none⟩ v).heap[gl]? = some (.cells cs' t (0, 0))) : Pair base (w.setCell ⟨gl, i, none⟩ v) P (With Q (BxT gl cs' t)) ∧ Below base w (w.setCell ⟨gl, i, none⟩ v) := by
  obtain ⟨F, G, hp, ⟨G1, G2, h1, ⟨hh, hg, hl⟩, i1, i2, hlt, hx⟩, hF, hG, hd⟩ := h
  have hsz : (w.setCell ⟨gl, i, none⟩ v).heap.size = w.heap.size := by simp [World.setCell]
  have hk : ∀ k, k ≠ gl → (w.setCell ⟨gl, i, none⟩ v).heap[k]? = w.heap[k]? := fun k hk => by
    have : gl ≠ k := fun e => hk e.symm
    simp [World.setCell, Array.getElem?_modify, this]
  refine ⟨⟨F, G, kp.keep hp (by omega) fun k hf => hk k fun e => hd k hf (by rw [e]; exact i2 _ hg), ⟨G1, G2, kq.keep h1 (by omega) fun k hf => hk k fun e => hx k hf (by rw [e]; exact hg), ⟨hn, hg, fun k hk => by rw [hsz]; exact hl k hk⟩, i1, i2, fun k hk => by rw [hsz]; exact hlt k hk, hx⟩, hF, hG, hd⟩, ?_⟩
  exact (Below.refl base w).setCell (by show base ≤ gl; exact hG _ (i2 _ hg)) v
end
theorem pair_place {base : Nat} {w : World} {P Q R S : Thing} (h : Pair base w P (With (With Q R) S)) : Pair base w P (With (With Q S) R) := by
  obtain ⟨F, G, hp, ⟨G1, G2, ⟨H1, H2, hq, hr, a1, a2, a3, a4⟩, hs, i1, i2, hl, hx⟩, hF, hG, hd⟩ := h
  refine ⟨F, G, hp, ⟨fun k => H1 k ∨ G2 k, H2, ⟨H1, G2, hq, hs, fun k hk => .inl hk, fun k hk => .inr hk, fun k hk => ?_, fun k h1 h2 => hx k (a1 k h1) h2⟩, hr, fun k hk => ?_, fun k hk => i1 k (a2 k hk), hl, fun k hk h2 => ?_⟩, hF, hG, hd⟩
  · rcases hk with hk | hk
    · exact a3 k (a1 k hk)
    · exact hl k (i2 k hk)
  · rcases hk with hk | hk
    · exact i1 k (a1 k hk)
    · exact i2 k hk
  · rcases hk with hk | hk
    · exact a4 k hk h2
    · exact hx k (a2 k h2) hk

theorem bx_new {base : Nat} {w : World} {P Q : Thing} (kp : Keeps P) (kq : Keeps Q) (hb : base ≤ w.heap.size) (h : Pair base w P Q) (cs : Array Value) (t : TypeId) : Pair base (w.alloc (.cells cs t)) P (With Q (BxT w.heap.size cs t)) ∧ Below w.heap.size w (w.alloc (.cells cs t)) := by
  have b : Below w.heap.size w (w.alloc (.cells cs t)) := (Below.refl _ w).alloc (Nat.le_refl _) _
  exact ⟨pair_more h kp kq hb b ⟨heap_alloc_new w _, ⟨Nat.le_refl _, by simp⟩, fun k hk => hk.2⟩, b⟩

theorem side_in {base : Nat} {w : World} {P R S : Thing} (kS : Keeps S) (h : Pair base w (With P R) S) : Pair base w P (With S R) := pair_rot kS h.swap
theorem side_out {base : Nat} {w : World} {P R S : Thing} (kP : Keeps P) (h : Pair base w P (With S R)) : Pair base w (With P R) S := (pair_rot kP h).swap

end Go.Proofs.Ytlmdkbhcocfhdaa.DkWalk

