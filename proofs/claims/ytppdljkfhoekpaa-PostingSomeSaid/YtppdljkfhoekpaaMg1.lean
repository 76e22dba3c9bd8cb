/-
  Words on memory for layer 1: a slice that reads as bytes; its conversion to a string; a reader behind a pointer. No Go text here.
-/
import Derived.Below
import Derived.Laws.OwnMore
import Derived.Laws.IdiomStrings
import Derived.Laws.CopyOwn
import Derived.Deep.Draws
import Derived.Lib.Hide
import Derived.Lib.BufferWrite
import Derived.OpenShut
import Derived.ProofKit
import Derived.Deep.Grids
import Derived.SliceStrings
import Derived.Maps.AppendAt
import Derived.OwnWalk
import Derived.Laws.Slices
import Derived.Test.YtppdljkfhoekpaaProg
import Derived.Lib.SmallJoins
import Derived.Deep.SlicePairs
import Derived.Lib.TrimUEq
import Derived.WalkKit
import Derived.BigCall
import Derived.LoopTactic
import Derived.Laws.RangeAny
import Derived.Shelf.Strings.Search2
import Derived.WalkMore
import Derived.Laws.Strings3
import Derived.Lib.Strings
import Derived.Lib.Bytealg
import Derived.Deep.QuietTactic
import Derived.BigQuiet
import Derived.WalkLawsBesides
import Derived.Deep.RegionWith
import Derived.Sort.Walk0
import Derived.Deep.DeepCutAuto
import Derived.Deep.CutBlock
namespace Go.Proofs.Ytppdljkfhoekpaa.NumMem
open Go.RowKit

/-- The cells of bytes. -/
def cellsOf (l : List UInt8) : List Value := l.map fun c => .int .u8 (c.toNat : Int)

theorem cellsOf_length (l : List UInt8) : (cellsOf l).length = l.length := by simp [cellsOf]
theorem cellsOf_append (a b : List UInt8) : cellsOf (a ++ b) = cellsOf a ++ cellsOf b := by simp [cellsOf]
theorem cellsOf_one (l : List UInt8) : ∀ v ∈ cellsOf l, v.oneCell' = true := by
  intro v hv
  simp only [cellsOf, List.mem_map] at hv
  obtain ⟨c, _, rfl⟩ := hv
  rfl

/-- The slice value (A, n, cap) reads as the bytes l: nil and empty let in. -/
def Rd (w : World) (A : Option Addr) (n cap : Nat) (l : List UInt8) : Prop :=
  l.length = n ∧ n ≤ cap ∧ cap ≤ maxLen ∧ (0 < n → ∃ b o, A = some ⟨b, o, none⟩ ∧ ∀ i, i < n → w.cell? ⟨b, o + i, none⟩ = some (.int .u8 ((l.getD i 0).toNat : Int)))

variable {w w' : World} {A : Option Addr} {n cap : Nat} {l : List UInt8}

theorem Rd.nil (w : World) : Rd w none 0 0 [] := ⟨rfl, Nat.le_refl _, Nat.zero_le _, fun h => absurd h (by omega)⟩
theorem Rd.empty (w : World) (A : Option Addr) (h : cap ≤ maxLen) : Rd w A 0 cap [] := ⟨rfl, Nat.zero_le _, h, fun h => absurd h (by omega)⟩
theorem Rd.len (h : Rd w A n cap l) : l.length = n := h.1
theorem Rd.le (h : Rd w A n cap l) : n ≤ maxLen := Nat.le_trans h.2.1 h.2.2.1
theorem Rd.le_cap (h : Rd w A n cap l) : n ≤ cap := h.2.1

/-- The address, where there is a byte. -/
theorem Rd.at_ (h : Rd w A n cap l) (hn : 0 < n) : ∃ b o, A = some ⟨b, o, none⟩ ∧ b < w.heap.size ∧ ∀ i, i < n → w.cell? ⟨b, o + i, none⟩ = some (.int .u8 ((l.getD i 0).toNat : Int)) := by
  obtain ⟨b, o, rfl, hc⟩ := h.2.2.2 hn
  exact ⟨b, o, rfl, World.block_lt_of_cell? w _ (hc 0 hn), hc⟩

theorem Rd.keep (h : Rd w A n cap l) (hk : ∀ b o, A = some ⟨b, o, none⟩ → 0 < n → ∀ i, i < n → w'.cell? ⟨b, o + i, none⟩ = w.cell? ⟨b, o + i, none⟩) : Rd w' A n cap l :=
  ⟨h.1, h.2.1, h.2.2.1, fun hn => by
    obtain ⟨b, o, rfl, hc⟩ := h.2.2.2 hn
    exact ⟨b, o, rfl, fun i hi => (hk b o rfl hn i hi).trans (hc i hi)⟩⟩

theorem Rd.below (h : Rd w A n cap l) (hb : Below w.heap.size w w') : Rd w' A n cap l :=
  ⟨h.1, h.2.1, h.2.2.1, fun hn => by
    obtain ⟨b, o, rfl, hlt, hc⟩ := h.at_ hn
    exact ⟨b, o, rfl, fun i hi => (hb.cell (p := ⟨b, o + i, none⟩) hlt).trans (hc i hi)⟩⟩

theorem Rd.drewN (h : Rd w A n cap l) (k : Nat) : Rd (w.drewN k) A n cap l := h
theorem Rd.drew (h : Rd w A n cap l) : Rd w.drew A n cap l := h

/-- Kept where just block g has changed, and block g holds no byte at the place. -/
theorem Rd.grown {g : Nat} (h : Rd w A n cap l) (hg : w.grownBy w' (some g)) (hne : ∀ o k, w.cell? ⟨g, o, none⟩ ≠ some (.int .u8 k)) : Rd w' A n cap l :=
  ⟨h.1, h.2.1, h.2.2.1, fun hn => by
    obtain ⟨b, o, rfl, hlt, hc⟩ := h.at_ hn
    have hbg : b ≠ g := by
      rintro rfl
      exact hne _ _ (hc 0 hn)
    exact ⟨b, o, rfl, fun i hi => hg.cell (hc i hi) (by simpa using hbg)⟩⟩

/-- What stands behind the first k bytes: the slice v[k:]. The model keeps the address where k is the capacity. -/
theorem Rd.cut (h : Rd w A n cap l) {k : Nat} (hk : k ≤ n) : Rd w (if cap = k then A else A.map (·.add k)) (n - k) (cap - k) (l.drop k) := by
  refine ⟨by rw [List.length_drop, h.1], by have := h.2.1; omega, by have := h.2.2.1; omega, fun hn => ?_⟩
  obtain ⟨b, o, rfl, hc⟩ := h.2.2.2 (by omega)
  have := h.2.1
  rw [if_neg (by omega)]
  refine ⟨b, o + k, by simp [Addr.add], fun i hi => ?_⟩
  have := hc (k + i) (by omega)
  rw [Nat.add_assoc, this]
  simp [List.getD, List.getElem?_drop]

/-- The first k bytes: v[:k]. -/
theorem Rd.first (h : Rd w A n cap l) {k : Nat} (hk : k ≤ n) : Rd w A k cap (l.take k) := by
  refine ⟨by rw [List.length_take, h.1]; omega, by have := h.2.1; omega, h.2.2.1, fun hn => ?_⟩
  obtain ⟨b, o, rfl, hc⟩ := h.2.2.2 (by omega)
  refine ⟨b, o, rfl, fun i hi => ?_⟩
  rw [hc i (by omega)]
  simp [List.getD, hi]

/-- A row of the call's own, whole. -/
theorem Rd.of_block {g : Nat} {t : TypeId} {fr : Nat × Nat} {cs : Array Value} (hg : w.heap[g]? = some (.cells cs t fr)) (hl : l.length = n) (hn : n ≤ cap) (hc : cap ≤ maxLen) (h : ∀ i, i < n → cs[i]? = some (.int .u8 ((l.getD i 0).toNat : Int))) :
    Rd w (some ⟨g, 0, none⟩) n cap l :=
  ⟨hl, hn, hc, fun _ => ⟨g, 0, rfl, fun i hi => by rw [Nat.zero_add, cell_of_row w g i cs t fr hg]; exact h i hi⟩⟩

/-- string(v). -/
theorem Rd.string {P : Program} (h : Rd w A n cap l) (src dst e : TypeId) (hs : P.underlying src = some (.slice e)) (he : P.underlying e = some (.int .u8)) (hd : P.underlying dst = some .string) :
    (convert src dst (.slice A n cap)).run P w = .ok (.string ⟨l.toArray⟩) w := by
  obtain ⟨hl, h1, h2, h3⟩ := h
  subst hl
  rcases Nat.eq_zero_or_pos l.length with h0 | h0
  · have hl0 : l = [] := List.eq_nil_of_length_eq_zero h0
    subst hl0
    rw [run_convert_bytes_string w src dst e A _ cap hs he hd]
    cases A with
    | none => simp [Conv.bytesToString, Sem.run_pure]; rfl
    | some a =>
      have hlo := run_loadCells_list (P := P) w a [] (fun j v hj => by simp at hj)
      rw [run_bytesToString w a _ cap [] (by simpa using hlo)]
      rfl
  · obtain ⟨b, o, rfl, hc⟩ := h3 h0
    refine run_convert_bytes_back w src dst e ⟨b, o, none⟩ cap l hs he hd fun j hj => ?_
    have hadd : (⟨b, o, none⟩ : Addr).add j = ⟨b, o + j, none⟩ := by unfold Addr.add; split <;> simp_all
    rw [hadd, hc j hj]
    simp [List.getD, List.getElem?_eq_getElem hj]

/-- The source of a copy or an append. -/
theorem Rd.src (h : Rd w A n cap l) (h0 : 0 < (cellsOf l).length) : ∃ ad, A = some ad ∧ ∀ j v, (cellsOf l)[j]? = some v → w.cell? (ad.add j) = some v := by
  rw [cellsOf_length, h.1] at h0
  obtain ⟨b, o, rfl, hc⟩ := h.2.2.2 h0
  refine ⟨_, rfl, fun j v hj => ?_⟩
  have hadd : (⟨b, o, none⟩ : Addr).add j = ⟨b, o + j, none⟩ := by unfold Addr.add; split <;> simp_all
  have hjn : j < l.length := by
    have := (List.getElem?_eq_some_iff.1 hj).1
    simpa [cellsOf] using this
  rw [hadd, hc j (by rw [← h.1]; exact hjn)]
  simp [cellsOf, List.getElem?_eq_getElem hjn] at hj
  simp [List.getD, List.getElem?_eq_getElem hjn, hj]

/-- Block g is just the cells of the bytes l, none frozen. -/
def Row (w : World) (g : Nat) (t : TypeId) (l : List UInt8) : Prop := w.heap[g]? = some (.cells (cellsOf l).toArray t (0, 0))

section
variable {g : Nat} {t : TypeId}
theorem Row.lt (h : Row w g t l) : g < w.heap.size := (Array.getElem?_eq_some_iff.1 h).1
theorem Row.cell (h : Row w g t l) {i : Nat} (hi : i < l.length) : w.cell? ⟨g, i, none⟩ = some (.int .u8 ((l.getD i 0).toNat : Int)) := by
  rw [cell_of_row w g i _ t (0, 0) h]
  simp [cellsOf, List.getElem?_eq_getElem hi, List.getD]
theorem Row.frozen (h : Row w g t l) (i : Nat) : w.frozen? ⟨g, i, none⟩ = false := by
  unfold Row at h
  simp [World.frozen?, h]
theorem Row.rd (h : Row w g t l) (hn : l.length ≤ maxLen) : Rd w (some ⟨g, 0, none⟩) l.length l.length l :=
  Rd.of_block h rfl (Nat.le_refl _) hn fun i hi => by simp [cellsOf, List.getElem?_eq_getElem hi, List.getD]
theorem Row.set_ (h : Row w g t l) (i : Nat) (c : UInt8) : Row (w.setCell ⟨g, i, none⟩ (.int .u8 (c.toNat : Int))) g t (l.set i c) := by
  unfold Row at h ⊢
  simp only [World.setCell, Array.getElem?_modify, h]
  simp [cellsOf, List.map_set]
theorem Row.below {B : Nat} (h : Row w g t l) (hb : Below B w w') (hg : g < B) : Row w' g t l := (hb.block g hg).trans h
theorem Row.new (w : World) (t : TypeId) (l : List UInt8) : Row (w.alloc (.cells (cellsOf l).toArray t)) w.heap.size t l := heap_alloc_new w _
end

theorem grown_setCell {a w : World} {g : Nat} (h : a.grownBy w (some g)) (i : Nat) (u : Value) : a.grownBy (w.setCell ⟨g, i, none⟩ u) (some g) :=
  ⟨h.os, h.tape, h.output, by simpa [World.setCell] using h.size, fun k hk hne => (Below.heap_setCell w _ u k (fun e => hne (by simp [e]))).trans (h.block k hk hne)⟩
theorem grown_below {a w : World} (h : a.grownBy w none) : Below a.heap.size a w := ⟨h.os, h.tape, h.output, h.size, fun k hk => h.block k hk (by simp)⟩
theorem below_grown {a w : World} (h : Below a.heap.size a w) (row : Option Nat) : a.grownBy w row := ⟨h.os, h.tape, h.output, h.size, fun k hk _ => h.block k hk⟩

/-- make([]byte, k). -/
theorem run_make_bytes {P : Program} (T e : TypeId) (hT : P.underlying T = some (.slice e)) (hi : (P.info? e).map (fun i => (i.zero, i.size, i.bytes)) = some (some (.int .u8 0), 1, 1))
    (k : Nat) (hk : k ≤ 281474976710656) (x : Int) (hx : x = (k : Int)) (w : World) :
    (Instr.makeSlice T (.int .i64 x) (.int .i64 x)).run P w = .ok (.slice (some ⟨w.heap.size, 0, none⟩) k k) (w.alloc (.cells (cellsOf (List.replicate k 0)).toArray e)) := by
  subst hx
  obtain ⟨i, h1, h2, h3, h4⟩ : ∃ i, P.info? e = some i ∧ i.zero = some (.int .u8 0) ∧ i.size = 1 ∧ i.bytes = 1 := by
    cases hq : P.info? e with
    | none => simp [hq] at hi
    | some i => simp [hq] at hi; exact ⟨i, rfl, hi.1, hi.2.1, hi.2.2⟩
  rw [run_make w T e i (.int .u8 0) hT h1 h2 .i64 .i64 k k (by omega) (by omega) (by rw [h4]; omega) (by omega)]
  have hm : madeCells (Value.int .u8 0).cells ((k : Int).toNat * i.size) = (cellsOf (List.replicate k 0)).toArray := by
    apply Array.toList_inj.1
    rw [h3, Nat.mul_one, Int.toNat_natCast]
    show (madeCells #[Value.int .u8 0] k).toList = _
    rw [toList_madeCells_one]
    simp [cellsOf]
  rw [hm, Int.toNat_natCast]

/-- copy(dst, s), s a text that just fits, dst in a row of the call's own. -/
theorem wpList_copy_text {P : Program} {w : World} {ops : Array Oper} {rest : List Oper} {o : Oper} {a : Act} {Q : Exit → Act → World → Prop} (hgd : o.guard = none) (d s : Operand) (dT sT : TypeId)
    (ho : o.op = .call { callee := .builtin .copy, args := #[d, s], argTypes := #[dT, sT] }) (elem : TypeId) (hu : P.underlying dT = some (.slice elem)) (hsz : (P.info? elem).map (·.size) = some 1)
    (dp : Option Addr) (dLen dCap : Nat) (x : ByteArray) (hd : a.eval d = .slice dp dLen dCap) (hs : a.eval s = .string x)
    (g off : Nat) (L : List UInt8) (t : TypeId) (hg : Row w g t L) (hle : x.size = dLen) (hpos : 0 < x.size → dp = some ⟨g, off, none⟩) (hfit : off + x.size ≤ L.length)
    (h : ∀ w', Row w' g t (L.take off ++ (x.data.toList ++ L.drop (off + x.size))) → w.grownBy w' (some g) → wpList P ops Q rest (a.put o.dst (goInt x.size)) w') :
    wpList P ops Q (o :: rest) a w := by
  refine wpList_plain hgd fun K hK => ?_
  by_cases h0 : x.size = 0
  · have hrun := Go.Lib.run_copy_empty_string (P := P) w dT sT o.type elem dp dLen dCap x hu (by rw [hsz]; rfl) h0
    unfold Oper.wp
    simp [execOp, ho, resolve, invoke, builtin, hd, hs, hrun, Result.andThen]
    have hx : x.data.toList = [] := List.eq_nil_of_length_eq_zero (by simpa using h0)
    have := h w (by rw [hx, h0]; simpa using hg) ⟨rfl, rfl, rfl, Nat.le_refl _, fun _ _ _ => rfl⟩
    rw [h0] at this
    exact hK _ _ this
  · obtain rfl := hpos (by omega)
    have hrun := Go.Lib.run_copy_row_string (P := P) w dT sT o.type elem g off dLen dCap x _ t hu hsz hg (by omega) (by simpa [cellsOf] using hfit)
    unfold Oper.wp
    simp [execOp, ho, resolve, invoke, builtin, hd, hs, hrun, Result.andThen]
    refine hK _ _ (h _ ?_ ⟨rfl, rfl, rfl, by simp [World.setRow], fun k _ hne => setRow_other w g k _ (fun e => hne (by simp [e]))⟩)
    have e := setRow_heap w g _ (cellsOf (L.take off ++ (x.data.toList ++ L.drop (off + x.size)))).toArray t _ hg
    have e2 : List.take off (cellsOf L) ++ (Go.Lib.byteCells x.data.toList ++ List.drop (off + x.size) (cellsOf L)) = cellsOf (L.take off ++ (x.data.toList ++ L.drop (off + x.size))) := by
      simp [cellsOf, Go.Lib.byteCells]
    rw [Row, e2]
    exact e

/-- A slice's row is older than block g. -/
def Old (A : Option Addr) (g : Nat) : Prop := ∀ a, A = some a → a.block < g
theorem Old.none (g : Nat) : Old none g := fun _ h => by cases h
theorem Old.add {A : Option Addr} {g : Nat} (h : Old A g) (k : Nat) : Old (A.map (·.add k)) g := by
  intro a ha
  cases A with
  | none => cases ha
  | some b =>
    simp only [Option.map_some, Option.some.injEq] at ha
    have := h b rfl
    rw [← ha]
    unfold Addr.add
    split <;> exact this

/-- A reader behind a pointer: block g (of type T) holds a slice that reads as l, its row older than g, and whether it is bad. -/
def Rdr (w : World) (T : TypeId) (g : Nat) (l : List UInt8) (bad : Bool) : Prop :=
  ∃ A n cap, w.heap[g]? = some (.cells #[.slice A n cap, .bool bad] T (0, 0)) ∧ Rd w A n cap l ∧ Old A g

section
variable {T : TypeId} {g : Nat} {bad : Bool}
theorem two_cell {c0 c1 : Value} (h : w.heap[g]? = some (.cells #[c0, c1] T (0, 0))) : w.cell? ⟨g, 0, none⟩ = some c0 ∧ w.cell? ⟨g, 1, none⟩ = some c1 ∧ (∀ i, w.frozen? ⟨g, i, none⟩ = false) :=
  ⟨by rw [cell_of_row w g 0 _ T (0, 0) h]; rfl, by rw [cell_of_row w g 1 _ T (0, 0) h]; rfl, fun i => by simp [World.frozen?, h]⟩
theorem two_no_byte {c0 c1 : Value} (h : w.heap[g]? = some (.cells #[c0, c1] T (0, 0))) (h0 : ∀ k, c0 ≠ .int .u8 k) (h1 : ∀ k, c1 ≠ .int .u8 k) : ∀ o k, w.cell? ⟨g, o, none⟩ ≠ some (.int .u8 k) := by
  intro o k
  rw [cell_of_row w g o _ T (0, 0) h]
  match o with
  | 0 => simpa using h0 k
  | 1 => simpa using h1 k
  | n + 2 => simp
theorem two_set0 {c0 c1 v : Value} (h : w.heap[g]? = some (.cells #[c0, c1] T (0, 0))) : (w.setCell ⟨g, 0, none⟩ v).heap[g]? = some (.cells #[v, c1] T (0, 0)) := by
  simp [World.setCell, Array.getElem?_modify, h]
theorem two_set1 {c0 c1 v : Value} (h : w.heap[g]? = some (.cells #[c0, c1] T (0, 0))) : (w.setCell ⟨g, 1, none⟩ v).heap[g]? = some (.cells #[c0, v] T (0, 0)) := by
  simp [World.setCell, Array.getElem?_modify, h]
theorem Rdr.lt (h : Rdr w T g l bad) : g < w.heap.size := by
  obtain ⟨A, n, cap, hh, _⟩ := h
  exact (Array.getElem?_eq_some_iff.1 hh).1
theorem Rdr.no_byte (h : Rdr w T g l bad) : ∀ o k, w.cell? ⟨g, o, none⟩ ≠ some (.int .u8 k) := by
  obtain ⟨A, n, cap, hh, _⟩ := h
  exact two_no_byte hh (by simp) (by simp)
theorem Rdr.below (h : Rdr w T g l bad) (hb : Below w.heap.size w w') : Rdr w' T g l bad := by
  have hlt := h.lt
  obtain ⟨A, n, cap, hh, hr, ho⟩ := h
  exact ⟨A, n, cap, (hb.block g hlt).trans hh, hr.below hb, ho⟩
/-- Kept where another reader's block alone has changed. -/
theorem Rdr.grown {g' : Nat} (h : Rdr w T g l bad) (hg : w.grownBy w' (some g')) (hne : g ≠ g') (hno : ∀ o k, w.cell? ⟨g', o, none⟩ ≠ some (.int .u8 k)) : Rdr w' T g l bad := by
  have hlt := h.lt
  obtain ⟨A, n, cap, hh, hr, ho⟩ := h
  exact ⟨A, n, cap, (hg.block g hlt (by simpa using hne)).trans hh, hr.grown hg hno, ho⟩
end

end Go.Proofs.Ytppdljkfhoekpaa.NumMem

/-
  Opening the arguments of a statement: what a value that can be read as data is. No Go text here.
-/
namespace Go.Proofs.Ytppdljkfhoekpaa.Open
open Go.RowKit Go.ChangeShapes Go.WideShapes Go.Proofs.Ytppdljkfhoekpaa.NumMem

/-- A slice of one-cell elements: its i-th cell holds f i. -/
def Sl (w : World) (A : Option Addr) (n cap : Nat) (f : Nat → Value) : Prop :=
  n ≤ cap ∧ cap ≤ maxLen ∧ (0 < n → ∃ b o, A = some ⟨b, o, none⟩ ∧ ∀ i, i < n → w.cell? ⟨b, o + i, none⟩ = some (f i))

theorem Sl.at_ {w : World} {A : Option Addr} {n cap : Nat} {f : Nat → Value} (h : Sl w A n cap f) (hn : 0 < n) : ∃ b o, A = some ⟨b, o, none⟩ ∧ b < w.heap.size ∧ ∀ i, i < n → w.cell? ⟨b, o + i, none⟩ = some (f i) := by
  obtain ⟨b, o, rfl, hc⟩ := h.2.2 hn
  exact ⟨b, o, rfl, World.block_lt_of_cell? w _ (hc 0 hn), hc⟩

theorem Sl.below {w w' : World} {B : Nat} {A : Option Addr} {n cap : Nat} {f : Nat → Value} (h : Sl w A n cap f) (hb : Below B w w') (hB : w.heap.size ≤ B) : Sl w' A n cap f :=
  ⟨h.1, h.2.1, fun hn => by
    obtain ⟨b, o, rfl, hlt, hc⟩ := h.at_ hn
    exact ⟨b, o, rfl, fun i hi => (hb.cell (p := ⟨b, o + i, none⟩) (Nat.lt_of_lt_of_le hlt hB)).trans (hc i hi)⟩⟩

section
variable {H : Type} {enc : TypeId × Value → H} {P : Program} {W : World} {base : Nat} {t e : TypeId} {v : Value} {d : DataW H} {p : List MemPlace}

theorem op_int {k : IntKind} (ht : P.underlying t = some (.int k)) (ho : Value.okWide P W .any base t v) (h : DataW.Trod enc P W 0 (fun _ => true) true t v d p) : ∃ x, v = .int k x ∧ (Lit.int k x).wf = true := by
  obtain ⟨x, rfl, _, _, wx⟩ := open_int ht ho h
  exact ⟨x, rfl, wx⟩

theorem op_i64 (ht : P.underlying t = some (.int .i64)) (ho : Value.okWide P W .any base t v) (h : DataW.Trod enc P W 0 (fun _ => true) true t v d p) :
    ∃ x, v = .int .i64 x ∧ -9223372036854775808 ≤ x ∧ x ≤ 9223372036854775807 := by
  obtain ⟨x, rfl, wx⟩ := op_int ht ho h
  exact ⟨x, rfl, bounds_i64 wx⟩

theorem op_bool (ht : P.underlying t = some .bool) (ho : Value.okWide P W .any base t v) (h : DataW.Trod enc P W 0 (fun _ => true) true t v d p) : ∃ x, v = .bool x := by
  obtain ⟨x, rfl, _, _⟩ := open_bool ht ho h
  exact ⟨x, rfl⟩

theorem op_string (ht : P.underlying t = some .string) (ho : Value.okWide P W .any base t v) (h : DataW.Trod enc P W 0 (fun _ => true) true t v d p) : ∃ s, v = .string s ∧ s.size ≤ maxLen := by
  obtain ⟨s, rfl, _, _, hs⟩ := Go.ChangeMaps.open_string ht ho h
  exact ⟨s, rfl, hs⟩

theorem spot_none {w : World} {x : Addr} {v : Value} (h : w.cell? (x.add 0) = some v) : x = ⟨x.block, x.off, none⟩ := by
  have := World.cell?_spot h
  obtain ⟨b, o, s⟩ := x
  have hs : s = none := by simpa [Addr.add] using this
  subst hs
  rfl

theorem add_at (b o i : Nat) : (⟨b, o, none⟩ : Addr).add i = ⟨b, o + i, none⟩ := by unfold Addr.add; split <;> simp_all

/-- From cells up to the capacity to 'Sl'. -/
theorem sl_of {a : Addr} {len cap : Nat} {f : Nat → Value} (hl : len ≤ cap) (hm : cap ≤ maxLen) (hc : ∀ i, i < cap → W.cell? (a.add i) = some (f i)) : Sl W (some a) len cap f :=
  ⟨hl, hm, fun hn => by
    have e := spot_none (hc 0 (by omega))
    refine ⟨a.block, a.off, by rw [← e], fun i hi => ?_⟩
    have := hc i (by omega)
    rw [e, add_at] at this
    exact this⟩

theorem op_ints {k : IntKind} (ht : P.underlying t = some (.slice e)) (he : P.underlying e = some (.int k)) (hce : P.cellsOf e = 1) (ho : Value.okWide P W .any base t v) (h : DataW.Trod enc P W 0 (fun _ => true) true t v d p) :
    ∃ (A : Option Addr) (n cap : Nat) (zs : List Int), v = .slice A n cap ∧ zs.length = n ∧ (∀ z ∈ zs, (Lit.int k z).wf = true) ∧ Sl W A n cap (fun i => .int k (zs.getD i 0)) := by
  obtain ⟨a, len, cap, rfl⟩ := okWide_slice ht ho
  obtain ⟨fuel, hf⟩ := h
  rcases open_ints ht he hce hf with ⟨hcs, _⟩ | ⟨x, l, c, zs, hcs, _, hl, hm, hz, _, hcell, hwz⟩
  · simp [Value.cells] at hcs
    obtain ⟨rfl, rfl, rfl⟩ := hcs
    exact ⟨none, 0, 0, [], rfl, rfl, by simp, Nat.le_refl _, Nat.zero_le _, fun h => absurd h (by omega)⟩
  · simp [Value.cells] at hcs
    obtain ⟨rfl, rfl, rfl⟩ := hcs
    have hz' : zs.length = cap := by simpa using hz
    have hs := sl_of (W := W) (f := fun i => .int k (zs.getD i 0)) hl hm (by rw [← hz']; exact hcell)
    refine ⟨_, _, _, zs.take len, rfl, by simp; omega, fun z hz => hwz z (List.mem_of_mem_take hz), hs.1, hs.2.1, fun hn => ?_⟩
    obtain ⟨b, o, hA, hc⟩ := hs.2.2 hn
    refine ⟨b, o, hA, fun i hi => ?_⟩
    rw [hc i hi]
    simp [List.getD, hi]

theorem op_bytes (ht : P.underlying t = some (.slice e)) (he : P.underlying e = some (.int .u8)) (hce : P.cellsOf e = 1) (ho : Value.okWide P W .any base t v) (h : DataW.Trod enc P W 0 (fun _ => true) true t v d p) :
    ∃ (A : Option Addr) (n cap : Nat) (l : List UInt8), v = .slice A n cap ∧ Rd W A n cap l := by
  obtain ⟨A, n, cap, zs, rfl, hl, hw, hs⟩ := op_ints ht he hce ho h
  refine ⟨A, n, cap, zs.map fun z => UInt8.ofNat z.toNat, rfl, by simpa using hl, hs.1, hs.2.1, fun hn => ?_⟩
  obtain ⟨b, o, hA, hc⟩ := hs.2.2 hn
  refine ⟨b, o, hA, fun i hi => ?_⟩
  have hi' : i < zs.length := by omega
  have hb := bounds_u8 (hw zs[i] (List.getElem_mem hi'))
  rw [hc i hi]
  simp only [List.getD, List.getElem?_map, List.getElem?_eq_getElem hi', Option.map_some, Option.getD_some]
  congr 2
  have : zs[i].toNat < 256 := by omega
  simp [Nat.mod_eq_of_lt this]
  omega

theorem op_bools (ht : P.underlying t = some (.slice e)) (he : P.underlying e = some .bool) (hce : P.cellsOf e = 1) (ho : Value.okWide P W .any base t v) (h : DataW.Trod enc P W 0 (fun _ => true) true t v d p) :
    ∃ (A : Option Addr) (n cap : Nat) (B : Nat → Bool), v = .slice A n cap ∧ Sl W A n cap (fun i => .bool (B i)) := by
  obtain ⟨a, len, cap, rfl⟩ := okWide_slice ht ho
  obtain ⟨fuel, hf⟩ := h
  rcases Go.Deep.open_bools ht he hce hf with ⟨hcs, _⟩ | ⟨x, l, c, B, hcs, _, hl, hm, _, hcell⟩
  · simp [Value.cells] at hcs
    obtain ⟨rfl, rfl, rfl⟩ := hcs
    exact ⟨none, 0, 0, fun _ => false, rfl, Nat.le_refl _, Nat.zero_le _, fun h => absurd h (by omega)⟩
  · simp [Value.cells] at hcs
    obtain ⟨rfl, rfl, rfl⟩ := hcs
    exact ⟨_, _, _, B, rfl, sl_of hl hm hcell⟩

theorem op_strings (ht : P.underlying t = some (.slice e)) (he : P.underlying e = some .string) (hce : P.cellsOf e = 1) (ho : Value.okWide P W .any base t v) (h : DataW.Trod enc P W 0 (fun _ => true) true t v d p) :
    ∃ (A : Option Addr) (n cap : Nat) (ss : List ByteArray), v = .slice A n cap ∧ ss.length = n ∧ (∀ s ∈ ss, s.size ≤ maxLen) ∧ Sl W A n cap (fun i => .string (ss.getD i ByteArray.empty)) := by
  obtain ⟨a, len, cap, rfl⟩ := okWide_slice ht ho
  obtain ⟨fuel, hf⟩ := h
  rcases open_strings ht he hce hf with ⟨hcs, _⟩ | ⟨x, l, c, zs, hcs, _, hl, hm, hz, _, hcell, hwz⟩
  · simp [Value.cells] at hcs
    obtain ⟨rfl, rfl, rfl⟩ := hcs
    exact ⟨none, 0, 0, [], rfl, rfl, by simp, Nat.le_refl _, Nat.zero_le _, fun h => absurd h (by omega)⟩
  · simp [Value.cells] at hcs
    obtain ⟨rfl, rfl, rfl⟩ := hcs
    have hz' : zs.length = cap := by simpa using hz
    have hs := sl_of (W := W) (f := fun i => .string (zs.getD i ByteArray.empty)) hl hm (by rw [← hz']; exact hcell)
    refine ⟨_, _, _, zs.take len, rfl, by simp; omega, fun z hz => hwz z (List.mem_of_mem_take hz), hs.1, hs.2.1, fun hn => ?_⟩
    obtain ⟨b, o, hA, hc⟩ := hs.2.2 hn
    refine ⟨b, o, hA, fun i hi => ?_⟩
    rw [hc i hi]
    simp [List.getD, hi]
end

end Go.Proofs.Ytppdljkfhoekpaa.Open

/-
  Words on memory for slices of any elements: a slice that reads as a row of cells (k cells an element; nil and empty let in), rows of the call's own, append. No Go text here.
-/
namespace Go.Proofs.Ytppdljkfhoekpaa.MemRow
open Go.RowKit
set_option linter.unusedVariables false

/-- The slice value (A, n, cap) of elements of k cells reads as the cells cs. -/
def RdC (k : Nat) (w : World) (A : Option Addr) (n cap : Nat) (cs : List Value) : Prop :=
  cs.length = n * k ∧ n ≤ cap ∧ cap ≤ maxLen ∧ (0 < n → ∃ b o, A = some ⟨b, o, none⟩ ∧ ∀ i v, cs[i]? = some v → w.cell? ⟨b, o + i, none⟩ = some v)

variable {w w' : World} {A : Option Addr} {n cap k : Nat} {cs : List Value} {ss : List ByteArray} {fs : List (ByteArray × Int)}

theorem RdC.nil (w : World) : RdC k w none 0 0 [] := ⟨by simp, Nat.le_refl _, Nat.zero_le _, fun h => absurd h (by omega)⟩
theorem RdC.empty (w : World) (A : Option Addr) (h : cap ≤ maxLen) : RdC k w A 0 cap [] := ⟨by simp, Nat.zero_le _, h, fun h => absurd h (by omega)⟩
theorem RdC.len (h : RdC k w A n cap cs) : cs.length = n * k := h.1
theorem RdC.le_cap (h : RdC k w A n cap cs) : n ≤ cap := h.2.1
theorem RdC.cap_le (h : RdC k w A n cap cs) : cap ≤ maxLen := h.2.2.1
theorem RdC.le (h : RdC k w A n cap cs) : n ≤ maxLen := Nat.le_trans h.2.1 h.2.2.1

theorem RdC.at_ (h : RdC k w A n cap cs) (hk : 0 < k) (hn : 0 < n) : ∃ b o, A = some ⟨b, o, none⟩ ∧ b < w.heap.size ∧ ∀ i v, cs[i]? = some v → w.cell? ⟨b, o + i, none⟩ = some v := by
  obtain ⟨b, o, rfl, hc⟩ := h.2.2.2 hn
  have h0 : 0 < cs.length := by rw [h.1]; exact Nat.mul_pos hn hk
  exact ⟨b, o, rfl, World.block_lt_of_cell? w _ (hc 0 _ (List.getElem?_eq_getElem h0)), hc⟩

theorem RdC.keep (h : RdC k w A n cap cs) (hk : ∀ b o, A = some ⟨b, o, none⟩ → ∀ i v, w.cell? ⟨b, o + i, none⟩ = some v → w'.cell? ⟨b, o + i, none⟩ = some v) : RdC k w' A n cap cs :=
  ⟨h.1, h.2.1, h.2.2.1, fun hn => by
    obtain ⟨b, o, rfl, hc⟩ := h.2.2.2 hn
    exact ⟨b, o, rfl, fun i v hi => hk b o rfl i v (hc i v hi)⟩⟩

/-- As 'keep', where the slice may be empty. -/
theorem RdC.keepN (h : RdC k w A n cap cs) (hk : 0 < n → ∀ b o, A = some ⟨b, o, none⟩ → ∀ i v, w.cell? ⟨b, o + i, none⟩ = some v → w'.cell? ⟨b, o + i, none⟩ = some v) : RdC k w' A n cap cs :=
  ⟨h.1, h.2.1, h.2.2.1, fun hn => by
    obtain ⟨b, o, rfl, hc⟩ := h.2.2.2 hn
    exact ⟨b, o, rfl, fun i v hi => hk hn b o rfl i v (hc i v hi)⟩⟩

theorem RdC.below (h : RdC k w A n cap cs) (hb : Below w.heap.size w w') : RdC k w' A n cap cs :=
  h.keep fun b o _ i v hi => (hb.cell (p := ⟨b, o + i, none⟩) (World.block_lt_of_cell? w _ hi)).trans hi

theorem RdC.drewN (h : RdC k w A n cap cs) (m : Nat) : RdC k (w.drewN m) A n cap cs := h
theorem RdC.drew (h : RdC k w A n cap cs) : RdC k w.drew A n cap cs := h

/-- Kept where just block g has changed, and the slice lies in another. -/
theorem RdC.grown {row : Option Nat} (h : RdC k w A n cap cs) (hg : w.grownBy w' row) (hne : ∀ b o, A = some ⟨b, o, none⟩ → some b ≠ row) : RdC k w' A n cap cs :=
  h.keep fun b o hA i v hi => hg.cell hi (hne b o hA)

theorem add_plain (b o i : Nat) : (⟨b, o, none⟩ : Addr).add i = ⟨b, o + i, none⟩ := by unfold Addr.add; split <;> simp_all

/-- v[m:]. The model keeps the address where m is the capacity. -/
theorem RdC.cut (h : RdC k w A n cap cs) {m : Nat} (hm : m ≤ n) : RdC k w (if cap = m then A else A.map (·.add (m * k))) (n - m) (cap - m) (cs.drop (m * k)) := by
  refine ⟨by rw [List.length_drop, h.1, Nat.sub_mul], by have := h.2.1; omega, by have := h.2.2.1; omega, fun hn => ?_⟩
  obtain ⟨b, o, rfl, hc⟩ := h.2.2.2 (by omega)
  have := h.2.1
  rw [if_neg (by omega)]
  refine ⟨b, o + m * k, by simp [Addr.add], fun i v hi => ?_⟩
  rw [List.getElem?_drop] at hi
  rw [Nat.add_assoc]
  exact hc _ v hi

/-- v[:m]. -/
theorem RdC.first (h : RdC k w A n cap cs) {m : Nat} (hm : m ≤ n) : RdC k w A m cap (cs.take (m * k)) := by
  have hmk : m * k ≤ n * k := Nat.mul_le_mul_right k hm
  refine ⟨by rw [List.length_take, h.1]; omega, by have := h.2.1; omega, h.2.2.1, fun hn => ?_⟩
  obtain ⟨b, o, rfl, hc⟩ := h.2.2.2 (by omega)
  refine ⟨b, o, rfl, fun i v hi => hc i v ?_⟩
  by_cases h1 : i < m * k
  · rwa [List.getElem?_take_of_lt h1] at hi
  · rw [List.getElem?_eq_none (by rw [List.length_take]; omega)] at hi
    cases hi

theorem RdC.of_block {g : Nat} {t : TypeId} {fr : Nat × Nat} {ar : Array Value} (hg : w.heap[g]? = some (.cells ar t fr)) (hl : cs.length = n * k) (hn : n ≤ cap) (hc : cap ≤ maxLen) (h : ∀ (i : Nat) (v : Value), cs[i]? = some v → ar[i]? = some v) :
    RdC k w (some ⟨g, 0, none⟩) n cap cs :=
  ⟨hl, hn, hc, fun _ => ⟨g, 0, rfl, fun i v hi => by rw [Nat.zero_add, cell_of_row w g i ar t fr hg]; exact h i v hi⟩⟩

/-- A new row. -/
theorem RdC.new (w : World) (t : TypeId) (cs : List Value) (hl : cs.length = n * k) (hn : n ≤ maxLen) : RdC k (w.alloc (.cells cs.toArray t)) (some ⟨w.heap.size, 0, none⟩) n n cs :=
  RdC.of_block (heap_alloc_new w _) hl (Nat.le_refl _) hn fun i v hi => by simpa using hi

/-- A slice of the call's own (its block from 'base' on) that holds the cells cs. -/
def OwnC (k : Nat) (w : World) (base : Nat) (t : TypeId) (A : Option Addr) (n cap : Nat) (cs : List Value) : Prop := w.ownsRow base t k (.slice A n cap) n cs

variable {base : Nat} {t : TypeId}

theorem OwnC.len (h : OwnC k w base t A n cap cs) : cs.length = n * k := h.1

theorem OwnC.rd (h : OwnC k w base t A n cap cs) : RdC k w A n cap cs := by
  have hl := h.len
  rcases h.2 with ⟨hv, hn⟩ | ⟨g, c, cur, hv, hb, hg, hnc, hcm, hcs, htake⟩
  · injection hv with e1 e2 e3
    subst e1 e3
    refine ⟨hl, by omega, Nat.zero_le _, fun h0 => absurd h0 (by omega)⟩
  · injection hv with e1 e2 e3
    subst e1 e3
    refine RdC.of_block hg hl hnc hcm fun i v hi => ?_
    rw [← htake] at hi
    have hlt : i < n * k := by
      have := (List.getElem?_eq_some_iff.1 hi).1
      rw [List.length_take] at this
      omega
    rw [List.getElem?_take_of_lt hlt] at hi
    simpa using hi

theorem OwnC.lt (h : OwnC k w base t A n cap cs) : ∀ a, A = some a → base ≤ a.block ∧ a.block < w.heap.size := by
  rintro a rfl
  exact World.ownsRow.lt h a.block rfl

theorem OwnC.below (h : OwnC k w base t A n cap cs) (hb : Below w.heap.size w w') : OwnC k w' base t A n cap cs := World.ownsRow.kept h (below_grown_ hb) (by
  cases hv : (Value.slice A n cap).ownBlock <;> simp)
where below_grown_ (hb : Below w.heap.size w w') : w.grownBy w' none := ⟨hb.os, hb.tape, hb.output, hb.size, fun j hj _ => hb.block j hj⟩

theorem OwnC.nil (w : World) (t : TypeId) : OwnC k w base t none 0 0 [] := ⟨by simp, .inl ⟨rfl, rfl⟩⟩

theorem OwnC.empty (w : World) (t : TypeId) (hb : base ≤ w.heap.size) : OwnC k (w.alloc (.cells #[] t)) base t (some ⟨w.heap.size, 0, none⟩) 0 0 [] :=
  ⟨by simp, .inr ⟨w.heap.size, 0, #[], rfl, hb, heap_alloc_new w _, Nat.le_refl _, Nat.zero_le _, by simp, by simp⟩⟩

/-- A row of the call's own stays where another one of the call's own has grown. -/
theorem OwnC.grown {row : Option Nat} (h : OwnC k w base t A n cap cs) (hg : w.grownBy w' row) (hne : ∀ a, A = some a → some a.block ≠ row) : OwnC k w' base t A n cap cs := World.ownsRow.kept h hg (by
  cases A with
  | none => simp [Value.ownBlock]
  | some a => right; simpa [Value.ownBlock] using hne a rfl)

section
variable {P : Program}
/-- append: of a row of the call's own and what reads as cells. -/
theorem run_append_cells (T ty e : TypeId) (z : Value) (by_ : Nat) (hT : P.underlying T = some (.slice e)) (hi : (P.info? e).map (fun i => (i.zero, i.size, i.bytes)) = some (some z, k, by_)) (hzk : z.cells.size = k) (hk : 0 < k)
    (hown : OwnC k w base e A n cap cs) {B : Option Addr} {m c : Nat} {ds : List Value} (hr : RdC k w B m c ds) (h1 : ∀ v ∈ ds, v.oneCell' = true) (h63 : n + m ≤ maxLen) (hsz : (n + m) * by_ ≤ 140737488355328) (hbase : base ≤ w.heap.size) :
    ∃ A' cap' w', (Builtin.append_ #[T, T] ty #[.slice A n cap, .slice B m c]).run P w = .ok (.slice A' (n + m) cap') w' ∧ OwnC k w' base e A' (n + m) cap' (cs ++ ds) ∧ w.grownBy w' (A.map (·.block)) ∧ (A'.map (·.block) = A.map (·.block) ∨ A'.map (·.block) = some w.heap.size) := by
  obtain ⟨i, g1, g2, g3, g4⟩ : ∃ i, P.info? e = some i ∧ i.zero = some z ∧ i.size = k ∧ i.bytes = by_ := by
    cases hq : P.info? e with
    | none => simp [hq] at hi
    | some i => simp [hq] at hi; exact ⟨i, rfl, hi.1, hi.2.1, hi.2.2⟩
  have ob : (Value.slice A n cap).ownBlock = A.map (·.block) := by cases A <;> rfl
  have done : ∀ v' w2, (Builtin.append_ #[T, T] ty #[.slice A n cap, .slice B m c]).run P w = .ok v' w2 → w2.ownsRow base e k v' (n + m) (cs ++ ds) → w.grownBy w2 (Value.slice A n cap).ownBlock → (v'.ownBlock = (Value.slice A n cap).ownBlock ∨ v'.ownBlock = some w.heap.size) →
      ∃ A' cap' w', (Builtin.append_ #[T, T] ty #[.slice A n cap, .slice B m c]).run P w = .ok (.slice A' (n + m) cap') w' ∧ OwnC k w' base e A' (n + m) cap' (cs ++ ds) ∧ w.grownBy w' (A.map (·.block)) ∧ (A'.map (·.block) = A.map (·.block) ∨ A'.map (·.block) = some w.heap.size) := by
    intro v' w2 hrun ho hg hbl
    rw [ob] at hg hbl
    rcases ho.2 with ⟨rfl, hn⟩ | ⟨g, c2, cur, rfl, hrest⟩
    · refine ⟨none, 0, w2, by rw [hrun, hn], ?_, hg, hbl⟩
      rw [hn] at ho ⊢
      exact ho
    · exact ⟨_, c2, w2, hrun, ho, hg, hbl⟩
  cases B with
  | none =>
    have hm : m = 0 := by
      rcases Nat.eq_zero_or_pos m with h0 | h0
      · exact h0
      · obtain ⟨b, o, h, _⟩ := hr.2.2.2 h0
        cases h
    subst hm
    have hd : ds = [] := List.eq_nil_of_length_eq_zero (by rw [hr.1]; simp)
    subst hd
    refine done (.slice A n cap) w ?_ (by simpa [OwnC] using hown) (World.grownBy.refl _ _) (.inl rfl)
    have hown' := hown
    rcases hown'.2 with ⟨hv, rfl⟩ | ⟨g, c2, cur, hv, _, _, hnc, _⟩
    · injection hv with e1 e2 e3
      subst e1 e3
      simp [Builtin.append_, run_underlying hT, sizeOf, typeInfo, g1, Builtin.lenOf, Builtin.firstCells]
    · injection hv with e1 e2 e3
      subst e1 e3
      simp [Builtin.append_, run_underlying hT, sizeOf, typeInfo, g1, Builtin.lenOf, Builtin.firstCells, hnc, storeCells]
  | some ad =>
    have hsrc : ∀ j u, ds[j]? = some u → w.cell? (ad.add j) = some u := by
      intro j u hu
      have hm : 0 < m := by
        have := (List.getElem?_eq_some_iff.1 hu).1
        rw [hr.1] at this
        exact Nat.pos_of_mul_pos_right (by omega : 0 < m * k) |> fun h => h
      obtain ⟨b, o, h, hc⟩ := hr.2.2.2 hm
      injection h with h
      subst h
      rw [add_plain]
      exact hc j u hu
    obtain ⟨v', w2, hrun, ho, hg, _, hbl⟩ := run_append_own_at (P := P) w base T ty e i z k by_ hT g1 g2 g3 g4 hzk hk _ n _ hown ad m c ds hr.1 hsrc h1 h63 hsz hbase
    exact done v' w2 hrun ho hg hbl

theorem wp_append_cells {o : Oper} {a : Act} {K : Act → World → Prop} {Q : Exit → Act → World → Prop} (s x : Operand) (T : TypeId)
    (ho : o.op = .call { callee := .builtin .append, args := #[s, x], argTypes := #[T, T] }) (e : TypeId) (z : Value) (by_ : Nat) (hT : P.underlying T = some (.slice e)) (hi : (P.info? e).map (fun i => (i.zero, i.size, i.bytes)) = some (some z, k, by_)) (hzk : z.cells.size = k) (hk : 0 < k)
    (hs : a.eval s = .slice A n cap) {B : Option Addr} {m c : Nat} {ds : List Value} (hx : a.eval x = .slice B m c) (hown : OwnC k w base e A n cap cs) (hr : RdC k w B m c ds) (h1 : ∀ v ∈ ds, v.oneCell' = true) (h63 : n + m ≤ maxLen) (hsz : (n + m) * by_ ≤ 140737488355328) (hbase : base ≤ w.heap.size)
    (h : ∀ A' cap' w', OwnC k w' base e A' (n + m) cap' (cs ++ ds) → w.grownBy w' (A.map (·.block)) → (A'.map (·.block) = A.map (·.block) ∨ A'.map (·.block) = some w.heap.size) → K (a.put o.dst (.slice A' (n + m) cap')) w') : o.wp P a w K Q := by
  obtain ⟨A', cap', w', hrun, h2, h3, h4⟩ := run_append_cells (P := P) T o.type e z by_ hT hi hzk hk hown hr h1 h63 hsz hbase
  unfold Oper.wp execOp
  simp only [ho, resolve, invoke, builtin, Sem.run_bind, Sem.run_pure, Result.andThen_ok, List.map_toArray, List.map_cons, List.map_nil, hs, hx, hrun]
  exact h A' cap' w' h2 h3 h4

theorem wpList_append_cells {ops : Array Oper} {rest : List Oper} {o : Oper} {a : Act} {Q : Exit → Act → World → Prop} (hgd : o.guard = none) (s x : Operand) (T : TypeId)
    (ho : o.op = .call { callee := .builtin .append, args := #[s, x], argTypes := #[T, T] }) (e : TypeId) (z : Value) (by_ : Nat) (hT : P.underlying T = some (.slice e)) (hi : (P.info? e).map (fun i => (i.zero, i.size, i.bytes)) = some (some z, k, by_)) (hzk : z.cells.size = k) (hk : 0 < k)
    (hs : a.eval s = .slice A n cap) {B : Option Addr} {m c : Nat} {ds : List Value} (hx : a.eval x = .slice B m c) (hown : OwnC k w base e A n cap cs) (hr : RdC k w B m c ds) (h1 : ∀ v ∈ ds, v.oneCell' = true) (h63 : n + m ≤ maxLen) (hsz : (n + m) * by_ ≤ 140737488355328) (hbase : base ≤ w.heap.size)
    (h : ∀ A' cap' w', OwnC k w' base e A' (n + m) cap' (cs ++ ds) → w.grownBy w' (A.map (·.block)) → (A'.map (·.block) = A.map (·.block) ∨ A'.map (·.block) = some w.heap.size) → wpList P ops Q rest (a.put o.dst (.slice A' (n + m) cap')) w') : wpList P ops Q (o :: rest) a w :=
  wpList_plain hgd fun _ hK => wp_append_cells s x T ho e z by_ hT hi hzk hk hs hx hown hr h1 h63 hsz hbase fun A' cap' w' h2 h3 h4 => hK _ _ (h A' cap' w' h2 h3 h4)

theorem step_append_cells {ops : Array Oper} {o : Oper} {a : Act} {K : Act → World → Prop} {Q : Exit → Act → World → Prop} {E : Prop} (hw : Region.wanted o (yielded ops a.tmps) = true) (s x : Operand) (T : TypeId)
    (ho : o.op = .call { callee := .builtin .append, args := #[s, x], argTypes := #[T, T] }) (e : TypeId) (z : Value) (by_ : Nat) (hT : P.underlying T = some (.slice e)) (hi : (P.info? e).map (fun i => (i.zero, i.size, i.bytes)) = some (some z, k, by_)) (hzk : z.cells.size = k) (hk : 0 < k)
    (hs : a.eval s = .slice A n cap) {B : Option Addr} {m c : Nat} {ds : List Value} (hx : a.eval x = .slice B m c) (hown : OwnC k w base e A n cap cs) (hr : RdC k w B m c ds) (h1 : ∀ v ∈ ds, v.oneCell' = true) (h63 : n + m ≤ maxLen) (hsz : (n + m) * by_ ≤ 140737488355328) (hbase : base ≤ w.heap.size)
    (h : ∀ A' cap' w', OwnC k w' base e A' (n + m) cap' (cs ++ ds) → w.grownBy w' (A.map (·.block)) → (A'.map (·.block) = A.map (·.block) ∨ A'.map (·.block) = some w.heap.size) → K (a.put o.dst (.slice A' (n + m) cap')) w') :
    if Region.wanted o (yielded ops a.tmps) = true then Oper.wp P o a w K Q else E := by
  rw [if_pos hw]
  exact wp_append_cells s x T ho e z by_ hT hi hzk hk hs hx hown hr h1 h63 hsz hbase h
end

/-- Below, where a row of the call's own has grown. -/
theorem below_grown_own (hown : OwnC k w base t A n cap cs) {w0 : World} (hb : Below base w0 w) (hg : w.grownBy w' (A.map (·.block))) (hbase : base ≤ w.heap.size) : Below base w0 w' :=
  hb.grown hg hbase fun g hg' => by
    cases A with
    | none => simp at hg'
    | some a =>
      simp only [Option.map_some, Option.some.injEq] at hg'
      subst hg'
      exact (hown.lt a rfl).1

section
variable {P : Program}
theorem run_size {e : TypeId} (hi : (P.info? e).map (·.size) = some k) (W : World) : (sizeOf e).run P W = .ok k W := by
  cases hq : P.info? e with
  | none => simp [hq] at hi
  | some i =>
    have hs : i.size = k := by simpa [hq] using hi
    simp [sizeOf, typeInfo, hq, hs]
/-- v[m:] -/
theorem slice_lo (T e : TypeId) (hT : P.underlying T = some (.slice e)) (he : P.elem T = e) (hi : (P.info? e).map (·.size) = some k) (h : RdC k w A n cap cs) {m : Nat} (hm : m ≤ n) :
    ∃ A1, (∀ W, (Instr.slice T (.slice A n cap) (some (.int .i64 (m : Int))) none none).run P W = .ok (.slice A1 (n - m) (cap - m)) W) ∧ RdC k w A1 (n - m) (cap - m) (cs.drop (m * k)) := by
  refine ⟨_, fun W => ?_, h.cut hm⟩
  have hu : P.underlying T = some (.slice (P.elem T)) := by rw [he]; exact hT
  rw [run_slice_l (P := P) W T _ n cap hu .i64 (m : Int) (by omega) (by omega), he, run_size hi]
  simp only [Result.andThen, sliced, Int.toNat_natCast]
/-- v[:m] -/
theorem slice_hi (T e : TypeId) (hT : P.underlying T = some (.slice e)) (he : P.elem T = e) (hi : (P.info? e).map (·.size) = some k) (h : RdC k w A n cap cs) {m : Nat} (hm : m ≤ n) :
    (∀ W, (Instr.slice T (.slice A n cap) none (some (.int .i64 (m : Int))) none).run P W = .ok (.slice A m cap) W) ∧ RdC k w A m cap (cs.take (m * k)) := by
  refine ⟨fun W => ?_, h.first hm⟩
  have hc := h.le_cap
  have hu : P.underlying T = some (.slice (P.elem T)) := by rw [he]; exact hT
  have e0 : A.map (·.add 0) = A := by cases A <;> simp [Addr.add]
  rw [run_slice_h (P := P) W T _ n cap hu .i64 (m : Int) (by omega) (by omega), he, run_size hi]
  simp only [Result.andThen, sliced, Int.toNat_natCast, Nat.zero_mul, e0, Nat.sub_zero]
  congr 2
  split <;> rfl
end

/-- append([]T{}, x...): a copy. -/
theorem wpList_copy_cells {P : Program} {ops : Array Oper} {rest : List Oper} {o : Oper} {a : Act} {Q : Exit → Act → World → Prop} (hgd : o.guard = none) (s x : Operand) (T : TypeId)
    (ho : o.op = .call { callee := .builtin .append, args := #[s, x], argTypes := #[T, T] }) (e : TypeId) (z : Value) (by_ : Nat) (hT : P.underlying T = some (.slice e)) (hi : (P.info? e).map (fun i => (i.zero, i.size, i.bytes)) = some (some z, k, by_)) (hzk : z.cells.size = k) (hk : 0 < k)
    {c0 : Nat} (hs : a.eval s = .slice A 0 c0) {B : Option Addr} {m c : Nat} {ds : List Value} (hx : a.eval x = .slice B m c) (hown : OwnC k w base e A 0 c0 []) (hr : RdC k w B m c ds) (h1 : ∀ v ∈ ds, v.oneCell' = true) (h63 : m ≤ maxLen) (hsz : m * by_ ≤ 140737488355328) (hbase : base ≤ w.heap.size) {w0 : World} (hb : Below base w0 w)
    (h : ∀ A' cap' w', OwnC k w' base e A' m cap' ds → Below base w0 w' → wpList P ops Q rest (a.put o.dst (.slice A' m cap')) w') : wpList P ops Q (o :: rest) a w :=
  wpList_append_cells hgd s x T ho e z by_ hT hi hzk hk hs hx hown hr h1 (by omega) (by rw [Nat.zero_add]; exact hsz) hbase fun A' cap' w' h2 h3 _ => by
    have h4 := h A' cap' w' (by simpa using h2) (below_grown_own hown hb h3 hbase)
    rw [Nat.zero_add]
    exact h4
/-- append(v, x...), v of the call's own. -/
theorem wpList_more_cells {P : Program} {ops : Array Oper} {rest : List Oper} {o : Oper} {a : Act} {Q : Exit → Act → World → Prop} (hgd : o.guard = none) (s x : Operand) (T : TypeId)
    (ho : o.op = .call { callee := .builtin .append, args := #[s, x], argTypes := #[T, T] }) (e : TypeId) (z : Value) (by_ : Nat) (hT : P.underlying T = some (.slice e)) (hi : (P.info? e).map (fun i => (i.zero, i.size, i.bytes)) = some (some z, k, by_)) (hzk : z.cells.size = k) (hk : 0 < k)
    (hs : a.eval s = .slice A n cap) {B : Option Addr} {m c : Nat} {ds : List Value} (hx : a.eval x = .slice B m c) (hown : OwnC k w base e A n cap cs) (hr : RdC k w B m c ds) (h1 : ∀ v ∈ ds, v.oneCell' = true) (h63 : n + m ≤ maxLen) (hsz : (n + m) * by_ ≤ 140737488355328) (hbase : base ≤ w.heap.size) {w0 : World} (hb : Below base w0 w)
    (h : ∀ A' cap' w', OwnC k w' base e A' (n + m) cap' (cs ++ ds) → Below base w0 w' → w.grownBy w' (A.map (·.block)) → wpList P ops Q rest (a.put o.dst (.slice A' (n + m) cap')) w') : wpList P ops Q (o :: rest) a w :=
  wpList_append_cells hgd s x T ho e z by_ hT hi hzk hk hs hx hown hr h1 h63 hsz hbase fun A' cap' w' h2 h3 _ => h A' cap' w' h2 (below_grown_own hown hb h3 hbase) h3

/-! ### Texts, and numbers with a name -/

def strs (ss : List ByteArray) : List Value := ss.map .string
theorem strs_length (ss : List ByteArray) : (strs ss).length = ss.length := by simp [strs]
theorem strs_append (a b : List ByteArray) : strs (a ++ b) = strs a ++ strs b := by simp [strs]
theorem strs_one (ss : List ByteArray) : ∀ v ∈ strs ss, v.oneCell' = true := by
  intro v hv
  simp only [strs, List.mem_map] at hv
  obtain ⟨c, _, rfl⟩ := hv
  rfl
theorem strs_take (ss : List ByteArray) (i : Nat) : (strs ss).take (i * 1) = strs (ss.take i) := by simp [strs]
theorem strs_drop (ss : List ByteArray) (i : Nat) : (strs ss).drop (i * 1) = strs (ss.drop i) := by simp [strs]

/-- A slice of texts. -/
def RdS (w : World) (A : Option Addr) (n cap : Nat) (ss : List ByteArray) : Prop := RdC 1 w A n cap (strs ss)
theorem RdS.len (h : RdS w A n cap ss) : ss.length = n := by have := h.1; rw [strs_length] at this; omega
theorem RdS.at_ (h : RdS w A n cap ss) (hn : 0 < n) : ∃ b o, A = some ⟨b, o, none⟩ ∧ b < w.heap.size ∧ ∀ i, i < n → w.cell? ⟨b, o + i, none⟩ = some (.string (ss.getD i ByteArray.empty)) := by
  obtain ⟨b, o, rfl, hb, hc⟩ := RdC.at_ h (by omega) hn
  refine ⟨b, o, rfl, hb, fun i hi => hc i _ ?_⟩
  have hi' : i < ss.length := by rw [h.len]; exact hi
  simp [strs, List.getD, List.getElem?_eq_getElem hi']

def fld (f : ByteArray × Int) : List Value := [.string f.1, .int .i64 f.2]
def flds (fs : List (ByteArray × Int)) : List Value := fs.flatMap fld
theorem flds_length (fs : List (ByteArray × Int)) : (flds fs).length = fs.length * 2 := by
  induction fs with
  | nil => rfl
  | cons f fs ih => rw [flds, List.flatMap_cons, List.length_append, ← flds, ih]; simp [fld]; omega
theorem flds_append (a b : List (ByteArray × Int)) : flds (a ++ b) = flds a ++ flds b := by simp [flds]
theorem flds_one (fs : List (ByteArray × Int)) : ∀ v ∈ flds fs, v.oneCell' = true := by
  intro v hv
  simp only [flds, List.mem_flatMap, fld] at hv
  obtain ⟨c, _, hv⟩ := hv
  simp at hv
  rcases hv with rfl | rfl <;> rfl
theorem flds_take (fs : List (ByteArray × Int)) : ∀ i : Nat, (flds fs).take (i * 2) = flds (fs.take i) := by
  induction fs with
  | nil => intro i; simp [flds]
  | cons f fs ih =>
    intro i
    cases i with
    | zero => simp [flds]
    | succ i =>
      have e : (i + 1) * 2 = i * 2 + 2 := by omega
      rw [e, List.take_succ_cons, show flds (f :: fs) = Value.string f.1 :: Value.int .i64 f.2 :: flds fs from rfl, List.take_succ_cons, List.take_succ_cons, ih i]
      rfl
theorem flds_drop (fs : List (ByteArray × Int)) : ∀ i : Nat, (flds fs).drop (i * 2) = flds (fs.drop i) := by
  induction fs with
  | nil => intro i; simp [flds]
  | cons f fs ih =>
    intro i
    cases i with
    | zero => simp
    | succ i =>
      have e : (i + 1) * 2 = i * 2 + 2 := by omega
      rw [e, List.drop_succ_cons, show flds (f :: fs) = Value.string f.1 :: Value.int .i64 f.2 :: flds fs from rfl, List.drop_succ_cons, List.drop_succ_cons, ih i]
theorem flds_get (fs : List (ByteArray × Int)) : ∀ i : Nat, i < fs.length → (flds fs)[i * 2]? = some (.string (fs.getD i (ByteArray.empty, 0)).1) ∧ (flds fs)[i * 2 + 1]? = some (.int .i64 (fs.getD i (ByteArray.empty, 0)).2) := by
  induction fs with
  | nil => intro i hi; simp at hi
  | cons f fs ih =>
    intro i hi
    cases i with
    | zero => exact ⟨rfl, rfl⟩
    | succ i =>
      have e : (i + 1) * 2 = i * 2 + 2 := by omega
      have hi' : i < fs.length := by simpa using hi
      rw [e, show flds (f :: fs) = Value.string f.1 :: Value.int .i64 f.2 :: flds fs from rfl]
      have := ih i hi'
      simpa using this

/-- A slice of numbers with a name. -/
def RdF (w : World) (A : Option Addr) (n cap : Nat) (fs : List (ByteArray × Int)) : Prop := RdC 2 w A n cap (flds fs)
theorem RdF.len (h : RdF w A n cap fs) : fs.length = n := by have := h.1; rw [flds_length] at this; omega
theorem RdF.at_ (h : RdF w A n cap fs) (hn : 0 < n) : ∃ b o, A = some ⟨b, o, none⟩ ∧ b < w.heap.size ∧ ∀ i, i < n → w.cell? ⟨b, o + i * 2, none⟩ = some (.string (fs.getD i (ByteArray.empty, 0)).1) ∧ w.cell? ⟨b, o + i * 2 + 1, none⟩ = some (.int .i64 (fs.getD i (ByteArray.empty, 0)).2) := by
  obtain ⟨b, o, rfl, hb, hc⟩ := RdC.at_ h (by omega) hn
  refine ⟨b, o, rfl, hb, fun i hi => ?_⟩
  have hg := flds_get fs i (by rw [h.len]; exact hi)
  exact ⟨hc _ _ hg.1, by rw [Nat.add_assoc]; exact hc _ _ hg.2⟩

theorem RdF.get {b o : Nat} (h : RdF w (some ⟨b, o, none⟩) n cap fs) {i : Nat} (hi : i < n) : w.cell? ⟨b, o + i * 2, none⟩ = some (.string (fs.getD i (ByteArray.empty, 0)).1) ∧ w.cell? ⟨b, o + i * 2 + 1, none⟩ = some (.int .i64 (fs.getD i (ByteArray.empty, 0)).2) := by
  obtain ⟨b', o', e, _, hc⟩ := h.at_ (by omega)
  injection e with e
  injection e with e1 e2
  subst e1 e2
  exact hc i hi
theorem RdS.get {b o : Nat} (h : RdS w (some ⟨b, o, none⟩) n cap ss) {i : Nat} (hi : i < n) : w.cell? ⟨b, o + i, none⟩ = some (.string (ss.getD i ByteArray.empty)) := by
  obtain ⟨b', o', e, _, hc⟩ := h.at_ (by omega)
  injection e with e
  injection e with e1 e2
  subst e1 e2
  exact hc i hi
theorem bcell {b o : Nat} {v : Value} (hb : Below w.heap.size w w') (hc : w.cell? ⟨b, o, none⟩ = some v) : w'.cell? ⟨b, o, none⟩ = some v := (hb.cell (p := ⟨b, o, none⟩) (World.block_lt_of_cell? w _ hc)).trans hc

end Go.Proofs.Ytppdljkfhoekpaa.MemRow

/-
  Events as data; opening an argument that is an event.
-/
namespace Go.Proofs.Ytppdljkfhoekpaa.Ev
open Go.RowKit Go.ChangeShapes Go.WideShapes Go.Joins Go.Deep Go.Proofs.Ytppdljkfhoekpaa.MemRow Go.Proofs.Ytppdljkfhoekpaa.Open

/-- An event as data. -/
structure Ev where
  s : ByteArray
  t : ByteArray
  tags : List ByteArray
  fs : List (ByteArray × Int)

/-- The value v is the event e. -/
def IsEv (w : World) (v : Value) (e : Ev) : Prop :=
  ∃ A n ca B m cb, v = .agg #[.string e.s, .string e.t, .slice A n ca, .slice B m cb] ∧ RdS w A n ca e.tags ∧ RdF w B m cb e.fs

/-- All of it is of a size that a machine has. -/
structure EvOk (e : Ev) : Prop where
  s : e.s.size ≤ maxLen
  t : e.t.size ≤ maxLen
  tags : ∀ x ∈ e.tags, x.size ≤ maxLen
  names : ∀ f ∈ e.fs, f.1.size ≤ maxLen
  nums : ∀ f ∈ e.fs, -9223372036854775808 ≤ f.2 ∧ f.2 ≤ 9223372036854775807

theorem IsEv.below {w w' : World} {v : Value} {e : Ev} (h : IsEv w v e) (hb : Below w.heap.size w w') : IsEv w' v e := by
  obtain ⟨A, n, ca, B, m, cb, rfl, h1, h2⟩ := h
  exact ⟨A, n, ca, B, m, cb, rfl, RdC.below h1 hb, RdC.below h2 hb⟩

section
variable {H : Type} {enc : TypeId × Value → H} {P : Program} {W : World} {base : Nat} {t e : TypeId} {v : Value} {d : DataW H} {p : List MemPlace}

/-- A slice of texts that came in. -/
theorem tr_strs {fuel : Nat} {y : DataW H × List MemPlace} (ht : P.underlying t = some (.slice e)) (he : P.underlying e = some .string) (hce : P.cellsOf e = 1) (h : DataW.trod enc P W 0 (fun _ => true) true fuel t [v] = some y) :
    ∃ A n ca ss, v = .slice A n ca ∧ RdS W A n ca ss ∧ ∀ x ∈ ss, x.size ≤ maxLen := by
  rcases open_strings ht he hce h with ⟨hcs, _⟩ | ⟨x, l, c, zs, hcs, _, hl, hm, hz, _, hcell, hwz⟩
  · simp only [List.cons.injEq, and_true] at hcs
    subst hcs
    exact ⟨none, 0, 0, [], rfl, RdC.nil W, by simp⟩
  · simp only [List.cons.injEq, and_true] at hcs
    subst hcs
    have hz' : zs.length = c := by simpa using hz
    refine ⟨_, l, c, zs.take l, rfl, ⟨by rw [strs_length, List.length_take]; omega, hl, hm, fun hn => ?_⟩, fun s hs => hwz s (List.mem_of_mem_take hs)⟩
    have e0 := spot_none (hcell 0 (by omega))
    refine ⟨x.block, x.off, by rw [← e0], fun i u hi => ?_⟩
    have hi' : i < (zs.take l).length := by
      have := (List.getElem?_eq_some_iff.1 hi).1
      rwa [strs_length] at this
    rw [List.length_take] at hi'
    have hc := hcell i (by omega)
    rw [e0, add_at] at hc
    rw [hc]
    have h1 : i < l := by omega
    have h2 : i < zs.length := by omega
    simp [MemRow.strs, h1, List.getElem?_eq_getElem h2] at hi
    simp [List.getD, List.getElem?_eq_getElem h2, hi]

/-- A slice of numbers with a name that came in. -/
theorem tr_flds {f0 f1 : Field} {fuel : Nat} {y : DataW H × List MemPlace} (ht : P.underlying t = some (.slice e)) (he : P.underlying e = some (.struct #[f0, f1]))
    (ce : P.cellsOf e = 2) (o0 : f0.offset = 0) (o1 : f1.offset = 1) (c0 : P.cellsOf f0.type = 1) (c1 : P.cellsOf f1.type = 1) (t0 : P.underlying f0.type = some .string) (t1 : P.underlying f1.type = some (.int .i64))
    (h : DataW.trod enc P W 0 (fun _ => true) true fuel t [v] = some y) :
    ∃ A n ca fs, v = .slice A n ca ∧ RdF W A n ca fs ∧ (∀ f ∈ fs, f.1.size ≤ maxLen) ∧ ∀ f ∈ fs, -9223372036854775808 ≤ f.2 ∧ f.2 ≤ 9223372036854775807 := by
  rcases open_slice_pairs ht he ce o0 o1 c0 c1 h with ⟨hcs, _⟩ | ⟨a, l, c, m, nn, V0, V1, D0, D1, P0, P1, hcs, _, hl, hm, hmm, _, hx⟩
  · simp only [List.cons.injEq, and_true] at hcs
    subst hcs
    exact ⟨none, 0, 0, [], rfl, RdC.nil W, by simp, by simp⟩
  · simp only [List.cons.injEq, and_true] at hcs
    subst hcs
    have hm' : m = c := by simpa using hmm
    subst hm'
    have each : ∀ i, i < m → ∃ f : ByteArray × Int, V0 i = .string f.1 ∧ V1 i = .int .i64 f.2 ∧ f.1.size ≤ maxLen ∧ -9223372036854775808 ≤ f.2 ∧ f.2 ≤ 9223372036854775807 := by
      intro i hi
      obtain ⟨_, _, h0, h1⟩ := hx i hi
      obtain ⟨s, e0, _, ws⟩ := DataW.trod_string t0 h0
      obtain ⟨z, e1, _, wz⟩ := DataW.trod_int t1 h1
      have b := bounds_i64 wz
      injection e0 with e0
      injection e1 with e1
      exact ⟨(s, z), e0, e1, ws, b.1, b.2⟩
    have hex : ∃ F : Nat → ByteArray × Int, ∀ i, i < m → V0 i = .string (F i).1 ∧ V1 i = .int .i64 (F i).2 ∧ (F i).1.size ≤ maxLen ∧ -9223372036854775808 ≤ (F i).2 ∧ (F i).2 ≤ 9223372036854775807 :=
      ⟨fun i => if hi : i < m then (each i hi).choose else (ByteArray.empty, 0), fun i hi => by simp only [hi, dif_pos]; exact (each i hi).choose_spec⟩
    obtain ⟨F, hF⟩ := hex
    have hlen : ((List.range l).map F).length = l := by simp
    refine ⟨_, l, m, (List.range l).map F, rfl, ⟨by rw [flds_length, hlen], hl, hm, fun hn => ?_⟩, ?_, ?_⟩
    · have hc0 := (hx 0 (by omega)).1
      rw [Nat.zero_mul] at hc0
      have e0 := spot_none hc0
      refine ⟨a.block, a.off, by rw [← e0], fun i u hi => ?_⟩
      have hi' : i < l * 2 := by
        have := (List.getElem?_eq_some_iff.1 hi).1
        rwa [flds_length, hlen] at this
      have hj : i / 2 < l := by omega
      have hg := flds_get ((List.range l).map F) (i / 2) (by rw [hlen]; exact hj)
      have hFj : ((List.range l).map F).getD (i / 2) (ByteArray.empty, 0) = F (i / 2) := by simp [List.getD, hj]
      rw [hFj] at hg
      obtain ⟨k0, k1, _, _⟩ := hx (i / 2) (by omega)
      obtain ⟨q0, q1, _⟩ := hF (i / 2) (by omega)
      rcases Nat.mod_two_eq_zero_or_one i with hp | hp
      · have ei : i / 2 * 2 = i := by omega
        rw [ei] at hg k0
        rw [e0, add_at] at k0
        rw [k0, q0, ← hi, hg.1]
      · have ei : i / 2 * 2 + 1 = i := by omega
        rw [ei] at hg k1
        rw [e0, add_at] at k1
        rw [k1, q1, ← hi, hg.2]
    · intro f hf
      obtain ⟨j, hj, rfl⟩ := List.mem_map.1 hf
      exact (hF j (by have := List.mem_range.1 hj; omega)).2.2.1
    · intro f hf
      obtain ⟨j, hj, rfl⟩ := List.mem_map.1 hf
      exact (hF j (by have := List.mem_range.1 hj; omega)).2.2.2
end

section
variable {H : Type} {enc : TypeId × Value → H}
set_option maxRecDepth 100000 in
/-- An event that came in. -/
theorem op_event {W : World} {base : Nat} {v : Value} {d : DataW H} {p : List MemPlace} (ho : Value.okWide Try.prog W .any base 42 v) (h : DataW.Trod enc Try.prog W 0 (fun _ => true) true 42 v d p) :
    ∃ e : Ev, IsEv W v e ∧ EvOk e := by
  obtain ⟨v0, v1, v2, v3, y0, y1, y2, y3, n, rfl, _, _, h0, h1, h2, h3⟩ := open_agg4 Try.underlying42 (by kernel_rfl) (by kernel_rfl) ho h
  obtain ⟨s, e0, _, ws⟩ := DataW.trod_string Try.underlying9 h0
  obtain ⟨t, e1, _, wt⟩ := DataW.trod_string Try.underlying9 h1
  injection e0 with e0
  injection e1 with e1
  obtain ⟨A, na, ca, ss, rfl, hs, ws2⟩ := tr_strs Try.underlying39 Try.underlying9 (by kernel_rfl) h2
  obtain ⟨B, m, cb, fs, rfl, hf, wf, wz⟩ := tr_flds Try.underlying40 Try.underlying109 (by kernel_rfl) rfl rfl (by kernel_rfl) (by kernel_rfl) Try.underlying9 Try.underlying3 h3
  subst e0 e1
  exact ⟨⟨s, t, ss, fs⟩, ⟨A, na, ca, B, m, cb, rfl, hs, hf⟩, ws, wt, ws2, wf, wz⟩
end

end Go.Proofs.Ytppdljkfhoekpaa.Ev

/-
  Names as lists of bytes: letters, folding, and how a text that is read rune by rune reads byte by byte. No Go text here.
-/
namespace Go.Proofs.Ytppdljkfhoekpaa.NameMath

/-- A rune that is a letter of a name. -/
def isL (r : Nat) : Bool := decide (r = 45 ∨ r = 95 ∨ r = 233 ∨ r = 248 ∨ r = 223 ∨ r = 955 ∨ (97 ≤ r ∧ r ≤ 122) ∨ (48 ≤ r ∧ r ≤ 57))
/-- A rune that a name may begin with. -/
def begR (r : Nat) : Bool := decide (r ≠ 45 ∧ ¬ (48 ≤ r ∧ r ≤ 57))
/-- What a rune is folded to (0: to nothing). -/
def foldR (r : Nat) : Nat :=
  if r = 201 then 233 else if r = 216 then 248 else if r = 923 then 955 else if r = 32 ∨ r = 46 ∨ r = 47 then 45 else if 65 ≤ r ∧ r ≤ 90 then r + 32 else if isL r = true then r else 0
/-- The bytes of a rune below 2048. -/
def enc (r : Nat) : List UInt8 := if r < 128 then [UInt8.ofNat r] else [UInt8.ofNat (192 + r / 64), UInt8.ofNat (128 + r % 64)]

/-- A byte that is a letter. -/
def low (a : UInt8) : Bool := decide ((97 ≤ a.toNat ∧ a.toNat ≤ 122) ∨ (48 ≤ a.toNat ∧ a.toNat ≤ 57) ∨ a.toNat = 45 ∨ a.toNat = 95)
/-- Two bytes that are a letter. -/
def two (a b : UInt8) : Bool := decide ((a.toNat = 195 ∧ (b.toNat = 169 ∨ b.toNat = 184 ∨ b.toNat = 159)) ∨ (a.toNat = 206 ∧ b.toNat = 187))

/-- All of it are letters. -/
def allL : List UInt8 → Bool
  | [] => true
  | [a] => low a
  | a :: b :: l => if low a = true then allL (b :: l) else if two a b = true then allL l else false

def first : List UInt8 → Bool
  | [] => false
  | a :: _ => decide (a.toNat ≠ 45 ∧ ¬ (48 ≤ a.toNat ∧ a.toNat ≤ 57))

/-- It is a name. -/
def may (l : List UInt8) : Bool := decide (1 ≤ l.length ∧ l.length ≤ 24) && (first l && allL l)

/-- What one byte is folded to. -/
def one (a : UInt8) : List UInt8 :=
  if low a = true then [a] else if 65 ≤ a.toNat ∧ a.toNat ≤ 90 then [UInt8.ofNat (a.toNat + 32)] else if a.toNat = 32 ∨ a.toNat = 46 ∨ a.toNat = 47 then [45] else []
/-- What two bytes are folded to. -/
def pair (a b : UInt8) : Option (UInt8 × UInt8) :=
  if a.toNat = 195 then (if b.toNat = 169 ∨ b.toNat = 137 then some (195, 169) else if b.toNat = 184 ∨ b.toNat = 152 then some (195, 184) else if b.toNat = 159 then some (195, 159) else none)
  else if a.toNat = 206 then (if b.toNat = 187 ∨ b.toNat = 155 then some (206, 187) else none) else none

def fold : List UInt8 → List UInt8
  | [] => []
  | [a] => one a
  | a :: b :: l => match pair a b with
    | some p => p.1 :: p.2 :: fold l
    | none => one a ++ fold (b :: l)

theorem pair_none {a b : UInt8} (h1 : a.toNat ≠ 195) (h2 : a.toNat ≠ 206) : pair a b = none := by
  simp [pair, h1, h2]

theorem fold_one {a : UInt8} (l : List UInt8) (h1 : a.toNat ≠ 195) (h2 : a.toNat ≠ 206) : fold (a :: l) = one a ++ fold l := by
  cases l with
  | nil => simp [fold]
  | cons b l => rw [fold, pair_none h1 h2]

theorem one_high {a : UInt8} (h : 128 ≤ a.toNat) : one a = [] := by
  have h0 : low a = false := by simp only [low, decide_eq_false_iff_not]; omega
  unfold one
  rw [h0, if_neg (by decide), if_neg (by omega), if_neg (by omega)]

theorem fold_skip {a : UInt8} (l : List UInt8) (h : 128 ≤ a.toNat) (h1 : a.toNat ≠ 195) (h2 : a.toNat ≠ 206) : fold (a :: l) = fold l := by
  rw [fold_one l h1 h2, one_high h, List.nil_append]

theorem low_high {a : UInt8} (h : 128 ≤ a.toNat) : low a = false := by simp only [low, decide_eq_false_iff_not]; omega

theorem allL_low {a : UInt8} (l : List UInt8) (h : low a = true) : allL (a :: l) = allL l := by
  cases l with
  | nil => simp [allL, h]
  | cons b l => rw [allL, if_pos h]

theorem two_low {a b : UInt8} (h : two a b = true) : low a = false := by
  simp only [two, decide_eq_true_eq] at h
  simp only [low, decide_eq_false_iff_not]
  omega

theorem allL_two {a b : UInt8} (l : List UInt8) (h : two a b = true) : allL (a :: b :: l) = allL l := by
  rw [allL, two_low h, if_neg (by decide), if_pos h]

theorem u8ext {a b : UInt8} (h : a.toNat = b.toNat) : a = b := UInt8.toNat_inj.1 h

theorem pair_two {a b : UInt8} (h : two a b = true) : pair a b = some (a, b) := by
  simp only [two, decide_eq_true_eq] at h
  rcases h with ⟨ha, hb | hb | hb⟩ | ⟨ha, hb⟩
  · rw [u8ext (b := 195) ha, u8ext (b := 169) hb]; decide
  · rw [u8ext (b := 195) ha, u8ext (b := 184) hb]; decide
  · rw [u8ext (b := 195) ha, u8ext (b := 159) hb]; decide
  · rw [u8ext (b := 206) ha, u8ext (b := 187) hb]; decide

theorem low_ne {a : UInt8} (h : low a = true) : a.toNat < 128 := by
  simp only [low, decide_eq_true_eq] at h
  omega

theorem one_low {a : UInt8} (h : low a = true) : one a = [a] := by unfold one; rw [if_pos h]

theorem fold_low {a : UInt8} (l : List UInt8) (h : low a = true) : fold (a :: l) = a :: fold l := by
  have := low_ne h
  rw [fold_one l (by omega) (by omega), one_low h]; rfl

theorem fold_two {a b : UInt8} (l : List UInt8) (h : two a b = true) : fold (a :: b :: l) = a :: b :: fold l := by
  rw [fold, pair_two h]

/-- What stands behind letters. -/
theorem allL_append : ∀ (a b : List UInt8), allL a = true → allL (a ++ b) = allL b
  | [], b, _ => rfl
  | [x], b, h => by
    rw [List.singleton_append]
    exact allL_low b (by simpa [allL] using h)
  | x :: y :: l, b, h => by
    by_cases hx : low x = true
    · rw [allL_low _ hx] at h
      have := allL_append (y :: l) b h
      rw [List.cons_append, allL_low _ hx, this]
    · have hx' : low x = false := by simpa using hx
      rw [allL, hx', if_neg (by decide)] at h
      by_cases ht : two x y = true
      · rw [if_pos ht] at h
        have := allL_append l b h
        rw [List.cons_append, List.cons_append, allL_two _ ht, this]
      · rw [if_neg ht] at h
        exact absurd h (by decide)

theorem fold_append : ∀ (a b : List UInt8), allL a = true → fold (a ++ b) = a ++ fold b
  | [], b, _ => rfl
  | [x], b, h => by
    rw [List.singleton_append, fold_low b (by simpa [allL] using h)]; rfl
  | x :: y :: l, b, h => by
    by_cases hx : low x = true
    · rw [allL_low _ hx] at h
      have := fold_append (y :: l) b h
      rw [List.cons_append, fold_low _ hx, this]; rfl
    · have hx' : low x = false := by simpa using hx
      rw [allL, hx', if_neg (by decide)] at h
      by_cases ht : two x y = true
      · rw [if_pos ht] at h
        have := fold_append l b h
        rw [List.cons_append, List.cons_append, fold_two _ ht, this]; rfl
      · rw [if_neg ht] at h
        exact absurd h (by decide)

theorem fold_self {a : List UInt8} (h : allL a = true) : fold a = a := by
  have := fold_append a [] h
  simpa [fold] using this

theorem one_cases (a : UInt8) : one a = [] ∨ ∃ c, one a = [c] ∧ low c = true := by
  unfold one
  by_cases h1 : low a = true
  · rw [if_pos h1]; exact .inr ⟨a, rfl, h1⟩
  · rw [if_neg h1]
    by_cases h2 : 65 ≤ a.toNat ∧ a.toNat ≤ 90
    · rw [if_pos h2]
      refine .inr ⟨_, rfl, ?_⟩
      have : (UInt8.ofNat (a.toNat + 32)).toNat = a.toNat + 32 := by simp; omega
      simp only [low, this, decide_eq_true_eq]; omega
    · rw [if_neg h2]
      by_cases h3 : a.toNat = 32 ∨ a.toNat = 46 ∨ a.toNat = 47
      · rw [if_pos h3]; exact .inr ⟨45, rfl, by decide⟩
      · rw [if_neg h3]; exact .inl rfl

theorem pair_cases {a b : UInt8} {p : UInt8 × UInt8} (h : pair a b = some p) : two p.1 p.2 = true ∧ 128 ≤ a.toNat := by
  unfold pair at h
  by_cases h1 : a.toNat = 195
  · rw [if_pos h1] at h
    refine ⟨?_, by omega⟩
    split at h
    · cases h; decide
    · split at h
      · cases h; decide
      · split at h
        · cases h; decide
        · cases h
  · rw [if_neg h1] at h
    by_cases h2 : a.toNat = 206
    · rw [if_pos h2] at h
      refine ⟨?_, by omega⟩
      split at h
      · cases h; decide
      · cases h
    · rw [if_neg h2] at h; cases h

theorem allL_one (a : UInt8) (l : List UInt8) (h : allL l = true) : allL (one a ++ l) = true := by
  rcases one_cases a with h1 | ⟨c, h1, h2⟩
  · rw [h1]; exact h
  · rw [h1, List.singleton_append, allL_low _ h2, h]

theorem allL_fold : ∀ l : List UInt8, allL (fold l) = true
  | [] => rfl
  | [a] => by
    have := allL_one a [] rfl
    simpa [fold] using this
  | a :: b :: l => by
    rw [fold]
    cases hp : pair a b with
    | none => exact allL_one a _ (allL_fold (b :: l))
    | some p => show allL (p.1 :: p.2 :: fold l) = true; rw [allL_two _ (pair_cases hp).1, allL_fold l]

theorem fold_fold (l : List UInt8) : fold (fold l) = fold l := fold_self (allL_fold l)

theorem allL_iff (l : List UInt8) : allL l = decide (fold l = l) := by
  by_cases h : fold l = l
  · rw [decide_eq_true h, ← h, allL_fold]
  · rw [decide_eq_false h]
    cases hb : allL l
    · rfl
    · exact absurd (fold_self hb) h

theorem one_len (a : UInt8) : (one a).length ≤ 1 := by
  rcases one_cases a with h | ⟨c, h, _⟩ <;> rw [h] <;> simp

theorem fold_len : ∀ l : List UInt8, (fold l).length ≤ l.length
  | [] => Nat.le_refl _
  | [a] => by simpa [fold] using one_len a
  | a :: b :: l => by
    rw [fold]
    cases hp : pair a b with
    | none =>
      have h1 := one_len a
      have h2 := fold_len (b :: l)
      simp only [List.length_append, List.length_cons] at *
      omega
    | some p =>
      have h2 := fold_len l
      simp only [List.length_cons]
      omega

theorem first_append {a : List UInt8} (b : List UInt8) (h : a ≠ []) : first (a ++ b) = first a := by
  cases a with
  | nil => exact absurd rfl h
  | cons x l => rfl

theorem may_parts {l : List UInt8} (h : may l = true) : 1 ≤ l.length ∧ l.length ≤ 24 ∧ first l = true ∧ allL l = true := by
  simp only [may, Bool.and_eq_true, decide_eq_true_eq] at h
  exact ⟨h.1.1, h.1.2, h.2.1, h.2.2⟩

theorem may_of {l : List UInt8} (h1 : 1 ≤ l.length) (h2 : l.length ≤ 24) (h3 : first l = true) (h4 : allL l = true) : may l = true := by
  simp [may, h1, h2, h3, h4]

/-! ### Read rune by rune -/

def dec (t : List UInt8) : Nat × Nat := Lib.decodeN t.length (t.getD 0 0).toNat (t.getD 1 0).toNat (t.getD 2 0).toNat (t.getD 3 0).toNat

theorem getD_drop (l : List UInt8) (p i : Nat) : (l.drop p).getD i 0 = l.getD (p + i) 0 := by
  simp [List.getD]

theorem dec_at (s : ByteArray) (pos : Nat) : Utf8.decode s pos = dec (s.data.toList.drop pos) := by
  rw [Lib.decode_N s pos]
  unfold dec
  rw [getD_drop, getD_drop, getD_drop, getD_drop, List.length_drop]
  rfl

theorem dec_low {a : UInt8} (l : List UInt8) (h : a.toNat < 128) : dec (a :: l) = (a.toNat, 1) := by
  unfold dec Lib.decodeN
  simp only [List.getD_cons_zero]
  rw [if_pos h]

/-- A byte from 128 on begins a rune of two bytes, or what is no letter and is folded to nothing. -/
theorem dec_high {a : UInt8} (l : List UInt8) (h : 128 ≤ a.toNat) :
    (∃ b l', l = b :: l' ∧ dec (a :: l) = (a.toNat % 32 * 64 + b.toNat % 64, 2) ∧ a.toNat / 32 = 6 ∧ b.toNat / 64 = 2 ∧ 128 ≤ a.toNat % 32 * 64 + b.toNat % 64) ∨
    (2048 ≤ (dec (a :: l)).1 ∧ 1 ≤ (dec (a :: l)).2 ∧ fold (a :: l) = fold ((a :: l).drop (dec (a :: l)).2) ∧ allL (a :: l) = false) := by
  have la := UInt8.toNat_lt a
  have hlow := low_high h
  by_cases h2 : ∃ b l', l = b :: l' ∧ a.toNat / 32 = 6 ∧ b.toNat / 64 = 2 ∧ 128 ≤ a.toNat % 32 * 64 + b.toNat % 64
  · obtain ⟨b, l', rfl, e1, e2, e3⟩ := h2
    refine .inl ⟨b, l', rfl, ?_, e1, e2, e3⟩
    unfold dec Lib.decodeN
    simp only [List.getD_cons_zero, List.getD_cons_succ, List.length_cons]
    rw [if_neg (by omega), if_pos ⟨e1, by omega, e2⟩, if_pos e3]
  · right
    have hno : ∀ b l', l = b :: l' → ¬ (a.toNat / 32 = 6 ∧ b.toNat / 64 = 2 ∧ 128 ≤ a.toNat % 32 * 64 + b.toNat % 64) := fun b l' e hh => h2 ⟨b, l', e, hh⟩
    have hall : allL (a :: l) = false := by
      cases l with
      | nil => simpa [allL] using hlow
      | cons b l' =>
        have hn := hno b l' rfl
        have ht : two a b = false := by
          simp only [two, decide_eq_false_iff_not]
          omega
        rw [allL, hlow, ht]; rfl
    have hf1 : fold (a :: l) = fold l := by
      cases l with
      | nil => simp [fold, one_high h]
      | cons b l' =>
        have hn := hno b l' rfl
        have hp : pair a b = none := by
          unfold pair
          by_cases c1 : a.toNat = 195
          · rw [if_pos c1, if_neg (by omega), if_neg (by omega), if_neg (by omega)]
          · rw [if_neg c1]
            by_cases c2 : a.toNat = 206
            · rw [if_pos c2, if_neg (by omega)]
            · rw [if_neg c2]
        rw [fold, hp, one_high h]; rfl
    have hw1 : ∀ q : Nat × Nat, dec (a :: l) = q → q = (65533, 1) → (2048 ≤ q.1 ∧ 1 ≤ q.2 ∧ fold (a :: l) = fold ((a :: l).drop q.2) ∧ allL (a :: l) = false) := by
      rintro q _ rfl
      exact ⟨by decide, by decide, hf1, hall⟩
    generalize hd : dec (a :: l) = q
    have hd' := hd
    unfold dec Lib.decodeN at hd'
    simp only [List.getD_cons_zero] at hd'
    rw [if_neg (by omega)] at hd'
    split at hd'
    · rename_i hc
      rw [if_neg ?_] at hd'
      · exact hw1 q hd hd'.symm
      · intro hge
        cases l with
        | nil => simp at hc
        | cons b l' =>
          simp only [List.getD_cons_succ, List.getD_cons_zero] at hc hge
          exact hno b l' rfl ⟨hc.1, hc.2.2, hge⟩
    · split at hd'
      · rename_i _ hc
        split at hd'
        · rename_i hv
          subst hd'
          refine ⟨hv.1, by show 1 ≤ 3; decide, ?_, hall⟩
          clear hv hw1 hd h2
          rcases l with _ | ⟨b, _ | ⟨c, l'⟩⟩
          · simp at hc
          · simp at hc
          · simp only [List.getD_cons_succ, List.getD_cons_zero] at hc
            show fold (a :: b :: c :: l') = fold l'
            rw [hf1, fold_skip _ (by omega) (by omega) (by omega), fold_skip _ (by omega) (by omega) (by omega)]
        · exact hw1 q hd hd'.symm
      · split at hd'
        · rename_i _ _ hc
          split at hd'
          · rename_i hv
            subst hd'
            refine ⟨by have := hv.1; simp only; omega, by show 1 ≤ 4; decide, ?_, hall⟩
            clear hv hw1 hd h2
            rcases l with _ | ⟨b, _ | ⟨c, _ | ⟨d, l'⟩⟩⟩
            · simp at hc
            · simp at hc
            · simp at hc
            · simp only [List.getD_cons_succ, List.getD_cons_zero] at hc
              show fold (a :: b :: c :: d :: l') = fold l'
              rw [hf1, fold_skip _ (by omega) (by omega) (by omega), fold_skip _ (by omega) (by omega) (by omega), fold_skip _ (by omega) (by omega) (by omega)]
          · exact hw1 q hd hd'.symm
        · exact hw1 q hd hd'.symm

/-- A rune that is a letter. -/
theorem rune_letter {t : List UInt8} (h0 : t ≠ []) (h : isL (dec t).1 = true) : allL t = allL (t.drop (dec t).2) ∧ begR (dec t).1 = first t := by
  cases t with
  | nil => exact absurd rfl h0
  | cons a l =>
    by_cases ha : a.toNat < 128
    · rw [dec_low l ha] at h ⊢
      simp only [isL, decide_eq_true_eq] at h
      have hl : low a = true := by simp only [low, decide_eq_true_eq]; omega
      refine ⟨allL_low l hl, ?_⟩
      simp [begR, first]
    · rcases dec_high (a := a) l (by omega) with ⟨b, l', rfl, e, e1, e2, e3⟩ | ⟨h1, _⟩
      · rw [e] at h ⊢
        simp only [isL, decide_eq_true_eq] at h
        have ht : two a b = true := by simp only [two, decide_eq_true_eq]; omega
        refine ⟨allL_two l' ht, ?_⟩
        simp only [begR, first]
        rw [decide_eq_true (by omega), decide_eq_true (by omega)]
      · simp only [isL, decide_eq_true_eq] at h
        omega

theorem rune_other {t : List UInt8} (h0 : t ≠ []) (h : isL (dec t).1 = false) : allL t = false := by
  cases t with
  | nil => exact absurd rfl h0
  | cons a l =>
    by_cases ha : a.toNat < 128
    · rw [dec_low l ha] at h
      simp only [isL, decide_eq_false_iff_not] at h
      have hl : low a = false := by simp only [low, decide_eq_false_iff_not]; omega
      cases l with
      | nil => simpa [allL] using hl
      | cons b l =>
        have ht : two a b = false := by simp only [two, decide_eq_false_iff_not]; omega
        rw [allL, hl, ht]; rfl
    · rcases dec_high (a := a) l (by omega) with ⟨b, l', rfl, e, e1, e2, e3⟩ | ⟨_, _, _, h1⟩
      · rw [e] at h
        simp only [isL, decide_eq_false_iff_not] at h
        have ht : two a b = false := by simp only [two, decide_eq_false_iff_not]; omega
        have hl := low_high (a := a) (by omega)
        rw [allL, hl, ht]; rfl
      · exact h1

theorem enc_small {r : Nat} (h : r < 128) : enc r = [UInt8.ofNat r] := by unfold enc; rw [if_pos h]

theorem foldR_lt (r : Nat) : foldR r < 2048 := by
  unfold foldR isL
  repeat' split
  all_goals (try simp only [decide_eq_true_eq] at *)
  all_goals omega

/-- What a rune is folded to, byte by byte. -/
theorem rune_fold {t : List UInt8} (h0 : t ≠ []) : fold t = (if foldR (dec t).1 = 0 then [] else enc (foldR (dec t).1)) ++ fold (t.drop (dec t).2) := by
  cases t with
  | nil => exact absurd rfl h0
  | cons a l =>
    by_cases ha : a.toNat < 128
    · rw [dec_low l ha, fold_one l (by omega) (by omega)]
      simp only [List.drop_succ_cons, List.drop_zero]
      congr 1
      have hcast : UInt8.ofNat a.toNat = a := by simp
      have hL : low a = isL a.toNat := by simp only [low, isL]; exact decide_eq_decide.2 ⟨fun h => by omega, fun h => by omega⟩
      by_cases c1 : a.toNat = 32 ∨ a.toNat = 46 ∨ a.toNat = 47
      · have hl : low a = false := by simp only [low, decide_eq_false_iff_not]; omega
        have hf : foldR a.toNat = 45 := by unfold foldR; rw [if_neg (by omega), if_neg (by omega), if_neg (by omega), if_pos c1]
        have ho : one a = [45] := by unfold one; rw [hl, if_neg (by decide), if_neg (by omega), if_pos c1]
        rw [hf, ho]; rfl
      · by_cases c2 : 65 ≤ a.toNat ∧ a.toNat ≤ 90
        · have hl : low a = false := by simp only [low, decide_eq_false_iff_not]; omega
          have hf : foldR a.toNat = a.toNat + 32 := by unfold foldR; rw [if_neg (by omega), if_neg (by omega), if_neg (by omega), if_neg c1, if_pos c2]
          have ho : one a = [UInt8.ofNat (a.toNat + 32)] := by unfold one; rw [hl, if_neg (by decide), if_pos c2]
          rw [hf, ho, if_neg (by omega), enc_small (by omega)]
        · by_cases c3 : isL a.toNat = true
          · have hf : foldR a.toNat = a.toNat := by unfold foldR; rw [if_neg (by omega), if_neg (by omega), if_neg (by omega), if_neg c1, if_neg c2, if_pos c3]
            have ho : one a = [a] := one_low (hL.trans c3)
            have h00 : a.toNat ≠ 0 := by simp only [isL, decide_eq_true_eq] at c3; omega
            rw [hf, ho, if_neg h00, enc_small ha, hcast]
          · have hf : foldR a.toNat = 0 := by unfold foldR; rw [if_neg (by omega), if_neg (by omega), if_neg (by omega), if_neg c1, if_neg c2, if_neg c3]
            have ho : one a = [] := by unfold one; rw [hL, if_neg c3, if_neg c2, if_neg c1]
            rw [hf, ho, if_pos rfl]
    · rcases dec_high (a := a) l (by omega) with ⟨b, l', rfl, e, e1, e2, e3⟩ | ⟨h1, _, h3, _⟩
      · rw [e, fold]
        simp only [List.drop_succ_cons, List.drop_zero]
        have lb := UInt8.toNat_lt b
        have hbs : fold (b :: l') = fold l' := fold_skip l' (by omega) (by omega) (by omega)
        have hab : a.toNat = 192 + (a.toNat % 32 * 64 + b.toNat % 64) / 64 := by omega
        have hbb : b.toNat = 128 + (a.toNat % 32 * 64 + b.toNat % 64) % 64 := by omega
        generalize hr : a.toNat % 32 * 64 + b.toNat % 64 = r at *
        have hr2 : r < 2048 := by omega
        by_cases c1 : r = 201
        · subst c1
          rw [show foldR 201 = 233 from rfl, u8ext (a := a) (b := 195) hab, u8ext (a := b) (b := 137) hbb]; rfl
        by_cases c2 : r = 216
        · subst c2
          rw [show foldR 216 = 248 from rfl, u8ext (a := a) (b := 195) hab, u8ext (a := b) (b := 152) hbb]; rfl
        by_cases c3 : r = 923
        · subst c3
          rw [show foldR 923 = 955 from rfl, u8ext (a := a) (b := 206) hab, u8ext (a := b) (b := 155) hbb]; rfl
        by_cases c4 : isL r = true
        · simp only [isL, decide_eq_true_eq] at c4
          have c5 : r = 233 ∨ r = 248 ∨ r = 223 ∨ r = 955 := by omega
          rcases c5 with rfl | rfl | rfl | rfl
          · rw [show foldR 233 = 233 from rfl, u8ext (a := a) (b := 195) hab, u8ext (a := b) (b := 169) hbb]; rfl
          · rw [show foldR 248 = 248 from rfl, u8ext (a := a) (b := 195) hab, u8ext (a := b) (b := 184) hbb]; rfl
          · rw [show foldR 223 = 223 from rfl, u8ext (a := a) (b := 195) hab, u8ext (a := b) (b := 159) hbb]; rfl
          · rw [show foldR 955 = 955 from rfl, u8ext (a := a) (b := 206) hab, u8ext (a := b) (b := 187) hbb]; rfl
        · have hz : foldR r = 0 := by
            unfold foldR
            rw [if_neg c1, if_neg c2, if_neg c3, if_neg (by omega), if_neg (by omega), if_neg c4]
          simp only [isL, decide_eq_true_eq] at c4
          have hp : pair a b = none := by
            unfold pair
            by_cases d1 : a.toNat = 195
            · rw [if_pos d1, if_neg (by omega), if_neg (by omega), if_neg (by omega)]
            · rw [if_neg d1]
              by_cases d2 : a.toNat = 206
              · rw [if_pos d2, if_neg (by omega)]
              · rw [if_neg d2]
          rw [hp, hz, if_pos rfl, List.nil_append]
          show one a ++ fold (b :: l') = fold l'
          rw [one_high (by omega), List.nil_append, hbs]
      · have hz : foldR (dec (a :: l)).1 = 0 := by
          generalize (dec (a :: l)).1 = r at *
          unfold foldR
          rw [if_neg (by omega), if_neg (by omega), if_neg (by omega), if_neg (by omega), if_neg (by omega), if_neg (by simp only [isL, decide_eq_true_eq]; omega)]
        rw [hz, if_pos rfl, List.nil_append]
        exact h3

theorem dec_pos {t : List UInt8} (h0 : t ≠ []) : 1 ≤ (dec t).2 := by
  cases t with
  | nil => exact absurd rfl h0
  | cons a l =>
    by_cases ha : a.toNat < 128
    · rw [dec_low l ha]; exact Nat.le_refl _
    · rcases dec_high (a := a) l (by omega) with ⟨b, l', rfl, e, _⟩ | ⟨_, h1, _⟩
      · rw [e]; show 1 ≤ 2; decide
      · exact h1

end Go.Proofs.Ytppdljkfhoekpaa.NameMath

/-
  Contracts of layer 3's small functions: isDigit, isLetter, mayBegin.
-/
namespace Go.Proofs.Ytppdljkfhoekpaa.NameWalk
open Go.RowKit Go.Proofs.Ytppdljkfhoekpaa.NameMath

def digR (r : Nat) : Bool := decide (48 ≤ r ∧ r ≤ 57)

end Go.Proofs.Ytppdljkfhoekpaa.NameWalk

/-
  Contracts of layer 3: May.
-/
namespace Go.Proofs.Ytppdljkfhoekpaa.NameWalk
open Go.RowKit Go.Proofs.Ytppdljkfhoekpaa.NameMath

theorem drop_ne {s : ByteArray} {pos : Nat} (h : pos < s.size) : s.data.toList.drop pos ≠ [] := by
  intro e
  have := congrArg List.length e
  simp at this
  have h2 : s.size = s.data.size := rfl
  omega

theorem size_list (s : ByteArray) : s.size = s.data.toList.length := (Array.length_toList).symm

theorem below_iter (w : World) (s : ByteArray) (pos : Nat) : Below w.heap.size w (w.iter s pos) := by
  have h : Below w.heap.size w (w.iter s pos) := (Below.refl _ w).alloc (Nat.le_refl _) _
  exact h

end Go.Proofs.Ytppdljkfhoekpaa.NameWalk

/-
  The contract of stringslite.Index at one byte, laid at this dump (as the shelf's tool writes it, in plain words; its numbers by name).
-/
namespace Go.Proofs
open Go.Shelf
end Go.Proofs

/-
  Tags: cutting at the first colon; contracts of strings.Cut at ":", Parts, MayTag, Tag; the laws' head (shown, short).
-/
namespace Go.Proofs.Ytppdljkfhoekpaa.NameMath

/-- A text cut at its first colon. -/
def cutC : List UInt8 → Option (List UInt8 × List UInt8)
  | [] => none
  | a :: l => if a.toNat = 58 then some ([], l) else (cutC l).map fun p => (a :: p.1, p.2)

def parts (l : List UInt8) : List UInt8 × List UInt8 × Bool := match cutC l with
  | some p => if (may p.1 && may p.2) = true then (p.1, p.2, true) else ([], [], false)
  | none => ([], [], false)

def tag (a b : List UInt8) : List UInt8 := if (may a && may b) = true then a ++ 58 :: b else []

theorem cut_index : ∀ l : List UInt8, (Lib.indexByte l 58 = -1 ∧ cutC l = none) ∨ ∃ i : Nat, i < l.length ∧ Lib.indexByte l 58 = (i : Int) ∧ cutC l = some (l.take i, l.drop (i + 1))
  | [] => .inl ⟨rfl, rfl⟩
  | a :: l => by
    by_cases h : a.toNat = 58
    · right
      have : a = 58 := u8ext h
      subst this
      exact ⟨0, by simp, rfl, rfl⟩
    · have hne : (a == 58) = false := by
        simp only [beq_eq_false_iff_ne]
        rintro rfl
        exact h rfl
      rcases cut_index l with ⟨h1, h2⟩ | ⟨i, h0, h1, h2⟩
      · left
        refine ⟨?_, ?_⟩
        · rw [Lib.indexByte, hne, h1]; rfl
        · rw [cutC, if_neg h, h2]; rfl
      · right
        refine ⟨i + 1, by simp; omega, ?_, ?_⟩
        · rw [Lib.indexByte, hne, h1]
          have h4 : (((i : Nat) : Int) == -1) = false := by simp only [beq_eq_false_iff_ne]; omega
          rw [h4]; simp
        · rw [cutC, if_neg h, h2]; rfl

theorem cut_none {l : List UInt8} (h : ∀ x ∈ l, x.toNat ≠ 58) (b : List UInt8) : cutC (l ++ 58 :: b) = some (l, b) := by
  induction l with
  | nil => rfl
  | cons a l ih =>
    rw [List.cons_append, cutC, if_neg (h a (by simp)), ih (fun x hx => h x (by simp [hx]))]
    rfl

theorem cut_all {l : List UInt8} (h : ∀ x ∈ l, x.toNat ≠ 58) : cutC l = none := by
  induction l with
  | nil => rfl
  | cons a l ih =>
    rw [cutC, if_neg (h a (by simp)), ih (fun x hx => h x (by simp [hx]))]
    rfl

theorem allL_colon : ∀ {l : List UInt8}, allL l = true → ∀ x ∈ l, x.toNat ≠ 58
  | [], _, x, hx => by simp at hx
  | [a], h, x, hx => by
    simp [allL] at h hx
    subst hx
    simp only [low, decide_eq_true_eq] at h
    omega
  | a :: b :: l, h, x, hx => by
    by_cases ha : low a = true
    · rw [allL_low _ ha] at h
      rcases List.mem_cons.1 hx with rfl | hx
      · simp only [low, decide_eq_true_eq] at ha; omega
      · exact allL_colon h x hx
    · have ha' : low a = false := by simpa using ha
      rw [allL, ha', if_neg (by decide)] at h
      by_cases ht : two a b = true
      · rw [if_pos ht] at h
        simp only [two, decide_eq_true_eq] at ht
        rcases List.mem_cons.1 hx with rfl | hx
        · omega
        · rcases List.mem_cons.1 hx with rfl | hx
          · omega
          · exact allL_colon h x hx
      · rw [if_neg ht] at h
        exact absurd h (by decide)

theorem parts_tag {a b : List UInt8} (ha : may a = true) : cutC (a ++ 58 :: b) = some (a, b) := cut_none (allL_colon (may_parts ha).2.2.2) b

theorem parts_name {a : List UInt8} (ha : may a = true) : parts a = ([], [], false) := by
  unfold parts
  rw [cut_all (allL_colon (may_parts ha).2.2.2)]

theorem parts_both {a b : List UInt8} (ha : may a = true) (hb : may b = true) : parts (a ++ 58 :: b) = (a, b, true) := by
  unfold parts
  rw [parts_tag ha]
  simp [ha, hb]

theorem parts_behind {a b : List UInt8} (ha : may a = true) (hb : may b = false) : parts (a ++ 58 :: b) = ([], [], false) := by
  unfold parts
  rw [parts_tag ha]
  simp [hb]

end Go.Proofs.Ytppdljkfhoekpaa.NameMath

namespace Go.Proofs.Ytppdljkfhoekpaa.NameWalk
open Go.RowKit Go.Proofs.Ytppdljkfhoekpaa.NameMath

theorem below_chain {w w1 w2 : World} (h1 : Below w.heap.size w w1) (h2 : Below w1.heap.size w1 w2) : Below w.heap.size w w2 := h1.trans (h2.mono h1.size)
theorem bel_drewN {B : Nat} {a w : World} (h : Below B a w) (n : Nat) : Below B a (w.drewN n) := ⟨h.os, h.tape, h.output, h.size, h.block⟩
theorem bel_drew {B : Nat} {a w : World} (h : Below B a w) : Below B a w.drew := ⟨h.os, h.tape, h.output, h.size, h.block⟩

theorem ba_ext {a b : ByteArray} (h : a.data.toList = b.data.toList) : a = b := by
  cases a; cases b
  congr 1
  exact Array.toList_inj.1 h

theorem ba_list (l : List UInt8) : (⟨l.toArray⟩ : ByteArray).data.toList = l := rfl

theorem ba_append (a b : ByteArray) : (a ++ b).data.toList = a.data.toList ++ b.data.toList := by
  rw [ByteArray.data_append, Array.toList_append]

theorem ba_take (s : ByteArray) (n : Nat) : (s.extract 0 n).data.toList = s.data.toList.take n := by
  simp [ByteArray.data_extract]

theorem ba_drop (s : ByteArray) (i : Nat) : (s.extract i s.size).data.toList = s.data.toList.drop i := by
  rw [ByteArray.data_extract, Array.toList_extract]
  show (s.data.toList.drop i).take (s.size - i) = _
  rw [List.take_of_length_le]
  rw [List.length_drop, ← size_list]
  exact Nat.le_refl _

end Go.Proofs.Ytppdljkfhoekpaa.NameWalk

/-
  Contracts of the document's own answers for layer 3 (registrarref03): plain, begins, letter, folded.
-/
namespace Go.Proofs.Ytppdljkfhoekpaa.NameMath

/-- How many bytes the letter has that it begins with. -/
def lw : List UInt8 → Nat
  | [] => 0
  | [a] => if low a = true then 1 else 0
  | a :: b :: _ => if low a = true then 1 else if two a b = true then 2 else 0

/-- It begins with just these two. -/
def isP (x y : UInt8) (t : List UInt8) : Bool := decide (t.take 2 = [x, y])

end Go.Proofs.Ytppdljkfhoekpaa.NameMath
namespace Go.Proofs.Ytppdljkfhoekpaa.NameWalk
open Go.RowKit Go.Proofs.Ytppdljkfhoekpaa.NameMath

theorem drop_at {s : ByteArray} {p : Nat} (h : p < s.size) : s.data.toList.drop p = s[p] :: s.data.toList.drop (p + 1) := by
  have h2 : p < s.data.toList.length := by rw [← size_list]; exact h
  rw [List.drop_eq_getElem_cons h2]
  rfl

def lets : Nat → ByteArray
  | 0 => ⟨#[195, 169]⟩
  | 1 => ⟨#[195, 184]⟩
  | 2 => ⟨#[195, 159]⟩
  | _ => ⟨#[206, 187]⟩
def bigs : Nat → ByteArray
  | 0 => ⟨#[195, 137]⟩
  | 1 => ⟨#[195, 152]⟩
  | _ => ⟨#[206, 155]⟩
def smalls : Nat → ByteArray
  | 0 => ⟨#[195, 169]⟩
  | 1 => ⟨#[195, 184]⟩
  | _ => ⟨#[206, 187]⟩

theorem lt4 {k : Nat} (h : k < 4) : k = 0 ∨ k = 1 ∨ k = 2 ∨ k = 3 := by omega
theorem lt3 {k : Nat} (h : k < 3) : k = 0 ∨ k = 1 ∨ k = 2 := by omega
theorem lets_size {k : Nat} (h : k < 4) : (lets k).size = 2 := by rcases lt4 h with rfl | rfl | rfl | rfl <;> rfl
theorem bigs_size {k : Nat} (h : k < 3) : (bigs k).size = 2 := by rcases lt3 h with rfl | rfl | rfl <;> rfl

theorem lw_low {a : UInt8} (l : List UInt8) (h : low a = true) : lw (a :: l) = 1 := by
  cases l with
  | nil => rw [lw, if_pos h]
  | cons b l => rw [lw, if_pos h]

theorem lw_two {a : UInt8} {l : List UInt8} (h : low a = false) {k : Nat} (hk : k < 4) (ht : (a :: l).take 2 = (lets k).data.toList) : lw (a :: l) = 2 := by
  cases l with
  | nil => rcases lt4 hk with rfl | rfl | rfl | rfl <;> simp [lets] at ht
  | cons b l =>
    have h2 : two a b = true := by
      rcases lt4 hk with rfl | rfl | rfl | rfl <;> (simp [lets] at ht; obtain ⟨rfl, rfl⟩ := ht; decide)
    rw [lw, h, if_neg (by decide), if_pos h2]

theorem lw_zero {a : UInt8} {l : List UInt8} (h : low a = false) (ht : ∀ k, k < 4 → ¬ (a :: l).take 2 = (lets k).data.toList) : lw (a :: l) = 0 := by
  cases l with
  | nil => rw [lw, h, if_neg (by decide)]
  | cons b l =>
    have h2 : ¬ two a b = true := by
      intro hh
      simp only [two, decide_eq_true_eq] at hh
      rcases hh with ⟨ha, hb | hb | hb⟩ | ⟨ha, hb⟩
      · exact ht 0 (by omega) (by rw [u8ext (b := 195) ha, u8ext (b := 169) hb]; rfl)
      · exact ht 1 (by omega) (by rw [u8ext (b := 195) ha, u8ext (b := 184) hb]; rfl)
      · exact ht 2 (by omega) (by rw [u8ext (b := 195) ha, u8ext (b := 159) hb]; rfl)
      · exact ht 3 (by omega) (by rw [u8ext (b := 206) ha, u8ext (b := 187) hb]; rfl)
    rw [lw, h, if_neg (by decide), if_neg h2]

end Go.Proofs.Ytppdljkfhoekpaa.NameWalk

/-
  Contracts of the document's own answers for layer 3 (registrarref03): May, Fold.
-/
namespace Go.Proofs.Ytppdljkfhoekpaa.NameMath

theorem lw_none {a : UInt8} {l : List UInt8} (h : lw (a :: l) = 0) : low a = false ∧ allL (a :: l) = false := by
  cases l with
  | nil =>
    rw [lw] at h
    have h1 : ¬ low a = true := fun hh => by rw [if_pos hh] at h; exact absurd h (by decide)
    have h2 : low a = false := by simpa using h1
    exact ⟨h2, by simpa [allL] using h2⟩
  | cons b l =>
    rw [lw] at h
    have h1 : ¬ low a = true := fun hh => by rw [if_pos hh] at h; exact absurd h (by decide)
    rw [if_neg h1] at h
    have h3 : ¬ two a b = true := fun hh => by rw [if_pos hh] at h; exact absurd h (by decide)
    have h2 : low a = false := by simpa using h1
    refine ⟨h2, ?_⟩
    rw [allL, if_neg h1, if_neg h3]

theorem lw_some {t : List UInt8} (h : lw t ≠ 0) : lw t ≤ t.length ∧ allL t = allL (t.drop (lw t)) ∧ fold t = t.take (lw t) ++ fold (t.drop (lw t)) := by
  match t with
  | [] => exact absurd rfl h
  | [a] =>
    by_cases h1 : low a = true
    · have e : lw [a] = 1 := by rw [lw, if_pos h1]
      rw [e]
      exact ⟨by simp, allL_low [] h1, fold_low [] h1⟩
    · exact absurd (by rw [lw, if_neg h1]) h
  | a :: b :: l =>
    by_cases h1 : low a = true
    · have e : lw (a :: b :: l) = 1 := by rw [lw, if_pos h1]
      rw [e]
      exact ⟨by simp, allL_low _ h1, fold_low _ h1⟩
    · by_cases h2 : two a b = true
      · have e : lw (a :: b :: l) = 2 := by rw [lw, if_neg h1, if_pos h2]
        rw [e]
        exact ⟨by simp, allL_two _ h2, fold_two _ h2⟩
      · exact absurd (by rw [lw, if_neg h1, if_neg h2]) h

end Go.Proofs.Ytppdljkfhoekpaa.NameMath
namespace Go.Proofs.Ytppdljkfhoekpaa.NameWalk
open Go.RowKit Go.Proofs.Ytppdljkfhoekpaa.NameMath

end Go.Proofs.Ytppdljkfhoekpaa.NameWalk

/-
  Contracts of the document's own answers for layer 3 (registrarref03): Tag, Parts.
-/
namespace Go.Proofs.Ytppdljkfhoekpaa.NameWalk
open Go.RowKit Go.Proofs.Ytppdljkfhoekpaa.NameMath

end Go.Proofs.Ytppdljkfhoekpaa.NameWalk

/-
  Contracts of the document's answers of layer 4: Texts, Rise, Put, tags.
-/
namespace Go.Proofs.Ytppdljkfhoekpaa.EvWalk
open Go.RowKit Go.Proofs.Ytppdljkfhoekpaa.MemRow Go.Proofs.Ytppdljkfhoekpaa.Ev Go.Proofs.Ytppdljkfhoekpaa.NameMath Go.Proofs.Ytppdljkfhoekpaa.NameWalk

/-- Go's '<' on texts. -/
def less (a b : ByteArray) : Bool := Op.bytesLess a.toList b.toList

def riseB : List ByteArray → Bool
  | [] => true
  | [_] => true
  | a :: b :: l => less a b && riseB (b :: l)

/-- One more, at its place. -/
def putL : List ByteArray → ByteArray → List ByteArray
  | [], s => [s]
  | a :: l, s => if less a s = true then a :: putL l s else if a = s then a :: l else s :: a :: l

theorem toList_ne {a b : ByteArray} (h : a ≠ b) : ¬ a.toList = b.toList := by
  intro e
  rw [ByteArray.toList_eq, ByteArray.toList_eq] at e
  exact h (ba_ext e)

theorem str_ne {a b : ByteArray} (h : a ≠ b) : (a.toList == b.toList) = false := by
  rw [beq_eq_false_iff_ne]
  exact toList_ne h

theorem take_get (l : List ByteArray) (j : Nat) (h : j < l.length) : l.take (j + 1) = l.take j ++ [l.getD j ByteArray.empty] := by
  rw [List.take_succ_eq_append_getElem h]
  simp [List.getD, List.getElem?_eq_getElem h]

theorem rise_snoc (l : List ByteArray) (a b : ByteArray) : riseB (l ++ [a, b]) = (riseB (l ++ [a]) && less a b) := by
  induction l with
  | nil => simp [riseB]
  | cons x l ih =>
    cases l with
    | nil => simp [riseB]
    | cons y l =>
      simp only [List.cons_append, riseB] at ih ⊢
      rw [ih, Bool.and_assoc]
theorem rise_prefix : ∀ (l m : List ByteArray), riseB (l ++ m) = true → riseB l = true
  | [], _, _ => rfl
  | [_], _, _ => rfl
  | x :: y :: l, m, h => by
    simp only [List.cons_append, riseB, Bool.and_eq_true] at h ⊢
    exact ⟨h.1, rise_prefix (y :: l) m h.2⟩

theorem take_two (l : List ByteArray) (k : Nat) (h : k + 1 < l.length) : l.take (k + 2) = l.take k ++ [l.getD k ByteArray.empty, l.getD (k + 1) ByteArray.empty] := by
  rw [take_get l (k + 1) h, take_get l k (by omega)]
  simp

end Go.Proofs.Ytppdljkfhoekpaa.EvWalk

/-
  Contracts of the document's answers of layer 4: tags, Put.
-/
namespace Go.Proofs.Ytppdljkfhoekpaa.EvWalk
open Go.RowKit Go.Proofs.Ytppdljkfhoekpaa.MemRow Go.Proofs.Ytppdljkfhoekpaa.Ev Go.Proofs.Ytppdljkfhoekpaa.NameMath Go.Proofs.Ytppdljkfhoekpaa.NameWalk

/-- It is a tag. -/
def tagB (s : ByteArray) : Bool := (parts s.data.toList).2.2

theorem all_take {p : ByteArray → Bool} (l : List ByteArray) (h : l.all p = true) (j : Nat) (hj : j < l.length) : p (l.getD j ByteArray.empty) = true := by
  rw [List.all_eq_true] at h
  simp only [List.getD, List.getElem?_eq_getElem hj, Option.getD_some]
  exact h _ (List.getElem_mem hj)

theorem mem_getD (l : List ByteArray) (j : Nat) (hj : j < l.length) : l.getD j ByteArray.empty ∈ l := by
  simp only [List.getD, List.getElem?_eq_getElem hj, Option.getD_some]
  exact List.getElem_mem hj

theorem put_at : ∀ (l : List ByteArray) (s : ByteArray) (j : Nat), j ≤ l.length → (∀ i, i < j → less (l.getD i ByteArray.empty) s = true) →
    (j < l.length → less (l.getD j ByteArray.empty) s = false) → putL l s = if j < l.length ∧ l.getD j ByteArray.empty = s then l else l.take j ++ s :: l.drop j
  | [], s, j, hj, _, _ => by
    have : j = 0 := by simpa using hj
    subst this
    rw [if_neg (by simp)]
    rfl
  | a :: l, s, 0, _, _, h2 => by
    have h := h2 (by simp)
    simp only [List.getD_cons_zero] at h
    rw [putL, h, if_neg (by decide)]
    by_cases e : a = s
    · rw [if_pos e, if_pos (by simp [e])]
    · rw [if_neg e, if_neg (by simp [e])]
      rfl
  | a :: l, s, j + 1, hj, h1, h2 => by
    have h := h1 0 (by omega)
    simp only [List.getD_cons_zero] at h
    have ih := put_at l s j (by simpa using hj) (fun i hi => by simpa using h1 (i + 1) (by omega)) (fun hl => by simpa using h2 (by simpa using hl))
    rw [putL, if_pos h, ih]
    by_cases e : j < l.length ∧ l.getD j ByteArray.empty = s
    · rw [if_pos e, if_pos (by simpa using e)]
    · rw [if_neg e, if_neg (by simpa using e)]
      simp

theorem string_info : (Try.prog.info? 9).map (fun i => (i.zero, i.size, i.bytes)) = some (some (.string ByteArray.empty), 1, 16) := by kernel_rfl
theorem string_size : (Try.prog.info? 9).map (·.size) = some 1 := by kernel_rfl
theorem elem_strs : Try.prog.elem 39 = 9 := by kernel_rfl

/-- A slice that reads as texts. -/
def SomeS (w : World) (A0 : Option Addr) (ss : List ByteArray) (e : Ending) (w' : World) : Prop := ∃ A n ca, e = .returned (.slice A n ca) ∧ RdS w' A n ca ss ∧ Below w.heap.size w w' ∧ (A = A0 ∨ ∀ a, A = some a → w.heap.size ≤ a.block)

set_option maxHeartbeats 4000000 in
set_option maxRecDepth 100000 in
theorem refPut_any (A : Option Addr) (n ca : Nat) (ss : List ByteArray) (s : ByteArray) (w : World) (ha : RdS w A n ca ss) (hsm : n ≤ 1000000) :
    Calls Try.prog 29 #[.slice A n ca, .string s] w (SomeS w A (putL ss s)) := by
  have la := ha.len
  have hput := fun j => put_at ss s j
  have HP := Go.Lib.hid hput
  have LA := Go.Lib.hid la
  clear la hput
  go_enter Try.func29, Try.ntmps29
  go_wp2_with fail
  go_loop [5] (fun i => ∃ j : Nat, j ≤ n ∧ i = .int .i64 j ∧ (∀ i, i < j → less (ss.getD i ByteArray.empty) s = true)) (fun i => n - (intOf i).toNat)
  case atStart => exact ⟨0, Nat.zero_le _, rfl, fun i hi => by omega⟩
  case round =>
    obtain ⟨j, hj, rfl, hq⟩ := hrel
    have HQ := Go.Lib.hid hq
    clear hq
    by_cases hlt : j < n
    · obtain ⟨ba, oa, rfl, _, ka⟩ := ha.at_ (by omega)
      have ka1 := ka j hlt
      have i1 : (j : Int) < n := by omega
      clear ka
      generalize hx : ss.getD j ByteArray.empty = x at *
      have HX := Go.Lib.hid hx
      clear hx
      by_cases hl : less x s = true
      · have hb : Op.bytesLess x.toList s.toList = true := hl
        go_wp2_with fail
        go_round
        case rel =>
          refine ⟨j + 1, by omega, by go_num, fun i hi => ?_⟩
          rcases Nat.lt_succ_iff_lt_or_eq.1 hi with h | rfl
          · exact HQ.out i h
          · rw [HX.out]; exact hl
        case measure => simp [intOf]; omega
      · have hb : Op.bytesLess x.toList s.toList = false := by simpa [less] using hl
        have hq := HP.out j (by rw [LA.out]; exact hj) HQ.out (fun _ => by rw [HX.out]; simpa using hl)
        by_cases hxs : x = s
        · subst hxs
          rw [if_pos ⟨by rw [LA.out]; exact hlt, HX.out⟩] at hq
          have HE := Go.Lib.hid hq
          clear hq
          go_wp2_with fail
          go_ret
          exact ⟨_, _, _, rfl, by rw [HE.out]; exact ha, Below.refl _ _, .inl rfl⟩
        · rw [if_neg (fun h => hxs (HX.out.symm.trans h.2))] at hq
          have hne := str_ne hxs
          have HE := Go.Lib.hid hq
          clear hq
          obtain ⟨A1, q1, d1⟩ := slice_lo (P := Try.prog) 39 9 Try.underlying39 elem_strs string_size ha (m := j) (by omega)
          obtain ⟨q2, d2⟩ := slice_hi (P := Try.prog) 39 9 Try.underlying39 elem_strs string_size ha (m := j) (by omega)
          rw [strs_drop] at d1
          rw [strs_take] at d2
          have ba : Below w.heap.size w (w.alloc (.cells #[] 9)) := (Below.refl _ _).alloc (Nat.le_refl _) _
          have d3 := d1.below ba
          have o1 : OwnC 1 (w.alloc (.cells #[] 9)) w.heap.size 9 (some ⟨w.heap.size, 0, none⟩) 0 0 [] := OwnC.empty w 9 (Nat.le_refl _)
          go_wp2_with (first
            | (at_builtin; refine wpList_copy_cells rfl (.tmp 35) (.tmp 38) 39 rfl 9 (.string ByteArray.empty) 16 Try.underlying39 string_info rfl (by decide) rfl rfl o1 d3 (strs_one _) (by unfold maxLen; omega) (by omega) ba.size ba ?_; intro A5 c5 w5 o5 b5; have bb := (Below.refl w5.heap.size w5).alloc (Nat.le_refl _) (.cells #[] 9); have d5 := (d2.below b5).below bb; have o6 : OwnC 1 (w5.alloc (.cells #[] 9)) w5.heap.size 9 (some ⟨w5.heap.size, 0, none⟩) 0 0 [] := OwnC.empty w5 9 (Nat.le_refl _))
            | (at_builtin; refine wpList_copy_cells rfl (.tmp 40) (.tmp 43) 39 rfl 9 (.string ByteArray.empty) 16 Try.underlying39 string_info rfl (by decide) rfl rfl o6 d5 (strs_one _) (by unfold maxLen; omega) (by omega) bb.size bb ?_; intro A7 c7 w7 o7 b7; have bc := (Below.refl w7.heap.size w7).alloc (Nat.le_refl _) (.cells #[.string s] 9); have o8 := o7.below bc; have d8 : RdC 1 (w7.alloc (.cells #[.string s] 9)) (some ⟨w7.heap.size, 0, none⟩) 1 1 (strs [s]) := RdC.new w7 9 (strs [s]) rfl (by decide); have b8 := below_chain b7 bc)
            | (at_builtin; refine wpList_more_cells rfl (.tmp 45) (.tmp 47) 39 rfl 9 (.string ByteArray.empty) 16 Try.underlying39 string_info rfl (by decide) rfl rfl o8 d8 (strs_one _) (by unfold maxLen; omega) (by omega) b8.size b8 ?_; intro A9 c9 w9 o9 b9 g9; have d9 := (OwnC.rd o5).below b9)
            | (at_builtin; refine wpList_more_cells rfl (.tmp 49) (.tmp 50) 39 rfl 9 (.string ByteArray.empty) 16 Try.underlying39 string_info rfl (by decide) rfl rfl o9 d9 (strs_one _) (by unfold maxLen; omega) (by omega) b9.size b9 ?_; intro A10 c10 w10 o10 b10 g10))
          go_ret
          refine ⟨_, _, _, rfl, ?_, below_chain b5 b10, .inr fun a ha => Nat.le_trans b5.size (OwnC.lt o10 a ha).1⟩
          rw [HE.out]
          have h10 := OwnC.rd o10
          rw [← strs_append, ← strs_append, List.append_assoc] at h10
          exact h10
    · have hq := HP.out j (by rw [LA.out]; exact hj) HQ.out (fun h => by rw [LA.out] at h; omega)
      rw [if_neg (fun h => by have := h.1; rw [LA.out] at this; omega)] at hq
      have i2 : ¬ (j : Int) < n := by omega
      have HE := Go.Lib.hid hq
      clear hq
      obtain ⟨A1, q1, d1⟩ := slice_lo (P := Try.prog) 39 9 Try.underlying39 elem_strs string_size ha (m := j) (by omega)
      obtain ⟨q2, d2⟩ := slice_hi (P := Try.prog) 39 9 Try.underlying39 elem_strs string_size ha (m := j) (by omega)
      rw [strs_drop] at d1
      rw [strs_take] at d2
      have ba : Below w.heap.size w (w.alloc (.cells #[] 9)) := (Below.refl _ _).alloc (Nat.le_refl _) _
      have d3 := d1.below ba
      have o1 : OwnC 1 (w.alloc (.cells #[] 9)) w.heap.size 9 (some ⟨w.heap.size, 0, none⟩) 0 0 [] := OwnC.empty w 9 (Nat.le_refl _)
      go_wp2_with (first
        | (at_builtin; refine wpList_copy_cells rfl (.tmp 35) (.tmp 38) 39 rfl 9 (.string ByteArray.empty) 16 Try.underlying39 string_info rfl (by decide) rfl rfl o1 d3 (strs_one _) (by unfold maxLen; omega) (by omega) ba.size ba ?_; intro A5 c5 w5 o5 b5; have bb := (Below.refl w5.heap.size w5).alloc (Nat.le_refl _) (.cells #[] 9); have d5 := (d2.below b5).below bb; have o6 : OwnC 1 (w5.alloc (.cells #[] 9)) w5.heap.size 9 (some ⟨w5.heap.size, 0, none⟩) 0 0 [] := OwnC.empty w5 9 (Nat.le_refl _))
        | (at_builtin; refine wpList_copy_cells rfl (.tmp 40) (.tmp 43) 39 rfl 9 (.string ByteArray.empty) 16 Try.underlying39 string_info rfl (by decide) rfl rfl o6 d5 (strs_one _) (by unfold maxLen; omega) (by omega) bb.size bb ?_; intro A7 c7 w7 o7 b7; have bc := (Below.refl w7.heap.size w7).alloc (Nat.le_refl _) (.cells #[.string s] 9); have o8 := o7.below bc; have d8 : RdC 1 (w7.alloc (.cells #[.string s] 9)) (some ⟨w7.heap.size, 0, none⟩) 1 1 (strs [s]) := RdC.new w7 9 (strs [s]) rfl (by decide); have b8 := below_chain b7 bc)
        | (at_builtin; refine wpList_more_cells rfl (.tmp 45) (.tmp 47) 39 rfl 9 (.string ByteArray.empty) 16 Try.underlying39 string_info rfl (by decide) rfl rfl o8 d8 (strs_one _) (by unfold maxLen; omega) (by omega) b8.size b8 ?_; intro A9 c9 w9 o9 b9 g9; have d9 := (OwnC.rd o5).below b9)
        | (at_builtin; refine wpList_more_cells rfl (.tmp 49) (.tmp 50) 39 rfl 9 (.string ByteArray.empty) 16 Try.underlying39 string_info rfl (by decide) rfl rfl o9 d9 (strs_one _) (by unfold maxLen; omega) (by omega) b9.size b9 ?_; intro A10 c10 w10 o10 b10 g10))
      go_ret
      refine ⟨_, _, _, rfl, ?_, below_chain b5 b10, .inr fun a ha => Nat.le_trans b5.size (OwnC.lt o10 a ha).1⟩
      rw [HE.out]
      have h10 := OwnC.rd o10
      rw [← strs_append, ← strs_append, List.append_assoc] at h10
      exact h10

end Go.Proofs.Ytppdljkfhoekpaa.EvWalk

/-
  Contracts of the document's answers of layer 4: Has, Value, Same.
-/
namespace Go.Proofs.Ytppdljkfhoekpaa.EvWalk
open Go.RowKit Go.Proofs.Ytppdljkfhoekpaa.MemRow Go.Proofs.Ytppdljkfhoekpaa.Ev Go.Proofs.Ytppdljkfhoekpaa.NameMath Go.Proofs.Ytppdljkfhoekpaa.NameWalk

/-- A block of the call's own that holds an event's four cells. -/
def EvAt (w : World) (g : Nat) (v0 v1 v2 v3 : Value) : Prop := w.heap[g]? = some (.cells #[v0, v1, v2, v3] 42 (0, 0))
theorem EvAt.new (w : World) (v0 v1 v2 v3 : Value) : EvAt (w.alloc (.cells #[v0, v1, v2, v3] 42)) w.heap.size v0 v1 v2 v3 := heap_alloc_new w _
theorem EvAt.lt {w : World} {g : Nat} {v0 v1 v2 v3 : Value} (h : EvAt w g v0 v1 v2 v3) : g < w.heap.size := (Array.getElem?_eq_some_iff.1 h).1
theorem EvAt.below {w w' : World} {g : Nat} {v0 v1 v2 v3 : Value} (h : EvAt w g v0 v1 v2 v3) {B : Nat} (hb : Below B w w') (hg : g < B) : EvAt w' g v0 v1 v2 v3 := (hb.block g hg).trans h
theorem EvAt.drewN {w : World} {g : Nat} {v0 v1 v2 v3 : Value} (h : EvAt w g v0 v1 v2 v3) (n : Nat) : EvAt (w.drewN n) g v0 v1 v2 v3 := h
theorem EvAt.c0 {w : World} {g : Nat} {v0 v1 v2 v3 : Value} (h : EvAt w g v0 v1 v2 v3) : w.cell? ⟨g, 0, none⟩ = some v0 := by rw [cell_of_row w g 0 _ _ _ h]; rfl
theorem EvAt.c1 {w : World} {g : Nat} {v0 v1 v2 v3 : Value} (h : EvAt w g v0 v1 v2 v3) : w.cell? ⟨g, 1, none⟩ = some v1 := by rw [cell_of_row w g 1 _ _ _ h]; rfl
theorem EvAt.c2 {w : World} {g : Nat} {v0 v1 v2 v3 : Value} (h : EvAt w g v0 v1 v2 v3) : w.cell? ⟨g, 2, none⟩ = some v2 := by rw [cell_of_row w g 2 _ _ _ h]; rfl
theorem EvAt.c3 {w : World} {g : Nat} {v0 v1 v2 v3 : Value} (h : EvAt w g v0 v1 v2 v3) : w.cell? ⟨g, 3, none⟩ = some v3 := by rw [cell_of_row w g 3 _ _ _ h]; rfl

def hasB (ss : List ByteArray) (x : ByteArray) : Bool := ss.any fun y => decide (y = x)
theorem hasB_mem {ss : List ByteArray} {x : ByteArray} : hasB ss x = true ↔ x ∈ ss := by
  unfold hasB
  rw [List.any_eq_true]
  constructor
  · rintro ⟨y, h, e⟩
    rwa [of_decide_eq_true e] at h
  · intro h
    exact ⟨x, h, decide_eq_true rfl⟩
/-- The number of the first field with a name. -/
def valueF : List (ByteArray × Int) → ByteArray → Int × Bool
  | [], _ => (0, false)
  | f :: fs, x => if f.1 = x then (f.2, true) else valueF fs x

theorem drop_get (l : List (ByteArray × Int)) (j : Nat) (h : j < l.length) : l.drop j = l.getD j (ByteArray.empty, 0) :: l.drop (j + 1) := by
  rw [List.drop_eq_getElem_cons h]
  simp [List.getD, List.getElem?_eq_getElem h]

set_option maxHeartbeats 4000000 in
set_option maxRecDepth 100000 in
theorem refHas_any (v : Value) (ev : Ev) (x : ByteArray) (w : World) (hv : IsEv w v ev) :
    Calls Try.prog 38 #[v, .string x] w fun e w' => e = .returned (.bool (hasB ev.tags x)) ∧ Below w.heap.size w w' := by
  obtain ⟨A, n, ca, B, m, cb, rfl, ha, _⟩ := hv
  have hn := RdC.le ha
  unfold maxLen at hn
  have la := ha.len
  generalize hR : hasB ev.tags x = R
  have HR := Go.Lib.hid hR
  have LA := Go.Lib.hid la
  clear hR la
  have e0 := EvAt.new w (.string ev.s) (.string ev.t) (.slice A n ca) (.slice B m cb)
  have b0 : Below w.heap.size w (w.alloc (.cells #[.string ev.s, .string ev.t, .slice A n ca, .slice B m cb] 42)) := (Below.refl _ _).alloc (Nat.le_refl _) _
  have a0 := RdC.below ha b0
  have k2 := e0.c2
  clear e0
  go_enter Try.func38, Try.ntmps38
  go_wp2_with fail
  generalize hW : w.alloc (.cells #[.string ev.s, .string ev.t, .slice A n ca, .slice B m cb] 42) = w0 at *
  clear hW ha
  go_loop [5] (fun i => ∃ j : Nat, j ≤ n ∧ i = .int .i64 j ∧ hasB (ev.tags.take j) x = false) (fun i => n - (intOf i).toNat)
  case atStart => exact ⟨0, Nat.zero_le _, rfl, rfl⟩
  case round =>
    obtain ⟨j, hj, rfl, hq⟩ := hrel
    have HQ := Go.Lib.hid hq
    clear hq
    by_cases hlt : j < n
    · obtain ⟨ba, oa, rfl, _, ka⟩ := RdS.at_ a0 (by omega)
      have ka1 := ka j hlt
      have i1 : (j : Int) < n := by omega
      have ta := take_get ev.tags j (by rw [LA.out]; exact hlt)
      have hmem := mem_getD ev.tags j (by rw [LA.out]; exact hlt)
      have TA := Go.Lib.hid ta
      have HM := Go.Lib.hid hmem
      clear ka ta hmem
      generalize hy : ev.tags.getD j ByteArray.empty = y at *
      clear hy
      by_cases hxy : y = x
      · subst hxy
        have hR : R = true := by rw [← HR.out]; exact hasB_mem.2 HM.out
        subst hR
        go_wp2_with fail
        go_ret
        exact ⟨rfl, b0⟩
      · have hne := str_ne hxy
        go_wp2_with fail
        go_round
        case rel =>
          refine ⟨j + 1, by omega, by go_num, ?_⟩
          have h1 := HQ.out
          unfold hasB at h1 ⊢
          rw [TA.out, List.any_append, h1]
          simp [hxy]
        case measure => simp [intOf]; omega
    · obtain rfl : n = j := by omega
      have hR : R = false := by
        rw [← HR.out]
        have h1 := HQ.out
        rwa [List.take_of_length_le (by rw [LA.out]; exact Nat.le_refl _)] at h1
      subst hR
      go_wp2_with fail
      go_ret
      exact ⟨rfl, b0⟩


/-- Two events are the same. -/
def sameB (a b : Ev) : Bool := decide (a.s = b.s) && (decide (a.t = b.t) && (decide (a.tags = b.tags) && decide (a.fs = b.fs)))

theorem flds_step (fs gs : List (ByteArray × Int)) (j : Nat) (h1 : j < fs.length) (h2 : j < gs.length) (h : fs.take j = gs.take j) (he : fs.getD j (ByteArray.empty, 0) = gs.getD j (ByteArray.empty, 0)) : fs.take (j + 1) = gs.take (j + 1) := by
  rw [List.take_succ_eq_append_getElem h1, List.take_succ_eq_append_getElem h2, h]
  simp only [List.getD, List.getElem?_eq_getElem h1, List.getElem?_eq_getElem h2, Option.getD_some] at he
  rw [he]

theorem sameB_no {a b : Ev} (h : a.s ≠ b.s ∨ a.t ≠ b.t ∨ a.tags ≠ b.tags ∨ a.fs ≠ b.fs) : sameB a b = false := by
  unfold sameB
  rcases h with h | h | h | h
  · rw [decide_eq_false h]; rfl
  · rw [decide_eq_false h, Bool.false_and, Bool.and_false]
  · rw [decide_eq_false h, Bool.false_and, Bool.and_false, Bool.and_false]
  · rw [decide_eq_false h, Bool.and_false, Bool.and_false, Bool.and_false]
theorem sameB_refl (a : Ev) : sameB a a = true := by simp [sameB]



end Go.Proofs.Ytppdljkfhoekpaa.EvWalk

/-
  Contract of the document's answer of layer 4: May.
-/
namespace Go.Proofs.Ytppdljkfhoekpaa.EvWalk
open Go.RowKit Go.Proofs.Ytppdljkfhoekpaa.MemRow Go.Proofs.Ytppdljkfhoekpaa.Ev Go.Proofs.Ytppdljkfhoekpaa.NameMath Go.Proofs.Ytppdljkfhoekpaa.NameWalk

/-- It is a name. -/
def nameB (s : ByteArray) : Bool := may s.data.toList
/-- A number that a field may have. -/
def fitB (f : ByteArray × Int) : Bool := decide (-1099511627776 ≤ f.2 ∧ f.2 ≤ 1099511627776)

/-- What is wrong with an event. -/
def mayE (e : Ev) : Int :=
  if (nameB e.s && nameB e.t) = false then 5
  else if 6 < e.tags.length ∨ 4 < e.fs.length then 3
  else if ((e.fs.all fun f => nameB f.1) && e.tags.all tagB) = false then 5
  else if (e.fs.all fitB && (riseB e.tags && riseB (e.fs.map (·.1)))) = false then 1 else 0

theorem fs_take (fs : List (ByteArray × Int)) (j : Nat) (h : j < fs.length) : fs.take (j + 1) = fs.take j ++ [fs.getD j (ByteArray.empty, 0)] := by
  rw [List.take_succ_eq_append_getElem h]
  simp [List.getD, List.getElem?_eq_getElem h]
theorem fs_mem (fs : List (ByteArray × Int)) (j : Nat) (h : j < fs.length) : fs.getD j (ByteArray.empty, 0) ∈ fs := by
  simp only [List.getD, List.getElem?_eq_getElem h, Option.getD_some]
  exact List.getElem_mem h

/-- What stands at the head of a round of May. -/
structure MayAt (wr w2 : World) (Nm : Option Addr) (j cn : Nat) (fs : List (ByteArray × Int)) : Prop where
  own : OwnC 1 wr w2.heap.size 9 Nm j cn (strs ((fs.take j).map (·.1)))
  bel : Below w2.heap.size w2 wr
  names : (fs.take j).all (fun f => nameB f.1) = true

end Go.Proofs.Ytppdljkfhoekpaa.EvWalk

/-
  Contract of the document's answer of layer 4: Norm.
-/
namespace Go.Proofs.Ytppdljkfhoekpaa.EvWalk
open Go.RowKit Go.Proofs.Ytppdljkfhoekpaa.MemRow Go.Proofs.Ytppdljkfhoekpaa.Ev Go.Proofs.Ytppdljkfhoekpaa.NameMath Go.Proofs.Ytppdljkfhoekpaa.NameWalk

/-- Texts in order, each once. -/
def normTags (ss : List ByteArray) : List ByteArray := ss.foldl putL []
/-- The last field with a name. -/
def lastF (fs : List (ByteArray × Int)) (x : ByteArray) : ByteArray × Int := fs.foldl (fun a f => if f.1 = x then f else a) (ByteArray.empty, 0)
def normFs (fs : List (ByteArray × Int)) : List (ByteArray × Int) := (normTags (fs.map (·.1))).map (lastF fs)
/-- An event in order. -/
def normE (e : Ev) : Ev := ⟨e.s, e.t, normTags e.tags, normFs e.fs⟩

theorem normTags_snoc (l : List ByteArray) (x : ByteArray) : normTags (l ++ [x]) = putL (normTags l) x := by simp [normTags, List.foldl_append]
theorem putL_len (l : List ByteArray) (x : ByteArray) : (putL l x).length ≤ l.length + 1 := by
  induction l with
  | nil => simp [putL]
  | cons a l ih =>
    rw [putL]
    split
    · simpa using ih
    · split <;> simp
theorem normTags_len (l : List ByteArray) : (normTags l).length ≤ l.length := by
  suffices h : ∀ (l m : List ByteArray), (l.foldl putL m).length ≤ m.length + l.length by simpa [normTags] using h l []
  intro l
  induction l with
  | nil => intro m; simp
  | cons a l ih =>
    intro m
    have := ih (putL m a)
    have := putL_len m a
    simp only [List.foldl_cons, List.length_cons]
    omega
theorem lastF_snoc (l : List (ByteArray × Int)) (f : ByteArray × Int) (x : ByteArray) : lastF (l ++ [f]) x = if f.1 = x then f else lastF l x := by simp [lastF, List.foldl_append]

/-- What stands between the steps of Norm: the event that came in, the result's cell, the event that is made. -/
structure NormAt (wr w : World) (s t : ByteArray) (va vb vt vf : Value) : Prop where
  ev : EvAt wr w.heap.size (.string s) (.string t) va vb
  res : EvAt wr (w.heap.size + 1) (.string ⟨#[]⟩) (.string ⟨#[]⟩) (.slice none 0 0) (.slice none 0 0)
  out : EvAt wr (w.heap.size + 1 + 1) (.string s) (.string t) vt vf
  bel : Below w.heap.size w wr

variable {wr w w' : World} {s t : ByteArray} {va vb vt vf : Value}
theorem NormAt.lt (h : NormAt wr w s t va vb vt vf) : w.heap.size + 1 + 1 < wr.heap.size := h.out.lt
theorem NormAt.below (h : NormAt wr w s t va vb vt vf) (hb : Below wr.heap.size wr w') : NormAt w' w s t va vb vt vf :=
  ⟨h.ev.below hb h.ev.lt, h.res.below hb h.res.lt, h.out.below hb h.out.lt, below_chain h.bel hb⟩
theorem NormAt.drew (h : NormAt wr w s t va vb vt vf) : NormAt wr.drew w s t va vb vt vf := ⟨h.ev, h.res, h.out, bel_drew h.bel⟩
theorem NormAt.drewN (h : NormAt wr w s t va vb vt vf) (k : Nat) : NormAt (wr.drewN k) w s t va vb vt vf := ⟨h.ev, h.res, h.out, bel_drewN h.bel k⟩

theorem EvAt.set2 {g : Nat} {v0 v1 v2 v3 : Value} (h : EvAt w g v0 v1 v2 v3) (x : Value) : EvAt (w.setCell ⟨g, 2, none⟩ x) g v0 v1 x v3 := by
  unfold EvAt at h ⊢
  simp only [World.setCell, Array.getElem?_modify, h]
  rfl
theorem EvAt.set3 {g : Nat} {v0 v1 v2 v3 : Value} (h : EvAt w g v0 v1 v2 v3) (x : Value) : EvAt (w.setCell ⟨g, 3, none⟩ x) g v0 v1 v2 x := by
  unfold EvAt at h ⊢
  simp only [World.setCell, Array.getElem?_modify, h]
  rfl
theorem EvAt.far {g b i : Nat} {v0 v1 v2 v3 : Value} (h : EvAt w g v0 v1 v2 v3) (hne : g ≠ b) (x : Value) : EvAt (w.setCell ⟨b, i, none⟩ x) g v0 v1 v2 v3 := by
  unfold EvAt at h ⊢
  simp only [World.setCell, Array.getElem?_modify]
  rw [if_neg (fun e => hne e.symm)]
  exact h
theorem EvAt.frozen {g : Nat} {v0 v1 v2 v3 : Value} (h : EvAt w g v0 v1 v2 v3) (i : Nat) : w.frozen? ⟨g, i, none⟩ = false := by
  unfold EvAt at h
  simp [World.frozen?, h]
theorem NormAt.set2 (h : NormAt wr w s t va vb vt vf) (x : Value) : NormAt (wr.setCell ⟨w.heap.size + 1 + 1, 2, none⟩ x) w s t va vb x vf :=
  ⟨h.ev.far (by omega) x, h.res.far (by omega) x, h.out.set2 x, h.bel.setCell (by show w.heap.size ≤ w.heap.size + 1 + 1; omega) x⟩
theorem NormAt.set3 (h : NormAt wr w s t va vb vt vf) (x : Value) : NormAt (wr.setCell ⟨w.heap.size + 1 + 1, 3, none⟩ x) w s t va vb vt x :=
  ⟨h.ev.far (by omega) x, h.res.far (by omega) x, h.out.set3 x, h.bel.setCell (by show w.heap.size ≤ w.heap.size + 1 + 1; omega) x⟩
theorem NormAt.new (w : World) (s t : ByteArray) (va vb : Value) :
    NormAt (((w.alloc (.cells #[.string s, .string t, va, vb] 42)).alloc (.cells #[.string ⟨#[]⟩, .string ⟨#[]⟩, .slice none 0 0, .slice none 0 0] 42)).alloc (.cells #[.string s, .string t, .slice none 0 0, .slice none 0 0] 42)) w s t va vb (.slice none 0 0) (.slice none 0 0) := by
  have e1 := EvAt.new w (.string s) (.string t) va vb
  generalize hw1 : w.alloc (.cells #[.string s, .string t, va, vb] 42) = w1 at *
  have s1 : w1.heap.size = w.heap.size + 1 := by rw [← hw1]; simp
  have b1 : Below w.heap.size w w1 := by rw [← hw1]; exact (Below.refl _ _).alloc (Nat.le_refl _) _
  have e2 := EvAt.new w1 (.string ⟨#[]⟩) (.string ⟨#[]⟩) (.slice none 0 0) (.slice none 0 0)
  have b2 : Below w1.heap.size w1 (w1.alloc (.cells #[.string ⟨#[]⟩, .string ⟨#[]⟩, .slice none 0 0, .slice none 0 0] 42)) := (Below.refl _ _).alloc (Nat.le_refl _) _
  generalize hw2 : w1.alloc (.cells #[.string ⟨#[]⟩, .string ⟨#[]⟩, .slice none 0 0, .slice none 0 0] 42) = w2 at *
  have s2 : w2.heap.size = w.heap.size + 1 + 1 := by rw [← hw2]; simp [s1]
  have e3 := EvAt.new w2 (.string s) (.string t) (.slice none 0 0) (.slice none 0 0)
  have b3 : Below w2.heap.size w2 (w2.alloc (.cells #[.string s, .string t, .slice none 0 0, .slice none 0 0] 42)) := (Below.refl _ _).alloc (Nat.le_refl _) _
  rw [s1] at e2
  rw [s2] at e3
  exact ⟨(e1.below b2 e1.lt).below b3 (by rw [s2]; omega), e2.below b3 (by rw [s2]; omega), e3, below_chain (below_chain b1 b2) b3⟩

theorem cell_far {b o g i : Nat} {v x : Value} (h : w.cell? ⟨b, o, none⟩ = some v) (hne : b ≠ g) : (w.setCell ⟨g, i, none⟩ x).cell? ⟨b, o, none⟩ = some v := by
  rw [World.cell?_setCell_other _ _ _ _ (fun e => hne (by injection e with e1 e2; exact e1.symm))]
  exact h

/-- A row that no store into the made event's cell touches. -/
theorem RdC.off {k : Nat} {A : Option Addr} {n cap : Nat} {cs : List Value} {g i : Nat} (h : RdC k wr A n cap cs) (hne : ∀ a, A = some a → a.block ≠ g) (x : Value) : RdC k (wr.setCell ⟨g, i, none⟩ x) A n cap cs :=
  h.keep fun b o hA j v hc => by
    rw [World.cell?_setCell_other _ _ _ _ (fun e => hne _ hA (by injection e with e1 e2; exact e1.symm))]
    exact hc

theorem EvAt.grown {row : Option Nat} {g : Nat} {v0 v1 v2 v3 : Value} (h : EvAt w g v0 v1 v2 v3) (hg : w.grownBy w' row) (hne : some g ≠ row) : EvAt w' g v0 v1 v2 v3 := (hg.block g h.lt hne).trans h

theorem field_info : (Try.prog.info? 109).map (fun i => (i.zero, i.size, i.bytes)) = some (some (.agg #[.string ⟨#[]⟩, .int .i64 0]), 2, 24) := by kernel_rfl
theorem EvAt.all {g : Nat} {v0 v1 v2 v3 : Value} (h : EvAt w g v0 v1 v2 v3) (x0 x1 x2 x3 : Value) : EvAt ((((w.setCell ⟨g, 0, none⟩ x0).setCell ⟨g, 1, none⟩ x1).setCell ⟨g, 2, none⟩ x2).setCell ⟨g, 3, none⟩ x3) g x0 x1 x2 x3 := by
  unfold EvAt at h ⊢
  simp only [World.setCell, Array.getElem?_modify, h]
  rfl
theorem RdC.all {k : Nat} {A : Option Addr} {n cap : Nat} {cs : List Value} {g : Nat} (h : RdC k wr A n cap cs) (hne : ∀ a, A = some a → a.block ≠ g) (x0 x1 x2 x3 : Value) : RdC k ((((wr.setCell ⟨g, 0, none⟩ x0).setCell ⟨g, 1, none⟩ x1).setCell ⟨g, 2, none⟩ x2).setCell ⟨g, 3, none⟩ x3) A n cap cs :=
  RdC.off (RdC.off (RdC.off (RdC.off h hne x0) hne x1) hne x2) hne x3

/-- A block of the call's own that holds a number with its name. -/
def FldAt (w : World) (g : Nat) (f : ByteArray × Int) : Prop := w.heap[g]? = some (.cells #[.string f.1, .int .i64 f.2] 109 (0, 0))
theorem FldAt.lt {g : Nat} {f : ByteArray × Int} (h : FldAt w g f) : g < w.heap.size := (Array.getElem?_eq_some_iff.1 h).1
theorem FldAt.new (w : World) (f : ByteArray × Int) : FldAt (w.alloc (.cells #[.string f.1, .int .i64 f.2] 109)) w.heap.size f := heap_alloc_new w _
theorem FldAt.c0 {g : Nat} {f : ByteArray × Int} (h : FldAt w g f) : w.cell? ⟨g, 0, none⟩ = some (.string f.1) := by rw [cell_of_row w g 0 _ _ _ h]; rfl
theorem FldAt.c1 {g : Nat} {f : ByteArray × Int} (h : FldAt w g f) : w.cell? ⟨g, 1, none⟩ = some (.int .i64 f.2) := by rw [cell_of_row w g 1 _ _ _ h]; rfl
theorem FldAt.frozen {g : Nat} {f : ByteArray × Int} (h : FldAt w g f) (i : Nat) : w.frozen? ⟨g, i, none⟩ = false := by
  unfold FldAt at h
  simp [World.frozen?, h]

/-- What stands at the head of a round of Norm's last loop. -/
structure OutAt (wr w w4 : World) (s t : ByteArray) (va vb : Value) (T : Option Addr) (nT cT : Nat) (N : Option Addr) (nN cN : Nat) (F : Option Addr) (k cF : Nat) (tg ns : List ByteArray) (fs : List (ByteArray × Int)) : Prop where
  st : NormAt wr w s t va vb (.slice T nT cT) (.slice F k cF)
  own : OwnC 2 wr w4.heap.size 109 F k cF (flds fs)
  T : RdS wr T nT cT tg
  N : RdS wr N nN cN ns
  big : w4.heap.size ≤ wr.heap.size

theorem OutAt.below {w4 : World} {va vb : Value} {T N F : Option Addr} {nT cT nN cN k cF : Nat} {tg ns : List ByteArray} {fs : List (ByteArray × Int)} (h : OutAt wr w w4 s t va vb T nT cT N nN cN F k cF tg ns fs) (hb : Below wr.heap.size wr w') : OutAt w' w w4 s t va vb T nT cT N nN cN F k cF tg ns fs :=
  ⟨h.st.below hb, OwnC.below h.own hb, RdC.below h.T hb, RdC.below h.N hb, Nat.le_trans h.big hb.size⟩
theorem OutAt.drewN {w4 : World} {va vb : Value} {T N F : Option Addr} {nT cT nN cN k cF : Nat} {tg ns : List ByteArray} {fs : List (ByteArray × Int)} (h : OutAt wr w w4 s t va vb T nT cT N nN cN F k cF tg ns fs) (q : Nat) : OutAt (wr.drewN q) w w4 s t va vb T nT cT N nN cN F k cF tg ns fs :=
  ⟨h.st.drewN q, h.own, h.T, h.N, h.big⟩

/-- A store into a younger block of the call's own. -/
theorem OutAt.far {w4 : World} {va vb : Value} {T N F : Option Addr} {nT cT nN cN k cF : Nat} {tg ns : List ByteArray} {fs : List (ByteArray × Int)} (h : OutAt wr w w4 s t va vb T nT cT N nN cN F k cF tg ns fs)
    (hTl : 0 < nT → ∀ a, T = some a → a.block < w4.heap.size) (hNl : 0 < nN → ∀ a, N = some a → a.block < w4.heap.size) (L4 : w.heap.size + 1 + 1 < w4.heap.size)
    {g : Nat} (hg : w4.heap.size ≤ g) (hF : ∀ a, F = some a → a.block < g) (i : Nat) (x : Value) : OutAt (wr.setCell ⟨g, i, none⟩ x) w w4 s t va vb T nT cT N nN cN F k cF tg ns fs := by
  refine ⟨⟨h.st.ev.far (by omega) x, h.st.res.far (by omega) x, h.st.out.far (by omega) x, h.st.bel.setCell (by show w.heap.size ≤ g; omega) x⟩, ?_, ?_, ?_, ?_⟩
  · rcases h.own.2 with ⟨hv, hn⟩ | ⟨g', c, cur, hv, hb, hgg, rest⟩
    · exact ⟨h.own.1, .inl ⟨hv, hn⟩⟩
    · refine ⟨h.own.1, .inr ⟨g', c, cur, hv, hb, ?_, rest⟩⟩
      injection hv with e1 e2 e3
      have := hF _ e1
      simp only [World.setCell, Array.getElem?_modify]
      rw [if_neg (by simp only at this; omega)]
      exact hgg
  · exact RdC.keepN h.T fun h0 b o e j v hc => cell_far hc (by have : b < w4.heap.size := hTl h0 ⟨b, o, none⟩ e; omega)
  · exact RdC.keepN h.N fun h0 b o e j v hc => cell_far hc (by have : b < w4.heap.size := hNl h0 ⟨b, o, none⟩ e; omega)
  · have := h.big
    simpa [World.setCell] using this
theorem FldAt.set {g : Nat} {f : ByteArray × Int} (h : FldAt w g f) (xn : ByteArray) (xz : Int) : FldAt ((w.setCell ⟨g, 0, none⟩ (.string xn)).setCell ⟨g, 1, none⟩ (.int .i64 xz)) g (xn, xz) := by
  unfold FldAt at h ⊢
  simp only [World.setCell, Array.getElem?_modify, h]
  rfl

/-- Behind the append, and the store into the made event. -/
theorem OutAt.next {w4 : World} {va vb : Value} {T N F F' : Option Addr} {nT cT nN cN k cF cF' : Nat} {tg ns : List ByteArray} {fs fs' : List (ByteArray × Int)} (h : OutAt wr w w4 s t va vb T nT cT N nN cN F k cF tg ns fs)
    (hTl : 0 < nT → ∀ a, T = some a → a.block < w4.heap.size) (hNl : 0 < nN → ∀ a, N = some a → a.block < w4.heap.size) (hTf : ∀ a, T = some a → w.heap.size + 3 ≤ a.block) (hNf : ∀ a, N = some a → w.heap.size + 3 ≤ a.block) (L4 : w.heap.size + 1 + 1 < w4.heap.size)
    (ho : OwnC 2 w' w4.heap.size 109 F' (k + 1) cF' (flds fs')) (hg : wr.grownBy w' (F.map (·.block))) :
    w'.frozen? ⟨w.heap.size + 1 + 1, 3, none⟩ = false ∧ w'.cell? ⟨w.heap.size + 1 + 1, 3, none⟩ = some (.slice F k cF) ∧
    OutAt (w'.setCell ⟨w.heap.size + 1 + 1, 3, none⟩ (.slice F' (k + 1) cF')) w w4 s t va vb T nT cT N nN cN F' (k + 1) cF' tg ns fs' := by
  have hF : ∀ g, g < w4.heap.size → some g ≠ F.map (·.block) := by
    intro g hlt e
    cases F with
    | none => simp at e
    | some a =>
      simp only [Option.map_some, Option.some.injEq] at e
      have := (OwnC.lt h.own a rfl).1
      omega
  have s1 : NormAt w' w s t va vb (.slice T nT cT) (.slice F k cF) :=
    ⟨h.st.ev.grown hg (hF _ (by omega)), h.st.res.grown hg (hF _ (by omega)), h.st.out.grown hg (hF _ L4), h.st.bel.grown hg h.st.bel.size (fun g hg' => by
      cases F with
      | none => simp at hg'
      | some a =>
        simp only [Option.map_some, Option.some.injEq] at hg'
        have := (OwnC.lt h.own a rfl).1
        omega)⟩
  have t1 : RdS w' T nT cT tg := RdC.keepN h.T fun h0 b o e i v hc => hg.cell hc (hF _ (hTl h0 ⟨b, o, none⟩ e))
  have n1 : RdS w' N nN cN ns := RdC.keepN h.N fun h0 b o e i v hc => hg.cell hc (hF _ (hNl h0 ⟨b, o, none⟩ e))
  refine ⟨s1.out.frozen 3, s1.out.c3, s1.set3 _, ?_, ?_, ?_, ?_⟩
  · rcases ho.2 with ⟨hv, hn⟩ | ⟨g, c, cur, hv, hb, hgg, rest⟩
    · exact ⟨ho.1, .inl ⟨hv, hn⟩⟩
    · refine ⟨ho.1, .inr ⟨g, c, cur, hv, hb, ?_, rest⟩⟩
      simp only [World.setCell, Array.getElem?_modify]
      rw [if_neg (by omega)]
      exact hgg
  · exact RdC.keepN t1 fun h0 b o e i v hc => cell_far hc (by have : w.heap.size + 3 ≤ b := hTf ⟨b, o, none⟩ e; omega)
  · exact RdC.keepN n1 fun h0 b o e i v hc => cell_far hc (by have : w.heap.size + 3 ≤ b := hNf ⟨b, o, none⟩ e; omega)
  · have := hg.size
    have := h.big
    show w4.heap.size ≤ (w'.setCell _ _).heap.size
    simp [World.setCell]
    omega



end Go.Proofs.Ytppdljkfhoekpaa.EvWalk

/-
  Mathematics of layer 4: the order of texts, what is put in order, events that may be. No walk here.
-/
namespace Go.Proofs.Ytppdljkfhoekpaa.EvWalk
open Go.RowKit Go.Proofs.Ytppdljkfhoekpaa.MemRow Go.Proofs.Ytppdljkfhoekpaa.Ev Go.Proofs.Ytppdljkfhoekpaa.NameMath Go.Proofs.Ytppdljkfhoekpaa.NameWalk

theorem less_eq (a b : ByteArray) : less a b = decide (a.data.toList < b.data.toList) := by
  unfold less
  rw [Go.Proofs.bytesLess_eq, ByteArray.toList_eq, ByteArray.toList_eq]
theorem less_irrefl (a : ByteArray) : less a a = false := by
  rw [less_eq]
  exact decide_eq_false (List.lt_irrefl _)
theorem less_trans {a b c : ByteArray} (h1 : less a b = true) (h2 : less b c = true) : less a c = true := by
  rw [less_eq] at *
  exact decide_eq_true (List.lt_trans (of_decide_eq_true h1) (of_decide_eq_true h2))
theorem less_tri {a b : ByteArray} (h1 : less a b = false) (h2 : a ≠ b) : less b a = true := by
  rw [less_eq] at *
  refine decide_eq_true ?_
  have h3 : ¬ a.data.toList < b.data.toList := of_decide_eq_false h1
  rcases List.le_iff_lt_or_eq.1 (List.not_lt.1 h3) with h | h
  · exact h
  · exact absurd (ba_ext h.symm) h2
theorem less_ne {a b : ByteArray} (h : less a b = true) : a ≠ b := by
  rintro rfl
  rw [less_irrefl] at h
  cases h

/-- Each text is ahead of all behind it. -/
def Up (l : List ByteArray) : Prop := l.Pairwise fun a b => less a b = true

theorem rise_up : ∀ (l : List ByteArray), riseB l = true ↔ Up l
  | [] => by simp [riseB, Up]
  | [a] => by simp [riseB, Up]
  | a :: b :: l => by
    have ih := rise_up (b :: l)
    unfold Up at ih ⊢
    rw [riseB, Bool.and_eq_true, ih]
    constructor
    · rintro ⟨h1, h2⟩
      refine List.pairwise_cons.2 ⟨fun x hx => ?_, h2⟩
      rcases List.mem_cons.1 hx with rfl | hx
      · exact h1
      · exact less_trans h1 ((List.pairwise_cons.1 h2).1 x hx)
    · intro h
      have h3 := List.pairwise_cons.1 h
      exact ⟨h3.1 b (by simp), h3.2⟩

theorem putL_mem (l : List ByteArray) (s x : ByteArray) : x ∈ putL l s ↔ x = s ∨ x ∈ l := by
  induction l with
  | nil => simp [putL]
  | cons a l ih =>
    rw [putL]
    split
    · rw [List.mem_cons, ih, List.mem_cons]
      constructor
      · rintro (h | h | h) <;> simp [h]
      · rintro (h | h | h) <;> simp [h]
    · split
      · next h => subst h; simp
      · simp

theorem putL_up {l : List ByteArray} (h : Up l) (s : ByteArray) : Up (putL l s) := by
  induction l with
  | nil => simp [putL, Up]
  | cons a l ih =>
    have h1 := List.pairwise_cons.1 h
    rw [putL]
    split
    · next hl =>
      refine List.pairwise_cons.2 ⟨fun x hx => ?_, ih h1.2⟩
      rcases (putL_mem l s x).1 hx with rfl | hx
      · exact hl
      · exact h1.1 x hx
    · next hl =>
      split
      · exact h
      · next hne =>
        have hs : less s a = true := less_tri (by simpa using hl) hne
        refine List.pairwise_cons.2 ⟨fun x hx => ?_, h⟩
        rcases List.mem_cons.1 hx with rfl | hx
        · exact hs
        · exact less_trans hs (h1.1 x hx)

theorem foldl_up (l m : List ByteArray) (h : Up m) : Up (l.foldl putL m) := by
  induction l generalizing m with
  | nil => exact h
  | cons a l ih => exact ih _ (putL_up h a)
theorem normTags_up (l : List ByteArray) : Up (normTags l) := foldl_up l [] (by simp [Up])
theorem foldl_mem (l m : List ByteArray) (x : ByteArray) : x ∈ l.foldl putL m ↔ x ∈ l ∨ x ∈ m := by
  induction l generalizing m with
  | nil => simp
  | cons a l ih =>
    rw [List.foldl_cons, ih, putL_mem, List.mem_cons]
    constructor
    · rintro (h | h | h) <;> simp [h]
    · rintro ((h | h) | h) <;> simp [h]
theorem normTags_mem (l : List ByteArray) (x : ByteArray) : x ∈ normTags l ↔ x ∈ l := by
  unfold normTags
  rw [foldl_mem]
  simp

/-- Texts in order that have the same elements are the same. -/
theorem up_ext : ∀ {l m : List ByteArray}, Up l → Up m → (∀ x, x ∈ l ↔ x ∈ m) → l = m
  | [], [], _, _, _ => rfl
  | [], b :: m, _, _, h => by have := (h b).2 (by simp); simp at this
  | a :: l, [], _, _, h => by have := (h a).1 (by simp); simp at this
  | a :: l, b :: m, hl, hm, h => by
    have hl1 := List.pairwise_cons.1 hl
    have hm1 := List.pairwise_cons.1 hm
    have hab : a = b := by
      by_cases e : a = b
      · exact e
      · have h1 : b ∈ l := by
          rcases List.mem_cons.1 ((h b).2 (by simp)) with e2 | h2
          · exact absurd e2.symm e
          · exact h2
        have h2 : a ∈ m := by
          rcases List.mem_cons.1 ((h a).1 (by simp)) with e2 | h2
          · exact absurd e2 e
          · exact h2
        have h3 := less_trans (hl1.1 b h1) (hm1.1 a h2)
        rw [less_irrefl] at h3
        cases h3
    subst hab
    congr 1
    refine up_ext hl1.2 hm1.2 fun x => ?_
    have hx := h x
    simp only [List.mem_cons] at hx
    constructor
    · intro hxl
      rcases hx.1 (.inr hxl) with e | h4
      · subst e
        have := hl1.1 x hxl
        rw [less_irrefl] at this
        cases this
      · exact h4
    · intro hxm
      rcases hx.2 (.inr hxm) with e | h4
      · subst e
        have := hm1.1 x hxm
        rw [less_irrefl] at this
        cases this
      · exact h4

/-- What is in order stays so. -/
theorem normTags_self {l : List ByteArray} (h : Up l) : normTags l = l := up_ext (normTags_up l) h (normTags_mem l)
theorem normTags_same {l m : List ByteArray} (h : ∀ x, x ∈ l ↔ x ∈ m) : normTags l = normTags m :=
  up_ext (normTags_up l) (normTags_up m) fun x => by rw [normTags_mem, normTags_mem, h]

theorem up_sub {l m : List ByteArray} (h : Up m) (hs : l.Sublist m) : Up l := List.Pairwise.sublist hs h

/-! ### Fields -/
theorem lastF_name (fs : List (ByteArray × Int)) (x : ByteArray) (h : x ∈ fs.map (·.1)) : (lastF fs x).1 = x := by
  suffices g : ∀ (fs : List (ByteArray × Int)) (a : ByteArray × Int), (a.1 = x ∨ x ∈ fs.map (·.1)) → (fs.foldl (fun a f => if f.1 = x then f else a) a).1 = x from g fs _ (.inr h)
  intro fs
  induction fs with
  | nil =>
    rintro a (h | h)
    · exact h
    · simp at h
  | cons f fs ih =>
    intro a h
    rw [List.foldl_cons]
    by_cases e : f.1 = x
    · rw [if_pos e]
      exact ih f (.inl e)
    · rw [if_neg e]
      refine ih a ?_
      rcases h with h | h
      · exact .inl h
      · right
        simp only [List.map_cons, List.mem_cons] at h
        rcases h with h | h
        · exact absurd h.symm e
        · exact h
theorem normFs_names (fs : List (ByteArray × Int)) : (normFs fs).map (·.1) = normTags (fs.map (·.1)) := by
  unfold normFs
  rw [List.map_map]
  conv => rhs; rw [← List.map_id (normTags (fs.map (·.1)))]
  refine List.map_congr_left fun x hx => ?_
  exact lastF_name fs x ((normTags_mem _ x).1 hx)

/-- With names in order each field is the last one with its name. -/
theorem lastF_self {fs : List (ByteArray × Int)} (h : Up (fs.map (·.1))) : (fs.map (·.1)).map (lastF fs) = fs := by
  suffices g : ∀ (pre fs : List (ByteArray × Int)), Up ((pre ++ fs).map (·.1)) → (fs.map (·.1)).map (lastF (pre ++ fs)) = fs by simpa using g [] fs (by simpa using h)
  intro pre fs
  induction fs generalizing pre with
  | nil => intro _; rfl
  | cons f fs ih =>
    intro hu
    have e : pre ++ f :: fs = (pre ++ [f]) ++ fs := by simp
    have h1 := ih (pre ++ [f]) (by rw [← e]; exact hu)
    rw [← e] at h1
    rw [List.map_cons, List.map_cons, h1]
    congr 1
    have hn : ∀ g ∈ fs, g.1 ≠ f.1 := by
      intro g hg
      have h2 : Up ((f :: fs).map (·.1)) := up_sub hu (by simp)
      have h3 := (List.pairwise_cons.1 h2).1 g.1 (List.mem_map_of_mem hg)
      exact fun e => less_ne h3 e.symm
    have hk : ∀ (l : List (ByteArray × Int)) (a : ByteArray × Int), (∀ g ∈ l, g.1 ≠ f.1) → l.foldl (fun a g => if g.1 = f.1 then g else a) a = a := by
      intro l
      induction l with
      | nil => intro a _; rfl
      | cons g l ih2 =>
        intro a hl
        rw [List.foldl_cons, if_neg (hl g (by simp))]
        exact ih2 a fun g hg => hl g (by simp [hg])
    unfold lastF
    rw [List.foldl_append, List.foldl_cons, if_pos rfl]
    exact hk fs f hn
theorem normFs_self {fs : List (ByteArray × Int)} (h : Up (fs.map (·.1))) : normFs fs = fs := by
  unfold normFs
  rw [normTags_self h, lastF_self h]
theorem normFs_up (fs : List (ByteArray × Int)) : Up ((normFs fs).map (·.1)) := by
  rw [normFs_names]
  exact normTags_up _

theorem normE_norm (e : Ev) : normE (normE e) = normE e := by
  unfold normE
  simp only
  rw [normTags_self (normTags_up _), normFs_self (normFs_up _)]
theorem normE_tags {e : Ev} {ts : List ByteArray} (h : ∀ x, x ∈ ts ↔ x ∈ e.tags) : normE ⟨e.s, e.t, ts, e.fs⟩ = normE e := by
  unfold normE
  simp only
  rw [normTags_same h]

/-- What it is for an event to be one that may be. -/
theorem mayE_zero (e : Ev) : mayE e = 0 ↔ nameB e.s = true ∧ nameB e.t = true ∧ e.tags.length ≤ 6 ∧ e.fs.length ≤ 4 ∧ (e.fs.all fun f => nameB f.1) = true ∧ e.tags.all tagB = true ∧ e.fs.all fitB = true ∧ Up e.tags ∧ Up (e.fs.map (·.1)) := by
  rw [← rise_up, ← rise_up]
  unfold mayE
  by_cases h1 : (nameB e.s && nameB e.t) = false
  · rw [if_pos h1]
    simp only [Bool.and_eq_false_iff] at h1
    constructor
    · intro h; omega
    · rintro ⟨a, b, _⟩
      rcases h1 with h1 | h1
      · rw [a] at h1; cases h1
      · rw [b] at h1; cases h1
  · rw [if_neg h1]
    simp only [Bool.not_eq_false, Bool.and_eq_true] at h1
    by_cases h2 : 6 < e.tags.length ∨ 4 < e.fs.length
    · rw [if_pos h2]
      constructor
      · intro h; omega
      · rintro ⟨_, _, a, b, _⟩; omega
    · rw [if_neg h2]
      by_cases h3 : ((e.fs.all fun f => nameB f.1) && e.tags.all tagB) = false
      · rw [if_pos h3]
        constructor
        · intro h; omega
        · rintro ⟨_, _, _, _, a, b, _⟩
          rw [a, b] at h3
          cases h3
      · rw [if_neg h3]
        simp only [Bool.not_eq_false, Bool.and_eq_true] at h3
        by_cases h4 : (e.fs.all fitB && (riseB e.tags && riseB (e.fs.map (·.1)))) = false
        · rw [if_pos h4]
          constructor
          · intro h; omega
          · rintro ⟨_, _, _, _, _, _, a, b, c⟩
            rw [a, b, c] at h4
            cases h4
        · rw [if_neg h4]
          simp only [Bool.not_eq_false, Bool.and_eq_true] at h4
          refine ⟨fun _ => ⟨h1.1, h1.2, by omega, by omega, h3.1, h3.2, h4.1, h4.2.1, h4.2.2⟩, fun _ => rfl⟩

/-- An event that may be is in order. -/
theorem normE_may {e : Ev} (h : mayE e = 0) : normE e = e := by
  obtain ⟨_, _, _, _, _, _, _, h1, h2⟩ := (mayE_zero e).1 h
  unfold normE
  rw [normTags_self h1, normFs_self h2]

/-- The value of a field whose name stands once. -/
theorem value_up {fs : List (ByteArray × Int)} (h : Up (fs.map (·.1))) {f : ByteArray × Int} (hf : f ∈ fs) : valueF fs f.1 = (f.2, true) := by
  induction fs with
  | nil => simp at hf
  | cons g fs ih =>
    have h1 := List.pairwise_cons.1 h
    rw [valueF]
    rcases List.mem_cons.1 hf with rfl | hf
    · rw [if_pos rfl]
    · have h2 := less_ne (h1.1 f.1 (List.mem_map_of_mem hf))
      rw [if_neg h2]
      exact ih h1.2 hf
theorem value_none {fs : List (ByteArray × Int)} {x : ByteArray} (h : x ∉ fs.map (·.1)) : valueF fs x = (0, false) := by
  induction fs with
  | nil => rfl
  | cons g fs ih =>
    simp only [List.map_cons, List.mem_cons, not_or] at h
    rw [valueF, if_neg (fun e => h.1 e.symm)]
    exact ih h.2

theorem hasB_norm (e : Ev) (x : ByteArray) : hasB (normE e).tags x = hasB e.tags x := by
  rw [Bool.eq_iff_iff, hasB_mem, hasB_mem]
  exact normTags_mem _ _

theorem lastF_mem (fs : List (ByteArray × Int)) (x : ByteArray) (h : x ∈ fs.map (·.1)) : lastF fs x ∈ fs := by
  suffices g : ∀ (fs : List (ByteArray × Int)) (a : ByteArray × Int), (x ∈ fs.map (·.1)) → (fs.foldl (fun a f => if f.1 = x then f else a) a) ∈ fs from g fs _ h
  intro fs
  induction fs with
  | nil => intro a h; simp at h
  | cons f fs ih =>
    intro a h
    rw [List.foldl_cons]
    by_cases hx : x ∈ fs.map (·.1)
    · exact List.mem_cons_of_mem _ (ih _ hx)
    · have hk : ∀ (l : List (ByteArray × Int)) (b : ByteArray × Int), x ∉ l.map (·.1) → l.foldl (fun a g => if g.1 = x then g else a) b = b := by
        intro l
        induction l with
        | nil => intro b _; rfl
        | cons g l ih2 =>
          intro b hl
          simp only [List.map_cons, List.mem_cons, not_or] at hl
          rw [List.foldl_cons, if_neg (fun e => hl.1 e.symm)]
          exact ih2 b hl.2
      rw [hk fs _ hx]
      simp only [List.map_cons, List.mem_cons] at h
      rcases h with h | h
      · rw [if_pos h.symm]; simp
      · exact absurd h hx
theorem normFs_mem {fs : List (ByteArray × Int)} {f : ByteArray × Int} (h : f ∈ normFs fs) : f ∈ fs := by
  unfold normFs at h
  obtain ⟨x, hx, rfl⟩ := List.mem_map.1 h
  exact lastF_mem fs x ((normTags_mem _ x).1 hx)
theorem normFs_len (fs : List (ByteArray × Int)) : (normFs fs).length ≤ fs.length := by
  unfold normFs
  rw [List.length_map]
  have := normTags_len (fs.map (·.1))
  rwa [List.length_map] at this

/-- What comes of an event whose order alone, or whose numbers, are not as they should be. -/
theorem mayE_norm {e : Ev} (h : mayE e = 1) : mayE (normE e) = 0 ∨ mayE (normE e) = 1 := by
  have hl1 := normTags_len e.tags
  have hl2 := normFs_len e.fs
  show mayE ⟨e.s, e.t, normTags e.tags, normFs e.fs⟩ = 0 ∨ mayE ⟨e.s, e.t, normTags e.tags, normFs e.fs⟩ = 1
  unfold mayE at h ⊢
  simp only at h ⊢
  by_cases h1 : (nameB e.s && nameB e.t) = false
  · rw [if_pos h1] at h; omega
  rw [if_neg h1] at h ⊢
  by_cases h2 : 6 < e.tags.length ∨ 4 < e.fs.length
  · rw [if_pos h2] at h; omega
  rw [if_neg h2] at h
  rw [if_neg (by omega)]
  by_cases h3 : ((e.fs.all fun f => nameB f.1) && e.tags.all tagB) = false
  · rw [if_pos h3] at h; omega
  simp only [Bool.not_eq_false, Bool.and_eq_true, List.all_eq_true] at h3
  have h4 : (((normFs e.fs).all fun f => nameB f.1) && (normTags e.tags).all tagB) = true := by
    rw [Bool.and_eq_true, List.all_eq_true, List.all_eq_true]
    exact ⟨fun f hf => h3.1 f (normFs_mem hf), fun x hx => h3.2 x ((normTags_mem _ x).1 hx)⟩
  rw [h4, if_neg (by decide)]
  split
  · exact .inr rfl
  · exact .inl rfl

/-! ### Without one, with one twice -/
theorem up_without {l : List ByteArray} (h : Up l) (i : Nat) : Up (l.take i ++ l.drop (i + 1)) := by
  refine up_sub h ?_
  conv => rhs; rw [← List.take_append_drop i l]
  exact List.Sublist.append (List.Sublist.refl _) (by rw [show l.drop (i + 1) = (l.drop i).drop 1 by rw [List.drop_drop]]; exact List.drop_sublist _ _)
theorem mem_without {α : Type} {l : List α} {i : Nat} {x : α} (h : x ∈ l.take i ++ l.drop (i + 1)) : x ∈ l := by
  rcases List.mem_append.1 h with h | h
  · exact List.mem_of_mem_take h
  · exact List.mem_of_mem_drop h
theorem up_not {l : List ByteArray} (h : Up l) {i : Nat} (hi : i < l.length) : l.getD i ByteArray.empty ∉ l.take i ++ l.drop (i + 1) := by
  have e : l = l.take i ++ l.getD i ByteArray.empty :: l.drop (i + 1) := by
    conv => lhs; rw [← List.take_append_drop i l, List.drop_eq_getElem_cons hi]
    simp [List.getD, List.getElem?_eq_getElem hi]
  rw [e] at h
  have h1 := List.pairwise_append.1 h
  have h2 := List.pairwise_cons.1 h1.2.1
  intro hm
  rcases List.mem_append.1 hm with hm | hm
  · exact less_ne (h1.2.2 _ hm _ (by simp)) rfl
  · exact less_ne (h2.1 _ hm) rfl
theorem up_twice {l : List ByteArray} {i : Nat} (hi : i < l.length) : ¬ Up (l.take (i + 1) ++ l.drop i) := by
  intro h
  have h1 := List.pairwise_append.1 h
  have ha : l[i] ∈ l.take (i + 1) := by rw [List.take_succ_eq_append_getElem hi]; exact List.mem_append.2 (.inr (List.mem_singleton.2 rfl))
  have hb : l[i] ∈ l.drop i := by rw [List.drop_eq_getElem_cons hi]; exact List.mem_cons_self
  exact less_ne (h1.2.2 _ ha _ hb) rfl

/-- Without one of its tags. -/
theorem mayE_less {e : Ev} (h : mayE e = 0) (i : Nat) : mayE ⟨e.s, e.t, e.tags.take i ++ e.tags.drop (i + 1), e.fs⟩ = 0 := by
  obtain ⟨h1, h2, h3, h4, h5, h6, h7, h8, h9⟩ := (mayE_zero e).1 h
  refine (mayE_zero _).2 ⟨h1, h2, ?_, h4, h5, ?_, h7, up_without h8 i, h9⟩
  · simp only [List.length_append, List.length_take, List.length_drop]; omega
  · rw [List.all_eq_true] at h6 ⊢
    exact fun x hx => h6 x (mem_without hx)
/-- With one of its tags twice. -/
theorem mayE_more {e : Ev} {i : Nat} (hi : i < e.tags.length) : mayE ⟨e.s, e.t, e.tags.take (i + 1) ++ e.tags.drop i, e.fs⟩ ≠ 0 :=
  fun h => up_twice hi ((mayE_zero _).1 h).2.2.2.2.2.2.2.1
/-- Without one of its fields. -/
theorem mayE_lessF {e : Ev} (h : mayE e = 0) (k : Nat) : mayE ⟨e.s, e.t, e.tags, e.fs.take k ++ e.fs.drop (k + 1)⟩ = 0 := by
  obtain ⟨h1, h2, h3, h4, h5, h6, h7, h8, h9⟩ := (mayE_zero e).1 h
  refine (mayE_zero _).2 ⟨h1, h2, h3, ?_, ?_, h6, ?_, h8, ?_⟩
  · simp only [List.length_append, List.length_take, List.length_drop]; omega
  · rw [List.all_eq_true] at h5 ⊢
    exact fun x hx => h5 x (mem_without hx)
  · rw [List.all_eq_true] at h7 ⊢
    exact fun x hx => h7 x (mem_without hx)
  · simp only [List.map_append, List.map_take, List.map_drop]
    exact up_without h9 k

end Go.Proofs.Ytppdljkfhoekpaa.EvWalk

/-
  Mathematics of layer 13: rising rows of numbers as sets. No walk here.
-/
namespace Go.Proofs.Ytppdljkfhoekpaa.PoWalk
open Go.RowKit

def Inc (l : List Int) : Prop := l.Pairwise (· < ·)
theorem Inc.nil : Inc [] := List.Pairwise.nil
theorem Inc.nodup {l : List Int} (h : Inc l) : l.Nodup := h.imp (fun h => by omega)
theorem Inc.sub {l m : List Int} (h : Inc m) (hs : l.Sublist m) : Inc l := h.sublist hs
/-- Rising rows with the same numbers are the same. -/
theorem inc_ext : ∀ {l m : List Int}, Inc l → Inc m → (∀ x, x ∈ l ↔ x ∈ m) → l = m
  | [], [], _, _, _ => rfl
  | [], y :: m, _, _, h => by have := (h y).2 (by simp); cases this
  | x :: l, [], _, _, h => by have := (h x).1 (by simp); cases this
  | x :: l, y :: m, hl, hm, h => by
    obtain ⟨hx, hl'⟩ := List.pairwise_cons.1 hl
    obtain ⟨hy, hm'⟩ := List.pairwise_cons.1 hm
    have e : x = y := by
      rcases List.mem_cons.1 ((h x).1 (by simp)) with e | e
      · exact e
      · rcases List.mem_cons.1 ((h y).2 (by simp)) with e2 | e2
        · exact e2.symm
        · have := hx y e2
          have := hy x e
          omega
    subst e
    congr 1
    refine inc_ext hl' hm' fun z => ?_
    constructor
    · intro hz
      rcases List.mem_cons.1 ((h z).1 (List.mem_cons_of_mem _ hz)) with e | e
      · have := hx z hz; omega
      · exact e
    · intro hz
      rcases List.mem_cons.1 ((h z).2 (List.mem_cons_of_mem _ hz)) with e | e
      · have := hy z hz; omega
      · exact e
def bothF (a b : List Int) : List Int := a.filter fun x => decide (x ∈ b)
theorem both_mem {a b : List Int} {x : Int} : x ∈ bothF a b ↔ x ∈ a ∧ x ∈ b := by unfold bothF; rw [List.mem_filter]; simp
theorem both_inc {a : List Int} (h : Inc a) (b : List Int) : Inc (bothF a b) := h.sub List.filter_sublist
theorem both_len (a b : List Int) : (bothF a b).length ≤ a.length := List.length_filter_le _ _
/-- A number is laid into a rising row. -/
def insI (x : Int) : List Int → List Int
  | [] => [x]
  | y :: l => if x < y then x :: y :: l else if x = y then y :: l else y :: insI x l
theorem ins_mem (x : Int) : ∀ (l : List Int) (z : Int), z ∈ insI x l ↔ z = x ∨ z ∈ l
  | [], z => by simp [insI]
  | y :: l, z => by
    unfold insI
    by_cases h1 : x < y
    · rw [if_pos h1]; simp
    · rw [if_neg h1]
      by_cases h2 : x = y
      · rw [if_pos h2]
        subst h2
        simp
      · rw [if_neg h2, List.mem_cons, ins_mem x l z, List.mem_cons]
        constructor
        · rintro (h | h | h)
          · exact .inr (.inl h)
          · exact .inl h
          · exact .inr (.inr h)
        · rintro (h | h | h)
          · exact .inr (.inl h)
          · exact .inl h
          · exact .inr (.inr h)
theorem ins_inc (x : Int) : ∀ {l : List Int}, Inc l → Inc (insI x l)
  | [], _ => by simp [insI, Inc]
  | y :: l, h => by
    obtain ⟨hy, hl⟩ := List.pairwise_cons.1 h
    unfold insI
    by_cases h1 : x < y
    · rw [if_pos h1]
      refine List.pairwise_cons.2 ⟨fun z hz => ?_, h⟩
      rcases List.mem_cons.1 hz with rfl | hz
      · exact h1
      · have := hy z hz; omega
    · rw [if_neg h1]
      by_cases h2 : x = y
      · rw [if_pos h2]; exact h
      · rw [if_neg h2]
        refine List.pairwise_cons.2 ⟨fun z hz => ?_, ins_inc x hl⟩
        rcases (ins_mem x l z).1 hz with rfl | hz
        · omega
        · exact hy z hz
def eitherF (a b : List Int) : List Int := a.foldr insI b
theorem either_mem {a b : List Int} {x : Int} : x ∈ eitherF a b ↔ x ∈ a ∨ x ∈ b := by
  induction a with
  | nil => simp [eitherF]
  | cons y a ih =>
    show x ∈ insI y (eitherF a b) ↔ _
    rw [ins_mem, ih, List.mem_cons, or_assoc]
theorem either_inc (a : List Int) {b : List Int} (h : Inc b) : Inc (eitherF a b) := by
  induction a with
  | nil => exact h
  | cons y a ih => exact ins_inc y ih
theorem ins_has {x : Int} {l : List Int} (h : Inc l) (hx : x ∈ l) : insI x l = l := inc_ext (ins_inc x h) h fun z => by
  rw [ins_mem]
  constructor
  · rintro (rfl | h)
    · exact hx
    · exact h
  · exact .inr
theorem ins_len (x : Int) : ∀ (l : List Int), x ∉ l → (insI x l).length = l.length + 1
  | [], _ => rfl
  | y :: l, h => by
    unfold insI
    by_cases h1 : x < y
    · rw [if_pos h1]; rfl
    · rw [if_neg h1, if_neg (fun e => h (by rw [e]; simp)), List.length_cons, ins_len x l (fun e => h (List.mem_cons_of_mem _ e)), List.length_cons]
theorem both_either {a b : List Int} (ha : Inc a) (hb : Inc b) : (bothF a b).length + (eitherF a b).length = a.length + b.length := by
  induction a with
  | nil => simp [bothF, eitherF]
  | cons x a ih =>
    obtain ⟨hx, ha'⟩ := List.pairwise_cons.1 ha
    have h1 := ih ha'
    have hn : x ∉ a := fun h => by have := hx x h; omega
    have e2 : eitherF (x :: a) b = insI x (eitherF a b) := rfl
    by_cases hxb : x ∈ b
    · have e1 : bothF (x :: a) b = x :: bothF a b := by unfold bothF; rw [List.filter_cons_of_pos (by simpa using hxb)]
      rw [e1, e2, ins_has (either_inc a hb) (either_mem.2 (.inr hxb)), List.length_cons, List.length_cons]
      omega
    · have e1 : bothF (x :: a) b = bothF a b := by unfold bothF; rw [List.filter_cons_of_neg (by simpa using hxb)]
      rw [e1, e2, ins_len x _ (fun h => (either_mem.1 h).elim hn hxb), List.length_cons]
      omega
theorem either_len {a b : List Int} (ha : Inc a) (hb : Inc b) : (eitherF a b).length ≤ a.length + b.length := by have := both_either ha hb; omega
theorem both_comm {a b : List Int} (ha : Inc a) (hb : Inc b) : bothF b a = bothF a b := inc_ext (both_inc hb a) (both_inc ha b) fun x => by rw [both_mem, both_mem]; exact And.comm
theorem either_comm {a b : List Int} (ha : Inc a) (hb : Inc b) : eitherF b a = eitherF a b := inc_ext (either_inc b ha) (either_inc a hb) fun x => by rw [either_mem, either_mem]; exact Or.comm
theorem both_self {a : List Int} (ha : Inc a) : bothF a a = a := inc_ext (both_inc ha a) ha fun x => by rw [both_mem]; simp
theorem both_assoc {a b c : List Int} (ha : Inc a) : bothF (bothF a b) c = bothF a (bothF b c) := inc_ext (both_inc (both_inc ha b) c) (both_inc ha _) fun x => by rw [both_mem, both_mem, both_mem, both_mem, and_assoc]
theorem either_assoc {a b c : List Int} (hc : Inc c) : eitherF (eitherF a b) c = eitherF a (eitherF b c) := inc_ext (either_inc _ hc) (either_inc a (either_inc b hc)) fun x => by rw [either_mem, either_mem, either_mem, either_mem, or_assoc]
theorem both_dist {a b c : List Int} (ha : Inc a) : bothF a (eitherF b c) = eitherF (bothF a b) (bothF a c) := inc_ext (both_inc ha _) (either_inc _ (both_inc ha c)) fun x => by rw [both_mem, either_mem, either_mem, both_mem, both_mem, and_or_left]
theorem either_abs {a b : List Int} (ha : Inc a) : eitherF a (bothF a b) = a := inc_ext (either_inc a (both_inc ha b)) ha fun x => by
  rw [either_mem, both_mem]
  constructor
  · rintro (h | h)
    · exact h
    · exact h.1
  · exact .inl

/-! ### The document's Either, as it reckons -/
def lowF (b : List Int) (i : Nat) (x : Int) : Bool := decide (i = 0 ∨ b.getD (i - 1) 0 < x)
def stepF (a b : List Int) (i : Nat) : List Int := (a.filter fun x => decide (x < b.getD i 0) && lowF b i x) ++ [b.getD i 0]
def outF (a b : List Int) : Nat → List Int
  | 0 => []
  | i + 1 => outF a b i ++ stepF a b i
def refE (a b : List Int) : List Int := outF a b b.length ++ a.filter fun x => decide (b.length = 0 ∨ b.getD (b.length - 1) 0 < x)
theorem getI_mem {b : List Int} {i : Nat} (h : i < b.length) : b.getD i 0 ∈ b := by
  simp only [List.getD, List.getElem?_eq_getElem h, Option.getD_some]
  exact List.getElem_mem h
theorem inc_lt {b : List Int} (h : Inc b) {i j : Nat} (hij : i < j) (hj : j < b.length) : b.getD i 0 < b.getD j 0 := by
  have h1 := List.pairwise_iff_getElem.1 h i j (by omega) hj hij
  simpa [List.getD, List.getElem?_eq_getElem hj, List.getElem?_eq_getElem (show i < b.length by omega)] using h1
theorem out_all {a b : List Int} (ha : Inc a) (hb : Inc b) : ∀ i, i ≤ b.length → Inc (outF a b i) ∧ (∀ x ∈ outF a b i, 0 < i ∧ x ≤ b.getD (i - 1) 0) ∧ ∀ x, x ∈ outF a b i ↔ (0 < i ∧ x ∈ a ∧ x ≤ b.getD (i - 1) 0) ∨ x ∈ b.take i
  | 0, _ => ⟨Inc.nil, fun x h => (by cases h), fun x => by simp [outF]⟩
  | i + 1, hi => by
    obtain ⟨h1, h2, h3⟩ := out_all ha hb i (by omega)
    have hst : ∀ x, x ∈ stepF a b i ↔ (x ∈ a ∧ x < b.getD i 0 ∧ (i = 0 ∨ b.getD (i - 1) 0 < x)) ∨ x = b.getD i 0 := fun x => by
      unfold stepF lowF
      rw [List.mem_append, List.mem_filter, List.mem_singleton, Bool.and_eq_true, decide_eq_true_eq, decide_eq_true_eq]
    have hle : ∀ x ∈ stepF a b i, x ≤ b.getD i 0 := fun x hx => by
      rcases (hst x).1 hx with ⟨_, h, _⟩ | h <;> omega
    have hgt : ∀ x ∈ stepF a b i, i = 0 ∨ b.getD (i - 1) 0 < x := fun x hx => by
      rcases (hst x).1 hx with ⟨_, _, h⟩ | h
      · exact h
      · by_cases h0 : i = 0
        · exact .inl h0
        · exact .inr (by rw [h]; exact inc_lt hb (by omega) (by omega))
    refine ⟨List.pairwise_append.2 ⟨h1, ?_, fun x hx y hy => ?_⟩, fun x hx => ⟨by omega, ?_⟩, fun x => ?_⟩
    · refine List.pairwise_append.2 ⟨ha.sub List.filter_sublist, by simp, fun x hx y hy => ?_⟩
      rw [List.mem_singleton] at hy
      rw [List.mem_filter, Bool.and_eq_true, decide_eq_true_eq] at hx
      rw [hy]
      exact hx.2.1
    · have a1 := h2 x hx
      rcases hgt y hy with h | h <;> omega
    · show x ≤ b.getD i 0
      rcases List.mem_append.1 hx with hx | hx
      · have a1 := h2 x hx
        have a2 := inc_lt hb (show i - 1 < i by omega) (show i < b.length by omega)
        omega
      · exact hle x hx
    · show x ∈ outF a b i ++ stepF a b i ↔ _
      have et : b.take (i + 1) = b.take i ++ [b.getD i 0] := by
        rw [List.take_add_one]
        simp [List.getD, List.getElem?_eq_getElem (show i < b.length by omega)]
      rw [List.mem_append, h3, hst, et, List.mem_append, List.mem_singleton, show i + 1 - 1 = i by omega]
      have hlt : 0 < i → b.getD (i - 1) 0 < b.getD i 0 := fun h => inc_lt hb (by omega) (by omega)
      constructor
      · rintro ((⟨p1, p2, p3⟩ | p) | (⟨p1, p2, p3⟩ | p))
        · exact .inl ⟨by omega, p2, by have := hlt p1; omega⟩
        · exact .inr (.inl p)
        · exact .inl ⟨by omega, p1, by omega⟩
        · exact .inr (.inr p)
      · rintro (⟨_, p2, p3⟩ | p | p)
        · by_cases e : x = b.getD i 0
          · exact .inr (.inr e)
          · by_cases h0 : i = 0
            · exact .inr (.inl ⟨p2, by omega, .inl h0⟩)
            · by_cases hx : b.getD (i - 1) 0 < x
              · exact .inr (.inl ⟨p2, by omega, .inr hx⟩)
              · exact .inl (.inl ⟨by omega, p2, by omega⟩)
        · exact .inl (.inr p)
        · exact .inr (.inr p)
theorem refE_eq {a b : List Int} (ha : Inc a) (hb : Inc b) : refE a b = eitherF a b := by
  obtain ⟨h1, h2, h3⟩ := out_all ha hb b.length (Nat.le_refl _)
  refine inc_ext (List.pairwise_append.2 ⟨h1, ha.sub List.filter_sublist, fun x hx y hy => ?_⟩) (either_inc a hb) fun x => ?_
  · have a1 := h2 x hx
    rw [List.mem_filter, decide_eq_true_eq] at hy
    rcases hy.2 with h | h <;> omega
  · unfold refE
    rw [List.mem_append, h3, List.mem_filter, decide_eq_true_eq, List.take_length, either_mem]
    constructor
    · rintro ((⟨_, p, _⟩ | p) | ⟨p, _⟩)
      · exact .inl p
      · exact .inr p
      · exact .inl p
    · rintro (p | p)
      · by_cases h0 : b.length = 0
        · exact .inr ⟨p, .inl h0⟩
        · by_cases hx : b.getD (b.length - 1) 0 < x
          · exact .inr ⟨p, .inr hx⟩
          · exact .inl (.inl ⟨by omega, p, by omega⟩)
      · exact .inl (.inr p)

end Go.Proofs.Ytppdljkfhoekpaa.PoWalk

/-
  Rows of numbers; the document's answer Ints (layer 12).
-/
namespace Go.Proofs.Ytppdljkfhoekpaa.SmWalk
open Go.RowKit Go.Proofs.Ytppdljkfhoekpaa.MemRow Go.Proofs.Ytppdljkfhoekpaa.Ev Go.Proofs.Ytppdljkfhoekpaa.NameMath Go.Proofs.Ytppdljkfhoekpaa.NameWalk Go.Proofs.Ytppdljkfhoekpaa.EvWalk Go.Proofs.Ytppdljkfhoekpaa.NumMem

/-- Numbers in a row. -/
def nums (l : List Int) : List Value := l.map (.int .i64)
theorem nums_length (l : List Int) : (nums l).length = l.length := by simp [nums]
theorem nums_append (a b : List Int) : nums (a ++ b) = nums a ++ nums b := by simp [nums]
theorem nums_one (l : List Int) : ∀ v ∈ nums l, v.oneCell' = true := by
  intro v hv
  obtain ⟨x, _, rfl⟩ := List.mem_map.1 hv
  rfl
def RdI (w : World) (A : Option Addr) (n cap : Nat) (l : List Int) : Prop := RdC 1 w A n cap (nums l)
theorem RdI.len {w : World} {A : Option Addr} {n cap : Nat} {l : List Int} (h : RdI w A n cap l) : l.length = n := by have := h.1; rw [nums_length] at this; omega
theorem RdI.at_ {w : World} {A : Option Addr} {n cap : Nat} {l : List Int} (h : RdI w A n cap l) (hn : 0 < n) : ∃ b o, A = some ⟨b, o, none⟩ ∧ b < w.heap.size ∧ ∀ i, i < n → w.cell? ⟨b, o + i, none⟩ = some (.int .i64 (l.getD i 0)) := by
  obtain ⟨b, o, hA, hb, hc⟩ := RdC.at_ h (by decide) hn
  refine ⟨b, o, hA, hb, fun i hi => ?_⟩
  have hi' : i < l.length := by rw [h.len]; exact hi
  refine hc i _ ?_
  simp [nums, List.getD, List.getElem?_eq_getElem hi']

theorem int_info : (Try.prog.info? 3).map (fun i => (i.zero, i.size, i.bytes)) = some (some (.int .i64 0), 1, 8) := by kernel_rfl
set_option maxHeartbeats 4000000 in
set_option maxRecDepth 100000 in
theorem refInts_any (A B : Option Addr) (n m ca cb : Nat) (l : List Int) (w : World) (ha : RdI w A n ca l) (hb : RdI w B m cb l) :
    Calls Try.prog 11 #[.slice A n ca, .slice B m cb] w fun e w' => e = .returned (.bool true) ∧ ∃ k, w' = w.drewN k := by
  obtain rfl : n = m := ha.len.symm.trans hb.len
  have hn := RdC.le ha
  unfold maxLen at hn
  go_enter Try.func11, Try.ntmps11
  go_wp2_with fail
  go_loopw [5] (fun iv wr => ∃ (j : Nat), iv = .int .i64 (j : Int) ∧ j ≤ n ∧ Hid (∃ k, wr = w.drewN k)) (fun iv _ => n - (intOf iv).toNat)
  case atStart => exact ⟨0, rfl, Nat.zero_le _, Go.Lib.hid ⟨0, rfl⟩⟩
  case round =>
    obtain ⟨j, rfl, hj, HW⟩ := hrel
    by_cases hlt : j < n
    · have i1 : (j : Int) < n := by omega
      have ha1 : RdI wr A n ca l := by obtain ⟨k, rfl⟩ := HW.out; exact ha
      have hb1 : RdI wr B n cb l := by obtain ⟨k, rfl⟩ := HW.out; exact hb
      obtain ⟨b1, o1, rfl, _, k1⟩ := RdI.at_ ha1 (by omega)
      obtain ⟨b2, o2, rfl, _, k2⟩ := RdI.at_ hb1 (by omega)
      have y1 := k1 j hlt
      have y2 := k2 j hlt
      clear k1 k2 ha hb ha1 hb1
      generalize l.getD j 0 = x at *
      have i2 : (x != x) = false := by simp
      go_upto_region 6 with (fail)
      go_quiet (fail)
      go_wp2_with fail
      go_roundw
      case rel => exact ⟨j + 1, by go_num, by omega, Go.Lib.hid (by obtain ⟨k, hk⟩ := HW.out; exact ⟨_, by rw [hk, World.drewN_drewN]⟩)⟩
      case measure => simp [intOf]; omega
    · obtain rfl : j = n := by omega
      have i1 : ¬ (j : Int) < j := by omega
      go_wp2_with fail
      go_ret
      exact ⟨rfl, HW.out⟩


end Go.Proofs.Ytppdljkfhoekpaa.SmWalk

/-
  Contracts of the document's answers of layer 13: in, Both, Either.
-/
namespace Go.Proofs.Ytppdljkfhoekpaa.PoWalk
open Go.RowKit Go.Proofs.Ytppdljkfhoekpaa.MemRow Go.Proofs.Ytppdljkfhoekpaa.Ev Go.Proofs.Ytppdljkfhoekpaa.NameMath Go.Proofs.Ytppdljkfhoekpaa.NameWalk Go.Proofs.Ytppdljkfhoekpaa.EvWalk Go.Proofs.Ytppdljkfhoekpaa.NumMem Go.Proofs.Ytppdljkfhoekpaa.SmWalk

set_option maxHeartbeats 4000000 in
set_option maxRecDepth 100000 in
theorem refIn_any (A : Option Addr) (n cap : Nat) (l : List Int) (x : Int) (w : World) (ha : RdI w A n cap l) :
    Calls Try.prog 31 #[.slice A n cap, .int .i64 x] w fun e w' => e = .returned (.bool (decide (x ∈ l))) ∧ w = w' := by
  have hn := RdC.le ha
  unfold maxLen at hn
  have HN := Go.Lib.hid ha.len
  generalize hR : decide (x ∈ l) = R
  have HR := Go.Lib.hid hR
  clear hR
  go_enter Try.func31, Try.ntmps31
  go_wp2_with fail
  go_loop [5] (fun i => ∃ j : Nat, j ≤ n ∧ i = .int .i64 j ∧ Hid (x ∉ l.take j)) (fun i => n - (intOf i).toNat)
  case atStart => exact ⟨0, Nat.zero_le _, rfl, Go.Lib.hid (by simp)⟩
  case round =>
    obtain ⟨j, hj, rfl, HQ⟩ := hrel
    by_cases hlt : j < n
    · obtain ⟨ba, oa, rfl, _, ka⟩ := ha.at_ (by omega)
      have ka1 := ka j hlt
      have i1 : (j : Int) < n := by omega
      have hst : l.take (j + 1) = l.take j ++ [l.getD j 0] := by
        rw [List.take_add_one]
        simp [List.getD, List.getElem?_eq_getElem (show j < l.length by rw [HN.out]; exact hlt)]
      have hm := getI_mem (b := l) (i := j) (by rw [HN.out]; exact hlt)
      have HS := Go.Lib.hid hst
      have HM := Go.Lib.hid hm
      clear ka hst hm
      generalize l.getD j 0 = y at *
      by_cases hxy : y = x
      · subst hxy
        have hR : R = true := by rw [← HR.out]; exact decide_eq_true HM.out
        subst hR
        go_wp2_with fail
        go_ret
        exact ⟨rfl, rfl⟩
      · have hne : (y == x) = false := by rw [beq_eq_false_iff_ne]; exact hxy
        go_wp2_with fail
        go_round
        case rel =>
          refine ⟨j + 1, by omega, by go_num, Go.Lib.hid ?_⟩
          rw [HS.out, List.mem_append, List.mem_singleton]
          rintro (h | h)
          · exact HQ.out h
          · exact hxy h.symm
        case measure => simp [intOf]; omega
    · obtain rfl : n = j := by omega
      have i1 : ¬ (n : Int) < n := by omega
      have hR : R = false := by
        rw [← HR.out]
        have h1 := HQ.out
        rw [List.take_of_length_le (by rw [HN.out]; exact Nat.le_refl _)] at h1
        exact decide_eq_false h1
      subst hR
      go_wp2_with fail
      go_ret
      exact ⟨rfl, rfl⟩

theorem both_step {a b : List Int} {j : Nat} (h : j < a.length) : bothF (a.take (j + 1)) b = bothF (a.take j) b ++ (if a.getD j 0 ∈ b then [a.getD j 0] else []) := by
  have hst : a.take (j + 1) = a.take j ++ [a.getD j 0] := by
    rw [List.take_add_one]
    simp [List.getD, List.getElem?_eq_getElem h]
  unfold bothF
  rw [hst, List.filter_append]
  congr 1
  by_cases hm : a.getD j 0 ∈ b
  · rw [if_pos hm, List.filter_cons_of_pos (by simpa using hm)]; rfl
  · rw [if_neg hm, List.filter_cons_of_neg (by simpa using hm)]; rfl
set_option maxHeartbeats 4000000 in
set_option maxRecDepth 100000 in
theorem refBoth_any (A B : Option Addr) (n m ca cb : Nat) (a b : List Int) (w : World) (ha : RdI w A n ca a) (hb : RdI w B m cb b) (hs : n ≤ 1000) :
    Calls Try.prog 13 #[.slice A n ca, .slice B m cb] w fun e w' => ∃ C k c, e = .returned (.slice C k c) ∧ RdI w' C k c (bothF a b) ∧ Below w.heap.size w w' := by
  have HN := Go.Lib.hid ha.len
  have HP := Go.Lib.hid (fun j (hj : j < n) => both_step (a := a) (b := b) (j := j) (by rw [HN.out]; exact hj))
  have HL := Go.Lib.hid (fun j => both_len (a.take j) b)
  have HT := Go.Lib.hid (show bothF (a.take n) b = bothF a b by rw [List.take_of_length_le (by rw [HN.out]; exact Nat.le_refl _)])
  have al : Below w.heap.size w (w.alloc (.cells #[] 3)) := (Below.refl _ _).alloc (Nat.le_refl _) _
  have o0 : OwnC 1 (w.alloc (.cells #[] 3)) w.heap.size 3 (some ⟨w.heap.size, 0, none⟩) 0 0 [] := OwnC.empty w 3 (Nat.le_refl _)
  go_enter Try.func13, Try.ntmps13
  go_wp2_with fail
  go_loopw [5, 6, 7] (fun ov iv _ wr => ∃ (C : Option Addr) (k c j : Nat), ov = .slice C k c ∧ iv = .int .i64 (j : Int) ∧ j ≤ n ∧ OwnC 1 wr w.heap.size 3 C k c (nums (bothF (a.take j) b)) ∧ Below w.heap.size w wr) (fun _ iv _ _ => n - (intOf iv).toNat)
  case atStart => exact ⟨_, 0, 0, 0, rfl, rfl, Nat.zero_le _, o0, al⟩
  case round =>
    obtain ⟨C, k, c, j, rfl, rfl, hj, ho, hB⟩ := hrel
    clear o0 al
    by_cases hlt : j < n
    · have i1 : (j : Int) < n := by omega
      obtain ⟨ba, oa, rfl, _, ka⟩ := ha.at_ (by omega)
      have y0 := ka j hlt
      have y1 := bcell hB y0
      have hst := HP.out j hlt
      have hlen := HL.out j
      have hk : k ≤ 1000 := by have := ho.len; rw [nums_length] at this; rw [List.length_take] at hlen; omega
      have HS := Go.Lib.hid hst
      clear ka hst hlen y0
      generalize a.getD j 0 = x at *
      go_wp2_with fail
      refine (refIn_any B m cb b x wr (RdC.below hb hB)).mono ?_
      rintro e w' ⟨rfl, rfl⟩
      by_cases hm : x ∈ b
      · rw [show decide (x ∈ b) = true by simpa using hm]
        rw [if_pos hm] at HS
        clear hm
        have al := (Below.refl wr.heap.size wr).alloc (Nat.le_refl _) (.cells #[.int .i64 x] 3)
        have d1 : RdC 1 (wr.alloc (.cells #[.int .i64 x] 3)) (some ⟨wr.heap.size, 0, none⟩) 1 1 (nums [x]) := RdC.new wr 3 (nums [x]) rfl (by decide)
        have o1 := ho.below al
        go_wp2_with (at_builtin; refine wpList_append_cells rfl (.tmp 22) (.tmp 27) 22 rfl 3 (.int .i64 0) 8 Try.underlying22 int_info rfl (by decide) rfl rfl o1 d1 (nums_one _) (by unfold maxLen; omega) (by omega) (Nat.le_trans hB.size al.size) ?_; intro A8 c8 w8 o8 g8 _; have b8 := below_grown_own o1 (hB.trans (al.mono hB.size)) g8 (Nat.le_trans hB.size al.size))
        go_roundw
        case rel => exact ⟨A8, k + 1, c8, j + 1, rfl, by go_num, by omega, by rw [HS.out, nums_append]; exact o8, b8⟩
        case measure => simp [intOf]; omega
      · rw [show decide (x ∈ b) = false by simpa using hm]
        rw [if_neg hm, List.append_nil] at HS
        clear hm
        go_wp2_with fail
        go_roundw
        case rel => exact ⟨C, k, c, j + 1, rfl, by go_num, by omega, by rw [HS.out]; exact ho, hB⟩
        case measure => simp [intOf]; omega
    · obtain rfl : j = n := by omega
      have i1 : ¬ (j : Int) < j := by omega
      go_wp2_with fail
      go_ret
      refine ⟨C, k, c, rfl, ?_, hB⟩
      have := OwnC.rd ho
      rw [HT.out] at this
      exact this

end Go.Proofs.Ytppdljkfhoekpaa.PoWalk

/-
  Contracts of the document's answers of layer 13: Either.
-/
namespace Go.Proofs.Ytppdljkfhoekpaa.PoWalk
open Go.RowKit Go.Proofs.Ytppdljkfhoekpaa.MemRow Go.Proofs.Ytppdljkfhoekpaa.Ev Go.Proofs.Ytppdljkfhoekpaa.NameMath Go.Proofs.Ytppdljkfhoekpaa.NameWalk Go.Proofs.Ytppdljkfhoekpaa.EvWalk Go.Proofs.Ytppdljkfhoekpaa.NumMem Go.Proofs.Ytppdljkfhoekpaa.SmWalk

theorem bel_dn {B : Nat} {w wr : World} (h : Below B w wr) (q : Nat) : Below B w (wr.drewN q) := ⟨h.os, h.tape, h.output, h.size, h.block⟩
theorem filter_step (a : List Int) (p : Int → Bool) {k : Nat} (h : k < a.length) : (a.take (k + 1)).filter p = (a.take k).filter p ++ (if p (a.getD k 0) = true then [a.getD k 0] else []) := by
  have hst : a.take (k + 1) = a.take k ++ [a.getD k 0] := by
    rw [List.take_add_one]
    simp [List.getD, List.getElem?_eq_getElem h]
  rw [hst, List.filter_append]
  congr 1
  by_cases hm : p (a.getD k 0) = true
  · rw [if_pos hm, List.filter_cons_of_pos hm]; rfl
  · rw [if_neg hm, List.filter_cons_of_neg hm]; rfl
theorem out_len (a b : List Int) : ∀ i, (outF a b i).length ≤ i * (a.length + 1)
  | 0 => by simp [outF]
  | i + 1 => by
    have h1 := out_len a b i
    have h2 : (stepF a b i).length ≤ a.length + 1 := by
      unfold stepF
      rw [List.length_append]
      have := List.length_filter_le (fun x => decide (x < b.getD i 0) && lowF b i x) a
      simp only [List.length_singleton]
      omega
    show (outF a b i ++ stepF a b i).length ≤ _
    rw [List.length_append, Nat.succ_mul]
    omega
/-- What the first rounds, and a part of the next one, have laid down. -/
def midF (a b : List Int) (i k : Nat) : List Int := outF a b i ++ (a.take k).filter fun x => decide (x < b.getD i 0) && lowF b i x
theorem mid_len (a b : List Int) {i k : Nat} (ha : a.length ≤ 200) (hi : i ≤ 200) : (midF a b i k).length ≤ 50000 := by
  unfold midF
  rw [List.length_append]
  have h1 := out_len a b i
  have h2 := List.length_filter_le (fun x => decide (x < b.getD i 0) && lowF b i x) (a.take k)
  have h3 : (a.take k).length ≤ a.length := by rw [List.length_take]; omega
  have h4 : i * (a.length + 1) ≤ 200 * 201 := Nat.mul_le_mul hi (by omega)
  omega
def endF (a b : List Int) (k : Nat) : List Int := outF a b b.length ++ (a.take k).filter fun x => decide (b.length = 0 ∨ b.getD (b.length - 1) 0 < x)
theorem end_len (a b : List Int) {k : Nat} (ha : a.length ≤ 200) (hb : b.length ≤ 200) : (endF a b k).length ≤ 50000 := by
  unfold endF
  rw [List.length_append]
  have h1 := out_len a b b.length
  have h2 := List.length_filter_le (fun x => decide (b.length = 0 ∨ b.getD (b.length - 1) 0 < x)) (a.take k)
  have h3 : (a.take k).length ≤ a.length := by rw [List.length_take]; omega
  have h4 : b.length * (a.length + 1) ≤ 200 * 201 := Nat.mul_le_mul hb (by omega)
  omega
set_option maxHeartbeats 8000000 in
set_option maxRecDepth 100000 in
theorem refEither_any (A B : Option Addr) (n m ca cb : Nat) (a b : List Int) (w : World) (ha : RdI w A n ca a) (hb : RdI w B m cb b) (hn : n ≤ 200) (hm : m ≤ 200) :
    Calls Try.prog 15 #[.slice A n ca, .slice B m cb] w fun e w' => ∃ C k c, e = .returned (.slice C k c) ∧ RdI w' C k c (refE a b) ∧ Below w.heap.size w w' := by
  have HN := Go.Lib.hid ha.len
  have HM := Go.Lib.hid hb.len
  have HS := Go.Lib.hid (fun (p : Int → Bool) k (hk : k < n) => filter_step a p (k := k) (by rw [HN.out]; exact hk))
  have HML := Go.Lib.hid (fun i k (hi : i ≤ 200) => mid_len a b (i := i) (k := k) (by rw [HN.out]; exact hn) hi)
  have HEL := Go.Lib.hid (fun k => end_len a b (k := k) (by rw [HN.out]; exact hn) (by rw [HM.out]; exact hm))
  have HTA := Go.Lib.hid (show a.take n = a by rw [List.take_of_length_le (by rw [HN.out]; exact Nat.le_refl _)])
  have al : Below w.heap.size w (w.alloc (.cells #[] 3)) := (Below.refl _ _).alloc (Nat.le_refl _) _
  have o0 : OwnC 1 (w.alloc (.cells #[] 3)) w.heap.size 3 (some ⟨w.heap.size, 0, none⟩) 0 0 [] := OwnC.empty w 3 (Nat.le_refl _)
  go_enter Try.func15, Try.ntmps15
  go_wp2_with fail
  go_loopw [5, 6, 7, 8] (fun ov iv _ _ wr => ∃ (C : Option Addr) (k c i : Nat), ov = .slice C k c ∧ iv = .int .i64 (i : Int) ∧ i ≤ m ∧ OwnC 1 wr w.heap.size 3 C k c (nums (outF a b i)) ∧ Below w.heap.size w wr) (fun _ iv _ _ _ => m - (intOf iv).toNat)
  case atStart => exact ⟨_, 0, 0, 0, rfl, rfl, Nat.zero_le _, o0, al⟩
  case round =>
    obtain ⟨C, k, c, i, rfl, rfl, hi, ho, hB⟩ := hrel
    clear o0 al
    by_cases hlt : i < m
    · have i1 : (i : Int) < m := by omega
      obtain ⟨bb, ob, rfl, _, kb⟩ := hb.at_ (by omega)
      have yb := kb i hlt
      have KB := Go.Lib.hid kb
      obtain ⟨y, hy⟩ : ∃ y, b.getD i 0 = y := ⟨_, rfl⟩
      rw [hy] at yb
      have HY := Go.Lib.hid hy
      have hz0 : outF a b i = midF a b i 0 := by simp [midF]
      rw [hz0] at ho
      clear kb hy hz0
      go_wp2_with fail
      obtain ⟨wo, rfl⟩ : ∃ wo : World, wo = wr := ⟨_, rfl⟩
      go_loopw [5, 7, 8] (fun ov jv _ wr => ∃ (C : Option Addr) (k c j : Nat), ov = .slice C k c ∧ jv = .int .i64 (j : Int) ∧ j ≤ n ∧ OwnC 1 wr w.heap.size 3 C k c (nums (midF a b i j)) ∧ Below w.heap.size w wr) (fun _ jv _ _ => n - (intOf jv).toNat)
      case atStart => exact ⟨_, _, _, 0, rfl, rfl, Nat.zero_le _, ho, hB⟩
      case round =>
        clear ho hB
        obtain ⟨C, k, c, j, rfl, rfl, hj, ho, hB⟩ := hrel
        have hk : k ≤ 50000 := by have := ho.len; rw [nums_length] at this; have := HML.out i j (by omega); omega
        by_cases hlt2 : j < n
        · have i2 : (j : Int) < n := by omega
          obtain ⟨ba, oa, rfl, _, ka⟩ := ha.at_ (by omega)
          have ya := ka j hlt2
          have hst := HS.out (fun x => decide (x < b.getD i 0) && lowF b i x) j hlt2
          have hmid : midF a b i (j + 1) = midF a b i j ++ (if (decide (a.getD j 0 < b.getD i 0) && lowF b i (a.getD j 0)) = true then [a.getD j 0] else []) := by
            unfold midF
            rw [hst, ← List.append_assoc]
          rw [HY.out] at hmid
          have HMI := Go.Lib.hid hmid
          clear ka hst hmid
          generalize a.getD j 0 = x at *
          go_upto_region 8 with (fail)
          go_cut [8] (fun v wx => v = .bool (lowF b i x) ∧ ∃ q, wx = wr.drewN q)
          case first =>
            have y1 := bcell hB ya
            by_cases hi0 : i = 0
            · have i5 : ((i : Int) == 0) = true := by rw [beq_iff_eq]; omega
              have hl : lowF b i x = true := by unfold lowF; exact decide_eq_true (.inl hi0)
              have HLF := Go.Lib.hid hl
              clear hl
              go_quiet (fail)
              go_wp2_with fail
              go_meet
              exact ⟨by rw [HLF.out], _, rfl⟩
            · have i5 : ((i : Int) == 0) = false := by rw [beq_eq_false_iff_ne]; omega
              have n1 : IntKind.i64.wrap ((i : Int) - 1) = ((i - 1 : Nat) : Int) := by rw [IntWalk.i64_in _ (by omega)]; omega
              have y2 := bcell hB (KB.out (i - 1) (by omega))
              have j2 : ((i - 1 : Nat) : Int) < m := by omega
              by_cases hz : b.getD (i - 1) 0 < x
              · have hl : lowF b i x = true := by unfold lowF; exact decide_eq_true (.inr hz)
                have HLF := Go.Lib.hid hl
                clear hl
                generalize b.getD (i - 1) 0 = z at *
                generalize i - 1 = t at *
                go_quiet (fail)
                go_wp2_with fail
                go_meet
                exact ⟨by rw [HLF.out], _, rfl⟩
              · have hl : lowF b i x = false := by unfold lowF; exact decide_eq_false (fun h => h.elim hi0 hz)
                have HLF := Go.Lib.hid hl
                clear hl
                generalize b.getD (i - 1) 0 = z at *
                generalize i - 1 = t at *
                go_quiet (fail)
                go_wp2_with fail
                go_meet
                exact ⟨by rw [HLF.out], _, rfl⟩
          case rest =>
            obtain ⟨rfl, q, rfl⟩ := hcut
            have hB1 := bel_dn hB q
            have o1 := ho.below (w' := wr.drewN q) (bel_dn (Below.refl _ _) q)
            clear ho hB
            generalize wr.drewN q = w1 at *
            generalize lowF b i x = L at *
            go_upto_region 9 with (fail)
            go_cut [48] (fun v wx => v = .bool (decide (x < y) && L) ∧ ∃ q, wx = w1.drewN q)
            case first =>
              have y1 := bcell hB1 ya
              have y2 := bcell hB1 yb
              by_cases hxy : x < y
              · go_quiet (fail)
                go_wp2_with fail
                go_meet
                exact ⟨by simp [hxy], _, rfl⟩
              · go_quiet (fail)
                go_wp2_with fail
                go_meet
                exact ⟨by rw [show decide (x < y) = false from decide_eq_false (by omega)]; rfl, _, rfl⟩
            case rest =>
              obtain ⟨rfl, q2, rfl⟩ := hcut
              have hB2 := bel_dn hB1 q2
              have o2 := o1.below (w' := w1.drewN q2) (bel_dn (Below.refl _ _) q2)
              have y1 := bcell hB2 ya
              clear o1 hB1
              generalize w1.drewN q2 = w2 at *
              cases hc : (decide (x < y) && L) with
              | true =>
                rw [hc, if_pos rfl] at HMI
                clear hc
                have al := (Below.refl w2.heap.size w2).alloc (Nat.le_refl _) (.cells #[.int .i64 x] 3)
                have d1 : RdC 1 (w2.alloc (.cells #[.int .i64 x] 3)) (some ⟨w2.heap.size, 0, none⟩) 1 1 (nums [x]) := RdC.new w2 3 (nums [x]) rfl (by decide)
                have o3 := o2.below al
                go_wp2_with (at_builtin; refine wpList_append_cells rfl (.tmp 49) (.tmp 54) 22 rfl 3 (.int .i64 0) 8 Try.underlying22 int_info rfl (by decide) rfl rfl o3 d1 (nums_one _) (by unfold maxLen; omega) (by omega) (Nat.le_trans hB2.size al.size) ?_; intro A8 c8 w8 o8 g8 _; have b8 := below_grown_own o3 (hB2.trans (al.mono hB2.size)) g8 (Nat.le_trans hB2.size al.size))
                go_roundw
                case rel => exact ⟨A8, k + 1, c8, j + 1, rfl, by go_num, by omega, by rw [HMI.out, nums_append]; exact o8, b8⟩
                case measure => simp [intOf]; omega
              | false =>
                rw [hc, if_neg (by decide), List.append_nil] at HMI
                clear hc
                go_wp2_with fail
                go_roundw
                case rel => exact ⟨C, k, c, j + 1, rfl, by go_num, by omega, by rw [HMI.out]; exact o2, hB2⟩
                case measure => simp [intOf]; omega
        · obtain rfl : j = n := by omega
          have i2 : ¬ (j : Int) < j := by omega
          have y1 := bcell hB yb
          have hfin : outF a b (i + 1) = midF a b i j ++ [y] := by
            show outF a b i ++ stepF a b i = _
            unfold midF stepF
            rw [HTA.out, HY.out, List.append_assoc]
          have HF := Go.Lib.hid hfin
          clear hfin
          have al := (Below.refl wr.heap.size wr).alloc (Nat.le_refl _) (.cells #[.int .i64 y] 3)
          have d1 : RdC 1 (wr.alloc (.cells #[.int .i64 y] 3)) (some ⟨wr.heap.size, 0, none⟩) 1 1 (nums [y]) := RdC.new wr 3 (nums [y]) rfl (by decide)
          have o1 := ho.below al
          go_wp2_with (at_builtin; refine wpList_append_cells rfl (.tmp 56) (.tmp 61) 22 rfl 3 (.int .i64 0) 8 Try.underlying22 int_info rfl (by decide) rfl rfl o1 d1 (nums_one _) (by unfold maxLen; omega) (by omega) (Nat.le_trans hB.size al.size) ?_; intro A8 c8 w8 o8 g8 _; have b8 := below_grown_own o1 (hB.trans (al.mono hB.size)) g8 (Nat.le_trans hB.size al.size))
          go_roundw
          case rel => exact ⟨A8, k + 1, c8, i + 1, rfl, by go_num, by omega, by rw [HF.out, nums_append]; exact o8, b8⟩
          case measure => simp [intOf]; omega
    · obtain rfl : i = m := by omega
      have i1 : ¬ (i : Int) < i := by omega
      have hz0 : outF a b i = endF a b 0 := by simp [endF, HM.out]
      rw [hz0] at ho
      clear hz0
      go_wp2_with fail
      obtain ⟨wo, rfl⟩ : ∃ wo : World, wo = wr := ⟨_, rfl⟩
      go_loopw [5, 9] (fun ov jv wr => ∃ (C : Option Addr) (k c j : Nat), ov = .slice C k c ∧ jv = .int .i64 (j : Int) ∧ j ≤ n ∧ OwnC 1 wr w.heap.size 3 C k c (nums (endF a b j)) ∧ Below w.heap.size w wr) (fun _ jv _ => n - (intOf jv).toNat)
      case atStart => exact ⟨_, _, _, 0, rfl, rfl, Nat.zero_le _, ho, hB⟩
      case round =>
        clear ho hB
        obtain ⟨C, k, c, j, rfl, rfl, hj, ho, hB⟩ := hrel
        have hk : k ≤ 50000 := by have := ho.len; rw [nums_length] at this; have := HEL.out j; omega
        by_cases hlt2 : j < n
        · have i2 : (j : Int) < n := by omega
          obtain ⟨ba, oa, rfl, _, ka⟩ := ha.at_ (by omega)
          have ya := ka j hlt2
          have hst := HS.out (fun x => decide (b.length = 0 ∨ b.getD (b.length - 1) 0 < x)) j hlt2
          have hmid : endF a b (j + 1) = endF a b j ++ (if decide (i = 0 ∨ b.getD (i - 1) 0 < a.getD j 0) = true then [a.getD j 0] else []) := by
            unfold endF
            rw [hst, ← List.append_assoc, HM.out]
          have HMI := Go.Lib.hid hmid
          clear ka hst hmid
          generalize a.getD j 0 = x at *
          go_upto_region 15 with (fail)
          go_cut [84] (fun v wx => v = .bool (decide (i = 0 ∨ b.getD (i - 1) 0 < x)) ∧ ∃ q, wx = wr.drewN q)
          case first =>
            have y1 := bcell hB ya
            by_cases hi0 : i = 0
            · have i5 : ((i : Int) == 0) = true := by rw [beq_iff_eq]; omega
              go_quiet (fail)
              go_wp2_with fail
              go_meet
              exact ⟨by simp [hi0], _, rfl⟩
            · have i5 : ((i : Int) == 0) = false := by rw [beq_eq_false_iff_ne]; omega
              obtain ⟨bb, ob, rfl, _, kb⟩ := hb.at_ (by omega)
              have n1 : IntKind.i64.wrap ((i : Int) - 1) = ((i - 1 : Nat) : Int) := by rw [IntWalk.i64_in _ (by omega)]; omega
              have y2 := bcell hB (kb (i - 1) (by omega))
              have j2 : ((i - 1 : Nat) : Int) < i := by omega
              clear kb
              by_cases hz : b.getD (i - 1) 0 < x
              · have hl : decide (i = 0 ∨ b.getD (i - 1) 0 < x) = true := decide_eq_true (.inr hz)
                have HLF := Go.Lib.hid hl
                clear hl
                generalize b.getD (i - 1) 0 = z at *
                generalize i - 1 = t at *
                go_quiet (fail)
                go_wp2_with fail
                go_meet
                exact ⟨by rw [HLF.out], _, rfl⟩
              · have hl : decide (i = 0 ∨ b.getD (i - 1) 0 < x) = false := decide_eq_false (fun h => h.elim hi0 hz)
                have HLF := Go.Lib.hid hl
                clear hl
                generalize b.getD (i - 1) 0 = z at *
                generalize i - 1 = t at *
                go_quiet (fail)
                go_wp2_with fail
                go_meet
                exact ⟨by rw [HLF.out], _, rfl⟩
          case rest =>
            obtain ⟨rfl, q, rfl⟩ := hcut
            have hB2 := bel_dn hB q
            have o2 := ho.below (w' := wr.drewN q) (bel_dn (Below.refl _ _) q)
            have y1 := bcell hB2 ya
            clear ho hB
            generalize wr.drewN q = w2 at *
            cases hc : decide (i = 0 ∨ b.getD (i - 1) 0 < x) with
            | true =>
              rw [hc, if_pos rfl] at HMI
              clear hc
              have al := (Below.refl w2.heap.size w2).alloc (Nat.le_refl _) (.cells #[.int .i64 x] 3)
              have d1 : RdC 1 (w2.alloc (.cells #[.int .i64 x] 3)) (some ⟨w2.heap.size, 0, none⟩) 1 1 (nums [x]) := RdC.new w2 3 (nums [x]) rfl (by decide)
              have o3 := o2.below al
              go_wp2_with (at_builtin; refine wpList_append_cells rfl (.tmp 85) (.tmp 90) 22 rfl 3 (.int .i64 0) 8 Try.underlying22 int_info rfl (by decide) rfl rfl o3 d1 (nums_one _) (by unfold maxLen; omega) (by omega) (Nat.le_trans hB2.size al.size) ?_; intro A8 c8 w8 o8 g8 _; have b8 := below_grown_own o3 (hB2.trans (al.mono hB2.size)) g8 (Nat.le_trans hB2.size al.size))
              go_roundw
              case rel => exact ⟨A8, k + 1, c8, j + 1, rfl, by go_num, by omega, by rw [HMI.out, nums_append]; exact o8, b8⟩
              case measure => simp [intOf]; omega
            | false =>
              rw [hc, if_neg (by decide), List.append_nil] at HMI
              clear hc
              go_wp2_with fail
              go_roundw
              case rel => exact ⟨C, k, c, j + 1, rfl, by go_num, by omega, by rw [HMI.out]; exact o2, hB2⟩
              case measure => simp [intOf]; omega
        · obtain rfl : j = n := by omega
          have i2 : ¬ (j : Int) < j := by omega
          have hfin : endF a b j = refE a b := by unfold endF refE; rw [HTA.out]
          rw [hfin] at ho
          clear hfin
          go_wp2_with fail
          go_ret
          exact ⟨C, k, c, rfl, OwnC.rd ho, hB⟩

end Go.Proofs.Ytppdljkfhoekpaa.PoWalk

