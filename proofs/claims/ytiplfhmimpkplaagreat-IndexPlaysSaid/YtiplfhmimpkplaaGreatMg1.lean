/-
  Words on memory for layer 1: a slice that reads as bytes; its conversion to a string; a reader behind a pointer. No Go text here.
-/
import Derived.Below
import Derived.Laws.OwnMore
import Derived.Laws.IdiomStrings
import Derived.Laws.CopyOwn
import Derived.Deep.Draws
import Derived.Lib.Hide
import Derived.Lib.BufferWrite
import Derived.OpenShut
import Derived.ProofKit
import Derived.Deep.Grids
import Derived.SliceStrings
import Derived.Maps.AppendAt
import Derived.OwnWalk
import Derived.Laws.Slices
import Derived.Test.YtiplfhmimpkplaaGreatProg
import Derived.Lib.SmallJoins
import Derived.Deep.SlicePairs
import Derived.Deep.Slices
import Derived.ChangeSame
import Derived.Lib.TrimUEq
import Derived.WalkKit
import Derived.BigCall
import Derived.LoopTactic
import Derived.Laws.RangeAny
import Derived.Shelf.Strings.Search2
import Derived.WalkMore
import Derived.Laws.Strings3
import Derived.Lib.Strings
import Derived.Lib.Bytealg
import Derived.Deep.QuietTactic
import Derived.BigQuiet
import Derived.WalkLawsBesides
namespace Go.Proofs.YtiplfhmimpkplaaGreat.NumMem
open Go.RowKit

/-- The cells of bytes. -/
def cellsOf (l : List UInt8) : List Value := l.map fun c => .int .u8 (c.toNat : Int)

theorem cellsOf_length (l : List UInt8) : (cellsOf l).length = l.length := by simp [cellsOf]
theorem cellsOf_append (a b : List UInt8) : cellsOf (a ++ b) = cellsOf a ++ cellsOf b := by simp [cellsOf]
theorem cellsOf_one (l : List UInt8) : ∀ v ∈ cellsOf l, v.oneCell' = true := by
  intro v hv
  simp only [cellsOf, List.mem_map] at hv
  obtain ⟨c, _, rfl⟩ := hv
  rfl

/-- The slice value (A, n, cap) reads as the bytes l: nil and empty let in. -/
def Rd (w : World) (A : Option Addr) (n cap : Nat) (l : List UInt8) : Prop :=
  l.length = n ∧ n ≤ cap ∧ cap ≤ maxLen ∧ (0 < n → ∃ b o, A = some ⟨b, o, none⟩ ∧ ∀ i, i < n → w.cell? ⟨b, o + i, none⟩ = some (.int .u8 ((l.getD i 0).toNat : Int)))

variable {w w' : World} {A : Option Addr} {n cap : Nat} {l : List UInt8}

theorem Rd.nil (w : World) : Rd w none 0 0 [] := ⟨rfl, Nat.le_refl _, Nat.zero_le _, fun h => absurd h (by omega)⟩
theorem Rd.empty (w : World) (A : Option Addr) (h : cap ≤ maxLen) : Rd w A 0 cap [] := ⟨rfl, Nat.zero_le _, h, fun h => absurd h (by omega)⟩
theorem Rd.len (h : Rd w A n cap l) : l.length = n := h.1
theorem Rd.le (h : Rd w A n cap l) : n ≤ maxLen := Nat.le_trans h.2.1 h.2.2.1
theorem Rd.le_cap (h : Rd w A n cap l) : n ≤ cap := h.2.1

/-- The address, where there is a byte. -/
theorem Rd.at_ (h : Rd w A n cap l) (hn : 0 < n) : ∃ b o, A = some ⟨b, o, none⟩ ∧ b < w.heap.size ∧ ∀ i, i < n → w.cell? ⟨b, o + i, none⟩ = some (.int .u8 ((l.getD i 0).toNat : Int)) := by
  obtain ⟨b, o, rfl, hc⟩ := h.2.2.2 hn
  exact ⟨b, o, rfl, World.block_lt_of_cell? w _ (hc 0 hn), hc⟩

theorem Rd.keep (h : Rd w A n cap l) (hk : ∀ b o, A = some ⟨b, o, none⟩ → 0 < n → ∀ i, i < n → w'.cell? ⟨b, o + i, none⟩ = w.cell? ⟨b, o + i, none⟩) : Rd w' A n cap l :=
  ⟨h.1, h.2.1, h.2.2.1, fun hn => by
    obtain ⟨b, o, rfl, hc⟩ := h.2.2.2 hn
    exact ⟨b, o, rfl, fun i hi => (hk b o rfl hn i hi).trans (hc i hi)⟩⟩

theorem Rd.below (h : Rd w A n cap l) (hb : Below w.heap.size w w') : Rd w' A n cap l :=
  ⟨h.1, h.2.1, h.2.2.1, fun hn => by
    obtain ⟨b, o, rfl, hlt, hc⟩ := h.at_ hn
    exact ⟨b, o, rfl, fun i hi => (hb.cell (p := ⟨b, o + i, none⟩) hlt).trans (hc i hi)⟩⟩

theorem Rd.drewN (h : Rd w A n cap l) (k : Nat) : Rd (w.drewN k) A n cap l := h
theorem Rd.drew (h : Rd w A n cap l) : Rd w.drew A n cap l := h

/-- Kept where just block g has changed, and block g holds no byte at the place. -/
theorem Rd.grown {g : Nat} (h : Rd w A n cap l) (hg : w.grownBy w' (some g)) (hne : ∀ o k, w.cell? ⟨g, o, none⟩ ≠ some (.int .u8 k)) : Rd w' A n cap l :=
  ⟨h.1, h.2.1, h.2.2.1, fun hn => by
    obtain ⟨b, o, rfl, hlt, hc⟩ := h.at_ hn
    have hbg : b ≠ g := by
      rintro rfl
      exact hne _ _ (hc 0 hn)
    exact ⟨b, o, rfl, fun i hi => hg.cell (hc i hi) (by simpa using hbg)⟩⟩

/-- What stands behind the first k bytes: the slice v[k:]. The model keeps the address where k is the capacity. -/
theorem Rd.cut (h : Rd w A n cap l) {k : Nat} (hk : k ≤ n) : Rd w (if cap = k then A else A.map (·.add k)) (n - k) (cap - k) (l.drop k) := by
  refine ⟨by rw [List.length_drop, h.1], by have := h.2.1; omega, by have := h.2.2.1; omega, fun hn => ?_⟩
  obtain ⟨b, o, rfl, hc⟩ := h.2.2.2 (by omega)
  have := h.2.1
  rw [if_neg (by omega)]
  refine ⟨b, o + k, by simp [Addr.add], fun i hi => ?_⟩
  have := hc (k + i) (by omega)
  rw [Nat.add_assoc, this]
  simp [List.getD, List.getElem?_drop]

/-- The first k bytes: v[:k]. -/
theorem Rd.first (h : Rd w A n cap l) {k : Nat} (hk : k ≤ n) : Rd w A k cap (l.take k) := by
  refine ⟨by rw [List.length_take, h.1]; omega, by have := h.2.1; omega, h.2.2.1, fun hn => ?_⟩
  obtain ⟨b, o, rfl, hc⟩ := h.2.2.2 (by omega)
  refine ⟨b, o, rfl, fun i hi => ?_⟩
  rw [hc i (by omega)]
  simp [List.getD, hi]

/-- A row of the call's own, whole. -/
theorem Rd.of_block {g : Nat} {t : TypeId} {fr : Nat × Nat} {cs : Array Value} (hg : w.heap[g]? = some (.cells cs t fr)) (hl : l.length = n) (hn : n ≤ cap) (hc : cap ≤ maxLen) (h : ∀ i, i < n → cs[i]? = some (.int .u8 ((l.getD i 0).toNat : Int))) :
    Rd w (some ⟨g, 0, none⟩) n cap l :=
  ⟨hl, hn, hc, fun _ => ⟨g, 0, rfl, fun i hi => by rw [Nat.zero_add, cell_of_row w g i cs t fr hg]; exact h i hi⟩⟩

/-- string(v). -/
theorem Rd.string {P : Program} (h : Rd w A n cap l) (src dst e : TypeId) (hs : P.underlying src = some (.slice e)) (he : P.underlying e = some (.int .u8)) (hd : P.underlying dst = some .string) :
    (convert src dst (.slice A n cap)).run P w = .ok (.string ⟨l.toArray⟩) w := by
  obtain ⟨hl, h1, h2, h3⟩ := h
  subst hl
  rcases Nat.eq_zero_or_pos l.length with h0 | h0
  · have hl0 : l = [] := List.eq_nil_of_length_eq_zero h0
    subst hl0
    rw [run_convert_bytes_string w src dst e A _ cap hs he hd]
    cases A with
    | none => simp [Conv.bytesToString, Sem.run_pure]; rfl
    | some a =>
      have hlo := run_loadCells_list (P := P) w a [] (fun j v hj => by simp at hj)
      rw [run_bytesToString w a _ cap [] (by simpa using hlo)]
      rfl
  · obtain ⟨b, o, rfl, hc⟩ := h3 h0
    refine run_convert_bytes_back w src dst e ⟨b, o, none⟩ cap l hs he hd fun j hj => ?_
    have hadd : (⟨b, o, none⟩ : Addr).add j = ⟨b, o + j, none⟩ := by unfold Addr.add; split <;> simp_all
    rw [hadd, hc j hj]
    simp [List.getD, List.getElem?_eq_getElem hj]

/-- The source of a copy or an append. -/
theorem Rd.src (h : Rd w A n cap l) (h0 : 0 < (cellsOf l).length) : ∃ ad, A = some ad ∧ ∀ j v, (cellsOf l)[j]? = some v → w.cell? (ad.add j) = some v := by
  rw [cellsOf_length, h.1] at h0
  obtain ⟨b, o, rfl, hc⟩ := h.2.2.2 h0
  refine ⟨_, rfl, fun j v hj => ?_⟩
  have hadd : (⟨b, o, none⟩ : Addr).add j = ⟨b, o + j, none⟩ := by unfold Addr.add; split <;> simp_all
  have hjn : j < l.length := by
    have := (List.getElem?_eq_some_iff.1 hj).1
    simpa [cellsOf] using this
  rw [hadd, hc j (by rw [← h.1]; exact hjn)]
  simp [cellsOf, List.getElem?_eq_getElem hjn] at hj
  simp [List.getD, List.getElem?_eq_getElem hjn, hj]

/-- Block g is just the cells of the bytes l, none frozen. -/
def Row (w : World) (g : Nat) (t : TypeId) (l : List UInt8) : Prop := w.heap[g]? = some (.cells (cellsOf l).toArray t (0, 0))

section
variable {g : Nat} {t : TypeId}
theorem Row.lt (h : Row w g t l) : g < w.heap.size := (Array.getElem?_eq_some_iff.1 h).1
theorem Row.cell (h : Row w g t l) {i : Nat} (hi : i < l.length) : w.cell? ⟨g, i, none⟩ = some (.int .u8 ((l.getD i 0).toNat : Int)) := by
  rw [cell_of_row w g i _ t (0, 0) h]
  simp [cellsOf, List.getElem?_eq_getElem hi, List.getD]
theorem Row.frozen (h : Row w g t l) (i : Nat) : w.frozen? ⟨g, i, none⟩ = false := by
  unfold Row at h
  simp [World.frozen?, h]
theorem Row.rd (h : Row w g t l) (hn : l.length ≤ maxLen) : Rd w (some ⟨g, 0, none⟩) l.length l.length l :=
  Rd.of_block h rfl (Nat.le_refl _) hn fun i hi => by simp [cellsOf, List.getElem?_eq_getElem hi, List.getD]
theorem Row.set_ (h : Row w g t l) (i : Nat) (c : UInt8) : Row (w.setCell ⟨g, i, none⟩ (.int .u8 (c.toNat : Int))) g t (l.set i c) := by
  unfold Row at h ⊢
  simp only [World.setCell, Array.getElem?_modify, h]
  simp [cellsOf, List.map_set]
theorem Row.below {B : Nat} (h : Row w g t l) (hb : Below B w w') (hg : g < B) : Row w' g t l := (hb.block g hg).trans h
theorem Row.new (w : World) (t : TypeId) (l : List UInt8) : Row (w.alloc (.cells (cellsOf l).toArray t)) w.heap.size t l := heap_alloc_new w _
end

theorem grown_setCell {a w : World} {g : Nat} (h : a.grownBy w (some g)) (i : Nat) (u : Value) : a.grownBy (w.setCell ⟨g, i, none⟩ u) (some g) :=
  ⟨h.os, h.tape, h.output, by simpa [World.setCell] using h.size, fun k hk hne => (Below.heap_setCell w _ u k (fun e => hne (by simp [e]))).trans (h.block k hk hne)⟩
theorem grown_below {a w : World} (h : a.grownBy w none) : Below a.heap.size a w := ⟨h.os, h.tape, h.output, h.size, fun k hk => h.block k hk (by simp)⟩
theorem below_grown {a w : World} (h : Below a.heap.size a w) (row : Option Nat) : a.grownBy w row := ⟨h.os, h.tape, h.output, h.size, fun k hk _ => h.block k hk⟩

/-- make([]byte, k). -/
theorem run_make_bytes {P : Program} (T e : TypeId) (hT : P.underlying T = some (.slice e)) (hi : (P.info? e).map (fun i => (i.zero, i.size, i.bytes)) = some (some (.int .u8 0), 1, 1))
    (k : Nat) (hk : k ≤ 281474976710656) (x : Int) (hx : x = (k : Int)) (w : World) :
    (Instr.makeSlice T (.int .i64 x) (.int .i64 x)).run P w = .ok (.slice (some ⟨w.heap.size, 0, none⟩) k k) (w.alloc (.cells (cellsOf (List.replicate k 0)).toArray e)) := by
  subst hx
  obtain ⟨i, h1, h2, h3, h4⟩ : ∃ i, P.info? e = some i ∧ i.zero = some (.int .u8 0) ∧ i.size = 1 ∧ i.bytes = 1 := by
    cases hq : P.info? e with
    | none => simp [hq] at hi
    | some i => simp [hq] at hi; exact ⟨i, rfl, hi.1, hi.2.1, hi.2.2⟩
  rw [run_make w T e i (.int .u8 0) hT h1 h2 .i64 .i64 k k (by omega) (by omega) (by rw [h4]; omega) (by omega)]
  have hm : madeCells (Value.int .u8 0).cells ((k : Int).toNat * i.size) = (cellsOf (List.replicate k 0)).toArray := by
    apply Array.toList_inj.1
    rw [h3, Nat.mul_one, Int.toNat_natCast]
    show (madeCells #[Value.int .u8 0] k).toList = _
    rw [toList_madeCells_one]
    simp [cellsOf]
  rw [hm, Int.toNat_natCast]

/-- copy(dst, s), s a text that just fits, dst in a row of the call's own. -/
theorem wpList_copy_text {P : Program} {w : World} {ops : Array Oper} {rest : List Oper} {o : Oper} {a : Act} {Q : Exit → Act → World → Prop} (hgd : o.guard = none) (d s : Operand) (dT sT : TypeId)
    (ho : o.op = .call { callee := .builtin .copy, args := #[d, s], argTypes := #[dT, sT] }) (elem : TypeId) (hu : P.underlying dT = some (.slice elem)) (hsz : (P.info? elem).map (·.size) = some 1)
    (dp : Option Addr) (dLen dCap : Nat) (x : ByteArray) (hd : a.eval d = .slice dp dLen dCap) (hs : a.eval s = .string x)
    (g off : Nat) (L : List UInt8) (t : TypeId) (hg : Row w g t L) (hle : x.size = dLen) (hpos : 0 < x.size → dp = some ⟨g, off, none⟩) (hfit : off + x.size ≤ L.length)
    (h : ∀ w', Row w' g t (L.take off ++ (x.data.toList ++ L.drop (off + x.size))) → w.grownBy w' (some g) → wpList P ops Q rest (a.put o.dst (goInt x.size)) w') :
    wpList P ops Q (o :: rest) a w := by
  refine wpList_plain hgd fun K hK => ?_
  by_cases h0 : x.size = 0
  · have hrun := Go.Lib.run_copy_empty_string (P := P) w dT sT o.type elem dp dLen dCap x hu (by rw [hsz]; rfl) h0
    unfold Oper.wp
    simp [execOp, ho, resolve, invoke, builtin, hd, hs, hrun, Result.andThen]
    have hx : x.data.toList = [] := List.eq_nil_of_length_eq_zero (by simpa using h0)
    have := h w (by rw [hx, h0]; simpa using hg) ⟨rfl, rfl, rfl, Nat.le_refl _, fun _ _ _ => rfl⟩
    rw [h0] at this
    exact hK _ _ this
  · obtain rfl := hpos (by omega)
    have hrun := Go.Lib.run_copy_row_string (P := P) w dT sT o.type elem g off dLen dCap x _ t hu hsz hg (by omega) (by simpa [cellsOf] using hfit)
    unfold Oper.wp
    simp [execOp, ho, resolve, invoke, builtin, hd, hs, hrun, Result.andThen]
    refine hK _ _ (h _ ?_ ⟨rfl, rfl, rfl, by simp [World.setRow], fun k _ hne => setRow_other w g k _ (fun e => hne (by simp [e]))⟩)
    have e := setRow_heap w g _ (cellsOf (L.take off ++ (x.data.toList ++ L.drop (off + x.size)))).toArray t _ hg
    have e2 : List.take off (cellsOf L) ++ (Go.Lib.byteCells x.data.toList ++ List.drop (off + x.size) (cellsOf L)) = cellsOf (L.take off ++ (x.data.toList ++ L.drop (off + x.size))) := by
      simp [cellsOf, Go.Lib.byteCells]
    rw [Row, e2]
    exact e

/-- A slice's row is older than block g. -/
def Old (A : Option Addr) (g : Nat) : Prop := ∀ a, A = some a → a.block < g
theorem Old.none (g : Nat) : Old none g := fun _ h => by cases h
theorem Old.add {A : Option Addr} {g : Nat} (h : Old A g) (k : Nat) : Old (A.map (·.add k)) g := by
  intro a ha
  cases A with
  | none => cases ha
  | some b =>
    simp only [Option.map_some, Option.some.injEq] at ha
    have := h b rfl
    rw [← ha]
    unfold Addr.add
    split <;> exact this

/-- A reader behind a pointer: block g (of type T) holds a slice that reads as l, its row older than g, and whether it is bad. -/
def Rdr (w : World) (T : TypeId) (g : Nat) (l : List UInt8) (bad : Bool) : Prop :=
  ∃ A n cap, w.heap[g]? = some (.cells #[.slice A n cap, .bool bad] T (0, 0)) ∧ Rd w A n cap l ∧ Old A g

section
variable {T : TypeId} {g : Nat} {bad : Bool}
theorem two_cell {c0 c1 : Value} (h : w.heap[g]? = some (.cells #[c0, c1] T (0, 0))) : w.cell? ⟨g, 0, none⟩ = some c0 ∧ w.cell? ⟨g, 1, none⟩ = some c1 ∧ (∀ i, w.frozen? ⟨g, i, none⟩ = false) :=
  ⟨by rw [cell_of_row w g 0 _ T (0, 0) h]; rfl, by rw [cell_of_row w g 1 _ T (0, 0) h]; rfl, fun i => by simp [World.frozen?, h]⟩
theorem two_no_byte {c0 c1 : Value} (h : w.heap[g]? = some (.cells #[c0, c1] T (0, 0))) (h0 : ∀ k, c0 ≠ .int .u8 k) (h1 : ∀ k, c1 ≠ .int .u8 k) : ∀ o k, w.cell? ⟨g, o, none⟩ ≠ some (.int .u8 k) := by
  intro o k
  rw [cell_of_row w g o _ T (0, 0) h]
  match o with
  | 0 => simpa using h0 k
  | 1 => simpa using h1 k
  | n + 2 => simp
theorem two_set0 {c0 c1 v : Value} (h : w.heap[g]? = some (.cells #[c0, c1] T (0, 0))) : (w.setCell ⟨g, 0, none⟩ v).heap[g]? = some (.cells #[v, c1] T (0, 0)) := by
  simp [World.setCell, Array.getElem?_modify, h]
theorem two_set1 {c0 c1 v : Value} (h : w.heap[g]? = some (.cells #[c0, c1] T (0, 0))) : (w.setCell ⟨g, 1, none⟩ v).heap[g]? = some (.cells #[c0, v] T (0, 0)) := by
  simp [World.setCell, Array.getElem?_modify, h]
theorem Rdr.lt (h : Rdr w T g l bad) : g < w.heap.size := by
  obtain ⟨A, n, cap, hh, _⟩ := h
  exact (Array.getElem?_eq_some_iff.1 hh).1
theorem Rdr.no_byte (h : Rdr w T g l bad) : ∀ o k, w.cell? ⟨g, o, none⟩ ≠ some (.int .u8 k) := by
  obtain ⟨A, n, cap, hh, _⟩ := h
  exact two_no_byte hh (by simp) (by simp)
theorem Rdr.below (h : Rdr w T g l bad) (hb : Below w.heap.size w w') : Rdr w' T g l bad := by
  have hlt := h.lt
  obtain ⟨A, n, cap, hh, hr, ho⟩ := h
  exact ⟨A, n, cap, (hb.block g hlt).trans hh, hr.below hb, ho⟩
/-- Kept where another reader's block alone has changed. -/
theorem Rdr.grown {g' : Nat} (h : Rdr w T g l bad) (hg : w.grownBy w' (some g')) (hne : g ≠ g') (hno : ∀ o k, w.cell? ⟨g', o, none⟩ ≠ some (.int .u8 k)) : Rdr w' T g l bad := by
  have hlt := h.lt
  obtain ⟨A, n, cap, hh, hr, ho⟩ := h
  exact ⟨A, n, cap, (hg.block g hlt (by simpa using hne)).trans hh, hr.grown hg hno, ho⟩
end

end Go.Proofs.YtiplfhmimpkplaaGreat.NumMem

/-
  Opening the arguments of a statement: what a value that can be read as data is. No Go text here.
-/
namespace Go.Proofs.YtiplfhmimpkplaaGreat.Open
open Go.RowKit Go.ChangeShapes Go.WideShapes Go.Proofs.YtiplfhmimpkplaaGreat.NumMem

/-- A slice of one-cell elements: its i-th cell holds f i. -/
def Sl (w : World) (A : Option Addr) (n cap : Nat) (f : Nat → Value) : Prop :=
  n ≤ cap ∧ cap ≤ maxLen ∧ (0 < n → ∃ b o, A = some ⟨b, o, none⟩ ∧ ∀ i, i < n → w.cell? ⟨b, o + i, none⟩ = some (f i))

theorem Sl.at_ {w : World} {A : Option Addr} {n cap : Nat} {f : Nat → Value} (h : Sl w A n cap f) (hn : 0 < n) : ∃ b o, A = some ⟨b, o, none⟩ ∧ b < w.heap.size ∧ ∀ i, i < n → w.cell? ⟨b, o + i, none⟩ = some (f i) := by
  obtain ⟨b, o, rfl, hc⟩ := h.2.2 hn
  exact ⟨b, o, rfl, World.block_lt_of_cell? w _ (hc 0 hn), hc⟩

theorem Sl.below {w w' : World} {B : Nat} {A : Option Addr} {n cap : Nat} {f : Nat → Value} (h : Sl w A n cap f) (hb : Below B w w') (hB : w.heap.size ≤ B) : Sl w' A n cap f :=
  ⟨h.1, h.2.1, fun hn => by
    obtain ⟨b, o, rfl, hlt, hc⟩ := h.at_ hn
    exact ⟨b, o, rfl, fun i hi => (hb.cell (p := ⟨b, o + i, none⟩) (Nat.lt_of_lt_of_le hlt hB)).trans (hc i hi)⟩⟩

section
variable {H : Type} {enc : TypeId × Value → H} {P : Program} {W : World} {base : Nat} {t e : TypeId} {v : Value} {d : DataW H} {p : List MemPlace}

theorem op_int {k : IntKind} (ht : P.underlying t = some (.int k)) (ho : Value.okWide P W .any base t v) (h : DataW.Trod enc P W 0 (fun _ => true) true t v d p) : ∃ x, v = .int k x ∧ (Lit.int k x).wf = true := by
  obtain ⟨x, rfl, _, _, wx⟩ := open_int ht ho h
  exact ⟨x, rfl, wx⟩

theorem op_i64 (ht : P.underlying t = some (.int .i64)) (ho : Value.okWide P W .any base t v) (h : DataW.Trod enc P W 0 (fun _ => true) true t v d p) :
    ∃ x, v = .int .i64 x ∧ -9223372036854775808 ≤ x ∧ x ≤ 9223372036854775807 := by
  obtain ⟨x, rfl, wx⟩ := op_int ht ho h
  exact ⟨x, rfl, bounds_i64 wx⟩

theorem op_bool (ht : P.underlying t = some .bool) (ho : Value.okWide P W .any base t v) (h : DataW.Trod enc P W 0 (fun _ => true) true t v d p) : ∃ x, v = .bool x := by
  obtain ⟨x, rfl, _, _⟩ := open_bool ht ho h
  exact ⟨x, rfl⟩

theorem op_string (ht : P.underlying t = some .string) (ho : Value.okWide P W .any base t v) (h : DataW.Trod enc P W 0 (fun _ => true) true t v d p) : ∃ s, v = .string s ∧ s.size ≤ maxLen := by
  obtain ⟨s, rfl, _, _, hs⟩ := Go.ChangeMaps.open_string ht ho h
  exact ⟨s, rfl, hs⟩

theorem spot_none {w : World} {x : Addr} {v : Value} (h : w.cell? (x.add 0) = some v) : x = ⟨x.block, x.off, none⟩ := by
  have := World.cell?_spot h
  obtain ⟨b, o, s⟩ := x
  have hs : s = none := by simpa [Addr.add] using this
  subst hs
  rfl

theorem add_at (b o i : Nat) : (⟨b, o, none⟩ : Addr).add i = ⟨b, o + i, none⟩ := by unfold Addr.add; split <;> simp_all

/-- From cells up to the capacity to 'Sl'. -/
theorem sl_of {a : Addr} {len cap : Nat} {f : Nat → Value} (hl : len ≤ cap) (hm : cap ≤ maxLen) (hc : ∀ i, i < cap → W.cell? (a.add i) = some (f i)) : Sl W (some a) len cap f :=
  ⟨hl, hm, fun hn => by
    have e := spot_none (hc 0 (by omega))
    refine ⟨a.block, a.off, by rw [← e], fun i hi => ?_⟩
    have := hc i (by omega)
    rw [e, add_at] at this
    exact this⟩

theorem op_ints {k : IntKind} (ht : P.underlying t = some (.slice e)) (he : P.underlying e = some (.int k)) (hce : P.cellsOf e = 1) (ho : Value.okWide P W .any base t v) (h : DataW.Trod enc P W 0 (fun _ => true) true t v d p) :
    ∃ (A : Option Addr) (n cap : Nat) (zs : List Int), v = .slice A n cap ∧ zs.length = n ∧ (∀ z ∈ zs, (Lit.int k z).wf = true) ∧ Sl W A n cap (fun i => .int k (zs.getD i 0)) := by
  obtain ⟨a, len, cap, rfl⟩ := okWide_slice ht ho
  obtain ⟨fuel, hf⟩ := h
  rcases open_ints ht he hce hf with ⟨hcs, _⟩ | ⟨x, l, c, zs, hcs, _, hl, hm, hz, _, hcell, hwz⟩
  · simp [Value.cells] at hcs
    obtain ⟨rfl, rfl, rfl⟩ := hcs
    exact ⟨none, 0, 0, [], rfl, rfl, by simp, Nat.le_refl _, Nat.zero_le _, fun h => absurd h (by omega)⟩
  · simp [Value.cells] at hcs
    obtain ⟨rfl, rfl, rfl⟩ := hcs
    have hz' : zs.length = cap := by simpa using hz
    have hs := sl_of (W := W) (f := fun i => .int k (zs.getD i 0)) hl hm (by rw [← hz']; exact hcell)
    refine ⟨_, _, _, zs.take len, rfl, by simp; omega, fun z hz => hwz z (List.mem_of_mem_take hz), hs.1, hs.2.1, fun hn => ?_⟩
    obtain ⟨b, o, hA, hc⟩ := hs.2.2 hn
    refine ⟨b, o, hA, fun i hi => ?_⟩
    rw [hc i hi]
    simp [List.getD, hi]

theorem op_bytes (ht : P.underlying t = some (.slice e)) (he : P.underlying e = some (.int .u8)) (hce : P.cellsOf e = 1) (ho : Value.okWide P W .any base t v) (h : DataW.Trod enc P W 0 (fun _ => true) true t v d p) :
    ∃ (A : Option Addr) (n cap : Nat) (l : List UInt8), v = .slice A n cap ∧ Rd W A n cap l := by
  obtain ⟨A, n, cap, zs, rfl, hl, hw, hs⟩ := op_ints ht he hce ho h
  refine ⟨A, n, cap, zs.map fun z => UInt8.ofNat z.toNat, rfl, by simpa using hl, hs.1, hs.2.1, fun hn => ?_⟩
  obtain ⟨b, o, hA, hc⟩ := hs.2.2 hn
  refine ⟨b, o, hA, fun i hi => ?_⟩
  have hi' : i < zs.length := by omega
  have hb := bounds_u8 (hw zs[i] (List.getElem_mem hi'))
  rw [hc i hi]
  simp only [List.getD, List.getElem?_map, List.getElem?_eq_getElem hi', Option.map_some, Option.getD_some]
  congr 2
  have : zs[i].toNat < 256 := by omega
  simp [Nat.mod_eq_of_lt this]
  omega

theorem op_bools (ht : P.underlying t = some (.slice e)) (he : P.underlying e = some .bool) (hce : P.cellsOf e = 1) (ho : Value.okWide P W .any base t v) (h : DataW.Trod enc P W 0 (fun _ => true) true t v d p) :
    ∃ (A : Option Addr) (n cap : Nat) (B : Nat → Bool), v = .slice A n cap ∧ Sl W A n cap (fun i => .bool (B i)) := by
  obtain ⟨a, len, cap, rfl⟩ := okWide_slice ht ho
  obtain ⟨fuel, hf⟩ := h
  rcases Go.Deep.open_bools ht he hce hf with ⟨hcs, _⟩ | ⟨x, l, c, B, hcs, _, hl, hm, _, hcell⟩
  · simp [Value.cells] at hcs
    obtain ⟨rfl, rfl, rfl⟩ := hcs
    exact ⟨none, 0, 0, fun _ => false, rfl, Nat.le_refl _, Nat.zero_le _, fun h => absurd h (by omega)⟩
  · simp [Value.cells] at hcs
    obtain ⟨rfl, rfl, rfl⟩ := hcs
    exact ⟨_, _, _, B, rfl, sl_of hl hm hcell⟩

theorem op_strings (ht : P.underlying t = some (.slice e)) (he : P.underlying e = some .string) (hce : P.cellsOf e = 1) (ho : Value.okWide P W .any base t v) (h : DataW.Trod enc P W 0 (fun _ => true) true t v d p) :
    ∃ (A : Option Addr) (n cap : Nat) (ss : List ByteArray), v = .slice A n cap ∧ ss.length = n ∧ (∀ s ∈ ss, s.size ≤ maxLen) ∧ Sl W A n cap (fun i => .string (ss.getD i ByteArray.empty)) := by
  obtain ⟨a, len, cap, rfl⟩ := okWide_slice ht ho
  obtain ⟨fuel, hf⟩ := h
  rcases open_strings ht he hce hf with ⟨hcs, _⟩ | ⟨x, l, c, zs, hcs, _, hl, hm, hz, _, hcell, hwz⟩
  · simp [Value.cells] at hcs
    obtain ⟨rfl, rfl, rfl⟩ := hcs
    exact ⟨none, 0, 0, [], rfl, rfl, by simp, Nat.le_refl _, Nat.zero_le _, fun h => absurd h (by omega)⟩
  · simp [Value.cells] at hcs
    obtain ⟨rfl, rfl, rfl⟩ := hcs
    have hz' : zs.length = cap := by simpa using hz
    have hs := sl_of (W := W) (f := fun i => .string (zs.getD i ByteArray.empty)) hl hm (by rw [← hz']; exact hcell)
    refine ⟨_, _, _, zs.take len, rfl, by simp; omega, fun z hz => hwz z (List.mem_of_mem_take hz), hs.1, hs.2.1, fun hn => ?_⟩
    obtain ⟨b, o, hA, hc⟩ := hs.2.2 hn
    refine ⟨b, o, hA, fun i hi => ?_⟩
    rw [hc i hi]
    simp [List.getD, hi]
end

end Go.Proofs.YtiplfhmimpkplaaGreat.Open

/-
  Words on memory for slices of any elements: a slice that reads as a row of cells (k cells an element; nil and empty let in), rows of the call's own, append. No Go text here.
-/
namespace Go.Proofs.YtiplfhmimpkplaaGreat.MemRow
open Go.RowKit
set_option linter.unusedVariables false

/-- The slice value (A, n, cap) of elements of k cells reads as the cells cs. -/
def RdC (k : Nat) (w : World) (A : Option Addr) (n cap : Nat) (cs : List Value) : Prop :=
  cs.length = n * k ∧ n ≤ cap ∧ cap ≤ maxLen ∧ (0 < n → ∃ b o, A = some ⟨b, o, none⟩ ∧ ∀ i v, cs[i]? = some v → w.cell? ⟨b, o + i, none⟩ = some v)

variable {w w' : World} {A : Option Addr} {n cap k : Nat} {cs : List Value} {ss : List ByteArray} {fs : List (ByteArray × Int)}

theorem RdC.nil (w : World) : RdC k w none 0 0 [] := ⟨by simp, Nat.le_refl _, Nat.zero_le _, fun h => absurd h (by omega)⟩
theorem RdC.empty (w : World) (A : Option Addr) (h : cap ≤ maxLen) : RdC k w A 0 cap [] := ⟨by simp, Nat.zero_le _, h, fun h => absurd h (by omega)⟩
theorem RdC.len (h : RdC k w A n cap cs) : cs.length = n * k := h.1
theorem RdC.le_cap (h : RdC k w A n cap cs) : n ≤ cap := h.2.1
theorem RdC.cap_le (h : RdC k w A n cap cs) : cap ≤ maxLen := h.2.2.1
theorem RdC.le (h : RdC k w A n cap cs) : n ≤ maxLen := Nat.le_trans h.2.1 h.2.2.1

theorem RdC.at_ (h : RdC k w A n cap cs) (hk : 0 < k) (hn : 0 < n) : ∃ b o, A = some ⟨b, o, none⟩ ∧ b < w.heap.size ∧ ∀ i v, cs[i]? = some v → w.cell? ⟨b, o + i, none⟩ = some v := by
  obtain ⟨b, o, rfl, hc⟩ := h.2.2.2 hn
  have h0 : 0 < cs.length := by rw [h.1]; exact Nat.mul_pos hn hk
  exact ⟨b, o, rfl, World.block_lt_of_cell? w _ (hc 0 _ (List.getElem?_eq_getElem h0)), hc⟩

theorem RdC.keep (h : RdC k w A n cap cs) (hk : ∀ b o, A = some ⟨b, o, none⟩ → ∀ i v, w.cell? ⟨b, o + i, none⟩ = some v → w'.cell? ⟨b, o + i, none⟩ = some v) : RdC k w' A n cap cs :=
  ⟨h.1, h.2.1, h.2.2.1, fun hn => by
    obtain ⟨b, o, rfl, hc⟩ := h.2.2.2 hn
    exact ⟨b, o, rfl, fun i v hi => hk b o rfl i v (hc i v hi)⟩⟩

/-- As 'keep', where the slice may be empty. -/
theorem RdC.keepN (h : RdC k w A n cap cs) (hk : 0 < n → ∀ b o, A = some ⟨b, o, none⟩ → ∀ i v, w.cell? ⟨b, o + i, none⟩ = some v → w'.cell? ⟨b, o + i, none⟩ = some v) : RdC k w' A n cap cs :=
  ⟨h.1, h.2.1, h.2.2.1, fun hn => by
    obtain ⟨b, o, rfl, hc⟩ := h.2.2.2 hn
    exact ⟨b, o, rfl, fun i v hi => hk hn b o rfl i v (hc i v hi)⟩⟩

theorem RdC.below (h : RdC k w A n cap cs) (hb : Below w.heap.size w w') : RdC k w' A n cap cs :=
  h.keep fun b o _ i v hi => (hb.cell (p := ⟨b, o + i, none⟩) (World.block_lt_of_cell? w _ hi)).trans hi

theorem RdC.drewN (h : RdC k w A n cap cs) (m : Nat) : RdC k (w.drewN m) A n cap cs := h
theorem RdC.drew (h : RdC k w A n cap cs) : RdC k w.drew A n cap cs := h

/-- Kept where just block g has changed, and the slice lies in another. -/
theorem RdC.grown {row : Option Nat} (h : RdC k w A n cap cs) (hg : w.grownBy w' row) (hne : ∀ b o, A = some ⟨b, o, none⟩ → some b ≠ row) : RdC k w' A n cap cs :=
  h.keep fun b o hA i v hi => hg.cell hi (hne b o hA)

theorem add_plain (b o i : Nat) : (⟨b, o, none⟩ : Addr).add i = ⟨b, o + i, none⟩ := by unfold Addr.add; split <;> simp_all

/-- v[m:]. The model keeps the address where m is the capacity. -/
theorem RdC.cut (h : RdC k w A n cap cs) {m : Nat} (hm : m ≤ n) : RdC k w (if cap = m then A else A.map (·.add (m * k))) (n - m) (cap - m) (cs.drop (m * k)) := by
  refine ⟨by rw [List.length_drop, h.1, Nat.sub_mul], by have := h.2.1; omega, by have := h.2.2.1; omega, fun hn => ?_⟩
  obtain ⟨b, o, rfl, hc⟩ := h.2.2.2 (by omega)
  have := h.2.1
  rw [if_neg (by omega)]
  refine ⟨b, o + m * k, by simp [Addr.add], fun i v hi => ?_⟩
  rw [List.getElem?_drop] at hi
  rw [Nat.add_assoc]
  exact hc _ v hi

/-- v[:m]. -/
theorem RdC.first (h : RdC k w A n cap cs) {m : Nat} (hm : m ≤ n) : RdC k w A m cap (cs.take (m * k)) := by
  have hmk : m * k ≤ n * k := Nat.mul_le_mul_right k hm
  refine ⟨by rw [List.length_take, h.1]; omega, by have := h.2.1; omega, h.2.2.1, fun hn => ?_⟩
  obtain ⟨b, o, rfl, hc⟩ := h.2.2.2 (by omega)
  refine ⟨b, o, rfl, fun i v hi => hc i v ?_⟩
  by_cases h1 : i < m * k
  · rwa [List.getElem?_take_of_lt h1] at hi
  · rw [List.getElem?_eq_none (by rw [List.length_take]; omega)] at hi
    cases hi

theorem RdC.of_block {g : Nat} {t : TypeId} {fr : Nat × Nat} {ar : Array Value} (hg : w.heap[g]? = some (.cells ar t fr)) (hl : cs.length = n * k) (hn : n ≤ cap) (hc : cap ≤ maxLen) (h : ∀ (i : Nat) (v : Value), cs[i]? = some v → ar[i]? = some v) :
    RdC k w (some ⟨g, 0, none⟩) n cap cs :=
  ⟨hl, hn, hc, fun _ => ⟨g, 0, rfl, fun i v hi => by rw [Nat.zero_add, cell_of_row w g i ar t fr hg]; exact h i v hi⟩⟩

/-- A new row. -/
theorem RdC.new (w : World) (t : TypeId) (cs : List Value) (hl : cs.length = n * k) (hn : n ≤ maxLen) : RdC k (w.alloc (.cells cs.toArray t)) (some ⟨w.heap.size, 0, none⟩) n n cs :=
  RdC.of_block (heap_alloc_new w _) hl (Nat.le_refl _) hn fun i v hi => by simpa using hi

/-- A slice of the call's own (its block from 'base' on) that holds the cells cs. -/
def OwnC (k : Nat) (w : World) (base : Nat) (t : TypeId) (A : Option Addr) (n cap : Nat) (cs : List Value) : Prop := w.ownsRow base t k (.slice A n cap) n cs

variable {base : Nat} {t : TypeId}

theorem OwnC.len (h : OwnC k w base t A n cap cs) : cs.length = n * k := h.1

theorem OwnC.rd (h : OwnC k w base t A n cap cs) : RdC k w A n cap cs := by
  have hl := h.len
  rcases h.2 with ⟨hv, hn⟩ | ⟨g, c, cur, hv, hb, hg, hnc, hcm, hcs, htake⟩
  · injection hv with e1 e2 e3
    subst e1 e3
    refine ⟨hl, by omega, Nat.zero_le _, fun h0 => absurd h0 (by omega)⟩
  · injection hv with e1 e2 e3
    subst e1 e3
    refine RdC.of_block hg hl hnc hcm fun i v hi => ?_
    rw [← htake] at hi
    have hlt : i < n * k := by
      have := (List.getElem?_eq_some_iff.1 hi).1
      rw [List.length_take] at this
      omega
    rw [List.getElem?_take_of_lt hlt] at hi
    simpa using hi

theorem OwnC.lt (h : OwnC k w base t A n cap cs) : ∀ a, A = some a → base ≤ a.block ∧ a.block < w.heap.size := by
  rintro a rfl
  exact World.ownsRow.lt h a.block rfl

theorem OwnC.below (h : OwnC k w base t A n cap cs) (hb : Below w.heap.size w w') : OwnC k w' base t A n cap cs := World.ownsRow.kept h (below_grown_ hb) (by
  cases hv : (Value.slice A n cap).ownBlock <;> simp)
where below_grown_ (hb : Below w.heap.size w w') : w.grownBy w' none := ⟨hb.os, hb.tape, hb.output, hb.size, fun j hj _ => hb.block j hj⟩

theorem OwnC.nil (w : World) (t : TypeId) : OwnC k w base t none 0 0 [] := ⟨by simp, .inl ⟨rfl, rfl⟩⟩

theorem OwnC.empty (w : World) (t : TypeId) (hb : base ≤ w.heap.size) : OwnC k (w.alloc (.cells #[] t)) base t (some ⟨w.heap.size, 0, none⟩) 0 0 [] :=
  ⟨by simp, .inr ⟨w.heap.size, 0, #[], rfl, hb, heap_alloc_new w _, Nat.le_refl _, Nat.zero_le _, by simp, by simp⟩⟩

/-- A row of the call's own stays where another one of the call's own has grown. -/
theorem OwnC.grown {row : Option Nat} (h : OwnC k w base t A n cap cs) (hg : w.grownBy w' row) (hne : ∀ a, A = some a → some a.block ≠ row) : OwnC k w' base t A n cap cs := World.ownsRow.kept h hg (by
  cases A with
  | none => simp [Value.ownBlock]
  | some a => right; simpa [Value.ownBlock] using hne a rfl)

section
variable {P : Program}
/-- append: of a row of the call's own and what reads as cells. -/
theorem run_append_cells (T ty e : TypeId) (z : Value) (by_ : Nat) (hT : P.underlying T = some (.slice e)) (hi : (P.info? e).map (fun i => (i.zero, i.size, i.bytes)) = some (some z, k, by_)) (hzk : z.cells.size = k) (hk : 0 < k)
    (hown : OwnC k w base e A n cap cs) {B : Option Addr} {m c : Nat} {ds : List Value} (hr : RdC k w B m c ds) (h1 : ∀ v ∈ ds, v.oneCell' = true) (h63 : n + m ≤ maxLen) (hsz : (n + m) * by_ ≤ 140737488355328) (hbase : base ≤ w.heap.size) :
    ∃ A' cap' w', (Builtin.append_ #[T, T] ty #[.slice A n cap, .slice B m c]).run P w = .ok (.slice A' (n + m) cap') w' ∧ OwnC k w' base e A' (n + m) cap' (cs ++ ds) ∧ w.grownBy w' (A.map (·.block)) ∧ (A'.map (·.block) = A.map (·.block) ∨ A'.map (·.block) = some w.heap.size) := by
  obtain ⟨i, g1, g2, g3, g4⟩ : ∃ i, P.info? e = some i ∧ i.zero = some z ∧ i.size = k ∧ i.bytes = by_ := by
    cases hq : P.info? e with
    | none => simp [hq] at hi
    | some i => simp [hq] at hi; exact ⟨i, rfl, hi.1, hi.2.1, hi.2.2⟩
  have ob : (Value.slice A n cap).ownBlock = A.map (·.block) := by cases A <;> rfl
  have done : ∀ v' w2, (Builtin.append_ #[T, T] ty #[.slice A n cap, .slice B m c]).run P w = .ok v' w2 → w2.ownsRow base e k v' (n + m) (cs ++ ds) → w.grownBy w2 (Value.slice A n cap).ownBlock → (v'.ownBlock = (Value.slice A n cap).ownBlock ∨ v'.ownBlock = some w.heap.size) →
      ∃ A' cap' w', (Builtin.append_ #[T, T] ty #[.slice A n cap, .slice B m c]).run P w = .ok (.slice A' (n + m) cap') w' ∧ OwnC k w' base e A' (n + m) cap' (cs ++ ds) ∧ w.grownBy w' (A.map (·.block)) ∧ (A'.map (·.block) = A.map (·.block) ∨ A'.map (·.block) = some w.heap.size) := by
    intro v' w2 hrun ho hg hbl
    rw [ob] at hg hbl
    rcases ho.2 with ⟨rfl, hn⟩ | ⟨g, c2, cur, rfl, hrest⟩
    · refine ⟨none, 0, w2, by rw [hrun, hn], ?_, hg, hbl⟩
      rw [hn] at ho ⊢
      exact ho
    · exact ⟨_, c2, w2, hrun, ho, hg, hbl⟩
  cases B with
  | none =>
    have hm : m = 0 := by
      rcases Nat.eq_zero_or_pos m with h0 | h0
      · exact h0
      · obtain ⟨b, o, h, _⟩ := hr.2.2.2 h0
        cases h
    subst hm
    have hd : ds = [] := List.eq_nil_of_length_eq_zero (by rw [hr.1]; simp)
    subst hd
    refine done (.slice A n cap) w ?_ (by simpa [OwnC] using hown) (World.grownBy.refl _ _) (.inl rfl)
    have hown' := hown
    rcases hown'.2 with ⟨hv, rfl⟩ | ⟨g, c2, cur, hv, _, _, hnc, _⟩
    · injection hv with e1 e2 e3
      subst e1 e3
      simp [Builtin.append_, run_underlying hT, sizeOf, typeInfo, g1, Builtin.lenOf, Builtin.firstCells]
    · injection hv with e1 e2 e3
      subst e1 e3
      simp [Builtin.append_, run_underlying hT, sizeOf, typeInfo, g1, Builtin.lenOf, Builtin.firstCells, hnc, storeCells]
  | some ad =>
    have hsrc : ∀ j u, ds[j]? = some u → w.cell? (ad.add j) = some u := by
      intro j u hu
      have hm : 0 < m := by
        have := (List.getElem?_eq_some_iff.1 hu).1
        rw [hr.1] at this
        exact Nat.pos_of_mul_pos_right (by omega : 0 < m * k) |> fun h => h
      obtain ⟨b, o, h, hc⟩ := hr.2.2.2 hm
      injection h with h
      subst h
      rw [add_plain]
      exact hc j u hu
    obtain ⟨v', w2, hrun, ho, hg, _, hbl⟩ := run_append_own_at (P := P) w base T ty e i z k by_ hT g1 g2 g3 g4 hzk hk _ n _ hown ad m c ds hr.1 hsrc h1 h63 hsz hbase
    exact done v' w2 hrun ho hg hbl

theorem wp_append_cells {o : Oper} {a : Act} {K : Act → World → Prop} {Q : Exit → Act → World → Prop} (s x : Operand) (T : TypeId)
    (ho : o.op = .call { callee := .builtin .append, args := #[s, x], argTypes := #[T, T] }) (e : TypeId) (z : Value) (by_ : Nat) (hT : P.underlying T = some (.slice e)) (hi : (P.info? e).map (fun i => (i.zero, i.size, i.bytes)) = some (some z, k, by_)) (hzk : z.cells.size = k) (hk : 0 < k)
    (hs : a.eval s = .slice A n cap) {B : Option Addr} {m c : Nat} {ds : List Value} (hx : a.eval x = .slice B m c) (hown : OwnC k w base e A n cap cs) (hr : RdC k w B m c ds) (h1 : ∀ v ∈ ds, v.oneCell' = true) (h63 : n + m ≤ maxLen) (hsz : (n + m) * by_ ≤ 140737488355328) (hbase : base ≤ w.heap.size)
    (h : ∀ A' cap' w', OwnC k w' base e A' (n + m) cap' (cs ++ ds) → w.grownBy w' (A.map (·.block)) → (A'.map (·.block) = A.map (·.block) ∨ A'.map (·.block) = some w.heap.size) → K (a.put o.dst (.slice A' (n + m) cap')) w') : o.wp P a w K Q := by
  obtain ⟨A', cap', w', hrun, h2, h3, h4⟩ := run_append_cells (P := P) T o.type e z by_ hT hi hzk hk hown hr h1 h63 hsz hbase
  unfold Oper.wp execOp
  simp only [ho, resolve, invoke, builtin, Sem.run_bind, Sem.run_pure, Result.andThen_ok, List.map_toArray, List.map_cons, List.map_nil, hs, hx, hrun]
  exact h A' cap' w' h2 h3 h4

theorem wpList_append_cells {ops : Array Oper} {rest : List Oper} {o : Oper} {a : Act} {Q : Exit → Act → World → Prop} (hgd : o.guard = none) (s x : Operand) (T : TypeId)
    (ho : o.op = .call { callee := .builtin .append, args := #[s, x], argTypes := #[T, T] }) (e : TypeId) (z : Value) (by_ : Nat) (hT : P.underlying T = some (.slice e)) (hi : (P.info? e).map (fun i => (i.zero, i.size, i.bytes)) = some (some z, k, by_)) (hzk : z.cells.size = k) (hk : 0 < k)
    (hs : a.eval s = .slice A n cap) {B : Option Addr} {m c : Nat} {ds : List Value} (hx : a.eval x = .slice B m c) (hown : OwnC k w base e A n cap cs) (hr : RdC k w B m c ds) (h1 : ∀ v ∈ ds, v.oneCell' = true) (h63 : n + m ≤ maxLen) (hsz : (n + m) * by_ ≤ 140737488355328) (hbase : base ≤ w.heap.size)
    (h : ∀ A' cap' w', OwnC k w' base e A' (n + m) cap' (cs ++ ds) → w.grownBy w' (A.map (·.block)) → (A'.map (·.block) = A.map (·.block) ∨ A'.map (·.block) = some w.heap.size) → wpList P ops Q rest (a.put o.dst (.slice A' (n + m) cap')) w') : wpList P ops Q (o :: rest) a w :=
  wpList_plain hgd fun _ hK => wp_append_cells s x T ho e z by_ hT hi hzk hk hs hx hown hr h1 h63 hsz hbase fun A' cap' w' h2 h3 h4 => hK _ _ (h A' cap' w' h2 h3 h4)

theorem step_append_cells {ops : Array Oper} {o : Oper} {a : Act} {K : Act → World → Prop} {Q : Exit → Act → World → Prop} {E : Prop} (hw : Region.wanted o (yielded ops a.tmps) = true) (s x : Operand) (T : TypeId)
    (ho : o.op = .call { callee := .builtin .append, args := #[s, x], argTypes := #[T, T] }) (e : TypeId) (z : Value) (by_ : Nat) (hT : P.underlying T = some (.slice e)) (hi : (P.info? e).map (fun i => (i.zero, i.size, i.bytes)) = some (some z, k, by_)) (hzk : z.cells.size = k) (hk : 0 < k)
    (hs : a.eval s = .slice A n cap) {B : Option Addr} {m c : Nat} {ds : List Value} (hx : a.eval x = .slice B m c) (hown : OwnC k w base e A n cap cs) (hr : RdC k w B m c ds) (h1 : ∀ v ∈ ds, v.oneCell' = true) (h63 : n + m ≤ maxLen) (hsz : (n + m) * by_ ≤ 140737488355328) (hbase : base ≤ w.heap.size)
    (h : ∀ A' cap' w', OwnC k w' base e A' (n + m) cap' (cs ++ ds) → w.grownBy w' (A.map (·.block)) → (A'.map (·.block) = A.map (·.block) ∨ A'.map (·.block) = some w.heap.size) → K (a.put o.dst (.slice A' (n + m) cap')) w') :
    if Region.wanted o (yielded ops a.tmps) = true then Oper.wp P o a w K Q else E := by
  rw [if_pos hw]
  exact wp_append_cells s x T ho e z by_ hT hi hzk hk hs hx hown hr h1 h63 hsz hbase h
end

/-- Below, where a row of the call's own has grown. -/
theorem below_grown_own (hown : OwnC k w base t A n cap cs) {w0 : World} (hb : Below base w0 w) (hg : w.grownBy w' (A.map (·.block))) (hbase : base ≤ w.heap.size) : Below base w0 w' :=
  hb.grown hg hbase fun g hg' => by
    cases A with
    | none => simp at hg'
    | some a =>
      simp only [Option.map_some, Option.some.injEq] at hg'
      subst hg'
      exact (hown.lt a rfl).1

section
variable {P : Program}
theorem run_size {e : TypeId} (hi : (P.info? e).map (·.size) = some k) (W : World) : (sizeOf e).run P W = .ok k W := by
  cases hq : P.info? e with
  | none => simp [hq] at hi
  | some i =>
    have hs : i.size = k := by simpa [hq] using hi
    simp [sizeOf, typeInfo, hq, hs]
/-- v[m:] -/
theorem slice_lo (T e : TypeId) (hT : P.underlying T = some (.slice e)) (he : P.elem T = e) (hi : (P.info? e).map (·.size) = some k) (h : RdC k w A n cap cs) {m : Nat} (hm : m ≤ n) :
    ∃ A1, (∀ W, (Instr.slice T (.slice A n cap) (some (.int .i64 (m : Int))) none none).run P W = .ok (.slice A1 (n - m) (cap - m)) W) ∧ RdC k w A1 (n - m) (cap - m) (cs.drop (m * k)) := by
  refine ⟨_, fun W => ?_, h.cut hm⟩
  have hu : P.underlying T = some (.slice (P.elem T)) := by rw [he]; exact hT
  rw [run_slice_l (P := P) W T _ n cap hu .i64 (m : Int) (by omega) (by omega), he, run_size hi]
  simp only [Result.andThen, sliced, Int.toNat_natCast]
/-- v[:m] -/
theorem slice_hi (T e : TypeId) (hT : P.underlying T = some (.slice e)) (he : P.elem T = e) (hi : (P.info? e).map (·.size) = some k) (h : RdC k w A n cap cs) {m : Nat} (hm : m ≤ n) :
    (∀ W, (Instr.slice T (.slice A n cap) none (some (.int .i64 (m : Int))) none).run P W = .ok (.slice A m cap) W) ∧ RdC k w A m cap (cs.take (m * k)) := by
  refine ⟨fun W => ?_, h.first hm⟩
  have hc := h.le_cap
  have hu : P.underlying T = some (.slice (P.elem T)) := by rw [he]; exact hT
  have e0 : A.map (·.add 0) = A := by cases A <;> simp [Addr.add]
  rw [run_slice_h (P := P) W T _ n cap hu .i64 (m : Int) (by omega) (by omega), he, run_size hi]
  simp only [Result.andThen, sliced, Int.toNat_natCast, Nat.zero_mul, e0, Nat.sub_zero]
  congr 2
  split <;> rfl
end

/-- append([]T{}, x...): a copy. -/
theorem wpList_copy_cells {P : Program} {ops : Array Oper} {rest : List Oper} {o : Oper} {a : Act} {Q : Exit → Act → World → Prop} (hgd : o.guard = none) (s x : Operand) (T : TypeId)
    (ho : o.op = .call { callee := .builtin .append, args := #[s, x], argTypes := #[T, T] }) (e : TypeId) (z : Value) (by_ : Nat) (hT : P.underlying T = some (.slice e)) (hi : (P.info? e).map (fun i => (i.zero, i.size, i.bytes)) = some (some z, k, by_)) (hzk : z.cells.size = k) (hk : 0 < k)
    {c0 : Nat} (hs : a.eval s = .slice A 0 c0) {B : Option Addr} {m c : Nat} {ds : List Value} (hx : a.eval x = .slice B m c) (hown : OwnC k w base e A 0 c0 []) (hr : RdC k w B m c ds) (h1 : ∀ v ∈ ds, v.oneCell' = true) (h63 : m ≤ maxLen) (hsz : m * by_ ≤ 140737488355328) (hbase : base ≤ w.heap.size) {w0 : World} (hb : Below base w0 w)
    (h : ∀ A' cap' w', OwnC k w' base e A' m cap' ds → Below base w0 w' → wpList P ops Q rest (a.put o.dst (.slice A' m cap')) w') : wpList P ops Q (o :: rest) a w :=
  wpList_append_cells hgd s x T ho e z by_ hT hi hzk hk hs hx hown hr h1 (by omega) (by rw [Nat.zero_add]; exact hsz) hbase fun A' cap' w' h2 h3 _ => by
    have h4 := h A' cap' w' (by simpa using h2) (below_grown_own hown hb h3 hbase)
    rw [Nat.zero_add]
    exact h4
/-- append(v, x...), v of the call's own. -/
theorem wpList_more_cells {P : Program} {ops : Array Oper} {rest : List Oper} {o : Oper} {a : Act} {Q : Exit → Act → World → Prop} (hgd : o.guard = none) (s x : Operand) (T : TypeId)
    (ho : o.op = .call { callee := .builtin .append, args := #[s, x], argTypes := #[T, T] }) (e : TypeId) (z : Value) (by_ : Nat) (hT : P.underlying T = some (.slice e)) (hi : (P.info? e).map (fun i => (i.zero, i.size, i.bytes)) = some (some z, k, by_)) (hzk : z.cells.size = k) (hk : 0 < k)
    (hs : a.eval s = .slice A n cap) {B : Option Addr} {m c : Nat} {ds : List Value} (hx : a.eval x = .slice B m c) (hown : OwnC k w base e A n cap cs) (hr : RdC k w B m c ds) (h1 : ∀ v ∈ ds, v.oneCell' = true) (h63 : n + m ≤ maxLen) (hsz : (n + m) * by_ ≤ 140737488355328) (hbase : base ≤ w.heap.size) {w0 : World} (hb : Below base w0 w)
    (h : ∀ A' cap' w', OwnC k w' base e A' (n + m) cap' (cs ++ ds) → Below base w0 w' → w.grownBy w' (A.map (·.block)) → wpList P ops Q rest (a.put o.dst (.slice A' (n + m) cap')) w') : wpList P ops Q (o :: rest) a w :=
  wpList_append_cells hgd s x T ho e z by_ hT hi hzk hk hs hx hown hr h1 h63 hsz hbase fun A' cap' w' h2 h3 _ => h A' cap' w' h2 (below_grown_own hown hb h3 hbase) h3

/-! ### Texts, and numbers with a name -/

def strs (ss : List ByteArray) : List Value := ss.map .string
theorem strs_length (ss : List ByteArray) : (strs ss).length = ss.length := by simp [strs]
theorem strs_append (a b : List ByteArray) : strs (a ++ b) = strs a ++ strs b := by simp [strs]
theorem strs_one (ss : List ByteArray) : ∀ v ∈ strs ss, v.oneCell' = true := by
  intro v hv
  simp only [strs, List.mem_map] at hv
  obtain ⟨c, _, rfl⟩ := hv
  rfl
theorem strs_take (ss : List ByteArray) (i : Nat) : (strs ss).take (i * 1) = strs (ss.take i) := by simp [strs]
theorem strs_drop (ss : List ByteArray) (i : Nat) : (strs ss).drop (i * 1) = strs (ss.drop i) := by simp [strs]

/-- A slice of texts. -/
def RdS (w : World) (A : Option Addr) (n cap : Nat) (ss : List ByteArray) : Prop := RdC 1 w A n cap (strs ss)
theorem RdS.len (h : RdS w A n cap ss) : ss.length = n := by have := h.1; rw [strs_length] at this; omega
theorem RdS.at_ (h : RdS w A n cap ss) (hn : 0 < n) : ∃ b o, A = some ⟨b, o, none⟩ ∧ b < w.heap.size ∧ ∀ i, i < n → w.cell? ⟨b, o + i, none⟩ = some (.string (ss.getD i ByteArray.empty)) := by
  obtain ⟨b, o, rfl, hb, hc⟩ := RdC.at_ h (by omega) hn
  refine ⟨b, o, rfl, hb, fun i hi => hc i _ ?_⟩
  have hi' : i < ss.length := by rw [h.len]; exact hi
  simp [strs, List.getD, List.getElem?_eq_getElem hi']

def fld (f : ByteArray × Int) : List Value := [.string f.1, .int .i64 f.2]
def flds (fs : List (ByteArray × Int)) : List Value := fs.flatMap fld
theorem flds_length (fs : List (ByteArray × Int)) : (flds fs).length = fs.length * 2 := by
  induction fs with
  | nil => rfl
  | cons f fs ih => rw [flds, List.flatMap_cons, List.length_append, ← flds, ih]; simp [fld]; omega
theorem flds_append (a b : List (ByteArray × Int)) : flds (a ++ b) = flds a ++ flds b := by simp [flds]
theorem flds_one (fs : List (ByteArray × Int)) : ∀ v ∈ flds fs, v.oneCell' = true := by
  intro v hv
  simp only [flds, List.mem_flatMap, fld] at hv
  obtain ⟨c, _, hv⟩ := hv
  simp at hv
  rcases hv with rfl | rfl <;> rfl
theorem flds_take (fs : List (ByteArray × Int)) : ∀ i : Nat, (flds fs).take (i * 2) = flds (fs.take i) := by
  induction fs with
  | nil => intro i; simp [flds]
  | cons f fs ih =>
    intro i
    cases i with
    | zero => simp [flds]
    | succ i =>
      have e : (i + 1) * 2 = i * 2 + 2 := by omega
      rw [e, List.take_succ_cons, show flds (f :: fs) = Value.string f.1 :: Value.int .i64 f.2 :: flds fs from rfl, List.take_succ_cons, List.take_succ_cons, ih i]
      rfl
theorem flds_drop (fs : List (ByteArray × Int)) : ∀ i : Nat, (flds fs).drop (i * 2) = flds (fs.drop i) := by
  induction fs with
  | nil => intro i; simp [flds]
  | cons f fs ih =>
    intro i
    cases i with
    | zero => simp
    | succ i =>
      have e : (i + 1) * 2 = i * 2 + 2 := by omega
      rw [e, List.drop_succ_cons, show flds (f :: fs) = Value.string f.1 :: Value.int .i64 f.2 :: flds fs from rfl, List.drop_succ_cons, List.drop_succ_cons, ih i]
theorem flds_get (fs : List (ByteArray × Int)) : ∀ i : Nat, i < fs.length → (flds fs)[i * 2]? = some (.string (fs.getD i (ByteArray.empty, 0)).1) ∧ (flds fs)[i * 2 + 1]? = some (.int .i64 (fs.getD i (ByteArray.empty, 0)).2) := by
  induction fs with
  | nil => intro i hi; simp at hi
  | cons f fs ih =>
    intro i hi
    cases i with
    | zero => exact ⟨rfl, rfl⟩
    | succ i =>
      have e : (i + 1) * 2 = i * 2 + 2 := by omega
      have hi' : i < fs.length := by simpa using hi
      rw [e, show flds (f :: fs) = Value.string f.1 :: Value.int .i64 f.2 :: flds fs from rfl]
      have := ih i hi'
      simpa using this

/-- A slice of numbers with a name. -/
def RdF (w : World) (A : Option Addr) (n cap : Nat) (fs : List (ByteArray × Int)) : Prop := RdC 2 w A n cap (flds fs)
theorem RdF.len (h : RdF w A n cap fs) : fs.length = n := by have := h.1; rw [flds_length] at this; omega
theorem RdF.at_ (h : RdF w A n cap fs) (hn : 0 < n) : ∃ b o, A = some ⟨b, o, none⟩ ∧ b < w.heap.size ∧ ∀ i, i < n → w.cell? ⟨b, o + i * 2, none⟩ = some (.string (fs.getD i (ByteArray.empty, 0)).1) ∧ w.cell? ⟨b, o + i * 2 + 1, none⟩ = some (.int .i64 (fs.getD i (ByteArray.empty, 0)).2) := by
  obtain ⟨b, o, rfl, hb, hc⟩ := RdC.at_ h (by omega) hn
  refine ⟨b, o, rfl, hb, fun i hi => ?_⟩
  have hg := flds_get fs i (by rw [h.len]; exact hi)
  exact ⟨hc _ _ hg.1, by rw [Nat.add_assoc]; exact hc _ _ hg.2⟩

theorem RdF.get {b o : Nat} (h : RdF w (some ⟨b, o, none⟩) n cap fs) {i : Nat} (hi : i < n) : w.cell? ⟨b, o + i * 2, none⟩ = some (.string (fs.getD i (ByteArray.empty, 0)).1) ∧ w.cell? ⟨b, o + i * 2 + 1, none⟩ = some (.int .i64 (fs.getD i (ByteArray.empty, 0)).2) := by
  obtain ⟨b', o', e, _, hc⟩ := h.at_ (by omega)
  injection e with e
  injection e with e1 e2
  subst e1 e2
  exact hc i hi
theorem RdS.get {b o : Nat} (h : RdS w (some ⟨b, o, none⟩) n cap ss) {i : Nat} (hi : i < n) : w.cell? ⟨b, o + i, none⟩ = some (.string (ss.getD i ByteArray.empty)) := by
  obtain ⟨b', o', e, _, hc⟩ := h.at_ (by omega)
  injection e with e
  injection e with e1 e2
  subst e1 e2
  exact hc i hi
theorem bcell {b o : Nat} {v : Value} (hb : Below w.heap.size w w') (hc : w.cell? ⟨b, o, none⟩ = some v) : w'.cell? ⟨b, o, none⟩ = some v := (hb.cell (p := ⟨b, o, none⟩) (World.block_lt_of_cell? w _ hc)).trans hc

end Go.Proofs.YtiplfhmimpkplaaGreat.MemRow

/-
  Events as data; opening an argument that is an event.
-/
namespace Go.Proofs.YtiplfhmimpkplaaGreat.Ev
open Go.RowKit Go.ChangeShapes Go.WideShapes Go.Joins Go.Deep Go.Proofs.YtiplfhmimpkplaaGreat.MemRow Go.Proofs.YtiplfhmimpkplaaGreat.Open

/-- An event as data. -/
structure Ev where
  s : ByteArray
  t : ByteArray
  tags : List ByteArray
  fs : List (ByteArray × Int)

/-- The value v is the event e. -/
def IsEv (w : World) (v : Value) (e : Ev) : Prop :=
  ∃ A n ca B m cb, v = .agg #[.string e.s, .string e.t, .slice A n ca, .slice B m cb] ∧ RdS w A n ca e.tags ∧ RdF w B m cb e.fs

/-- All of it is of a size that a machine has. -/
structure EvOk (e : Ev) : Prop where
  s : e.s.size ≤ maxLen
  t : e.t.size ≤ maxLen
  tags : ∀ x ∈ e.tags, x.size ≤ maxLen
  names : ∀ f ∈ e.fs, f.1.size ≤ maxLen
  nums : ∀ f ∈ e.fs, -9223372036854775808 ≤ f.2 ∧ f.2 ≤ 9223372036854775807

theorem IsEv.below {w w' : World} {v : Value} {e : Ev} (h : IsEv w v e) (hb : Below w.heap.size w w') : IsEv w' v e := by
  obtain ⟨A, n, ca, B, m, cb, rfl, h1, h2⟩ := h
  exact ⟨A, n, ca, B, m, cb, rfl, RdC.below h1 hb, RdC.below h2 hb⟩

section
variable {H : Type} {enc : TypeId × Value → H} {P : Program} {W : World} {base : Nat} {t e : TypeId} {v : Value} {d : DataW H} {p : List MemPlace}

/-- A slice of texts that came in. -/
theorem tr_strs {fuel : Nat} {y : DataW H × List MemPlace} (ht : P.underlying t = some (.slice e)) (he : P.underlying e = some .string) (hce : P.cellsOf e = 1) (h : DataW.trod enc P W 0 (fun _ => true) true fuel t [v] = some y) :
    ∃ A n ca ss, v = .slice A n ca ∧ RdS W A n ca ss ∧ ∀ x ∈ ss, x.size ≤ maxLen := by
  rcases open_strings ht he hce h with ⟨hcs, _⟩ | ⟨x, l, c, zs, hcs, _, hl, hm, hz, _, hcell, hwz⟩
  · simp only [List.cons.injEq, and_true] at hcs
    subst hcs
    exact ⟨none, 0, 0, [], rfl, RdC.nil W, by simp⟩
  · simp only [List.cons.injEq, and_true] at hcs
    subst hcs
    have hz' : zs.length = c := by simpa using hz
    refine ⟨_, l, c, zs.take l, rfl, ⟨by rw [strs_length, List.length_take]; omega, hl, hm, fun hn => ?_⟩, fun s hs => hwz s (List.mem_of_mem_take hs)⟩
    have e0 := spot_none (hcell 0 (by omega))
    refine ⟨x.block, x.off, by rw [← e0], fun i u hi => ?_⟩
    have hi' : i < (zs.take l).length := by
      have := (List.getElem?_eq_some_iff.1 hi).1
      rwa [strs_length] at this
    rw [List.length_take] at hi'
    have hc := hcell i (by omega)
    rw [e0, add_at] at hc
    rw [hc]
    have h1 : i < l := by omega
    have h2 : i < zs.length := by omega
    simp [MemRow.strs, h1, List.getElem?_eq_getElem h2] at hi
    simp [List.getD, List.getElem?_eq_getElem h2, hi]

/-- A slice of numbers with a name that came in. -/
theorem tr_flds {f0 f1 : Field} {fuel : Nat} {y : DataW H × List MemPlace} (ht : P.underlying t = some (.slice e)) (he : P.underlying e = some (.struct #[f0, f1]))
    (ce : P.cellsOf e = 2) (o0 : f0.offset = 0) (o1 : f1.offset = 1) (c0 : P.cellsOf f0.type = 1) (c1 : P.cellsOf f1.type = 1) (t0 : P.underlying f0.type = some .string) (t1 : P.underlying f1.type = some (.int .i64))
    (h : DataW.trod enc P W 0 (fun _ => true) true fuel t [v] = some y) :
    ∃ A n ca fs, v = .slice A n ca ∧ RdF W A n ca fs ∧ (∀ f ∈ fs, f.1.size ≤ maxLen) ∧ ∀ f ∈ fs, -9223372036854775808 ≤ f.2 ∧ f.2 ≤ 9223372036854775807 := by
  rcases open_slice_pairs ht he ce o0 o1 c0 c1 h with ⟨hcs, _⟩ | ⟨a, l, c, m, nn, V0, V1, D0, D1, P0, P1, hcs, _, hl, hm, hmm, _, hx⟩
  · simp only [List.cons.injEq, and_true] at hcs
    subst hcs
    exact ⟨none, 0, 0, [], rfl, RdC.nil W, by simp, by simp⟩
  · simp only [List.cons.injEq, and_true] at hcs
    subst hcs
    have hm' : m = c := by simpa using hmm
    subst hm'
    have each : ∀ i, i < m → ∃ f : ByteArray × Int, V0 i = .string f.1 ∧ V1 i = .int .i64 f.2 ∧ f.1.size ≤ maxLen ∧ -9223372036854775808 ≤ f.2 ∧ f.2 ≤ 9223372036854775807 := by
      intro i hi
      obtain ⟨_, _, h0, h1⟩ := hx i hi
      obtain ⟨s, e0, _, ws⟩ := DataW.trod_string t0 h0
      obtain ⟨z, e1, _, wz⟩ := DataW.trod_int t1 h1
      have b := bounds_i64 wz
      injection e0 with e0
      injection e1 with e1
      exact ⟨(s, z), e0, e1, ws, b.1, b.2⟩
    have hex : ∃ F : Nat → ByteArray × Int, ∀ i, i < m → V0 i = .string (F i).1 ∧ V1 i = .int .i64 (F i).2 ∧ (F i).1.size ≤ maxLen ∧ -9223372036854775808 ≤ (F i).2 ∧ (F i).2 ≤ 9223372036854775807 :=
      ⟨fun i => if hi : i < m then (each i hi).choose else (ByteArray.empty, 0), fun i hi => by simp only [hi, dif_pos]; exact (each i hi).choose_spec⟩
    obtain ⟨F, hF⟩ := hex
    have hlen : ((List.range l).map F).length = l := by simp
    refine ⟨_, l, m, (List.range l).map F, rfl, ⟨by rw [flds_length, hlen], hl, hm, fun hn => ?_⟩, ?_, ?_⟩
    · have hc0 := (hx 0 (by omega)).1
      rw [Nat.zero_mul] at hc0
      have e0 := spot_none hc0
      refine ⟨a.block, a.off, by rw [← e0], fun i u hi => ?_⟩
      have hi' : i < l * 2 := by
        have := (List.getElem?_eq_some_iff.1 hi).1
        rwa [flds_length, hlen] at this
      have hj : i / 2 < l := by omega
      have hg := flds_get ((List.range l).map F) (i / 2) (by rw [hlen]; exact hj)
      have hFj : ((List.range l).map F).getD (i / 2) (ByteArray.empty, 0) = F (i / 2) := by simp [List.getD, hj]
      rw [hFj] at hg
      obtain ⟨k0, k1, _, _⟩ := hx (i / 2) (by omega)
      obtain ⟨q0, q1, _⟩ := hF (i / 2) (by omega)
      rcases Nat.mod_two_eq_zero_or_one i with hp | hp
      · have ei : i / 2 * 2 = i := by omega
        rw [ei] at hg k0
        rw [e0, add_at] at k0
        rw [k0, q0, ← hi, hg.1]
      · have ei : i / 2 * 2 + 1 = i := by omega
        rw [ei] at hg k1
        rw [e0, add_at] at k1
        rw [k1, q1, ← hi, hg.2]
    · intro f hf
      obtain ⟨j, hj, rfl⟩ := List.mem_map.1 hf
      exact (hF j (by have := List.mem_range.1 hj; omega)).2.2.1
    · intro f hf
      obtain ⟨j, hj, rfl⟩ := List.mem_map.1 hf
      exact (hF j (by have := List.mem_range.1 hj; omega)).2.2.2
end

section
variable {H : Type} {enc : TypeId × Value → H}
set_option maxRecDepth 100000 in
/-- An event that came in. -/
theorem op_event {W : World} {base : Nat} {v : Value} {d : DataW H} {p : List MemPlace} (ho : Value.okWide Tryz.prog W .any base 42 v) (h : DataW.Trod enc Tryz.prog W 0 (fun _ => true) true 42 v d p) :
    ∃ e : Ev, IsEv W v e ∧ EvOk e := by
  obtain ⟨v0, v1, v2, v3, y0, y1, y2, y3, n, rfl, _, _, h0, h1, h2, h3⟩ := open_agg4 Tryz.underlying42 (by kernel_rfl) (by kernel_rfl) ho h
  obtain ⟨s, e0, _, ws⟩ := DataW.trod_string Tryz.underlying9 h0
  obtain ⟨t, e1, _, wt⟩ := DataW.trod_string Tryz.underlying9 h1
  injection e0 with e0
  injection e1 with e1
  obtain ⟨A, na, ca, ss, rfl, hs, ws2⟩ := tr_strs Tryz.underlying39 Tryz.underlying9 (by kernel_rfl) h2
  obtain ⟨B, m, cb, fs, rfl, hf, wf, wz⟩ := tr_flds Tryz.underlying40 Tryz.underlying85 (by kernel_rfl) rfl rfl (by kernel_rfl) (by kernel_rfl) Tryz.underlying9 Tryz.underlying3 h3
  subst e0 e1
  exact ⟨⟨s, t, ss, fs⟩, ⟨A, na, ca, B, m, cb, rfl, hs, hf⟩, ws, wt, ws2, wf, wz⟩
end

end Go.Proofs.YtiplfhmimpkplaaGreat.Ev

/-
  Layer 6's readings: clauses and queries as data; arguments that are ones.
-/
namespace Go.Proofs.YtiplfhmimpkplaaGreat.Qu
open Go.RowKit Go.ChangeShapes Go.WideShapes Go.Joins Go.Deep Go.Proofs.YtiplfhmimpkplaaGreat.MemRow Go.Proofs.YtiplfhmimpkplaaGreat.Ev Go.Proofs.YtiplfhmimpkplaaGreat.Open

/-- A clause as data. -/
structure Cl where
  tags : List ByteArray
  types : List ByteArray
def noCl : Cl := ⟨[], []⟩

/-- The two cells at an address read as a clause. -/
def ClCells (w : World) (b o : Nat) (c : Cl) : Prop :=
  ∃ T nT cT Y nY cY, w.cell? ⟨b, o, none⟩ = some (.slice T nT cT) ∧ w.cell? ⟨b, o + 1, none⟩ = some (.slice Y nY cY) ∧ RdS w T nT cT c.tags ∧ RdS w Y nY cY c.types
theorem ClCells.below {w w' : World} {b o : Nat} {c : Cl} (h : ClCells w b o c) (hb : Below w.heap.size w w') : ClCells w' b o c := by
  obtain ⟨T, nT, cT, Y, nY, cY, h0, h1, h2, h3⟩ := h
  exact ⟨T, nT, cT, Y, nY, cY, bcell hb h0, bcell hb h1, RdC.below h2 hb, RdC.below h3 hb⟩

/-- A slice that reads as clauses. -/
def RdQ (w : World) (A : Option Addr) (n cap : Nat) (q : List Cl) : Prop :=
  q.length = n ∧ n ≤ cap ∧ cap ≤ maxLen ∧ (0 < n → ∃ b o, A = some ⟨b, o, none⟩ ∧ b < w.heap.size ∧ ∀ i, i < n → ClCells w b (o + i * 2) (q.getD i noCl))
theorem RdQ.nil (w : World) : RdQ w none 0 0 [] := ⟨rfl, Nat.le_refl _, Nat.zero_le _, fun h => absurd h (by omega)⟩
theorem RdQ.empty (w : World) (A : Option Addr) {cap : Nat} (h : cap ≤ maxLen) : RdQ w A 0 cap [] := ⟨rfl, Nat.zero_le _, h, fun h => absurd h (by omega)⟩
theorem RdQ.len {w : World} {A : Option Addr} {n cap : Nat} {q : List Cl} (h : RdQ w A n cap q) : q.length = n := h.1
theorem RdQ.le {w : World} {A : Option Addr} {n cap : Nat} {q : List Cl} (h : RdQ w A n cap q) : n ≤ maxLen := Nat.le_trans h.2.1 h.2.2.1
theorem RdQ.at_ {w : World} {A : Option Addr} {n cap : Nat} {q : List Cl} (h : RdQ w A n cap q) (hn : 0 < n) : ∃ b o, A = some ⟨b, o, none⟩ ∧ b < w.heap.size ∧ ∀ i, i < n → ClCells w b (o + i * 2) (q.getD i noCl) := h.2.2.2 hn
theorem RdQ.below {w w' : World} {A : Option Addr} {n cap : Nat} {q : List Cl} (h : RdQ w A n cap q) (hb : Below w.heap.size w w') : RdQ w' A n cap q :=
  ⟨h.1, h.2.1, h.2.2.1, fun hn => by
    obtain ⟨b, o, hA, hlt, hc⟩ := h.2.2.2 hn
    exact ⟨b, o, hA, Nat.lt_of_lt_of_le hlt hb.size, fun i hi => (hc i hi).below hb⟩⟩

/-- The value v is the clause c. -/
def IsCl (w : World) (v : Value) (c : Cl) : Prop := ∃ T nT cT Y nY cY, v = .agg #[.slice T nT cT, .slice Y nY cY] ∧ RdS w T nT cT c.tags ∧ RdS w Y nY cY c.types
theorem IsCl.below {w w' : World} {v : Value} {c : Cl} (h : IsCl w v c) (hb : Below w.heap.size w w') : IsCl w' v c := by
  obtain ⟨T, nT, cT, Y, nY, cY, rfl, h1, h2⟩ := h
  exact ⟨T, nT, cT, Y, nY, cY, rfl, RdC.below h1 hb, RdC.below h2 hb⟩
/-- The value v is the query q. -/
def IsQ (w : World) (v : Value) (q : List Cl) : Prop := ∃ A n ca, v = .agg #[.slice A n ca] ∧ RdQ w A n ca q
theorem IsQ.below {w w' : World} {v : Value} {q : List Cl} (h : IsQ w v q) (hb : Below w.heap.size w w') : IsQ w' v q := by
  obtain ⟨A, n, ca, rfl, h1⟩ := h
  exact ⟨A, n, ca, rfl, h1.below hb⟩

/-- All of it is of a size that a machine has. -/
structure ClOk (c : Cl) : Prop where
  tags : ∀ x ∈ c.tags, x.size ≤ maxLen
  types : ∀ x ∈ c.types, x.size ≤ maxLen
def QOk (q : List Cl) : Prop := ∀ c ∈ q, ClOk c

section
variable {H : Type} {enc : TypeId × Value → H} {P : Program} {W : World} {base : Nat} {t e : TypeId} {v : Value} {d : DataW H} {p : List MemPlace}
/-- A struct of one field of one cell, opened. -/
theorem open_agg1 {w : World} {b : Nat} {spare : Nat → Bool} {held : Bool} {r : Reach} {b0 : Nat} {f0 : Field} (hs : P.underlying t = some (.struct #[f0])) (hone : oneCellFields P #[f0] = true) (hC : P.cellsOf t = 1)
    (hv : Value.okWide P w r b0 t v) (h : DataW.Trod enc P w b spare held t v d p) :
    ∃ (v0 : Value) (y0 : DataW H × List MemPlace) (n : Nat), v = .agg #[v0] ∧ DataW.trod enc P w b spare held n f0.type [v0] = some y0 := by
  obtain ⟨cs, rfl, hsz⟩ := okWide_struct hs hv
  have h1 : cs.size = 1 := hsz.trans hC
  obtain ⟨c0, rfl⟩ : ∃ c0, cs = #[c0] := by
    match cs, h1 with
    | ⟨[c0]⟩, _ => exact ⟨c0, rfl⟩
  obtain ⟨fuel, hf⟩ := h
  obtain ⟨y0, n, _, _, h0⟩ := trod_struct1 hs hf
  obtain ⟨o0, k0⟩ := hone_of hone 0 f0 rfl
  exact ⟨c0, y0, n, rfl, by simpa [Value.cells, o0, k0] using h0⟩

/-- A slice of clauses that came in. -/
theorem tr_clauses {f0 f1 : Field} {tS tU : TypeId} {fuel : Nat} {y : DataW H × List MemPlace} (ht : P.underlying t = some (.slice e)) (he : P.underlying e = some (.struct #[f0, f1]))
    (ce : P.cellsOf e = 2) (o0 : f0.offset = 0) (o1 : f1.offset = 1) (c0 : P.cellsOf f0.type = 1) (c1 : P.cellsOf f1.type = 1) (t0 : P.underlying f0.type = some (.slice tS)) (t1 : P.underlying f1.type = some (.slice tU)) (hS : P.underlying tS = some .string) (cS : P.cellsOf tS = 1) (hU : P.underlying tU = some .string) (cU : P.cellsOf tU = 1)
    (h : DataW.trod enc P W 0 (fun _ => true) true fuel t [v] = some y) :
    ∃ A n ca q, v = .slice A n ca ∧ RdQ W A n ca q ∧ QOk q := by
  rcases open_slice_pairs ht he ce o0 o1 c0 c1 h with ⟨hcs, _⟩ | ⟨a, l, c, m, nn, V0, V1, D0, D1, P0, P1, hcs, _, hl, hm, hmm, _, hx⟩
  · simp only [List.cons.injEq, and_true] at hcs
    subst hcs
    exact ⟨none, 0, 0, [], rfl, RdQ.nil W, fun c hc => by simp at hc⟩
  · simp only [List.cons.injEq, and_true] at hcs
    subst hcs
    have hm' : m = c := by simpa using hmm
    subst hm'
    have each : ∀ i, i < m → ∃ f : Cl, ClOk f ∧ ∃ T nT cT Y nY cY, V0 i = .slice T nT cT ∧ V1 i = .slice Y nY cY ∧ RdS W T nT cT f.tags ∧ RdS W Y nY cY f.types := by
      intro i hi
      obtain ⟨_, _, h0, h1⟩ := hx i hi
      obtain ⟨T, nT, cT, ss, e0, r0, w0⟩ := tr_strs t0 hS cS h0
      obtain ⟨Y, nY, cY, us, e1, r1, w1⟩ := tr_strs t1 hU cU h1
      exact ⟨⟨ss, us⟩, ⟨w0, w1⟩, T, nT, cT, Y, nY, cY, e0, e1, r0, r1⟩
    have hex : ∃ F : Nat → Cl, ∀ i, i < m → ClOk (F i) ∧ ∃ T nT cT Y nY cY, V0 i = .slice T nT cT ∧ V1 i = .slice Y nY cY ∧ RdS W T nT cT (F i).tags ∧ RdS W Y nY cY (F i).types :=
      ⟨fun i => if hi : i < m then (each i hi).choose else noCl, fun i hi => by simp only [hi, dif_pos]; exact (each i hi).choose_spec⟩
    obtain ⟨F, hF⟩ := hex
    refine ⟨_, l, m, (List.range l).map F, rfl, ⟨by simp, hl, hm, fun hn => ?_⟩, ?_⟩
    · have hc0 := (hx 0 (by omega)).1
      rw [Nat.zero_mul] at hc0
      have e0 := spot_none hc0
      have hb := World.block_lt_of_cell? W _ hc0
      rw [e0, add_at] at hb
      refine ⟨a.block, a.off, by rw [← e0], hb, fun i hi => ?_⟩
      have hFj : ((List.range l).map F).getD i noCl = F i := by simp [List.getD, hi]
      rw [hFj]
      obtain ⟨_, T, nT, cT, Y, nY, cY, v0, v1, r0, r1⟩ := hF i (by omega)
      obtain ⟨h0, h1, _, _⟩ := hx i (by omega)
      rw [e0, add_at, v0] at h0
      rw [e0, add_at, v1] at h1
      exact ⟨T, nT, cT, Y, nY, cY, h0, h1, r0, r1⟩
    · intro x hxm
      obtain ⟨j, hj, rfl⟩ := List.mem_map.1 hxm
      exact (hF j (by have := List.mem_range.1 hj; omega)).1
end

section
variable {H : Type} {enc : TypeId × Value → H}
set_option maxRecDepth 100000 in
/-- A query that came in. -/
theorem op_query {W : World} {base : Nat} {v : Value} {d : DataW H} {p : List MemPlace} (ho : Value.okWide Tryz.prog W .any base 25 v) (h : DataW.Trod enc Tryz.prog W 0 (fun _ => true) true 25 v d p) :
    ∃ q, IsQ W v q ∧ QOk q := by
  obtain ⟨v0, y0, n, rfl, h0⟩ := open_agg1 Tryz.underlying25 (by kernel_rfl) (by kernel_rfl) ho h
  obtain ⟨A, n, ca, q, rfl, hq, hok⟩ := tr_clauses Tryz.underlying23 Tryz.underlying87 (by kernel_rfl) rfl rfl (by kernel_rfl) (by kernel_rfl) Tryz.underlying39 Tryz.underlying39 Tryz.underlying9 (by kernel_rfl) Tryz.underlying9 (by kernel_rfl) h0
  exact ⟨q, ⟨A, n, ca, rfl, hq⟩, hok⟩
set_option maxRecDepth 100000 in
/-- A clause that came in. -/
theorem op_clause {W : World} {base : Nat} {v : Value} {d : DataW H} {p : List MemPlace} (ho : Value.okWide Tryz.prog W .any base 87 v) (h : DataW.Trod enc Tryz.prog W 0 (fun _ => true) true 87 v d p) :
    ∃ c, IsCl W v c ∧ ClOk c := by
  obtain ⟨v0, v1, y0, y1, n, rfl, _, _, h0, h1⟩ := open_agg2 Tryz.underlying87 (by kernel_rfl) (by kernel_rfl) ho h
  obtain ⟨T, nT, cT, ss, rfl, r0, w0⟩ := tr_strs Tryz.underlying39 Tryz.underlying9 (by kernel_rfl) h0
  obtain ⟨Y, nY, cY, us, rfl, r1, w1⟩ := tr_strs Tryz.underlying39 Tryz.underlying9 (by kernel_rfl) h1
  exact ⟨⟨ss, us⟩, ⟨T, nT, cT, Y, nY, cY, rfl, r0, r1⟩, w0, w1⟩
end

end Go.Proofs.YtiplfhmimpkplaaGreat.Qu

/-
  Names as lists of bytes: letters, folding, and how a text that is read rune by rune reads byte by byte. No Go text here.
-/
namespace Go.Proofs.YtiplfhmimpkplaaGreat.NameMath

/-- A rune that is a letter of a name. -/
def isL (r : Nat) : Bool := decide (r = 45 ∨ r = 95 ∨ r = 233 ∨ r = 248 ∨ r = 223 ∨ r = 955 ∨ (97 ≤ r ∧ r ≤ 122) ∨ (48 ≤ r ∧ r ≤ 57))
/-- A rune that a name may begin with. -/
def begR (r : Nat) : Bool := decide (r ≠ 45 ∧ ¬ (48 ≤ r ∧ r ≤ 57))
/-- What a rune is folded to (0: to nothing). -/
def foldR (r : Nat) : Nat :=
  if r = 201 then 233 else if r = 216 then 248 else if r = 923 then 955 else if r = 32 ∨ r = 46 ∨ r = 47 then 45 else if 65 ≤ r ∧ r ≤ 90 then r + 32 else if isL r = true then r else 0
/-- The bytes of a rune below 2048. -/
def enc (r : Nat) : List UInt8 := if r < 128 then [UInt8.ofNat r] else [UInt8.ofNat (192 + r / 64), UInt8.ofNat (128 + r % 64)]

/-- A byte that is a letter. -/
def low (a : UInt8) : Bool := decide ((97 ≤ a.toNat ∧ a.toNat ≤ 122) ∨ (48 ≤ a.toNat ∧ a.toNat ≤ 57) ∨ a.toNat = 45 ∨ a.toNat = 95)
/-- Two bytes that are a letter. -/
def two (a b : UInt8) : Bool := decide ((a.toNat = 195 ∧ (b.toNat = 169 ∨ b.toNat = 184 ∨ b.toNat = 159)) ∨ (a.toNat = 206 ∧ b.toNat = 187))

/-- All of it are letters. -/
def allL : List UInt8 → Bool
  | [] => true
  | [a] => low a
  | a :: b :: l => if low a = true then allL (b :: l) else if two a b = true then allL l else false

def first : List UInt8 → Bool
  | [] => false
  | a :: _ => decide (a.toNat ≠ 45 ∧ ¬ (48 ≤ a.toNat ∧ a.toNat ≤ 57))

/-- It is a name. -/
def may (l : List UInt8) : Bool := decide (1 ≤ l.length ∧ l.length ≤ 24) && (first l && allL l)

/-- What one byte is folded to. -/
def one (a : UInt8) : List UInt8 :=
  if low a = true then [a] else if 65 ≤ a.toNat ∧ a.toNat ≤ 90 then [UInt8.ofNat (a.toNat + 32)] else if a.toNat = 32 ∨ a.toNat = 46 ∨ a.toNat = 47 then [45] else []
/-- What two bytes are folded to. -/
def pair (a b : UInt8) : Option (UInt8 × UInt8) :=
  if a.toNat = 195 then (if b.toNat = 169 ∨ b.toNat = 137 then some (195, 169) else if b.toNat = 184 ∨ b.toNat = 152 then some (195, 184) else if b.toNat = 159 then some (195, 159) else none)
  else if a.toNat = 206 then (if b.toNat = 187 ∨ b.toNat = 155 then some (206, 187) else none) else none

def fold : List UInt8 → List UInt8
  | [] => []
  | [a] => one a
  | a :: b :: l => match pair a b with
    | some p => p.1 :: p.2 :: fold l
    | none => one a ++ fold (b :: l)

theorem pair_none {a b : UInt8} (h1 : a.toNat ≠ 195) (h2 : a.toNat ≠ 206) : pair a b = none := by
  simp [pair, h1, h2]

theorem fold_one {a : UInt8} (l : List UInt8) (h1 : a.toNat ≠ 195) (h2 : a.toNat ≠ 206) : fold (a :: l) = one a ++ fold l := by
  cases l with
  | nil => simp [fold]
  | cons b l => rw [fold, pair_none h1 h2]

theorem one_high {a : UInt8} (h : 128 ≤ a.toNat) : one a = [] := by
  have h0 : low a = false := by simp only [low, decide_eq_false_iff_not]; omega
  unfold one
  rw [h0, if_neg (by decide), if_neg (by omega), if_neg (by omega)]

theorem fold_skip {a : UInt8} (l : List UInt8) (h : 128 ≤ a.toNat) (h1 : a.toNat ≠ 195) (h2 : a.toNat ≠ 206) : fold (a :: l) = fold l := by
  rw [fold_one l h1 h2, one_high h, List.nil_append]

theorem low_high {a : UInt8} (h : 128 ≤ a.toNat) : low a = false := by simp only [low, decide_eq_false_iff_not]; omega

theorem allL_low {a : UInt8} (l : List UInt8) (h : low a = true) : allL (a :: l) = allL l := by
  cases l with
  | nil => simp [allL, h]
  | cons b l => rw [allL, if_pos h]

theorem two_low {a b : UInt8} (h : two a b = true) : low a = false := by
  simp only [two, decide_eq_true_eq] at h
  simp only [low, decide_eq_false_iff_not]
  omega

theorem allL_two {a b : UInt8} (l : List UInt8) (h : two a b = true) : allL (a :: b :: l) = allL l := by
  rw [allL, two_low h, if_neg (by decide), if_pos h]

theorem u8ext {a b : UInt8} (h : a.toNat = b.toNat) : a = b := UInt8.toNat_inj.1 h

theorem pair_two {a b : UInt8} (h : two a b = true) : pair a b = some (a, b) := by
  simp only [two, decide_eq_true_eq] at h
  rcases h with ⟨ha, hb | hb | hb⟩ | ⟨ha, hb⟩
  · rw [u8ext (b := 195) ha, u8ext (b := 169) hb]; decide
  · rw [u8ext (b := 195) ha, u8ext (b := 184) hb]; decide
  · rw [u8ext (b := 195) ha, u8ext (b := 159) hb]; decide
  · rw [u8ext (b := 206) ha, u8ext (b := 187) hb]; decide

theorem low_ne {a : UInt8} (h : low a = true) : a.toNat < 128 := by
  simp only [low, decide_eq_true_eq] at h
  omega

theorem one_low {a : UInt8} (h : low a = true) : one a = [a] := by unfold one; rw [if_pos h]

theorem fold_low {a : UInt8} (l : List UInt8) (h : low a = true) : fold (a :: l) = a :: fold l := by
  have := low_ne h
  rw [fold_one l (by omega) (by omega), one_low h]; rfl

theorem fold_two {a b : UInt8} (l : List UInt8) (h : two a b = true) : fold (a :: b :: l) = a :: b :: fold l := by
  rw [fold, pair_two h]

/-- What stands behind letters. -/
theorem allL_append : ∀ (a b : List UInt8), allL a = true → allL (a ++ b) = allL b
  | [], b, _ => rfl
  | [x], b, h => by
    rw [List.singleton_append]
    exact allL_low b (by simpa [allL] using h)
  | x :: y :: l, b, h => by
    by_cases hx : low x = true
    · rw [allL_low _ hx] at h
      have := allL_append (y :: l) b h
      rw [List.cons_append, allL_low _ hx, this]
    · have hx' : low x = false := by simpa using hx
      rw [allL, hx', if_neg (by decide)] at h
      by_cases ht : two x y = true
      · rw [if_pos ht] at h
        have := allL_append l b h
        rw [List.cons_append, List.cons_append, allL_two _ ht, this]
      · rw [if_neg ht] at h
        exact absurd h (by decide)

theorem fold_append : ∀ (a b : List UInt8), allL a = true → fold (a ++ b) = a ++ fold b
  | [], b, _ => rfl
  | [x], b, h => by
    rw [List.singleton_append, fold_low b (by simpa [allL] using h)]; rfl
  | x :: y :: l, b, h => by
    by_cases hx : low x = true
    · rw [allL_low _ hx] at h
      have := fold_append (y :: l) b h
      rw [List.cons_append, fold_low _ hx, this]; rfl
    · have hx' : low x = false := by simpa using hx
      rw [allL, hx', if_neg (by decide)] at h
      by_cases ht : two x y = true
      · rw [if_pos ht] at h
        have := fold_append l b h
        rw [List.cons_append, List.cons_append, fold_two _ ht, this]; rfl
      · rw [if_neg ht] at h
        exact absurd h (by decide)

theorem fold_self {a : List UInt8} (h : allL a = true) : fold a = a := by
  have := fold_append a [] h
  simpa [fold] using this

theorem one_cases (a : UInt8) : one a = [] ∨ ∃ c, one a = [c] ∧ low c = true := by
  unfold one
  by_cases h1 : low a = true
  · rw [if_pos h1]; exact .inr ⟨a, rfl, h1⟩
  · rw [if_neg h1]
    by_cases h2 : 65 ≤ a.toNat ∧ a.toNat ≤ 90
    · rw [if_pos h2]
      refine .inr ⟨_, rfl, ?_⟩
      have : (UInt8.ofNat (a.toNat + 32)).toNat = a.toNat + 32 := by simp; omega
      simp only [low, this, decide_eq_true_eq]; omega
    · rw [if_neg h2]
      by_cases h3 : a.toNat = 32 ∨ a.toNat = 46 ∨ a.toNat = 47
      · rw [if_pos h3]; exact .inr ⟨45, rfl, by decide⟩
      · rw [if_neg h3]; exact .inl rfl

theorem pair_cases {a b : UInt8} {p : UInt8 × UInt8} (h : pair a b = some p) : two p.1 p.2 = true ∧ 128 ≤ a.toNat := by
  unfold pair at h
  by_cases h1 : a.toNat = 195
  · rw [if_pos h1] at h
    refine ⟨?_, by omega⟩
    split at h
    · cases h; decide
    · split at h
      · cases h; decide
      · split at h
        · cases h; decide
        · cases h
  · rw [if_neg h1] at h
    by_cases h2 : a.toNat = 206
    · rw [if_pos h2] at h
      refine ⟨?_, by omega⟩
      split at h
      · cases h; decide
      · cases h
    · rw [if_neg h2] at h; cases h

theorem allL_one (a : UInt8) (l : List UInt8) (h : allL l = true) : allL (one a ++ l) = true := by
  rcases one_cases a with h1 | ⟨c, h1, h2⟩
  · rw [h1]; exact h
  · rw [h1, List.singleton_append, allL_low _ h2, h]

theorem allL_fold : ∀ l : List UInt8, allL (fold l) = true
  | [] => rfl
  | [a] => by
    have := allL_one a [] rfl
    simpa [fold] using this
  | a :: b :: l => by
    rw [fold]
    cases hp : pair a b with
    | none => exact allL_one a _ (allL_fold (b :: l))
    | some p => show allL (p.1 :: p.2 :: fold l) = true; rw [allL_two _ (pair_cases hp).1, allL_fold l]

theorem fold_fold (l : List UInt8) : fold (fold l) = fold l := fold_self (allL_fold l)

theorem allL_iff (l : List UInt8) : allL l = decide (fold l = l) := by
  by_cases h : fold l = l
  · rw [decide_eq_true h, ← h, allL_fold]
  · rw [decide_eq_false h]
    cases hb : allL l
    · rfl
    · exact absurd (fold_self hb) h

theorem one_len (a : UInt8) : (one a).length ≤ 1 := by
  rcases one_cases a with h | ⟨c, h, _⟩ <;> rw [h] <;> simp

theorem fold_len : ∀ l : List UInt8, (fold l).length ≤ l.length
  | [] => Nat.le_refl _
  | [a] => by simpa [fold] using one_len a
  | a :: b :: l => by
    rw [fold]
    cases hp : pair a b with
    | none =>
      have h1 := one_len a
      have h2 := fold_len (b :: l)
      simp only [List.length_append, List.length_cons] at *
      omega
    | some p =>
      have h2 := fold_len l
      simp only [List.length_cons]
      omega

theorem first_append {a : List UInt8} (b : List UInt8) (h : a ≠ []) : first (a ++ b) = first a := by
  cases a with
  | nil => exact absurd rfl h
  | cons x l => rfl

theorem may_parts {l : List UInt8} (h : may l = true) : 1 ≤ l.length ∧ l.length ≤ 24 ∧ first l = true ∧ allL l = true := by
  simp only [may, Bool.and_eq_true, decide_eq_true_eq] at h
  exact ⟨h.1.1, h.1.2, h.2.1, h.2.2⟩

theorem may_of {l : List UInt8} (h1 : 1 ≤ l.length) (h2 : l.length ≤ 24) (h3 : first l = true) (h4 : allL l = true) : may l = true := by
  simp [may, h1, h2, h3, h4]

/-! ### Read rune by rune -/

def dec (t : List UInt8) : Nat × Nat := Lib.decodeN t.length (t.getD 0 0).toNat (t.getD 1 0).toNat (t.getD 2 0).toNat (t.getD 3 0).toNat

theorem getD_drop (l : List UInt8) (p i : Nat) : (l.drop p).getD i 0 = l.getD (p + i) 0 := by
  simp [List.getD]

theorem dec_at (s : ByteArray) (pos : Nat) : Utf8.decode s pos = dec (s.data.toList.drop pos) := by
  rw [Lib.decode_N s pos]
  unfold dec
  rw [getD_drop, getD_drop, getD_drop, getD_drop, List.length_drop]
  rfl

theorem dec_low {a : UInt8} (l : List UInt8) (h : a.toNat < 128) : dec (a :: l) = (a.toNat, 1) := by
  unfold dec Lib.decodeN
  simp only [List.getD_cons_zero]
  rw [if_pos h]

/-- A byte from 128 on begins a rune of two bytes, or what is no letter and is folded to nothing. -/
theorem dec_high {a : UInt8} (l : List UInt8) (h : 128 ≤ a.toNat) :
    (∃ b l', l = b :: l' ∧ dec (a :: l) = (a.toNat % 32 * 64 + b.toNat % 64, 2) ∧ a.toNat / 32 = 6 ∧ b.toNat / 64 = 2 ∧ 128 ≤ a.toNat % 32 * 64 + b.toNat % 64) ∨
    (2048 ≤ (dec (a :: l)).1 ∧ 1 ≤ (dec (a :: l)).2 ∧ fold (a :: l) = fold ((a :: l).drop (dec (a :: l)).2) ∧ allL (a :: l) = false) := by
  have la := UInt8.toNat_lt a
  have hlow := low_high h
  by_cases h2 : ∃ b l', l = b :: l' ∧ a.toNat / 32 = 6 ∧ b.toNat / 64 = 2 ∧ 128 ≤ a.toNat % 32 * 64 + b.toNat % 64
  · obtain ⟨b, l', rfl, e1, e2, e3⟩ := h2
    refine .inl ⟨b, l', rfl, ?_, e1, e2, e3⟩
    unfold dec Lib.decodeN
    simp only [List.getD_cons_zero, List.getD_cons_succ, List.length_cons]
    rw [if_neg (by omega), if_pos ⟨e1, by omega, e2⟩, if_pos e3]
  · right
    have hno : ∀ b l', l = b :: l' → ¬ (a.toNat / 32 = 6 ∧ b.toNat / 64 = 2 ∧ 128 ≤ a.toNat % 32 * 64 + b.toNat % 64) := fun b l' e hh => h2 ⟨b, l', e, hh⟩
    have hall : allL (a :: l) = false := by
      cases l with
      | nil => simpa [allL] using hlow
      | cons b l' =>
        have hn := hno b l' rfl
        have ht : two a b = false := by
          simp only [two, decide_eq_false_iff_not]
          omega
        rw [allL, hlow, ht]; rfl
    have hf1 : fold (a :: l) = fold l := by
      cases l with
      | nil => simp [fold, one_high h]
      | cons b l' =>
        have hn := hno b l' rfl
        have hp : pair a b = none := by
          unfold pair
          by_cases c1 : a.toNat = 195
          · rw [if_pos c1, if_neg (by omega), if_neg (by omega), if_neg (by omega)]
          · rw [if_neg c1]
            by_cases c2 : a.toNat = 206
            · rw [if_pos c2, if_neg (by omega)]
            · rw [if_neg c2]
        rw [fold, hp, one_high h]; rfl
    have hw1 : ∀ q : Nat × Nat, dec (a :: l) = q → q = (65533, 1) → (2048 ≤ q.1 ∧ 1 ≤ q.2 ∧ fold (a :: l) = fold ((a :: l).drop q.2) ∧ allL (a :: l) = false) := by
      rintro q _ rfl
      exact ⟨by decide, by decide, hf1, hall⟩
    generalize hd : dec (a :: l) = q
    have hd' := hd
    unfold dec Lib.decodeN at hd'
    simp only [List.getD_cons_zero] at hd'
    rw [if_neg (by omega)] at hd'
    split at hd'
    · rename_i hc
      rw [if_neg ?_] at hd'
      · exact hw1 q hd hd'.symm
      · intro hge
        cases l with
        | nil => simp at hc
        | cons b l' =>
          simp only [List.getD_cons_succ, List.getD_cons_zero] at hc hge
          exact hno b l' rfl ⟨hc.1, hc.2.2, hge⟩
    · split at hd'
      · rename_i _ hc
        split at hd'
        · rename_i hv
          subst hd'
          refine ⟨hv.1, by show 1 ≤ 3; decide, ?_, hall⟩
          clear hv hw1 hd h2
          rcases l with _ | ⟨b, _ | ⟨c, l'⟩⟩
          · simp at hc
          · simp at hc
          · simp only [List.getD_cons_succ, List.getD_cons_zero] at hc
            show fold (a :: b :: c :: l') = fold l'
            rw [hf1, fold_skip _ (by omega) (by omega) (by omega), fold_skip _ (by omega) (by omega) (by omega)]
        · exact hw1 q hd hd'.symm
      · split at hd'
        · rename_i _ _ hc
          split at hd'
          · rename_i hv
            subst hd'
            refine ⟨by have := hv.1; simp only; omega, by show 1 ≤ 4; decide, ?_, hall⟩
            clear hv hw1 hd h2
            rcases l with _ | ⟨b, _ | ⟨c, _ | ⟨d, l'⟩⟩⟩
            · simp at hc
            · simp at hc
            · simp at hc
            · simp only [List.getD_cons_succ, List.getD_cons_zero] at hc
              show fold (a :: b :: c :: d :: l') = fold l'
              rw [hf1, fold_skip _ (by omega) (by omega) (by omega), fold_skip _ (by omega) (by omega) (by omega), fold_skip _ (by omega) (by omega) (by omega)]
          · exact hw1 q hd hd'.symm
        · exact hw1 q hd hd'.symm

/-- A rune that is a letter. -/
theorem rune_letter {t : List UInt8} (h0 : t ≠ []) (h : isL (dec t).1 = true) : allL t = allL (t.drop (dec t).2) ∧ begR (dec t).1 = first t := by
  cases t with
  | nil => exact absurd rfl h0
  | cons a l =>
    by_cases ha : a.toNat < 128
    · rw [dec_low l ha] at h ⊢
      simp only [isL, decide_eq_true_eq] at h
      have hl : low a = true := by simp only [low, decide_eq_true_eq]; omega
      refine ⟨allL_low l hl, ?_⟩
      simp [begR, first]
    · rcases dec_high (a := a) l (by omega) with ⟨b, l', rfl, e, e1, e2, e3⟩ | ⟨h1, _⟩
      · rw [e] at h ⊢
        simp only [isL, decide_eq_true_eq] at h
        have ht : two a b = true := by simp only [two, decide_eq_true_eq]; omega
        refine ⟨allL_two l' ht, ?_⟩
        simp only [begR, first]
        rw [decide_eq_true (by omega), decide_eq_true (by omega)]
      · simp only [isL, decide_eq_true_eq] at h
        omega

theorem rune_other {t : List UInt8} (h0 : t ≠ []) (h : isL (dec t).1 = false) : allL t = false := by
  cases t with
  | nil => exact absurd rfl h0
  | cons a l =>
    by_cases ha : a.toNat < 128
    · rw [dec_low l ha] at h
      simp only [isL, decide_eq_false_iff_not] at h
      have hl : low a = false := by simp only [low, decide_eq_false_iff_not]; omega
      cases l with
      | nil => simpa [allL] using hl
      | cons b l =>
        have ht : two a b = false := by simp only [two, decide_eq_false_iff_not]; omega
        rw [allL, hl, ht]; rfl
    · rcases dec_high (a := a) l (by omega) with ⟨b, l', rfl, e, e1, e2, e3⟩ | ⟨_, _, _, h1⟩
      · rw [e] at h
        simp only [isL, decide_eq_false_iff_not] at h
        have ht : two a b = false := by simp only [two, decide_eq_false_iff_not]; omega
        have hl := low_high (a := a) (by omega)
        rw [allL, hl, ht]; rfl
      · exact h1

theorem enc_small {r : Nat} (h : r < 128) : enc r = [UInt8.ofNat r] := by unfold enc; rw [if_pos h]

theorem foldR_lt (r : Nat) : foldR r < 2048 := by
  unfold foldR isL
  repeat' split
  all_goals (try simp only [decide_eq_true_eq] at *)
  all_goals omega

/-- What a rune is folded to, byte by byte. -/
theorem rune_fold {t : List UInt8} (h0 : t ≠ []) : fold t = (if foldR (dec t).1 = 0 then [] else enc (foldR (dec t).1)) ++ fold (t.drop (dec t).2) := by
  cases t with
  | nil => exact absurd rfl h0
  | cons a l =>
    by_cases ha : a.toNat < 128
    · rw [dec_low l ha, fold_one l (by omega) (by omega)]
      simp only [List.drop_succ_cons, List.drop_zero]
      congr 1
      have hcast : UInt8.ofNat a.toNat = a := by simp
      have hL : low a = isL a.toNat := by simp only [low, isL]; exact decide_eq_decide.2 ⟨fun h => by omega, fun h => by omega⟩
      by_cases c1 : a.toNat = 32 ∨ a.toNat = 46 ∨ a.toNat = 47
      · have hl : low a = false := by simp only [low, decide_eq_false_iff_not]; omega
        have hf : foldR a.toNat = 45 := by unfold foldR; rw [if_neg (by omega), if_neg (by omega), if_neg (by omega), if_pos c1]
        have ho : one a = [45] := by unfold one; rw [hl, if_neg (by decide), if_neg (by omega), if_pos c1]
        rw [hf, ho]; rfl
      · by_cases c2 : 65 ≤ a.toNat ∧ a.toNat ≤ 90
        · have hl : low a = false := by simp only [low, decide_eq_false_iff_not]; omega
          have hf : foldR a.toNat = a.toNat + 32 := by unfold foldR; rw [if_neg (by omega), if_neg (by omega), if_neg (by omega), if_neg c1, if_pos c2]
          have ho : one a = [UInt8.ofNat (a.toNat + 32)] := by unfold one; rw [hl, if_neg (by decide), if_pos c2]
          rw [hf, ho, if_neg (by omega), enc_small (by omega)]
        · by_cases c3 : isL a.toNat = true
          · have hf : foldR a.toNat = a.toNat := by unfold foldR; rw [if_neg (by omega), if_neg (by omega), if_neg (by omega), if_neg c1, if_neg c2, if_pos c3]
            have ho : one a = [a] := one_low (hL.trans c3)
            have h00 : a.toNat ≠ 0 := by simp only [isL, decide_eq_true_eq] at c3; omega
            rw [hf, ho, if_neg h00, enc_small ha, hcast]
          · have hf : foldR a.toNat = 0 := by unfold foldR; rw [if_neg (by omega), if_neg (by omega), if_neg (by omega), if_neg c1, if_neg c2, if_neg c3]
            have ho : one a = [] := by unfold one; rw [hL, if_neg c3, if_neg c2, if_neg c1]
            rw [hf, ho, if_pos rfl]
    · rcases dec_high (a := a) l (by omega) with ⟨b, l', rfl, e, e1, e2, e3⟩ | ⟨h1, _, h3, _⟩
      · rw [e, fold]
        simp only [List.drop_succ_cons, List.drop_zero]
        have lb := UInt8.toNat_lt b
        have hbs : fold (b :: l') = fold l' := fold_skip l' (by omega) (by omega) (by omega)
        have hab : a.toNat = 192 + (a.toNat % 32 * 64 + b.toNat % 64) / 64 := by omega
        have hbb : b.toNat = 128 + (a.toNat % 32 * 64 + b.toNat % 64) % 64 := by omega
        generalize hr : a.toNat % 32 * 64 + b.toNat % 64 = r at *
        have hr2 : r < 2048 := by omega
        by_cases c1 : r = 201
        · subst c1
          rw [show foldR 201 = 233 from rfl, u8ext (a := a) (b := 195) hab, u8ext (a := b) (b := 137) hbb]; rfl
        by_cases c2 : r = 216
        · subst c2
          rw [show foldR 216 = 248 from rfl, u8ext (a := a) (b := 195) hab, u8ext (a := b) (b := 152) hbb]; rfl
        by_cases c3 : r = 923
        · subst c3
          rw [show foldR 923 = 955 from rfl, u8ext (a := a) (b := 206) hab, u8ext (a := b) (b := 155) hbb]; rfl
        by_cases c4 : isL r = true
        · simp only [isL, decide_eq_true_eq] at c4
          have c5 : r = 233 ∨ r = 248 ∨ r = 223 ∨ r = 955 := by omega
          rcases c5 with rfl | rfl | rfl | rfl
          · rw [show foldR 233 = 233 from rfl, u8ext (a := a) (b := 195) hab, u8ext (a := b) (b := 169) hbb]; rfl
          · rw [show foldR 248 = 248 from rfl, u8ext (a := a) (b := 195) hab, u8ext (a := b) (b := 184) hbb]; rfl
          · rw [show foldR 223 = 223 from rfl, u8ext (a := a) (b := 195) hab, u8ext (a := b) (b := 159) hbb]; rfl
          · rw [show foldR 955 = 955 from rfl, u8ext (a := a) (b := 206) hab, u8ext (a := b) (b := 187) hbb]; rfl
        · have hz : foldR r = 0 := by
            unfold foldR
            rw [if_neg c1, if_neg c2, if_neg c3, if_neg (by omega), if_neg (by omega), if_neg c4]
          simp only [isL, decide_eq_true_eq] at c4
          have hp : pair a b = none := by
            unfold pair
            by_cases d1 : a.toNat = 195
            · rw [if_pos d1, if_neg (by omega), if_neg (by omega), if_neg (by omega)]
            · rw [if_neg d1]
              by_cases d2 : a.toNat = 206
              · rw [if_pos d2, if_neg (by omega)]
              · rw [if_neg d2]
          rw [hp, hz, if_pos rfl, List.nil_append]
          show one a ++ fold (b :: l') = fold l'
          rw [one_high (by omega), List.nil_append, hbs]
      · have hz : foldR (dec (a :: l)).1 = 0 := by
          generalize (dec (a :: l)).1 = r at *
          unfold foldR
          rw [if_neg (by omega), if_neg (by omega), if_neg (by omega), if_neg (by omega), if_neg (by omega), if_neg (by simp only [isL, decide_eq_true_eq]; omega)]
        rw [hz, if_pos rfl, List.nil_append]
        exact h3

theorem dec_pos {t : List UInt8} (h0 : t ≠ []) : 1 ≤ (dec t).2 := by
  cases t with
  | nil => exact absurd rfl h0
  | cons a l =>
    by_cases ha : a.toNat < 128
    · rw [dec_low l ha]; exact Nat.le_refl _
    · rcases dec_high (a := a) l (by omega) with ⟨b, l', rfl, e, _⟩ | ⟨_, h1, _⟩
      · rw [e]; show 1 ≤ 2; decide
      · exact h1

end Go.Proofs.YtiplfhmimpkplaaGreat.NameMath

/-
  Contracts of layer 3's small functions: isDigit, isLetter, mayBegin.
-/
namespace Go.Proofs.YtiplfhmimpkplaaGreat.NameWalk
open Go.RowKit Go.Proofs.YtiplfhmimpkplaaGreat.NameMath

def digR (r : Nat) : Bool := decide (48 ≤ r ∧ r ≤ 57)

set_option maxRecDepth 100000 in
theorem digit_any (r : Nat) (w : World) :
    Calls Tryz.prog 97 #[.int .i32 (r : Int)] w fun e w' => e = .returned (.bool (digR r)) ∧ w = w' := by
  unfold digR
  by_cases h1 : 48 ≤ r
  · by_cases h2 : r ≤ 57
    · rw [decide_eq_true ⟨h1, h2⟩]
      have k1 : (48 : Int) ≤ r := by omega
      have k2 : (r : Int) ≤ 57 := by omega
      go_enter Tryz.func97, Tryz.ntmps97
      go_wp2
      go_ret
      exact ⟨rfl, rfl⟩
    · rw [decide_eq_false (by omega)]
      have k1 : (48 : Int) ≤ r := by omega
      have k2 : ¬ (r : Int) ≤ 57 := by omega
      go_enter Tryz.func97, Tryz.ntmps97
      go_wp2
      go_ret
      exact ⟨rfl, rfl⟩
  · rw [decide_eq_false (by omega)]
    have k1 : ¬ (48 : Int) ≤ r := by omega
    go_enter Tryz.func97, Tryz.ntmps97
    go_wp2
    go_ret
    exact ⟨rfl, rfl⟩

set_option maxHeartbeats 2000000 in
set_option maxRecDepth 100000 in
theorem letter_any (r : Nat) (w : World) :
    Calls Tryz.prog 73 #[.int .i32 (r : Int)] w fun e w' => e = .returned (.bool (isL r)) ∧ w = w' := by
  generalize hL : isL r = b
  have HL := Go.Lib.hid hL
  have c1 : (r = 45 ∨ r = 95 ∨ r = 233 ∨ r = 248 ∨ r = 223 ∨ r = 955) ∨ (r ≠ 45 ∧ r ≠ 95 ∧ r ≠ 233 ∧ r ≠ 248 ∧ r ≠ 223 ∧ r ≠ 955) := by omega
  clear hL
  rcases c1 with c1 | ⟨n1, n2, n3, n4, n5, n6⟩
  · have hb : b = true := by rw [← HL.out]; simp only [isL, decide_eq_true_eq]; omega
    subst hb
    clear HL
    rcases c1 with rfl | rfl | rfl | rfl | rfl | rfl
    all_goals
      go_enter Tryz.func73, Tryz.ntmps73
      go_wp2
      go_ret
      exact ⟨rfl, rfl⟩
  · have m1 : ¬ (r : Int) = 45 := by omega
    have m2 : ¬ (r : Int) = 95 := by omega
    have m3 : ¬ (r : Int) = 233 := by omega
    have m4 : ¬ (r : Int) = 248 := by omega
    have m5 : ¬ (r : Int) = 223 := by omega
    have m6 : ¬ (r : Int) = 955 := by omega
    by_cases c2 : 97 ≤ r
    · by_cases c3 : r ≤ 122
      · have hb : b = true := by rw [← HL.out]; simp only [isL, decide_eq_true_eq]; omega
        subst hb
        clear HL
        have k1 : (97 : Int) ≤ r := by omega
        have k2 : (r : Int) ≤ 122 := by omega
        go_enter Tryz.func73, Tryz.ntmps73
        go_wp2
        go_ret
        exact ⟨rfl, rfl⟩
      · have hb : b = false := by rw [← HL.out]; simp only [isL, decide_eq_false_iff_not]; omega
        subst hb
        clear HL
        have k1 : (97 : Int) ≤ r := by omega
        have k2 : ¬ (r : Int) ≤ 122 := by omega
        have hd : digR r = false := by simp only [digR, decide_eq_false_iff_not]; omega
        go_enter Tryz.func73, Tryz.ntmps73
        go_wp2_with (go_at_call 97; refine (digit_any r _).mono ?_; rw [hd]; rintro e w' ⟨rfl, rfl⟩)
        go_ret
        exact ⟨rfl, rfl⟩
    · have hd : b = digR r := by rw [← HL.out]; simp only [isL, digR]; exact decide_eq_decide.2 ⟨fun h => by omega, fun h => by omega⟩
      subst hd
      clear HL
      have k1 : ¬ (97 : Int) ≤ r := by omega
      go_enter Tryz.func73, Tryz.ntmps73
      go_wp2_with (go_at_call 97; refine (digit_any r _).mono ?_; rintro e w' ⟨rfl, rfl⟩)
      go_ret
      exact ⟨rfl, rfl⟩

set_option maxRecDepth 100000 in
theorem begin_any (r : Nat) (w : World) :
    Calls Tryz.prog 74 #[.int .i32 (r : Int)] w fun e w' => e = .returned (.bool (begR r)) ∧ w = w' := by
  by_cases c1 : r = 45
  · subst c1
    go_enter Tryz.func74, Tryz.ntmps74
    go_wp2
    go_ret
    exact ⟨rfl, rfl⟩
  · have m1 : ¬ (r : Int) = 45 := by omega
    have hb : begR r = !digR r := by
      simp only [begR, digR, ← decide_not]
      exact decide_eq_decide.2 ⟨fun h => h.2, fun h => ⟨c1, h⟩⟩
    rw [hb]
    go_enter Tryz.func74, Tryz.ntmps74
    go_wp2_with (go_at_call 97; refine (digit_any r _).mono ?_; rintro e w' ⟨rfl, rfl⟩)
    go_ret
    refine ⟨?_, rfl⟩
    simp [m1]

end Go.Proofs.YtiplfhmimpkplaaGreat.NameWalk

/-
  Contracts of layer 3: May.
-/
namespace Go.Proofs.YtiplfhmimpkplaaGreat.NameWalk
open Go.RowKit Go.Proofs.YtiplfhmimpkplaaGreat.NameMath

theorem drop_ne {s : ByteArray} {pos : Nat} (h : pos < s.size) : s.data.toList.drop pos ≠ [] := by
  intro e
  have := congrArg List.length e
  simp at this
  have h2 : s.size = s.data.size := rfl
  omega

theorem size_list (s : ByteArray) : s.size = s.data.toList.length := (Array.length_toList).symm

theorem below_iter (w : World) (s : ByteArray) (pos : Nat) : Below w.heap.size w (w.iter s pos) := by
  have h : Below w.heap.size w (w.iter s pos) := (Below.refl _ w).alloc (Nat.le_refl _) _
  exact h

set_option maxHeartbeats 4000000 in
set_option maxRecDepth 100000 in
theorem may_any (s : ByteArray) (w : World) (hs : s.size ≤ 9223372036854775807) :
    Calls Tryz.prog 48 #[.string s] w fun e w' => e = .returned (.bool (may s.data.toList)) ∧ Below w.heap.size w w' := by
  have hsz := size_list s
  generalize hl : s.data.toList = l at *
  generalize hm : may l = m
  have HM := Go.Lib.hid hm
  have HL := Go.Lib.hid hl
  clear hm hl
  by_cases h1 : s.size < 1
  · have hb : m = false := by rw [← HM.out]; unfold may; rw [decide_eq_false (by omega)]; rfl
    subst hb
    have k1 : (s.size : Int) < 1 := by omega
    go_enter Tryz.func48, Tryz.ntmps48
    go_wp2
    go_ret
    exact ⟨rfl, Below.refl _ _⟩
  by_cases h2 : s.size > 24
  · have hb : m = false := by rw [← HM.out]; unfold may; rw [decide_eq_false (by omega)]; rfl
    subst hb
    have k1 : ¬ (s.size : Int) < 1 := by omega
    have k2 : (24 : Int) < s.size := by omega
    go_enter Tryz.func48, Tryz.ntmps48
    go_wp2
    go_ret
    exact ⟨rfl, Below.refl _ _⟩
  have hm2 : m = (first l && allL l) := by rw [← HM.out]; unfold may; rw [decide_eq_true (by omega)]; rfl
  have HM2 := Go.Lib.hid hm2
  clear hm2 HM
  have k1 : ¬ (s.size : Int) < 1 := by omega
  have k2 : ¬ (24 : Int) < s.size := by omega
  have HS := Go.Lib.hid hsz
  clear hsz
  go_enter Tryz.func48, Tryz.ntmps48
  go_wp2
  go_loopw [] (fun w' => ∃ pos : Nat, w' = w.iter s pos ∧ allL (l.drop pos) = allL l ∧ (pos = 0 ∨ first l = true)) (fun w' => s.size - w'.iterPos w.heap.size)
  case atStart => exact ⟨0, rfl, rfl, .inl rfl⟩
  case round =>
    obtain ⟨pos, rfl, hall, hfi⟩ := hrel
    by_cases hp : pos < s.size
    · have hnx : ∀ ty, (Instr.next (.pointer (some ⟨w.heap.size, 0, none⟩)) true ty).run Tryz.prog (w.iter s pos) = _ := fun ty => run_next_any w s pos ty hp
      have hne := drop_ne hp
      have hdec := dec_at s pos
      rw [HL.out] at hdec hne
      have hpos := dec_pos hne
      generalize hq : Utf8.decode s pos = q at *
      have hq1 : isL q.1 = true → allL l = allL (l.drop (pos + q.2)) ∧ begR q.1 = first (l.drop pos) := by
        intro hh
        rw [hdec] at hh ⊢
        have := rune_letter hne hh
        rw [List.drop_drop] at this
        exact ⟨hall.symm.trans this.1, this.2⟩
      have hq2 : isL q.1 = false → allL l = false := by
        intro hh
        rw [hdec] at hh
        exact hall.symm.trans (rune_other hne hh)
      rw [← hdec] at hpos
      have H1 := Go.Lib.hid hq1
      have H2 := Go.Lib.hid hq2
      have HP := Go.Lib.hid hpos
      have HF := Go.Lib.hid hfi
      clear hq1 hq2 hpos hfi hdec hq hall
      obtain ⟨r, k⟩ := q
      generalize hil : isL r = bl
      have HI := Go.Lib.hid hil
      clear hil
      cases bl
      · go_wp2_with (go_at_call 73; refine (letter_any r _).mono ?_; rw [HI.out]; rintro e w' ⟨rfl, rfl⟩)
        go_ret
        have := H2.out HI.out
        rw [HM2.out, this, Bool.and_false]
        exact ⟨rfl, below_iter _ _ _⟩
      · by_cases h0 : pos = 0
        · subst h0
          generalize hbg : begR r = bb
          have HB := Go.Lib.hid hbg
          clear hbg
          cases bb
          · go_wp2_with (first | (go_at_call 73; refine (letter_any r _).mono ?_; rw [HI.out]; rintro e w' ⟨rfl, rfl⟩) | (go_at_call 74; refine (begin_any r _).mono ?_; rw [HB.out]; rintro e w' ⟨rfl, rfl⟩))
            go_ret
            have := (H1.out HI.out).2
            rw [show begR (r, k).1 = begR r from rfl, HB.out, List.drop_zero] at this
            rw [HM2.out, ← this, Bool.false_and]
            exact ⟨rfl, below_iter _ _ _⟩
          · go_wp2_with (first | (go_at_call 73; refine (letter_any r _).mono ?_; rw [HI.out]; rintro e w' ⟨rfl, rfl⟩) | (go_at_call 74; refine (begin_any r _).mono ?_; rw [HB.out]; rintro e w' ⟨rfl, rfl⟩))
            have hk := HP.out
            try simp only at hk
            go_roundw
            case rel =>
              have h3 := H1.out HI.out
              rw [show begR (r, k).1 = begR r from rfl, HB.out, List.drop_zero] at h3
              exact ⟨k, rfl, by rw [h3.1, Nat.zero_add], .inr h3.2.symm⟩
            case measure =>
              simp
              omega
        · have k3 : ¬ (pos : Int) = 0 := by omega
          go_wp2_with (first | (go_at_call 73; refine (letter_any r _).mono ?_; rw [HI.out]; rintro e w' ⟨rfl, rfl⟩))
          have hk := HP.out
          try simp only at hk
          go_roundw
          case rel =>
            have h3 := H1.out HI.out
            exact ⟨pos + k, rfl, h3.1.symm, .inr (HF.out.resolve_left h0)⟩
          case measure =>
            simp
            omega
    · have hnx : ∀ ty, (Instr.next (.pointer (some ⟨w.heap.size, 0, none⟩)) true ty).run Tryz.prog (w.iter s pos) = _ := fun ty => run_next_end w s pos ty hp
      have ha : allL l = true := by
        rw [← hall, List.drop_eq_nil_of_le (by have := HS.out; omega)]; rfl
      have hf : first l = true := hfi.resolve_left (by omega)
      have hm3 : m = true := by rw [HM2.out, ha, hf]; rfl
      subst hm3
      clear hall ha hf hfi
      go_wp2
      go_ret
      exact ⟨rfl, below_iter _ _ _⟩

end Go.Proofs.YtiplfhmimpkplaaGreat.NameWalk

/-
  The contract of stringslite.Index at one byte, laid at this dump (as the shelf's tool writes it, in plain words; its numbers by name).
-/
namespace Go.Proofs
open Go.Shelf
def Tryz.lays219_ren : Go.Shelf.Ren := ⟨fun | 219 => 111 | 217 => 112 | 225 => 113 | 224 => 114 | 267 => 115 | 266 => 116 | 314 => 117 | n => n, fun | 9 => 9 | 3 => 3 | 4 => 4 | 5 => 5 | 46 => 112 | 146 => 143 | 51 => 142 | n => n, fun | 1 => 0 | n => n⟩
theorem Tryz.lays219 : Go.Proofs.Lays.n219 Tryz.prog Tryz.lays219_ren := {
  mixed := by kernel_rfl
  f217 := Tryz.func112.trans (congrArg some (by kernel_rfl))
  f219 := Tryz.func111.trans (congrArg some (by kernel_rfl))
  f224 := Tryz.func114.trans (congrArg some (by kernel_rfl))
  f225 := Tryz.func113.trans (congrArg some (by kernel_rfl))
  f266 := Tryz.func116.trans (congrArg some (by kernel_rfl))
  f267 := Tryz.func115.trans (congrArg some (by kernel_rfl))
  f314 := Tryz.func117.trans (congrArg some (by kernel_rfl))
  t3 := Tryz.underlying3
  a3 := Tryz.isAgg3
  z3 := Tryz.sizeOf3
  v3 := Tryz.zeroValue3
  t4 := Tryz.underlying4
  a4 := Tryz.isAgg4
  z4 := Tryz.sizeOf4
  v4 := Tryz.zeroValue4
  t5 := Tryz.underlying5
  a5 := Tryz.isAgg5
  z5 := Tryz.sizeOf5
  v5 := Tryz.zeroValue5
  t9 := Tryz.underlying9
  a9 := Tryz.isAgg9
  z9 := Tryz.sizeOf9
  v9 := Tryz.zeroValue9
  t46 := Tryz.underlying112
  a46 := Tryz.isAgg112
  z46 := Tryz.sizeOf112
  v46 := Tryz.zeroValue112
  t51 := Tryz.underlying142
  a51 := Tryz.isAgg142
  z51 := Tryz.sizeOf142
  v51 := Tryz.zeroValue142
  t146 := Tryz.underlying143
  a146 := Tryz.isAgg143
  z146 := Tryz.sizeOf143
  v146 := Tryz.zeroValue143
  g1 := by kernel_rfl }
open Go.RowKit Go.Lib in
/-- internal/stringslite.Index (what strings.Index calls) AT A substr OF ONE BYTE c: IT RETURNS 'Lib.indexByte s c'; the world is as it was. (LAID: no walk: one application.) -/
theorem Tryz.stringslite_Index_one (s : ByteArray) (c : UInt8) (w : World) :
    Calls Tryz.prog 111 #[.string s, .string ⟨#[c]⟩] w fun e w' => e = .returned (.int .i64 (Lib.indexByte s.data.toList c)) ∧ w' = w := Any.stringslite_Index_one Tryz.lays219 s c w
end Go.Proofs

/-
  Tags: cutting at the first colon; contracts of strings.Cut at ":", Parts, MayTag, Tag; the laws' head (shown, short).
-/
namespace Go.Proofs.YtiplfhmimpkplaaGreat.NameMath

/-- A text cut at its first colon. -/
def cutC : List UInt8 → Option (List UInt8 × List UInt8)
  | [] => none
  | a :: l => if a.toNat = 58 then some ([], l) else (cutC l).map fun p => (a :: p.1, p.2)

def parts (l : List UInt8) : List UInt8 × List UInt8 × Bool := match cutC l with
  | some p => if (may p.1 && may p.2) = true then (p.1, p.2, true) else ([], [], false)
  | none => ([], [], false)

def tag (a b : List UInt8) : List UInt8 := if (may a && may b) = true then a ++ 58 :: b else []

theorem cut_index : ∀ l : List UInt8, (Lib.indexByte l 58 = -1 ∧ cutC l = none) ∨ ∃ i : Nat, i < l.length ∧ Lib.indexByte l 58 = (i : Int) ∧ cutC l = some (l.take i, l.drop (i + 1))
  | [] => .inl ⟨rfl, rfl⟩
  | a :: l => by
    by_cases h : a.toNat = 58
    · right
      have : a = 58 := u8ext h
      subst this
      exact ⟨0, by simp, rfl, rfl⟩
    · have hne : (a == 58) = false := by
        simp only [beq_eq_false_iff_ne]
        rintro rfl
        exact h rfl
      rcases cut_index l with ⟨h1, h2⟩ | ⟨i, h0, h1, h2⟩
      · left
        refine ⟨?_, ?_⟩
        · rw [Lib.indexByte, hne, h1]; rfl
        · rw [cutC, if_neg h, h2]; rfl
      · right
        refine ⟨i + 1, by simp; omega, ?_, ?_⟩
        · rw [Lib.indexByte, hne, h1]
          have h4 : (((i : Nat) : Int) == -1) = false := by simp only [beq_eq_false_iff_ne]; omega
          rw [h4]; simp
        · rw [cutC, if_neg h, h2]; rfl

theorem cut_none {l : List UInt8} (h : ∀ x ∈ l, x.toNat ≠ 58) (b : List UInt8) : cutC (l ++ 58 :: b) = some (l, b) := by
  induction l with
  | nil => rfl
  | cons a l ih =>
    rw [List.cons_append, cutC, if_neg (h a (by simp)), ih (fun x hx => h x (by simp [hx]))]
    rfl

theorem cut_all {l : List UInt8} (h : ∀ x ∈ l, x.toNat ≠ 58) : cutC l = none := by
  induction l with
  | nil => rfl
  | cons a l ih =>
    rw [cutC, if_neg (h a (by simp)), ih (fun x hx => h x (by simp [hx]))]
    rfl

theorem allL_colon : ∀ {l : List UInt8}, allL l = true → ∀ x ∈ l, x.toNat ≠ 58
  | [], _, x, hx => by simp at hx
  | [a], h, x, hx => by
    simp [allL] at h hx
    subst hx
    simp only [low, decide_eq_true_eq] at h
    omega
  | a :: b :: l, h, x, hx => by
    by_cases ha : low a = true
    · rw [allL_low _ ha] at h
      rcases List.mem_cons.1 hx with rfl | hx
      · simp only [low, decide_eq_true_eq] at ha; omega
      · exact allL_colon h x hx
    · have ha' : low a = false := by simpa using ha
      rw [allL, ha', if_neg (by decide)] at h
      by_cases ht : two a b = true
      · rw [if_pos ht] at h
        simp only [two, decide_eq_true_eq] at ht
        rcases List.mem_cons.1 hx with rfl | hx
        · omega
        · rcases List.mem_cons.1 hx with rfl | hx
          · omega
          · exact allL_colon h x hx
      · rw [if_neg ht] at h
        exact absurd h (by decide)

theorem parts_tag {a b : List UInt8} (ha : may a = true) : cutC (a ++ 58 :: b) = some (a, b) := cut_none (allL_colon (may_parts ha).2.2.2) b

theorem parts_name {a : List UInt8} (ha : may a = true) : parts a = ([], [], false) := by
  unfold parts
  rw [cut_all (allL_colon (may_parts ha).2.2.2)]

theorem parts_both {a b : List UInt8} (ha : may a = true) (hb : may b = true) : parts (a ++ 58 :: b) = (a, b, true) := by
  unfold parts
  rw [parts_tag ha]
  simp [ha, hb]

theorem parts_behind {a b : List UInt8} (ha : may a = true) (hb : may b = false) : parts (a ++ 58 :: b) = ([], [], false) := by
  unfold parts
  rw [parts_tag ha]
  simp [hb]

end Go.Proofs.YtiplfhmimpkplaaGreat.NameMath

namespace Go.Proofs.YtiplfhmimpkplaaGreat.NameWalk
open Go.RowKit Go.Proofs.YtiplfhmimpkplaaGreat.NameMath

theorem below_chain {w w1 w2 : World} (h1 : Below w.heap.size w w1) (h2 : Below w1.heap.size w1 w2) : Below w.heap.size w w2 := h1.trans (h2.mono h1.size)
theorem bel_drewN {B : Nat} {a w : World} (h : Below B a w) (n : Nat) : Below B a (w.drewN n) := ⟨h.os, h.tape, h.output, h.size, h.block⟩
theorem bel_drew {B : Nat} {a w : World} (h : Below B a w) : Below B a w.drew := ⟨h.os, h.tape, h.output, h.size, h.block⟩

theorem ba_ext {a b : ByteArray} (h : a.data.toList = b.data.toList) : a = b := by
  cases a; cases b
  congr 1
  exact Array.toList_inj.1 h

theorem ba_list (l : List UInt8) : (⟨l.toArray⟩ : ByteArray).data.toList = l := rfl

theorem ba_append (a b : ByteArray) : (a ++ b).data.toList = a.data.toList ++ b.data.toList := by
  rw [ByteArray.data_append, Array.toList_append]

theorem ba_take (s : ByteArray) (n : Nat) : (s.extract 0 n).data.toList = s.data.toList.take n := by
  simp [ByteArray.data_extract]

theorem ba_drop (s : ByteArray) (i : Nat) : (s.extract i s.size).data.toList = s.data.toList.drop i := by
  rw [ByteArray.data_extract, Array.toList_extract]
  show (s.data.toList.drop i).take (s.size - i) = _
  rw [List.take_of_length_le]
  rw [List.length_drop, ← size_list]
  exact Nat.le_refl _

set_option maxHeartbeats 2000000 in
set_option maxRecDepth 100000 in
theorem scut_any (s : ByteArray) (w : World) (hs : s.size ≤ 9223372036854775807) :
    Calls Tryz.prog 110 #[.string s, .string ⟨#[58]⟩] w fun e w' => (e = .returned (match cutC s.data.toList with
      | some p => .tuple #[.string ⟨p.1.toArray⟩, .string ⟨p.2.toArray⟩, .bool true]
      | none => .tuple #[.string s, .string ⟨#[]⟩, .bool false])) ∧ Below w.heap.size w w' := by
  have hsz := size_list s
  rcases cut_index s.data.toList with ⟨h1, h2⟩ | ⟨i, h0, h1, h2⟩
  · rw [h2]
    go_enter Tryz.func110, Tryz.ntmps110
    go_wp2_with (go_at_call 111; refine (Tryz.stringslite_Index_one s 58 _).mono ?_; rw [h1]; rintro e w' ⟨rfl, rfl⟩)
    go_ret3
    exact ⟨rfl, Below.refl _ _⟩
  · rw [h2]
    have e1 : (⟨(s.data.toList.take i).toArray⟩ : ByteArray) = s.extract 0 i := ba_ext (by rw [ba_take])
    have e2 : (⟨(s.data.toList.drop (i + 1)).toArray⟩ : ByteArray) = s.extract (i + 1) s.size := ba_ext (by rw [ba_drop])
    simp only
    rw [e1, e2]
    have c1 : (0 : Int) ≤ ↑i := by omega
    have c2 : (↑i : Int) ≤ ↑s.size := by omega
    clear h2 e1 e2
    obtain ⟨j, hj⟩ : ∃ j : Nat, j = i + 1 := ⟨_, rfl⟩
    rw [← hj]
    have hz : (↑i : Int) + 1 = ↑j := by omega
    have c3 : (0 : Int) ≤ ↑j := by omega
    have c4 : (↑j : Int) ≤ ↑s.size := by omega
    clear hj hsz h0
    go_enter Tryz.func110, Tryz.ntmps110
    go_wp2_with (go_at_call 111; refine (Tryz.stringslite_Index_one s 58 _).mono ?_; rw [h1]; rintro e w' ⟨rfl, rfl⟩)
    go_region
    go_wp2
    go_ret3
    exact ⟨rfl, bel_drew (Below.refl _ _)⟩

set_option maxRecDepth 100000 in
theorem cut_any (s : ByteArray) (w : World) (hs : s.size ≤ 9223372036854775807) :
    Calls Tryz.prog 108 #[.string s, .string ⟨#[58]⟩] w fun e w' => (e = .returned (match cutC s.data.toList with
      | some p => .tuple #[.string ⟨p.1.toArray⟩, .string ⟨p.2.toArray⟩, .bool true]
      | none => .tuple #[.string s, .string ⟨#[]⟩, .bool false])) ∧ Below w.heap.size w w' := by
  have hc := scut_any s w hs
  cases h : cutC s.data.toList with
  | none =>
    rw [h] at hc
    go_enter Tryz.func108, Tryz.ntmps108
    go_wp2_with (go_at_call 110; refine hc.mono ?_; rintro e w' ⟨rfl, b1⟩)
    go_ret3
    exact ⟨rfl, b1⟩
  | some p =>
    rw [h] at hc
    go_enter Tryz.func108, Tryz.ntmps108
    go_wp2_with (go_at_call 110; refine hc.mono ?_; rintro e w' ⟨rfl, b1⟩)
    go_ret3
    exact ⟨rfl, b1⟩

set_option maxHeartbeats 2000000 in
set_option maxRecDepth 100000 in
theorem parts_any (s : ByteArray) (w : World) (hs : s.size ≤ 9223372036854775807) :
    Calls Tryz.prog 99 #[.string s] w fun e w' => e = .returned (.tuple #[.string ⟨(parts s.data.toList).1.toArray⟩, .string ⟨(parts s.data.toList).2.1.toArray⟩, .bool (parts s.data.toList).2.2]) ∧ Below w.heap.size w w' := by
  have hc := cut_any s w hs
  have hsz := size_list s
  have HS := Go.Lib.hid hsz
  rcases cut_index s.data.toList with ⟨_, h2⟩ | ⟨i, h0, _, h2⟩
  · rw [h2] at hc
    have hp : parts s.data.toList = ([], [], false) := by unfold parts; rw [h2]
    rw [hp]
    clear hp h2 hsz
    go_enter Tryz.func99, Tryz.ntmps99
    go_wp2_with (go_at_call 108; refine hc.mono ?_; rintro e w' ⟨rfl, b1⟩)
    go_ret3
    exact ⟨rfl, b1⟩
  · rw [h2] at hc
    have hp : parts s.data.toList = if (may (s.data.toList.take i) && may (s.data.toList.drop (i + 1))) = true then (s.data.toList.take i, s.data.toList.drop (i + 1), true) else ([], [], false) := by unfold parts; rw [h2]
    have l1 : (s.data.toList.take i).length ≤ 9223372036854775807 := by rw [List.length_take]; omega
    have l2 : (s.data.toList.drop (i + 1)).length ≤ 9223372036854775807 := by rw [List.length_drop]; omega
    generalize s.data.toList.take i = A at *
    generalize s.data.toList.drop (i + 1) = B at *
    simp only at hc
    have ma := fun w => may_any ⟨A.toArray⟩ w l1
    have mb := fun w => may_any ⟨B.toArray⟩ w l2
    simp only at ma mb
    generalize hma : may A = x at *
    generalize hmb : may B = y at *
    have MA := Go.Lib.hid ma
    have MB := Go.Lib.hid mb
    clear ma mb h2 hsz hma hmb l1 l2
    cases x
    · rw [Bool.false_and, if_neg (by decide)] at hp
      rw [hp]
      clear hp
      go_enter Tryz.func99, Tryz.ntmps99
      go_wp2_with fail
      refine hc.mono ?_
      rintro e w1 ⟨rfl, b1⟩
      go_wp2_with fail
      refine (MA.out _).mono ?_
      rintro e w2 ⟨rfl, b2⟩
      have b3 := below_chain b1 b2
      go_wp2_with fail
      go_ret3
      exact ⟨rfl, b3⟩
    · cases y
      · rw [Bool.and_false, if_neg (by decide)] at hp
        rw [hp]
        clear hp
        go_enter Tryz.func99, Tryz.ntmps99
        go_wp2_with fail
        refine hc.mono ?_
        rintro e w1 ⟨rfl, b1⟩
        go_wp2_with fail
        refine (MA.out _).mono ?_
        rintro e w2 ⟨rfl, b2⟩
        have b3 := below_chain b1 b2
        go_wp2_with fail
        refine (MB.out _).mono ?_
        rintro e w3 ⟨rfl, b4⟩
        have b5 := below_chain b3 b4
        go_wp2_with fail
        go_ret3
        exact ⟨rfl, b5⟩
      · rw [Bool.true_and, if_pos rfl] at hp
        rw [hp]
        clear hp
        go_enter Tryz.func99, Tryz.ntmps99
        go_wp2_with fail
        refine hc.mono ?_
        rintro e w1 ⟨rfl, b1⟩
        go_wp2_with fail
        refine (MA.out _).mono ?_
        rintro e w2 ⟨rfl, b2⟩
        have b3 := below_chain b1 b2
        go_wp2_with fail
        refine (MB.out _).mono ?_
        rintro e w3 ⟨rfl, b4⟩
        have b5 := below_chain b3 b4
        go_wp2_with fail
        go_ret3
        exact ⟨rfl, b5⟩

end Go.Proofs.YtiplfhmimpkplaaGreat.NameWalk

/-
  Contracts of the document's own answers for layer 3 (registrarref03): plain, begins, letter, folded.
-/
namespace Go.Proofs.YtiplfhmimpkplaaGreat.NameMath

/-- How many bytes the letter has that it begins with. -/
def lw : List UInt8 → Nat
  | [] => 0
  | [a] => if low a = true then 1 else 0
  | a :: b :: _ => if low a = true then 1 else if two a b = true then 2 else 0

/-- It begins with just these two. -/
def isP (x y : UInt8) (t : List UInt8) : Bool := decide (t.take 2 = [x, y])

end Go.Proofs.YtiplfhmimpkplaaGreat.NameMath
namespace Go.Proofs.YtiplfhmimpkplaaGreat.NameWalk
open Go.RowKit Go.Proofs.YtiplfhmimpkplaaGreat.NameMath

set_option maxHeartbeats 2000000 in
set_option maxRecDepth 100000 in
theorem begins_any (s t : ByteArray) (p : Nat) (w : World) (hp : p ≤ s.size) (hs : s.size ≤ 4611686018427387904) (ht : t.size ≤ 4611686018427387904) :
    Calls Tryz.prog 103 #[.string s, .int .i64 (p : Int), .string t] w fun e w' => e = .returned (.bool (decide ((s.data.toList.drop p).take t.size = t.data.toList))) ∧ w = w' := by
  have hl := size_list s
  have hlt := size_list t
  by_cases h1 : p + t.size ≤ s.size
  · obtain ⟨j, hj⟩ : ∃ j : Nat, j = p + t.size := ⟨_, rfl⟩
    have hz : (↑p : Int) + ↑t.size = ↑j := by omega
    have k0 : (t.size : Int) ≤ ↑s.size - ↑p := by omega
    have k1 : (0 : Int) ≤ ↑p := by omega
    have k2 : (↑p : Int) ≤ ↑j := by omega
    have k3 : (↑j : Int) ≤ ↑s.size := by omega
    have hE : (s.extract p j).toList = (s.data.toList.drop p).take t.size := by
      rw [ByteArray.toList_eq, ByteArray.data_extract, Array.toList_extract, hj]
      show (s.data.toList.drop p).take (p + t.size - p) = _
      rw [Nat.add_sub_cancel_left]
    rw [← hE, ← ByteArray.toList_eq t]
    by_cases he : (s.extract p j).toList = t.toList
    · rw [decide_eq_true he]
      clear hE hl hlt hj
      go_enter Tryz.func103, Tryz.ntmps103
      go_wp2
      go_ret
      exact ⟨by simp, rfl⟩
    · rw [decide_eq_false he]
      clear hE hl hlt hj
      go_enter Tryz.func103, Tryz.ntmps103
      go_wp2
      go_ret
      exact ⟨by simp [he], rfl⟩
  · have hn : ¬ (s.data.toList.drop p).take t.size = t.data.toList := by
      intro e
      have := congrArg List.length e
      rw [List.length_take, List.length_drop] at this
      omega
    rw [decide_eq_false hn]
    have k0 : ¬ (t.size : Int) ≤ ↑s.size - ↑p := by omega
    clear hl hlt hn
    go_enter Tryz.func103, Tryz.ntmps103
    go_wp2
    go_ret
    exact ⟨rfl, rfl⟩

set_option maxRecDepth 100000 in
theorem plain_any (c : UInt8) (w : World) :
    Calls Tryz.prog 101 #[.int .u8 (c.toNat : Int)] w fun e w' => e = .returned (.bool (low c)) ∧ w = w' := by
  have hi := UInt8.toNat_lt c
  have hlow : low c = decide ((97 ≤ c.toNat ∧ c.toNat ≤ 122) ∨ (48 ≤ c.toNat ∧ c.toNat ≤ 57) ∨ c.toNat = 45 ∨ c.toNat = 95) := rfl
  generalize low c = b at *
  generalize c.toNat = x at *
  have HB := Go.Lib.hid hlow
  clear hlow
  have cases7 : (97 ≤ x ∧ x ≤ 122) ∨ 122 < x ∨ x < 48 ∨ (48 ≤ x ∧ x ≤ 57) ∨ (57 < x ∧ x < 97) := by omega
  rcases cases7 with ⟨h1, h2⟩ | h1 | h1 | ⟨h1, h2⟩ | ⟨h1, h2⟩
  · have hb : b = true := by rw [HB.out]; exact decide_eq_true (by omega)
    subst hb
    have k1 : (97 : Int) ≤ x := by omega
    have k2 : (x : Int) ≤ 122 := by omega
    go_enter Tryz.func101, Tryz.ntmps101
    go_wp2
    go_ret
    exact ⟨rfl, rfl⟩
  · have hb : b = false := by rw [HB.out]; exact decide_eq_false (by omega)
    subst hb
    have k1 : (97 : Int) ≤ x := by omega
    have k2 : ¬ (x : Int) ≤ 122 := by omega
    have k3 : (48 : Int) ≤ x := by omega
    have k4 : ¬ (x : Int) ≤ 57 := by omega
    have k5 : ¬ (x : Int) = 45 := by omega
    have k6 : ¬ (x : Int) = 95 := by omega
    go_enter Tryz.func101, Tryz.ntmps101
    go_wp2
    go_ret
    exact ⟨by simp [k5, k6], rfl⟩
  · have k1 : ¬ (97 : Int) ≤ x := by omega
    have k3 : ¬ (48 : Int) ≤ x := by omega
    by_cases h45 : x = 45
    · subst h45
      have hb : b = true := by rw [HB.out]; rfl
      subst hb
      go_enter Tryz.func101, Tryz.ntmps101
      go_wp2
      go_ret
      exact ⟨rfl, rfl⟩
    · have hb : b = false := by rw [HB.out]; exact decide_eq_false (by omega)
      subst hb
      have k5 : ¬ (x : Int) = 45 := by omega
      have k6 : ¬ (x : Int) = 95 := by omega
      go_enter Tryz.func101, Tryz.ntmps101
      go_wp2
      go_ret
      exact ⟨by simp [k5, k6], rfl⟩
  · have hb : b = true := by rw [HB.out]; exact decide_eq_true (by omega)
    subst hb
    have k1 : ¬ (97 : Int) ≤ x := by omega
    have k3 : (48 : Int) ≤ x := by omega
    have k4 : (x : Int) ≤ 57 := by omega
    go_enter Tryz.func101, Tryz.ntmps101
    go_wp2
    go_ret
    exact ⟨rfl, rfl⟩
  · have k1 : ¬ (97 : Int) ≤ x := by omega
    have k3 : (48 : Int) ≤ x := by omega
    have k4 : ¬ (x : Int) ≤ 57 := by omega
    have k5 : ¬ (x : Int) = 45 := by omega
    by_cases h95 : x = 95
    · subst h95
      have hb : b = true := by rw [HB.out]; rfl
      subst hb
      go_enter Tryz.func101, Tryz.ntmps101
      go_wp2
      go_ret
      exact ⟨rfl, rfl⟩
    · have hb : b = false := by rw [HB.out]; exact decide_eq_false (by omega)
      subst hb
      have k6 : ¬ (x : Int) = 95 := by omega
      go_enter Tryz.func101, Tryz.ntmps101
      go_wp2
      go_ret
      exact ⟨by simp [k5, k6], rfl⟩

theorem begins_told {s t : ByteArray} {p : Nat} {b : Bool} (hp : p ≤ s.size) (hs : s.size ≤ 4611686018427387904) (ht : t.size ≤ 4611686018427387904) (h : decide ((s.data.toList.drop p).take t.size = t.data.toList) = b) (w : World) :
    Calls Tryz.prog 103 #[.string s, .int .i64 (p : Int), .string t] w fun e w' => e = .returned (.bool b) ∧ w = w' := by
  subst h
  exact begins_any s t p w hp hs ht

theorem drop_at {s : ByteArray} {p : Nat} (h : p < s.size) : s.data.toList.drop p = s[p] :: s.data.toList.drop (p + 1) := by
  have h2 : p < s.data.toList.length := by rw [← size_list]; exact h
  rw [List.drop_eq_getElem_cons h2]
  rfl

def lets : Nat → ByteArray
  | 0 => ⟨#[195, 169]⟩
  | 1 => ⟨#[195, 184]⟩
  | 2 => ⟨#[195, 159]⟩
  | _ => ⟨#[206, 187]⟩
def bigs : Nat → ByteArray
  | 0 => ⟨#[195, 137]⟩
  | 1 => ⟨#[195, 152]⟩
  | _ => ⟨#[206, 155]⟩
def smalls : Nat → ByteArray
  | 0 => ⟨#[195, 169]⟩
  | 1 => ⟨#[195, 184]⟩
  | _ => ⟨#[206, 187]⟩

theorem lt4 {k : Nat} (h : k < 4) : k = 0 ∨ k = 1 ∨ k = 2 ∨ k = 3 := by omega
theorem lt3 {k : Nat} (h : k < 3) : k = 0 ∨ k = 1 ∨ k = 2 := by omega
theorem lets_size {k : Nat} (h : k < 4) : (lets k).size = 2 := by rcases lt4 h with rfl | rfl | rfl | rfl <;> rfl
theorem bigs_size {k : Nat} (h : k < 3) : (bigs k).size = 2 := by rcases lt3 h with rfl | rfl | rfl <;> rfl

set_option maxRecDepth 100000 in
theorem letters_any (w : World) :
    Calls Tryz.prog 102 #[] w fun e w' => e = .returned (.slice (some ⟨w.heap.size, 0, none⟩) 4 4) ∧ (∀ k, k < 4 → w'.cell? ⟨w.heap.size, k, none⟩ = some (.string (lets k))) ∧ Below w.heap.size w w' := by
  go_enter Tryz.func102, Tryz.ntmps102
  go_wp2
  go_ret
  refine ⟨rfl, ?_, (Below.refl _ w).alloc (Nat.le_refl _) _⟩
  intro k hk
  rcases lt4 hk with rfl | rfl | rfl | rfl <;> simp [lets]

theorem lw_low {a : UInt8} (l : List UInt8) (h : low a = true) : lw (a :: l) = 1 := by
  cases l with
  | nil => rw [lw, if_pos h]
  | cons b l => rw [lw, if_pos h]

theorem lw_two {a : UInt8} {l : List UInt8} (h : low a = false) {k : Nat} (hk : k < 4) (ht : (a :: l).take 2 = (lets k).data.toList) : lw (a :: l) = 2 := by
  cases l with
  | nil => rcases lt4 hk with rfl | rfl | rfl | rfl <;> simp [lets] at ht
  | cons b l =>
    have h2 : two a b = true := by
      rcases lt4 hk with rfl | rfl | rfl | rfl <;> (simp [lets] at ht; obtain ⟨rfl, rfl⟩ := ht; decide)
    rw [lw, h, if_neg (by decide), if_pos h2]

theorem lw_zero {a : UInt8} {l : List UInt8} (h : low a = false) (ht : ∀ k, k < 4 → ¬ (a :: l).take 2 = (lets k).data.toList) : lw (a :: l) = 0 := by
  cases l with
  | nil => rw [lw, h, if_neg (by decide)]
  | cons b l =>
    have h2 : ¬ two a b = true := by
      intro hh
      simp only [two, decide_eq_true_eq] at hh
      rcases hh with ⟨ha, hb | hb | hb⟩ | ⟨ha, hb⟩
      · exact ht 0 (by omega) (by rw [u8ext (b := 195) ha, u8ext (b := 169) hb]; rfl)
      · exact ht 1 (by omega) (by rw [u8ext (b := 195) ha, u8ext (b := 184) hb]; rfl)
      · exact ht 2 (by omega) (by rw [u8ext (b := 195) ha, u8ext (b := 159) hb]; rfl)
      · exact ht 3 (by omega) (by rw [u8ext (b := 206) ha, u8ext (b := 187) hb]; rfl)
    rw [lw, h, if_neg (by decide), if_neg h2]

set_option maxHeartbeats 4000000 in
set_option maxRecDepth 100000 in
theorem refLetter_any (s : ByteArray) (p : Nat) (w : World) (hp : p < s.size) (hs : s.size ≤ 4611686018427387904) :
    Calls Tryz.prog 84 #[.string s, .int .i64 (p : Int)] w fun e w' => e = .returned (.int .i64 (lw (s.data.toList.drop p) : Nat)) ∧ Below w.heap.size w w' := by
  have k1 : (0 : Int) ≤ ↑p := by omega
  have k2 : (↑p : Int) < ↑s.size := by omega
  have hd := drop_at hp
  generalize hN : lw (s.data.toList.drop p) = N
  have HN := Go.Lib.hid hN
  have HD := Go.Lib.hid hd
  clear hN hd
  cases hlow : low (s[p]'hp)
  · have HL := Go.Lib.hid hlow
    clear hlow
    go_enter Tryz.func84, Tryz.ntmps84
    go_wp2_with fail
    refine (plain_any _ _).mono ?_
    rw [HL.out]
    rintro e w' ⟨rfl, rfl⟩
    go_wp2_with fail
    refine (letters_any _).mono ?_
    rintro e w1 ⟨rfl, hc, b1⟩
    go_wp2_with fail
    go_loop [6] (fun i => ∃ k : Nat, k ≤ 4 ∧ i = .int .i64 (k : Int) ∧ ∀ j, j < k → ¬ (s.data.toList.drop p).take 2 = (lets j).data.toList) (fun i => 4 - (intOf i).toNat)
    case atStart => exact ⟨0, by omega, rfl, fun j hj => absurd hj (by omega)⟩
    case round =>
      obtain ⟨k, hk, rfl, hno⟩ := hrel
      have HNO := Go.Lib.hid hno
      clear hno
      by_cases h4 : k < 4
      · have hk4 : (k : Int) < 4 := by omega
        have hk0 : (0 : Int) ≤ k := by omega
        have hck := hc k h4
        have hsz := lets_size h4
        have HC := Go.Lib.hid hc
        clear hc
        by_cases hm : (s.data.toList.drop p).take 2 = (lets k).data.toList
        · have hN2 : N = 2 := by
            rw [← HN.out]
            rw [HD.out] at hm ⊢
            exact lw_two HL.out h4 hm
          subst hN2
          have cB := Go.Lib.hid (fun w => begins_told (s := s) (t := lets k) (p := p) (b := true) (by omega) hs (by omega) (by rw [hsz]; exact decide_eq_true hm) w)
          clear hm hsz
          go_wp2_with (go_at_call 103; refine (cB.out _).mono ?_; rintro e w' ⟨rfl, rfl⟩)
          go_ret
          exact ⟨rfl, b1⟩
        · have cB := Go.Lib.hid (fun w => begins_told (s := s) (t := lets k) (p := p) (b := false) (by omega) hs (by omega) (by rw [hsz]; exact decide_eq_false hm) w)
          have HM := Go.Lib.hid hm
          clear hm hsz
          go_wp2_with (go_at_call 103; refine (cB.out _).mono ?_; rintro e w' ⟨rfl, rfl⟩)
          go_round
          case rel =>
            refine ⟨k + 1, by omega, by simp, ?_⟩
            intro j hj
            by_cases hjk : j = k
            · subst hjk; exact HM.out
            · exact HNO.out j (by omega)
          case measure =>
            simp [intOf]
            omega
      · have hk4 : ¬ (k : Int) < 4 := by omega
        have hN0 : N = 0 := by
          rw [← HN.out, HD.out]
          refine lw_zero HL.out (fun j hj => ?_)
          rw [← HD.out]
          exact HNO.out j (by omega)
        subst hN0
        go_wp2_with fail
        go_ret
        exact ⟨rfl, b1⟩
  · have hN1 : N = 1 := by rw [← HN.out, HD.out]; exact lw_low _ hlow
    subst hN1
    have HL := Go.Lib.hid hlow
    clear hlow
    go_enter Tryz.func84, Tryz.ntmps84
    go_wp2_with fail
    refine (plain_any _ _).mono ?_
    rw [HL.out]
    rintro e w' ⟨rfl, rfl⟩
    go_wp2_with fail
    go_ret
    exact ⟨rfl, Below.refl _ _⟩

end Go.Proofs.YtiplfhmimpkplaaGreat.NameWalk

/-
  Contracts of the document's own answers for layer 3 (registrarref03): May, Fold.
-/
namespace Go.Proofs.YtiplfhmimpkplaaGreat.NameMath

theorem lw_none {a : UInt8} {l : List UInt8} (h : lw (a :: l) = 0) : low a = false ∧ allL (a :: l) = false := by
  cases l with
  | nil =>
    rw [lw] at h
    have h1 : ¬ low a = true := fun hh => by rw [if_pos hh] at h; exact absurd h (by decide)
    have h2 : low a = false := by simpa using h1
    exact ⟨h2, by simpa [allL] using h2⟩
  | cons b l =>
    rw [lw] at h
    have h1 : ¬ low a = true := fun hh => by rw [if_pos hh] at h; exact absurd h (by decide)
    rw [if_neg h1] at h
    have h3 : ¬ two a b = true := fun hh => by rw [if_pos hh] at h; exact absurd h (by decide)
    have h2 : low a = false := by simpa using h1
    refine ⟨h2, ?_⟩
    rw [allL, if_neg h1, if_neg h3]

theorem lw_some {t : List UInt8} (h : lw t ≠ 0) : lw t ≤ t.length ∧ allL t = allL (t.drop (lw t)) ∧ fold t = t.take (lw t) ++ fold (t.drop (lw t)) := by
  match t with
  | [] => exact absurd rfl h
  | [a] =>
    by_cases h1 : low a = true
    · have e : lw [a] = 1 := by rw [lw, if_pos h1]
      rw [e]
      exact ⟨by simp, allL_low [] h1, fold_low [] h1⟩
    · exact absurd (by rw [lw, if_neg h1]) h
  | a :: b :: l =>
    by_cases h1 : low a = true
    · have e : lw (a :: b :: l) = 1 := by rw [lw, if_pos h1]
      rw [e]
      exact ⟨by simp, allL_low _ h1, fold_low _ h1⟩
    · by_cases h2 : two a b = true
      · have e : lw (a :: b :: l) = 2 := by rw [lw, if_neg h1, if_pos h2]
        rw [e]
        exact ⟨by simp, allL_two _ h2, fold_two _ h2⟩
      · exact absurd (by rw [lw, if_neg h1, if_neg h2]) h

end Go.Proofs.YtiplfhmimpkplaaGreat.NameMath
namespace Go.Proofs.YtiplfhmimpkplaaGreat.NameWalk
open Go.RowKit Go.Proofs.YtiplfhmimpkplaaGreat.NameMath

set_option maxHeartbeats 4000000 in
set_option maxRecDepth 100000 in
theorem refMay_any (s : ByteArray) (w : World) (hs0 : s.size ≤ 9223372036854775807) :
    Calls Tryz.prog 59 #[.string s] w fun e w' => e = .returned (.bool (may s.data.toList)) ∧ Below w.heap.size w w' := by
  have hsz := size_list s
  generalize hm : may s.data.toList = m
  have HM := Go.Lib.hid hm
  clear hm
  by_cases h1 : s.size < 1
  · have hb : m = false := by rw [← HM.out]; unfold may; rw [decide_eq_false (by omega)]; rfl
    subst hb
    have k1 : (s.size : Int) < 1 := by omega
    clear hsz
    go_enter Tryz.func59, Tryz.ntmps59
    go_wp2
    go_ret
    exact ⟨rfl, Below.refl _ _⟩
  by_cases h2 : s.size > 24
  · have hb : m = false := by rw [← HM.out]; unfold may; rw [decide_eq_false (by omega)]; rfl
    subst hb
    have k1 : ¬ (s.size : Int) < 1 := by omega
    have k2 : (24 : Int) < s.size := by omega
    clear hsz
    go_enter Tryz.func59, Tryz.ntmps59
    go_wp2
    go_ret
    exact ⟨rfl, Below.refl _ _⟩
  have k1 : ¬ (s.size : Int) < 1 := by omega
  have k2 : ¬ (24 : Int) < s.size := by omega
  have hs : s.size ≤ 4611686018427387904 := by omega
  have p0 : 0 < s.size := by omega
  have kp : (0 : Int) < s.size := by omega
  have hd := drop_at p0
  rw [List.drop_zero] at hd
  have hx := UInt8.toNat_lt (s[0]'p0)
  have hm2 : m = (decide ((s[0]'p0).toNat ≠ 45 ∧ ¬ (48 ≤ (s[0]'p0).toNat ∧ (s[0]'p0).toNat ≤ 57)) && allL s.data.toList) := by
    rw [← HM.out]
    unfold may
    rw [decide_eq_true (by omega), Bool.true_and, hd]
    rfl
  have HM2 := Go.Lib.hid hm2
  have HS := Go.Lib.hid hsz
  clear hm2 HM hsz
  generalize hy : (s[0]'p0).toNat = y at *
  have HY := Go.Lib.hid hy
  clear hd
  by_cases c1 : 48 ≤ y ∧ y ≤ 57
  · have hb : m = false := by rw [HM2.out, decide_eq_false (by omega), Bool.false_and]
    subst hb
    obtain ⟨c1, c2⟩ := c1
    have k3 : (48 : Int) ≤ y := by omega
    have k4 : (y : Int) ≤ 57 := by omega
    go_enter Tryz.func59, Tryz.ntmps59
    go_wp2
    go_ret
    exact ⟨rfl, Below.refl _ _⟩
  by_cases c2 : y = 45
  · have hb : m = false := by rw [HM2.out, decide_eq_false (by omega), Bool.false_and]
    subst hb
    subst c2
    clear c1
    go_enter Tryz.func59, Tryz.ntmps59
    go_wp2
    go_ret
    exact ⟨rfl, Below.refl _ _⟩
  have hm3 : m = allL s.data.toList := by rw [HM2.out, decide_eq_true (by omega), Bool.true_and]
  have HM3 := Go.Lib.hid hm3
  clear HM2 hm3
  have k5 : ¬ (y : Int) = 45 := by omega
  have main : ∀ (hyp : (¬ (48 : Int) ≤ y) ∨ ((48 : Int) ≤ y ∧ ¬ (y : Int) ≤ 57)), Calls Tryz.prog 59 #[.string s] w fun e w' => e = .returned (.bool m) ∧ Below w.heap.size w w' := by
    intro hyp
    rcases hyp with k3 | ⟨k3, k4⟩
    all_goals
      clear c1 c2
      go_enter Tryz.func59, Tryz.ntmps59
      go_wp2
      go_loopw [3] (fun a wr => ∃ pos : Nat, a = .int .i64 (pos : Int) ∧ pos ≤ s.size ∧ allL (s.data.toList.drop pos) = allL s.data.toList ∧ Below w.heap.size w wr) (fun a _ => s.size - (intOf a).toNat)
      case atStart => exact ⟨0, rfl, by omega, rfl, Below.refl _ _⟩
      case round =>
        obtain ⟨pos, rfl, hple, hall, hb⟩ := hrel
        by_cases hp : pos < s.size
        · have q1 : (pos : Int) < s.size := by omega
          have hdp := drop_at hp
          have hcl := Go.Lib.hid (fun w => refLetter_any s pos w hp hs)
          have hlen : (s.data.toList.drop pos).length = s.size - pos := by rw [List.length_drop, ← HS.out]
          have hz := fun h0 : lw (s.data.toList.drop pos) = 0 => (lw_none (by rw [← hdp]; exact h0)).2
          have hn := fun h0 : lw (s.data.toList.drop pos) ≠ 0 => lw_some h0
          rw [← hdp] at hz
          generalize hN : lw (s.data.toList.drop pos) = N at *
          have HZ := Go.Lib.hid hz
          have HN := Go.Lib.hid hn
          have HA := Go.Lib.hid hall
          have HLN := Go.Lib.hid hlen
          clear hz hn hall hdp hN hlen
          by_cases hN0 : N = 0
          · have hmf : m = false := by rw [HM3.out, ← HA.out, HZ.out hN0]
            subst hN0 hmf
            go_wp2_with (go_at_call 84; refine (hcl.out _).mono ?_; rintro e w2 ⟨rfl, b2⟩)
            go_ret
            exact ⟨rfl, below_chain hb b2⟩
          · have hNz : ¬ (N : Int) = 0 := by omega
            have h3 := HN.out hN0
            rw [HLN.out] at h3
            have hle := h3.1
            have H3 := Go.Lib.hid h3
            clear h3
            go_wp2_with (go_at_call 84; refine (hcl.out _).mono ?_; rintro e w2 ⟨rfl, b2⟩)
            go_roundw
            case rel =>
              refine ⟨pos + N, by simp, by omega, ?_, below_chain hb b2⟩
              have := H3.out.2.1
              rw [List.drop_drop] at this
              rw [← this, HA.out]
            case measure =>
              simp [intOf]
              omega
        · have q1 : ¬ (pos : Int) < s.size := by omega
          have hmt : m = true := by
            rw [HM3.out, ← hall, List.drop_eq_nil_of_le (by have := HS.out; omega)]; rfl
          subst hmt
          clear hall
          go_wp2
          go_ret
          exact ⟨rfl, hb⟩
  by_cases c3 : 48 ≤ y
  · exact main (.inr ⟨by omega, by omega⟩)
  · exact main (.inl (by omega))

end Go.Proofs.YtiplfhmimpkplaaGreat.NameWalk

/-
  Contracts of the document's own answers for layer 3 (registrarref03): Tag, Parts.
-/
namespace Go.Proofs.YtiplfhmimpkplaaGreat.NameWalk
open Go.RowKit Go.Proofs.YtiplfhmimpkplaaGreat.NameMath

set_option maxHeartbeats 4000000 in
set_option maxRecDepth 100000 in
theorem refParts_any (s : ByteArray) (w : World) (hs : s.size ≤ 9223372036854775807) :
    Calls Tryz.prog 85 #[.string s] w fun e w' => e = .returned (.tuple #[.string ⟨(parts s.data.toList).1.toArray⟩, .string ⟨(parts s.data.toList).2.1.toArray⟩, .bool (parts s.data.toList).2.2]) ∧ Below w.heap.size w w' := by
  have hsz := size_list s
  have HS := Go.Lib.hid hsz
  clear hsz
  generalize hP : parts s.data.toList = Q
  have HP := Go.Lib.hid hP
  clear hP
  go_enter Tryz.func85, Tryz.ntmps85
  go_wp2
  go_loop [5] (fun i => ∃ k : Nat, k ≤ s.size ∧ i = .int .i64 (k : Int) ∧ ∀ x ∈ s.data.toList.take k, x.toNat ≠ 58) (fun i => s.size - (intOf i).toNat)
  case atStart => exact ⟨0, by omega, rfl, by simp⟩
  case round =>
    obtain ⟨k, hk, rfl, hno⟩ := hrel
    have HNO := Go.Lib.hid hno
    clear hno
    by_cases h4 : k < s.size
    · have q1 : (k : Int) < s.size := by omega
      have q0 : (0 : Int) ≤ k := by omega
      have hdp := drop_at h4
      have HD := Go.Lib.hid hdp
      have htk : s.data.toList = s.data.toList.take k ++ s.data.toList.drop k := (List.take_append_drop k _).symm
      have HTK := Go.Lib.hid htk
      clear hdp htk
      by_cases c : (s[k]'h4).toNat = 58
      · have hcut : cutC s.data.toList = some (s.data.toList.take k, s.data.toList.drop (k + 1)) := by
          have e1 : s[k]'h4 = 58 := u8ext c
          have e2 := cut_none HNO.out (s.data.toList.drop (k + 1))
          rw [← e1, ← HD.out, ← HTK.out] at e2
          exact e2
        have hQ : Q = if (may (s.data.toList.take k) && may (s.data.toList.drop (k + 1))) = true then (s.data.toList.take k, s.data.toList.drop (k + 1), true) else ([], [], false) := by
          rw [← HP.out]; unfold parts; rw [hcut]
        obtain ⟨j, hj⟩ : ∃ j : Nat, j = k + 1 := ⟨_, rfl⟩
        rw [← hj] at hQ
        have hz : (k : Int) + 1 = j := by omega
        have n2 : (0 : Int) ≤ j := by omega
        have n3 : (j : Int) ≤ s.size := by omega
        have n4 : (k : Int) ≤ s.size := by omega
        have l1 : (s.extract 0 k).size ≤ 9223372036854775807 := by rw [size_list, ba_take, List.length_take]; omega
        have l2 : (s.extract j s.size).size ≤ 9223372036854775807 := by rw [size_list, ba_drop, List.length_drop, ← HS.out]; omega
        have ma := fun w => refMay_any (s.extract 0 k) w l1
        have mb := fun w => refMay_any (s.extract j s.size) w l2
        rw [ba_take] at ma
        rw [ba_drop] at mb
        generalize may (s.data.toList.take k) = X at *
        generalize may (s.data.toList.drop j) = Y at *
        have MA := Go.Lib.hid ma
        have MB := Go.Lib.hid mb
        have hcz : ((s[k]'h4).toNat : Int) = 58 := by omega
        have HQ := Go.Lib.hid hQ
        clear ma mb hcut hQ l1 l2 hj
        cases X
        · have hQ0 : Q = ([], [], false) := by rw [HQ.out, Bool.false_and, if_neg (by decide)]
          subst hQ0
          cases Y
          all_goals
            go_wp2_with fail
            refine (MA.out _).mono ?_
            rintro e w2 ⟨rfl, b2⟩
            go_wp2_with fail
            refine (MB.out _).mono ?_
            rintro e w3 ⟨rfl, b4⟩
            have b5 := below_chain b2 b4
            go_wp2_with fail
            go_ret3
            exact ⟨rfl, b5⟩
        · cases Y
          · have hQ0 : Q = ([], [], false) := by rw [HQ.out, Bool.and_false, if_neg (by decide)]
            subst hQ0
            go_wp2_with fail
            refine (MA.out _).mono ?_
            rintro e w2 ⟨rfl, b2⟩
            go_wp2_with fail
            refine (MB.out _).mono ?_
            rintro e w3 ⟨rfl, b4⟩
            have b5 := below_chain b2 b4
            go_wp2_with fail
            go_ret3
            exact ⟨rfl, b5⟩
          · have hQ0 : Q = (s.data.toList.take k, s.data.toList.drop j, true) := by rw [HQ.out, Bool.true_and, if_pos rfl]
            have e1 : (⟨Q.1.toArray⟩ : ByteArray) = s.extract 0 k := ba_ext (by rw [hQ0, ba_take])
            have e2 : (⟨Q.2.1.toArray⟩ : ByteArray) = s.extract j s.size := ba_ext (by rw [hQ0, ba_drop])
            have e3 : Q.2.2 = true := by rw [hQ0]
            have HE := Go.Lib.hid (And.intro e1 (And.intro e2 e3))
            clear hQ0 e1 e2 e3
            go_wp2_with fail
            refine (MA.out _).mono ?_
            rintro e w2 ⟨rfl, b2⟩
            go_wp2_with fail
            refine (MB.out _).mono ?_
            rintro e w3 ⟨rfl, b4⟩
            have b5 := below_chain b2 b4
            go_wp2_with fail
            go_region
            go_wp2_with fail
            go_ret3
            rw [HE.out.1, HE.out.2.1, HE.out.2.2]
            exact ⟨rfl, bel_drew b5⟩
      · have hcz : ¬ ((s[k]'h4).toNat : Int) = 58 := by omega
        have hcb : (((s[k]'h4).toNat : Int) == 58) = false := beq_eq_false_iff_ne.2 hcz
        have HC := Go.Lib.hid c
        clear c
        go_wp2_with fail
        go_round
        case rel =>
          refine ⟨k + 1, by omega, by simp, ?_⟩
          intro x hx
          rw [List.take_add_one, List.mem_append] at hx
          rcases hx with hx | hx
          · exact HNO.out x hx
          · have h5 : s.data.toList[k]? = some (s[k]'h4) := by
              have h6 := congrArg (fun l => l[0]?) HD.out
              simp at h6
              rw [Array.getElem?_toList]
              exact h6
            rw [h5] at hx
            simp at hx
            subst hx
            exact HC.out
        case measure =>
          simp [intOf]
          omega
    · have q1 : ¬ (k : Int) < s.size := by omega
      have hQ0 : Q = ([], [], false) := by
        rw [← HP.out]
        have hh := HNO.out
        rw [List.take_of_length_le (by rw [← HS.out]; omega)] at hh
        unfold parts
        rw [cut_all hh]
      subst hQ0
      go_wp2_with fail
      go_ret3
      exact ⟨rfl, Below.refl _ _⟩

end Go.Proofs.YtiplfhmimpkplaaGreat.NameWalk

/-
  Contracts of the document's answers of layer 4: Texts, Rise, Put, tags.
-/
namespace Go.Proofs.YtiplfhmimpkplaaGreat.EvWalk
open Go.RowKit Go.Proofs.YtiplfhmimpkplaaGreat.MemRow Go.Proofs.YtiplfhmimpkplaaGreat.Ev Go.Proofs.YtiplfhmimpkplaaGreat.NameMath Go.Proofs.YtiplfhmimpkplaaGreat.NameWalk

/-- Go's '<' on texts. -/
def less (a b : ByteArray) : Bool := Op.bytesLess a.toList b.toList

def riseB : List ByteArray → Bool
  | [] => true
  | [_] => true
  | a :: b :: l => less a b && riseB (b :: l)

/-- One more, at its place. -/
def putL : List ByteArray → ByteArray → List ByteArray
  | [], s => [s]
  | a :: l, s => if less a s = true then a :: putL l s else if a = s then a :: l else s :: a :: l

theorem toList_ne {a b : ByteArray} (h : a ≠ b) : ¬ a.toList = b.toList := by
  intro e
  rw [ByteArray.toList_eq, ByteArray.toList_eq] at e
  exact h (ba_ext e)

theorem str_ne {a b : ByteArray} (h : a ≠ b) : (a.toList == b.toList) = false := by
  rw [beq_eq_false_iff_ne]
  exact toList_ne h

theorem take_get (l : List ByteArray) (j : Nat) (h : j < l.length) : l.take (j + 1) = l.take j ++ [l.getD j ByteArray.empty] := by
  rw [List.take_succ_eq_append_getElem h]
  simp [List.getD, List.getElem?_eq_getElem h]

set_option maxHeartbeats 4000000 in
set_option maxRecDepth 100000 in
theorem refTexts_any (A B : Option Addr) (n m ca cb : Nat) (ss tt : List ByteArray) (w : World) (ha : RdS w A n ca ss) (hb : RdS w B m cb tt) :
    Calls Tryz.prog 38 #[.slice A n ca, .slice B m cb] w fun e w' => e = .returned (.bool (decide (ss = tt))) ∧ ∃ k, w' = w.drewN k := by
  have hn := RdC.le ha
  have hm := RdC.le hb
  unfold maxLen at hn hm
  have la := ha.len
  have lb := hb.len
  by_cases hnm : n = m
  · subst hnm
    generalize hR : decide (ss = tt) = R
    have HR := Go.Lib.hid hR
    have LA := Go.Lib.hid la
    have LB := Go.Lib.hid lb
    clear hR la lb
    go_enter Tryz.func38, Tryz.ntmps38
    go_wp2_with fail
    go_loopw [5] (fun i wr => ∃ j : Nat, j ≤ n ∧ i = .int .i64 j ∧ ss.take j = tt.take j ∧ ∃ q, wr = w.drewN q) (fun i _ => n - (intOf i).toNat)
    case atStart => exact ⟨0, Nat.zero_le _, rfl, rfl, 0, rfl⟩
    case round =>
      obtain ⟨j, hj, rfl, hq, q, hw⟩ := hrel
      have HQ := Go.Lib.hid hq
      clear hq
      have ha' : RdS wr A n ca ss := by rw [hw]; exact ha
      have hb' : RdS wr B n cb tt := by rw [hw]; exact hb
      have HW := Go.Lib.hid hw
      clear hw
      by_cases hlt : j < n
      · obtain ⟨ba, oa, rfl, _, ka⟩ := ha'.at_ (by omega)
        obtain ⟨bb, ob, rfl, _, kb⟩ := hb'.at_ (by omega)
        have ka1 := ka j hlt
        have kb1 := kb j hlt
        have i1 : (j : Int) < n := by omega
        have ta := take_get ss j (by rw [LA.out]; exact hlt)
        have tb := take_get tt j (by rw [LB.out]; exact hlt)
        have TA := Go.Lib.hid ta
        have TB := Go.Lib.hid tb
        clear ka kb ta tb ha' hb'
        generalize hx : ss.getD j ByteArray.empty = x at *
        generalize hy : tt.getD j ByteArray.empty = y at *
        have HX := Go.Lib.hid hx
        have HY := Go.Lib.hid hy
        clear hx hy
        by_cases hxy : x = y
        · subst hxy
          go_wp2_with fail
          go_quiet (fail)
          go_wp2_with fail
          go_roundw
          case rel => exact ⟨j + 1, by omega, by go_num, by rw [TA.out, TB.out, HQ.out], q + nq, by rw [HW.out, World.drewN_drewN]⟩
          case measure => simp [intOf]; omega
        · have hne := str_ne hxy
          have hR : R = false := by
            rw [← HR.out]
            refine decide_eq_false fun h => hxy ?_
            rw [← HX.out, ← HY.out, h]
          subst hR
          go_wp2_with fail
          go_quiet (fail)
          go_wp2_with fail
          go_ret
          exact ⟨rfl, q + nq, by rw [HW.out, World.drewN_drewN]⟩
      · obtain rfl : n = j := by omega
        have hR : R = true := by
          rw [← HR.out]
          refine decide_eq_true ?_
          have h1 := HQ.out
          rwa [List.take_of_length_le (by rw [LA.out]; exact Nat.le_refl _), List.take_of_length_le (by rw [LB.out]; exact Nat.le_refl _)] at h1
        subst hR
        go_wp2_with fail
        go_ret
        exact ⟨rfl, q, HW.out⟩
  · have hR : decide (ss = tt) = false := decide_eq_false fun h => hnm (by rw [← la, ← lb, h])
    rw [hR]
    have i1 : ((n : Int) != (m : Int)) = true := by rw [bne_iff_ne]; omega
    clear la lb hR
    go_enter Tryz.func38, Tryz.ntmps38
    go_wp2_with fail
    go_ret
    exact ⟨rfl, 0, rfl⟩

theorem rise_snoc (l : List ByteArray) (a b : ByteArray) : riseB (l ++ [a, b]) = (riseB (l ++ [a]) && less a b) := by
  induction l with
  | nil => simp [riseB]
  | cons x l ih =>
    cases l with
    | nil => simp [riseB]
    | cons y l =>
      simp only [List.cons_append, riseB] at ih ⊢
      rw [ih, Bool.and_assoc]
theorem rise_prefix : ∀ (l m : List ByteArray), riseB (l ++ m) = true → riseB l = true
  | [], _, _ => rfl
  | [_], _, _ => rfl
  | x :: y :: l, m, h => by
    simp only [List.cons_append, riseB, Bool.and_eq_true] at h ⊢
    exact ⟨h.1, rise_prefix (y :: l) m h.2⟩

theorem take_two (l : List ByteArray) (k : Nat) (h : k + 1 < l.length) : l.take (k + 2) = l.take k ++ [l.getD k ByteArray.empty, l.getD (k + 1) ByteArray.empty] := by
  rw [take_get l (k + 1) h, take_get l k (by omega)]
  simp

set_option maxHeartbeats 4000000 in
set_option maxRecDepth 100000 in
theorem refRise_any (A : Option Addr) (n ca : Nat) (ss : List ByteArray) (w : World) (ha : RdS w A n ca ss) :
    Calls Tryz.prog 61 #[.slice A n ca] w fun e w' => e = .returned (.bool (riseB ss)) ∧ ∃ k, w' = w.drewN k := by
  have hn := RdC.le ha
  unfold maxLen at hn
  have la := ha.len
  generalize hR : riseB ss = R
  have HR := Go.Lib.hid hR
  have LA := Go.Lib.hid la
  clear hR la
  go_enter Tryz.func61, Tryz.ntmps61
  go_wp2_with fail
  go_loopw [3] (fun i wr => ∃ j : Nat, j + 1 ≤ max n 1 ∧ i = .int .i64 ((j + 1 : Nat) : Int) ∧ riseB (ss.take (j + 1)) = true ∧ ∃ q, wr = w.drewN q) (fun i _ => n - (intOf i).toNat)
  case atStart =>
    refine ⟨0, by omega, rfl, ?_, 0, rfl⟩
    cases ss with
    | nil => rfl
    | cons a l => simp [riseB]
  case round =>
    obtain ⟨j, hj, rfl, hq, q, hw⟩ := hrel
    have HQ := Go.Lib.hid hq
    clear hq
    have ha' : RdS wr A n ca ss := by rw [hw]; exact ha
    have HW := Go.Lib.hid hw
    clear hw
    by_cases hlt : j + 1 < n
    · obtain ⟨ba, oa, rfl, _, ka⟩ := ha'.at_ (by omega)
      have ka1 := ka j (by omega)
      have ka2 := ka (j + 1) hlt
      have i1 : (j : Int) + 1 < n := by omega
      have i2 : (j : Int) < n := by omega
      have e1 : ((j + 1 : Nat) : Int) = (j : Int) + 1 := by omega
      have ta := take_two ss j (by rw [LA.out]; exact hlt)
      have tb := take_get ss j (by rw [LA.out]; omega)
      have TA := Go.Lib.hid ta
      have TB := Go.Lib.hid tb
      clear ka ta tb ha'
      generalize hx : ss.getD j ByteArray.empty = x at *
      generalize hy : ss.getD (j + 1) ByteArray.empty = y at *
      clear hx hy
      have ts := rise_snoc (ss.take j) x y
      have TS := Go.Lib.hid ts
      clear ts
      by_cases hl : less x y = true
      · have hb : Op.bytesLess x.toList y.toList = true := hl
        go_wp2_with fail
        go_quiet (fail)
        go_wp2_with fail
        go_roundw
        case rel => exact ⟨j + 1, by omega, by go_num, by rw [TA.out, TS.out, ← TB.out, HQ.out, hl]; rfl, q + nq, by rw [HW.out, World.drewN_drewN]⟩
        case measure => simp [intOf]; omega
      · have hb : Op.bytesLess x.toList y.toList = false := by simpa [less] using hl
        have hR : R = false := by
          rw [← HR.out]
          cases h : riseB ss with
          | false => rfl
          | true =>
            exfalso
            rw [← List.take_append_drop (j + 2) ss] at h
            have h2 := rise_prefix _ _ h
            rw [TA.out, TS.out, Bool.and_eq_true] at h2
            exact hl h2.2
        subst hR
        go_wp2_with fail
        go_quiet (fail)
        go_wp2_with fail
        go_ret
        exact ⟨rfl, q + nq, by rw [HW.out, World.drewN_drewN]⟩
    · have hR : R = true := by
        rw [← HR.out]
        have h1 := HQ.out
        rwa [List.take_of_length_le (by rw [LA.out]; omega)] at h1
      subst hR
      have i1 : ¬ (j : Int) + 1 < n := by omega
      have e1 : ((j + 1 : Nat) : Int) = (j : Int) + 1 := by omega
      go_wp2_with fail
      go_ret
      exact ⟨rfl, q, HW.out⟩

end Go.Proofs.YtiplfhmimpkplaaGreat.EvWalk

/-
  Contracts of the document's answers of layer 4: tags, Put.
-/
namespace Go.Proofs.YtiplfhmimpkplaaGreat.EvWalk
open Go.RowKit Go.Proofs.YtiplfhmimpkplaaGreat.MemRow Go.Proofs.YtiplfhmimpkplaaGreat.Ev Go.Proofs.YtiplfhmimpkplaaGreat.NameMath Go.Proofs.YtiplfhmimpkplaaGreat.NameWalk

/-- It is a tag. -/
def tagB (s : ByteArray) : Bool := (parts s.data.toList).2.2

theorem all_take {p : ByteArray → Bool} (l : List ByteArray) (h : l.all p = true) (j : Nat) (hj : j < l.length) : p (l.getD j ByteArray.empty) = true := by
  rw [List.all_eq_true] at h
  simp only [List.getD, List.getElem?_eq_getElem hj, Option.getD_some]
  exact h _ (List.getElem_mem hj)

theorem mem_getD (l : List ByteArray) (j : Nat) (hj : j < l.length) : l.getD j ByteArray.empty ∈ l := by
  simp only [List.getD, List.getElem?_eq_getElem hj, Option.getD_some]
  exact List.getElem_mem hj

set_option maxHeartbeats 4000000 in
set_option maxRecDepth 100000 in
theorem refTags_any (A : Option Addr) (n ca : Nat) (ss : List ByteArray) (w : World) (ha : RdS w A n ca ss) (hz : ∀ x ∈ ss, x.size ≤ maxLen) :
    Calls Tryz.prog 60 #[.slice A n ca] w fun e w' => e = .returned (.bool (ss.all tagB)) ∧ Below w.heap.size w w' := by
  have hn := RdC.le ha
  unfold maxLen at hn hz
  have la := ha.len
  generalize hR : ss.all tagB = R
  have HR := Go.Lib.hid hR
  have LA := Go.Lib.hid la
  have HZ := Go.Lib.hid hz
  clear hR la hz
  go_enter Tryz.func60, Tryz.ntmps60
  go_wp2_with fail
  go_loopw [3] (fun i wr => ∃ j : Nat, j ≤ n ∧ i = .int .i64 j ∧ (ss.take j).all tagB = true ∧ Below w.heap.size w wr) (fun i _ => n - (intOf i).toNat)
  case atStart => exact ⟨0, Nat.zero_le _, rfl, rfl, Below.refl _ _⟩
  case round =>
    obtain ⟨j, hj, rfl, hq, B⟩ := hrel
    have HQ := Go.Lib.hid hq
    clear hq
    have ha' := RdC.below ha B
    by_cases hlt : j < n
    · obtain ⟨ba, oa, rfl, _, ka⟩ := RdS.at_ ha' (by omega)
      have ka1 := ka j hlt
      have i1 : (j : Int) < n := by omega
      have ta := take_get ss j (by rw [LA.out]; exact hlt)
      have hsz := HZ.out _ (mem_getD ss j (by rw [LA.out]; exact hlt))
      have hall := fun h => all_take (p := tagB) ss h j (by rw [LA.out]; exact hlt)
      have TA := Go.Lib.hid ta
      have HL := Go.Lib.hid hall
      clear ka ta ha' hall
      generalize hx : ss.getD j ByteArray.empty = x at *
      clear hx
      have hp := fun w => refParts_any x w (by omega)
      cases ht : tagB x
      · have hR : R = false := by
          rw [← HR.out]
          cases h : ss.all tagB with
          | false => rfl
          | true => rw [HL.out h] at ht; cases ht
        subst hR
        unfold tagB at ht
        generalize parts x.data.toList = P at *
        obtain ⟨p1, p2, p3⟩ := P
        simp only at ht
        subst ht
        have HP := Go.Lib.hid hp
        clear hp
        go_wp2_with fail
        refine (HP.out _).mono ?_
        rintro e w2 ⟨rfl, b2⟩
        have B2 := below_chain B b2
        go_wp2_with fail
        go_ret
        exact ⟨rfl, B2⟩
      · have ht' := ht
        unfold tagB at ht
        generalize parts x.data.toList = P at *
        obtain ⟨p1, p2, p3⟩ := P
        simp only at ht
        subst ht
        have HP := Go.Lib.hid hp
        have HT := Go.Lib.hid ht'
        clear hp ht'
        go_wp2_with fail
        refine (HP.out _).mono ?_
        rintro e w2 ⟨rfl, b2⟩
        have B2 := below_chain B b2
        go_wp2_with fail
        go_roundw
        case rel => exact ⟨j + 1, by omega, by go_num, by rw [TA.out, List.all_append, HQ.out]; simp [HT.out], B2⟩
        case measure => simp [intOf]; omega
    · obtain rfl : n = j := by omega
      have hR : R = true := by
        rw [← HR.out]
        have h1 := HQ.out
        rwa [List.take_of_length_le (by rw [LA.out]; exact Nat.le_refl _)] at h1
      subst hR
      go_wp2_with fail
      go_ret
      exact ⟨rfl, B⟩

theorem put_at : ∀ (l : List ByteArray) (s : ByteArray) (j : Nat), j ≤ l.length → (∀ i, i < j → less (l.getD i ByteArray.empty) s = true) →
    (j < l.length → less (l.getD j ByteArray.empty) s = false) → putL l s = if j < l.length ∧ l.getD j ByteArray.empty = s then l else l.take j ++ s :: l.drop j
  | [], s, j, hj, _, _ => by
    have : j = 0 := by simpa using hj
    subst this
    rw [if_neg (by simp)]
    rfl
  | a :: l, s, 0, _, _, h2 => by
    have h := h2 (by simp)
    simp only [List.getD_cons_zero] at h
    rw [putL, h, if_neg (by decide)]
    by_cases e : a = s
    · rw [if_pos e, if_pos (by simp [e])]
    · rw [if_neg e, if_neg (by simp [e])]
      rfl
  | a :: l, s, j + 1, hj, h1, h2 => by
    have h := h1 0 (by omega)
    simp only [List.getD_cons_zero] at h
    have ih := put_at l s j (by simpa using hj) (fun i hi => by simpa using h1 (i + 1) (by omega)) (fun hl => by simpa using h2 (by simpa using hl))
    rw [putL, if_pos h, ih]
    by_cases e : j < l.length ∧ l.getD j ByteArray.empty = s
    · rw [if_pos e, if_pos (by simpa using e)]
    · rw [if_neg e, if_neg (by simpa using e)]
      simp

theorem string_info : (Tryz.prog.info? 9).map (fun i => (i.zero, i.size, i.bytes)) = some (some (.string ByteArray.empty), 1, 16) := by kernel_rfl
theorem string_size : (Tryz.prog.info? 9).map (·.size) = some 1 := by kernel_rfl
theorem elem_strs : Tryz.prog.elem 39 = 9 := by kernel_rfl

/-- A slice that reads as texts. -/
def SomeS (w : World) (A0 : Option Addr) (ss : List ByteArray) (e : Ending) (w' : World) : Prop := ∃ A n ca, e = .returned (.slice A n ca) ∧ RdS w' A n ca ss ∧ Below w.heap.size w w' ∧ (A = A0 ∨ ∀ a, A = some a → w.heap.size ≤ a.block)


end Go.Proofs.YtiplfhmimpkplaaGreat.EvWalk

/-
  Contracts of the document's answers of layer 4: Has, Value, Same.
-/
namespace Go.Proofs.YtiplfhmimpkplaaGreat.EvWalk
open Go.RowKit Go.Proofs.YtiplfhmimpkplaaGreat.MemRow Go.Proofs.YtiplfhmimpkplaaGreat.Ev Go.Proofs.YtiplfhmimpkplaaGreat.NameMath Go.Proofs.YtiplfhmimpkplaaGreat.NameWalk

/-- A block of the call's own that holds an event's four cells. -/
def EvAt (w : World) (g : Nat) (v0 v1 v2 v3 : Value) : Prop := w.heap[g]? = some (.cells #[v0, v1, v2, v3] 42 (0, 0))
theorem EvAt.new (w : World) (v0 v1 v2 v3 : Value) : EvAt (w.alloc (.cells #[v0, v1, v2, v3] 42)) w.heap.size v0 v1 v2 v3 := heap_alloc_new w _
theorem EvAt.lt {w : World} {g : Nat} {v0 v1 v2 v3 : Value} (h : EvAt w g v0 v1 v2 v3) : g < w.heap.size := (Array.getElem?_eq_some_iff.1 h).1
theorem EvAt.below {w w' : World} {g : Nat} {v0 v1 v2 v3 : Value} (h : EvAt w g v0 v1 v2 v3) {B : Nat} (hb : Below B w w') (hg : g < B) : EvAt w' g v0 v1 v2 v3 := (hb.block g hg).trans h
theorem EvAt.drewN {w : World} {g : Nat} {v0 v1 v2 v3 : Value} (h : EvAt w g v0 v1 v2 v3) (n : Nat) : EvAt (w.drewN n) g v0 v1 v2 v3 := h
theorem EvAt.c0 {w : World} {g : Nat} {v0 v1 v2 v3 : Value} (h : EvAt w g v0 v1 v2 v3) : w.cell? ⟨g, 0, none⟩ = some v0 := by rw [cell_of_row w g 0 _ _ _ h]; rfl
theorem EvAt.c1 {w : World} {g : Nat} {v0 v1 v2 v3 : Value} (h : EvAt w g v0 v1 v2 v3) : w.cell? ⟨g, 1, none⟩ = some v1 := by rw [cell_of_row w g 1 _ _ _ h]; rfl
theorem EvAt.c2 {w : World} {g : Nat} {v0 v1 v2 v3 : Value} (h : EvAt w g v0 v1 v2 v3) : w.cell? ⟨g, 2, none⟩ = some v2 := by rw [cell_of_row w g 2 _ _ _ h]; rfl
theorem EvAt.c3 {w : World} {g : Nat} {v0 v1 v2 v3 : Value} (h : EvAt w g v0 v1 v2 v3) : w.cell? ⟨g, 3, none⟩ = some v3 := by rw [cell_of_row w g 3 _ _ _ h]; rfl

def hasB (ss : List ByteArray) (x : ByteArray) : Bool := ss.any fun y => decide (y = x)
theorem hasB_mem {ss : List ByteArray} {x : ByteArray} : hasB ss x = true ↔ x ∈ ss := by
  unfold hasB
  rw [List.any_eq_true]
  constructor
  · rintro ⟨y, h, e⟩
    rwa [of_decide_eq_true e] at h
  · intro h
    exact ⟨x, h, decide_eq_true rfl⟩
/-- The number of the first field with a name. -/
def valueF : List (ByteArray × Int) → ByteArray → Int × Bool
  | [], _ => (0, false)
  | f :: fs, x => if f.1 = x then (f.2, true) else valueF fs x

theorem drop_get (l : List (ByteArray × Int)) (j : Nat) (h : j < l.length) : l.drop j = l.getD j (ByteArray.empty, 0) :: l.drop (j + 1) := by
  rw [List.drop_eq_getElem_cons h]
  simp [List.getD, List.getElem?_eq_getElem h]

set_option maxHeartbeats 4000000 in
set_option maxRecDepth 100000 in
theorem refHas_any (v : Value) (ev : Ev) (x : ByteArray) (w : World) (hv : IsEv w v ev) :
    Calls Tryz.prog 91 #[v, .string x] w fun e w' => e = .returned (.bool (hasB ev.tags x)) ∧ Below w.heap.size w w' := by
  obtain ⟨A, n, ca, B, m, cb, rfl, ha, _⟩ := hv
  have hn := RdC.le ha
  unfold maxLen at hn
  have la := ha.len
  generalize hR : hasB ev.tags x = R
  have HR := Go.Lib.hid hR
  have LA := Go.Lib.hid la
  clear hR la
  have e0 := EvAt.new w (.string ev.s) (.string ev.t) (.slice A n ca) (.slice B m cb)
  have b0 : Below w.heap.size w (w.alloc (.cells #[.string ev.s, .string ev.t, .slice A n ca, .slice B m cb] 42)) := (Below.refl _ _).alloc (Nat.le_refl _) _
  have a0 := RdC.below ha b0
  have k2 := e0.c2
  clear e0
  go_enter Tryz.func91, Tryz.ntmps91
  go_wp2_with fail
  generalize hW : w.alloc (.cells #[.string ev.s, .string ev.t, .slice A n ca, .slice B m cb] 42) = w0 at *
  clear hW ha
  go_loop [5] (fun i => ∃ j : Nat, j ≤ n ∧ i = .int .i64 j ∧ hasB (ev.tags.take j) x = false) (fun i => n - (intOf i).toNat)
  case atStart => exact ⟨0, Nat.zero_le _, rfl, rfl⟩
  case round =>
    obtain ⟨j, hj, rfl, hq⟩ := hrel
    have HQ := Go.Lib.hid hq
    clear hq
    by_cases hlt : j < n
    · obtain ⟨ba, oa, rfl, _, ka⟩ := RdS.at_ a0 (by omega)
      have ka1 := ka j hlt
      have i1 : (j : Int) < n := by omega
      have ta := take_get ev.tags j (by rw [LA.out]; exact hlt)
      have hmem := mem_getD ev.tags j (by rw [LA.out]; exact hlt)
      have TA := Go.Lib.hid ta
      have HM := Go.Lib.hid hmem
      clear ka ta hmem
      generalize hy : ev.tags.getD j ByteArray.empty = y at *
      clear hy
      by_cases hxy : y = x
      · subst hxy
        have hR : R = true := by rw [← HR.out]; exact hasB_mem.2 HM.out
        subst hR
        go_wp2_with fail
        go_ret
        exact ⟨rfl, b0⟩
      · have hne := str_ne hxy
        go_wp2_with fail
        go_round
        case rel =>
          refine ⟨j + 1, by omega, by go_num, ?_⟩
          have h1 := HQ.out
          unfold hasB at h1 ⊢
          rw [TA.out, List.any_append, h1]
          simp [hxy]
        case measure => simp [intOf]; omega
    · obtain rfl : n = j := by omega
      have hR : R = false := by
        rw [← HR.out]
        have h1 := HQ.out
        rwa [List.take_of_length_le (by rw [LA.out]; exact Nat.le_refl _)] at h1
      subst hR
      go_wp2_with fail
      go_ret
      exact ⟨rfl, b0⟩


/-- Two events are the same. -/
def sameB (a b : Ev) : Bool := decide (a.s = b.s) && (decide (a.t = b.t) && (decide (a.tags = b.tags) && decide (a.fs = b.fs)))

theorem flds_step (fs gs : List (ByteArray × Int)) (j : Nat) (h1 : j < fs.length) (h2 : j < gs.length) (h : fs.take j = gs.take j) (he : fs.getD j (ByteArray.empty, 0) = gs.getD j (ByteArray.empty, 0)) : fs.take (j + 1) = gs.take (j + 1) := by
  rw [List.take_succ_eq_append_getElem h1, List.take_succ_eq_append_getElem h2, h]
  simp only [List.getD, List.getElem?_eq_getElem h1, List.getElem?_eq_getElem h2, Option.getD_some] at he
  rw [he]

theorem sameB_no {a b : Ev} (h : a.s ≠ b.s ∨ a.t ≠ b.t ∨ a.tags ≠ b.tags ∨ a.fs ≠ b.fs) : sameB a b = false := by
  unfold sameB
  rcases h with h | h | h | h
  · rw [decide_eq_false h]; rfl
  · rw [decide_eq_false h, Bool.false_and, Bool.and_false]
  · rw [decide_eq_false h, Bool.false_and, Bool.and_false, Bool.and_false]
  · rw [decide_eq_false h, Bool.and_false, Bool.and_false, Bool.and_false]
theorem sameB_refl (a : Ev) : sameB a a = true := by simp [sameB]

set_option maxHeartbeats 8000000 in
set_option maxRecDepth 100000 in
theorem refSame_any (v u : Value) (ev eu : Ev) (w : World) (hv : IsEv w v ev) (hu : IsEv w u eu) :
    Calls Tryz.prog 21 #[v, u] w fun e w' => e = .returned (.bool (sameB ev eu)) ∧ Below w.heap.size w w' := by
  obtain ⟨A, n, ca, B, m, cb, rfl, ha, hb⟩ := hv
  obtain ⟨C, p, cc, D, q, cd, rfl, hc, hd⟩ := hu
  obtain ⟨s1, t1, g1, f1⟩ := ev
  obtain ⟨s2, t2, g2, f2⟩ := eu
  simp only at ha hb hc hd
  have hn := RdC.le ha
  have hm := RdC.le hb
  have hp := RdC.le hc
  have hq := RdC.le hd
  unfold maxLen at hn hm hp hq
  have lb := hb.len
  have ld := hd.len
  generalize hR : sameB ⟨s1, t1, g1, f1⟩ ⟨s2, t2, g2, f2⟩ = R
  have HR := Go.Lib.hid hR
  have LB := Go.Lib.hid lb
  have LD := Go.Lib.hid ld
  clear hR lb ld
  have b1 : Below w.heap.size w ((w.alloc (.cells #[.string s1, .string t1, .slice A n ca, .slice B m cb] 42)).alloc (.cells #[.string s2, .string t2, .slice C p cc, .slice D q cd] 42)) := ((Below.refl _ _).alloc (Nat.le_refl _) _).alloc (by simp) _
  have E0 : EvAt ((w.alloc (.cells #[.string s1, .string t1, .slice A n ca, .slice B m cb] 42)).alloc (.cells #[.string s2, .string t2, .slice C p cc, .slice D q cd] 42)) w.heap.size (.string s1) (.string t1) (.slice A n ca) (.slice B m cb) := (EvAt.new w _ _ _ _).below ((Below.refl _ _).alloc (Nat.le_refl _) _) (by simp)
  have E1 : EvAt ((w.alloc (.cells #[.string s1, .string t1, .slice A n ca, .slice B m cb] 42)).alloc (.cells #[.string s2, .string t2, .slice C p cc, .slice D q cd] 42)) (w.heap.size + 1) (.string s2) (.string t2) (.slice C p cc) (.slice D q cd) := by
    have := EvAt.new (w.alloc (.cells #[.string s1, .string t1, .slice A n ca, .slice B m cb] 42)) (.string s2) (.string t2) (.slice C p cc) (.slice D q cd)
    simpa using this
  have a1 := RdC.below ha b1
  have c1 := RdC.below hc b1
  have r1 := RdC.below hb b1
  have r2 := RdC.below hd b1
  go_enter Tryz.func21, Tryz.ntmps21
  go_wp2_with fail
  generalize (w.alloc (.cells #[.string s1, .string t1, .slice A n ca, .slice B m cb] 42)).alloc (.cells #[.string s2, .string t2, .slice C p cc, .slice D q cd] 42) = w1 at *
  clear ha hb hc hd
  refine (refTexts_any _ _ _ _ _ _ g1 g2 _ a1 c1).mono ?_
  rintro e w2 ⟨rfl, k, rfl⟩
  have B2 := bel_drewN b1 k
  have F0 := E0.drewN k
  have F1 := E1.drewN k
  have r3 := RdC.drewN r1 k
  have r4 := RdC.drewN r2 k
  clear b1 E0 E1 r1 r2 a1 c1
  generalize w1.drewN k = w3 at *
  have k0 := F0.c0
  have k1 := F0.c1
  have k3 := F0.c3
  have j0 := F1.c0
  have j1 := F1.c1
  have j3 := F1.c3
  clear F0 F1
  by_cases h1 : s1 = s2
  · subst h1
    by_cases h2 : t1 = t2
    · subst h2
      by_cases h3 : g1 = g2
      · subst h3
        have hT : decide (g1 = g1) = true := decide_eq_true rfl
        rw [hT]
        clear hT
        by_cases h4 : m = q
        · subst h4
          go_wp2_with fail
          go_loopw [6] (fun i wr => ∃ j : Nat, j ≤ m ∧ i = .int .i64 j ∧ f1.take j = f2.take j ∧ ∃ q, wr = w3.drewN q) (fun i _ => m - (intOf i).toNat)
          case atStart => exact ⟨0, Nat.zero_le _, rfl, rfl, 0, rfl⟩
          case round =>
            obtain ⟨j, hj, rfl, hq1, q', hw⟩ := hrel
            have HQ := Go.Lib.hid hq1
            clear hq1
            have r5 : RdF wr B m cb f1 := by rw [hw]; exact r3
            have r6 : RdF wr D m cd f2 := by rw [hw]; exact r4
            have k4 : wr.cell? ⟨w.heap.size, 3, none⟩ = some (.slice B m cb) := by rw [hw]; exact k3
            have j4 : wr.cell? ⟨w.heap.size + 1, 3, none⟩ = some (.slice D m cd) := by rw [hw]; exact j3
            have B5 : Below w.heap.size w wr := by rw [hw]; exact bel_drewN B2 q'
            have HW := Go.Lib.hid hw
            clear hw
            by_cases hlt : j < m
            · obtain ⟨ba, oa, rfl, _, ka⟩ := r5.at_ (by omega)
              obtain ⟨bb, ob, rfl, _, kb⟩ := r6.at_ (by omega)
              obtain ⟨x1, x2⟩ := ka j hlt
              obtain ⟨y1, y2⟩ := kb j hlt
              have i1 : (j : Int) < m := by omega
              have hs := flds_step f1 f2 j (by rw [LB.out]; exact hlt) (by rw [LD.out]; exact hlt) HQ.out
              have HS := Go.Lib.hid hs
              clear ka kb hs r5 r6
              generalize hx : f1.getD j (ByteArray.empty, 0) = x at *
              generalize hy : f2.getD j (ByteArray.empty, 0) = y at *
              have HX := Go.Lib.hid hx
              have HY := Go.Lib.hid hy
              clear hx hy
              by_cases hxy : x = y
              · subst hxy
                obtain ⟨xn, xz⟩ := x
                simp only at x1 x2 y1 y2
                go_wp2_with fail
                go_quiet (fail)
                go_wp2_with fail
                go_roundw
                case rel => exact ⟨j + 1, by omega, by go_num, HS.out trivial, q' + nq, by rw [HW.out, World.drewN_drewN]⟩
                case measure => simp [intOf]; omega
              · have hR : R = false := by
                  rw [← HR.out]
                  refine sameB_no (.inr (.inr (.inr fun h => hxy ?_)))
                  simp only at h
                  rw [← HX.out, ← HY.out, h]
                subst hR
                obtain ⟨xn, xz⟩ := x
                obtain ⟨yn, yz⟩ := y
                simp only at x1 x2 y1 y2
                by_cases hn1 : xn = yn
                · subst hn1
                  have hz1 : xz ≠ yz := fun h => hxy (by rw [h])
                  have hz2 : (xz == yz) = false := by rw [beq_eq_false_iff_ne]; exact hz1
                  clear hz1
                  go_wp2_with fail
                  go_quiet (fail)
                  go_wp2_with fail
                  go_ret
                  exact ⟨rfl, bel_drewN B5 nq⟩
                · have hz2 := str_ne hn1
                  go_wp2_with fail
                  go_quiet (fail)
                  go_wp2_with fail
                  go_ret
                  exact ⟨rfl, bel_drewN B5 nq⟩
            · obtain rfl : m = j := by omega
              have hR : R = true := by
                rw [← HR.out]
                have h1 := HQ.out
                rw [List.take_of_length_le (by rw [LB.out]; exact Nat.le_refl _), List.take_of_length_le (by rw [LD.out]; exact Nat.le_refl _)] at h1
                rw [h1]
                exact sameB_refl _
              subst hR
              go_wp2_with fail
              go_ret
              exact ⟨rfl, B5⟩
        · have i1 : ((m : Int) != (q : Int)) = true := by rw [bne_iff_ne]; omega
          have hR : R = false := by
            rw [← HR.out]
            refine sameB_no (.inr (.inr (.inr fun h => h4 ?_)))
            simp only at h
            rw [← LB.out, ← LD.out, h]
          subst hR
          go_wp2_with fail
          go_ret
          exact ⟨rfl, B2⟩
      · have hT : decide (g1 = g2) = false := decide_eq_false h3
        rw [hT]
        have hR : R = false := by rw [← HR.out]; exact sameB_no (.inr (.inr (.inl h3)))
        subst hR
        clear hT
        go_wp2_with fail
        go_ret
        exact ⟨rfl, B2⟩
    · have hne := str_ne h2
      have hR : R = false := by rw [← HR.out]; exact sameB_no (.inr (.inl h2))
      subst hR
      go_wp2_with fail
      go_ret
      exact ⟨rfl, B2⟩
  · have hne := str_ne h1
    have hR : R = false := by rw [← HR.out]; exact sameB_no (.inl h1)
    subst hR
    go_wp2_with fail
    go_ret
    exact ⟨rfl, B2⟩


end Go.Proofs.YtiplfhmimpkplaaGreat.EvWalk

/-
  Contract of the document's answer of layer 4: May.
-/
namespace Go.Proofs.YtiplfhmimpkplaaGreat.EvWalk
open Go.RowKit Go.Proofs.YtiplfhmimpkplaaGreat.MemRow Go.Proofs.YtiplfhmimpkplaaGreat.Ev Go.Proofs.YtiplfhmimpkplaaGreat.NameMath Go.Proofs.YtiplfhmimpkplaaGreat.NameWalk

/-- It is a name. -/
def nameB (s : ByteArray) : Bool := may s.data.toList
/-- A number that a field may have. -/
def fitB (f : ByteArray × Int) : Bool := decide (-1099511627776 ≤ f.2 ∧ f.2 ≤ 1099511627776)

/-- What is wrong with an event. -/
def mayE (e : Ev) : Int :=
  if (nameB e.s && nameB e.t) = false then 5
  else if 6 < e.tags.length ∨ 4 < e.fs.length then 3
  else if ((e.fs.all fun f => nameB f.1) && e.tags.all tagB) = false then 5
  else if (e.fs.all fitB && (riseB e.tags && riseB (e.fs.map (·.1)))) = false then 1 else 0

theorem refName_told {s : ByteArray} {b : Bool} (hs : s.size ≤ maxLen) (h : nameB s = b) (w : World) :
    Calls Tryz.prog 59 #[.string s] w fun e w' => e = .returned (.bool b) ∧ Below w.heap.size w w' := by
  subst h
  unfold maxLen at hs
  exact refMay_any s w (by omega)

theorem fs_take (fs : List (ByteArray × Int)) (j : Nat) (h : j < fs.length) : fs.take (j + 1) = fs.take j ++ [fs.getD j (ByteArray.empty, 0)] := by
  rw [List.take_succ_eq_append_getElem h]
  simp [List.getD, List.getElem?_eq_getElem h]
theorem fs_mem (fs : List (ByteArray × Int)) (j : Nat) (h : j < fs.length) : fs.getD j (ByteArray.empty, 0) ∈ fs := by
  simp only [List.getD, List.getElem?_eq_getElem h, Option.getD_some]
  exact List.getElem_mem h

/-- What stands at the head of a round of May. -/
structure MayAt (wr w2 : World) (Nm : Option Addr) (j cn : Nat) (fs : List (ByteArray × Int)) : Prop where
  own : OwnC 1 wr w2.heap.size 9 Nm j cn (strs ((fs.take j).map (·.1)))
  bel : Below w2.heap.size w2 wr
  names : (fs.take j).all (fun f => nameB f.1) = true

set_option maxHeartbeats 8000000 in
set_option maxRecDepth 100000 in
theorem refMayE_any (v : Value) (ev : Ev) (w : World) (hv : IsEv w v ev) (hok : EvOk ev) :
    Calls Tryz.prog 37 #[v] w fun e w' => e = .returned (.int .i64 (mayE ev)) ∧ Below w.heap.size w w' := by
  obtain ⟨A, n, ca, B, m, cb, rfl, ha, hb⟩ := hv
  obtain ⟨s, t, ts, fs⟩ := ev
  obtain ⟨ks, kt, ktags, knames, knums⟩ := hok
  simp only at ha hb ks kt ktags knames knums
  have hn := RdC.le ha
  have hm := RdC.le hb
  unfold maxLen at hn hm
  have la := ha.len
  have lb := hb.len
  generalize hR : mayE ⟨s, t, ts, fs⟩ = R
  unfold mayE at hR
  simp only at hR
  rw [la, lb] at hR
  have HR := Go.Lib.hid hR
  have LB := Go.Lib.hid lb
  clear hR la lb
  have KT := Go.Lib.hid ktags
  have KN := Go.Lib.hid knames
  clear ktags knames knums
  have b1 : Below w.heap.size w (w.alloc (.cells #[.string s, .string t, .slice A n ca, .slice B m cb] 42)) := (Below.refl _ _).alloc (Nat.le_refl _) _
  have E1 := EvAt.new w (.string s) (.string t) (.slice A n ca) (.slice B m cb)
  have a1 := RdC.below ha b1
  have r1 := RdC.below hb b1
  have p0 := E1.c0
  go_enter Tryz.func37, Tryz.ntmps37
  go_wp2_with fail
  generalize w.alloc (.cells #[.string s, .string t, .slice A n ca, .slice B m cb] 42) = w1 at *
  clear ha hb
  refine (refName_told (s := s) ks rfl _).mono ?_
  rintro e w2 ⟨rfl, b2⟩
  have E2 := E1.below b2 E1.lt
  have a2 := RdC.below a1 b2
  have r2 := RdC.below r1 b2
  have B2 := below_chain b1 b2
  have p1 := E2.c1
  clear E1 a1 r1 b1 b2 p0
  go_wp2_with fail
  refine (refName_told (s := t) kt rfl _).mono ?_
  rintro e w3 ⟨rfl, b3⟩
  have E3 := E2.below b3 E2.lt
  have a3 := RdC.below a2 b3
  have r3 := RdC.below r2 b3
  have B3 := below_chain B2 b3
  have p2 := E3.c2
  have p3 := E3.c3
  clear E2 a2 r2 B2 b3 p1
  cases hs : nameB s
  · have hR : R = 5 := by rw [← HR.out, hs, Bool.false_and, if_pos rfl]
    subst hR
    go_wp2_with fail
    go_ret
    exact ⟨rfl, B3⟩
  cases ht : nameB t
  · have hR : R = 5 := by rw [← HR.out, ht, Bool.and_false, if_pos rfl]
    subst hR
    go_wp2_with fail
    go_ret
    exact ⟨rfl, B3⟩
  by_cases h6 : 6 < n
  · have hR : R = 3 := by rw [← HR.out, hs, ht, if_neg (by decide), if_pos (.inl h6)]
    subst hR
    have i1 : (6 : Int) < n := by omega
    go_wp2_with fail
    go_ret
    exact ⟨rfl, B3⟩
  by_cases h4 : 4 < m
  · have hR : R = 3 := by rw [← HR.out, hs, ht, if_neg (by decide), if_pos (.inr h4)]
    subst hR
    have i1 : ¬ (6 : Int) < n := by omega
    have i2 : (4 : Int) < m := by omega
    go_wp2_with fail
    go_ret
    exact ⟨rfl, B3⟩
  have hr2 : (if ((fs.all fun f => nameB f.1) && ts.all tagB) = false then 5 else if (fs.all fitB && (riseB ts && riseB (fs.map (·.1)))) = false then 1 else 0 : Int) = R := by
    have := HR.out
    rwa [hs, ht, if_neg (by decide), if_neg (by omega)] at this
  have HR2 := Go.Lib.hid hr2
  clear HR hs ht hr2
  have i1 : ¬ (6 : Int) < n := by omega
  have i2 : ¬ (4 : Int) < m := by omega
  have H4 := Go.Lib.hid h4
  have bx : Below w3.heap.size w3 (w3.alloc (.cells #[] 9)) := (Below.refl _ _).alloc (Nat.le_refl _) _
  go_wp2_with fail
  clear h4
  go_loopw [5, 6, 7] (fun x f i wr => ∃ (j : Nat) (Nm : Option Addr) (cn : Nat), j ≤ m ∧ x = .slice Nm j cn ∧ f = .bool ((fs.take j).all fitB) ∧ i = .int .i64 j ∧ MayAt wr w3 Nm j cn fs) (fun _ _ i _ => m - (intOf i).toNat)
  case atStart => exact ⟨0, _, _, Nat.zero_le _, rfl, rfl, rfl, ⟨OwnC.empty w3 9 (Nat.le_refl _), bx, rfl⟩⟩
  case round =>
    obtain ⟨j, Nm, cn, hj, rfl, rfl, rfl, hst⟩ := hrel
    have E4 := E3.below hst.bel E3.lt
    have k3 := E4.c3
    have r4 : RdF wr B m cb fs := RdC.below r3 hst.bel
    by_cases hlt : j < m
    · obtain ⟨bb, ob, rfl, _, kb⟩ := r4.at_ (by omega)
      obtain ⟨y1, y2⟩ := kb j hlt
      have j1 : (j : Int) < m := by omega
      have hj4 : j + 1 ≤ 4 := by have := H4.out; omega
      have ts1 := fs_take fs j (by rw [LB.out]; exact hlt)
      have mem1 := fs_mem fs j (by rw [LB.out]; exact hlt)
      have sz := KN.out _ mem1
      have TS := Go.Lib.hid ts1
      have MEM := Go.Lib.hid mem1
      clear kb ts1 mem1
      generalize hx : fs.getD j (ByteArray.empty, 0) = x at *
      have HX := Go.Lib.hid hx
      clear hx
      obtain ⟨xn, xz⟩ := x
      simp only at y1 y2 sz
      go_wp2_with fail
      refine (refName_told (s := xn) sz rfl _).mono ?_
      rintro e w5 ⟨rfl, b5⟩
      have r5 := RdC.below r4 b5
      have E5 := E4.below b5 E4.lt
      have k5 := E5.c3
      have o5 := OwnC.below hst.own b5
      have B5 := below_chain hst.bel b5
      have z1 := bcell b5 y1
      clear y1 y2 k3 b5 r4 E4 p3
      cases hnm : nameB xn
      · have hR : R = 5 := by
          rw [← HR2.out]
          have : (fs.all fun f => nameB f.1) = false := by
            rw [List.all_eq_false]
            exact ⟨_, MEM.out, by simp [hnm]⟩
          rw [this, Bool.false_and, if_pos rfl]
        subst hR
        go_wp2_with fail
        go_ret
        exact ⟨rfl, below_chain B3 B5⟩
      · have HN := Go.Lib.hid hnm
        clear hnm
        have al : Below w5.heap.size w5 (w5.alloc (.cells #[.string xn] 9)) := (Below.refl _ _).alloc (Nat.le_refl _) _
        have o6 := o5.below al
        have d6 : RdC 1 (w5.alloc (.cells #[.string xn] 9)) (some ⟨w5.heap.size, 0, none⟩) 1 1 (strs [xn]) := RdC.new w5 9 (strs [xn]) rfl (by decide)
        have b6 := below_chain B5 al
        have hmap : strs ((fs.take (j + 1)).map (·.1)) = strs ((fs.take j).map (·.1)) ++ strs [xn] := by rw [TS.out, List.map_append, strs_append]; rfl
        have HMAP := Go.Lib.hid hmap
        have hF2 : (fs.take (j + 1)).all fitB = ((fs.take j).all fitB && fitB (xn, xz)) := by rw [TS.out, List.all_append]; simp
        clear hmap E5 o5 r5 al
        generalize (fs.take j).all fitB = F at *
        have HF2 := Go.Lib.hid hF2
        clear hF2
        cases F
        · go_wp2_with (at_builtin; refine wpList_more_cells rfl (.tmp 51) (.tmp 58) 39 rfl 9 (.string ByteArray.empty) 16 Tryz.underlying39 string_info rfl (by decide) rfl rfl o6 d6 (strs_one _) (by unfold maxLen; omega) (by omega) b6.size b6 ?_; intro N7 c7 w7 o7 b7 g7; have k7 := (E3.below b7 E3.lt).c3; obtain ⟨z7, z8⟩ := HX.out ▸ RdF.get (RdC.below r3 b7) hlt)
          go_roundw
          case rel => exact ⟨j + 1, N7, c7, by omega, rfl, by rw [HF2.out]; simp [fitB], by go_num, ⟨by rw [HMAP.out]; exact o7, b7, by rw [TS.out, List.all_append, hst.names]; simp [HN.out]⟩⟩
          case measure => simp [intOf]; omega
        by_cases c1 : -1099511627776 ≤ xz
        · by_cases c2 : xz ≤ 1099511627776
          · go_wp2_with (at_builtin; refine wpList_more_cells rfl (.tmp 51) (.tmp 58) 39 rfl 9 (.string ByteArray.empty) 16 Tryz.underlying39 string_info rfl (by decide) rfl rfl o6 d6 (strs_one _) (by unfold maxLen; omega) (by omega) b6.size b6 ?_; intro N7 c7 w7 o7 b7 g7; have k7 := (E3.below b7 E3.lt).c3; obtain ⟨z7, z8⟩ := HX.out ▸ RdF.get (RdC.below r3 b7) hlt)
            go_roundw
            case rel => exact ⟨j + 1, N7, c7, by omega, rfl, by rw [HF2.out]; simp [fitB, c1, c2], by go_num, ⟨by rw [HMAP.out]; exact o7, b7, by rw [TS.out, List.all_append, hst.names]; simp [HN.out]⟩⟩
            case measure => simp [intOf]; omega
          · have c3 : decide (xz ≤ 1099511627776) = false := decide_eq_false c2
            go_wp2_with (at_builtin; refine wpList_more_cells rfl (.tmp 51) (.tmp 58) 39 rfl 9 (.string ByteArray.empty) 16 Tryz.underlying39 string_info rfl (by decide) rfl rfl o6 d6 (strs_one _) (by unfold maxLen; omega) (by omega) b6.size b6 ?_; intro N7 c7 w7 o7 b7 g7; have k7 := (E3.below b7 E3.lt).c3; obtain ⟨z7, z8⟩ := HX.out ▸ RdF.get (RdC.below r3 b7) hlt)
            go_roundw
            case rel => exact ⟨j + 1, N7, c7, by omega, rfl, by rw [HF2.out]; simp [fitB, c2], by go_num, ⟨by rw [HMAP.out]; exact o7, b7, by rw [TS.out, List.all_append, hst.names]; simp [HN.out]⟩⟩
            case measure => simp [intOf]; omega
        · have c3 : decide (-1099511627776 ≤ xz) = false := decide_eq_false c1
          go_wp2_with (at_builtin; refine wpList_more_cells rfl (.tmp 51) (.tmp 58) 39 rfl 9 (.string ByteArray.empty) 16 Tryz.underlying39 string_info rfl (by decide) rfl rfl o6 d6 (strs_one _) (by unfold maxLen; omega) (by omega) b6.size b6 ?_; intro N7 c7 w7 o7 b7 g7; have k7 := (E3.below b7 E3.lt).c3; obtain ⟨z7, z8⟩ := HX.out ▸ RdF.get (RdC.below r3 b7) hlt)
          go_roundw
          case rel => exact ⟨j + 1, N7, c7, by omega, rfl, by rw [HF2.out]; simp [fitB]; omega, by go_num, ⟨by rw [HMAP.out]; exact o7, b7, by rw [TS.out, List.all_append, hst.names]; simp [HN.out]⟩⟩
          case measure => simp [intOf]; omega
    · obtain rfl : m = j := by omega
      have hname : (fs.all fun f => nameB f.1) = true := by
        have h1 := hst.names
        rwa [List.take_of_length_le (by rw [LB.out]; exact Nat.le_refl _)] at h1
      have hr3 := HR2.out
      rw [hname, Bool.true_and] at hr3
      have HR3 := Go.Lib.hid hr3
      have k4 := E4.c2
      have a4 := RdC.below a3 hst.bel
      have nm := OwnC.rd hst.own
      rw [List.take_of_length_le (by rw [LB.out]; exact Nat.le_refl _)] at nm ⊢
      have B4 := below_chain B3 hst.bel
      clear hname hr3 HR2 r4 E4
      go_wp2_with fail
      refine (refTags_any A n ca ts _ a4 KT.out).mono ?_
      rintro e w5 ⟨rfl, b5⟩
      have a5 := RdC.below a4 b5
      have nm5 := RdC.below nm b5
      have k5 := bcell b5 k4
      have B5 := below_chain B4 b5
      clear a4 nm k4 b5 B4
      cases hT : ts.all tagB
      · have hR : R = 5 := by rw [← HR3.out, hT, if_pos rfl]
        subst hR
        go_wp2_with fail
        go_ret
        exact ⟨rfl, B5⟩
      have hr4 := HR3.out
      rw [hT, if_neg (by decide)] at hr4
      have HR4 := Go.Lib.hid hr4
      clear hr4 HR3 hT
      go_wp2_with fail
      refine (refRise_any A n ca ts _ a5).mono ?_
      rintro e w6 ⟨rfl, k6, rfl⟩
      have nm6 := RdC.drewN nm5 k6
      have B6 := bel_drewN B5 k6
      clear a5 nm5 k5 B5
      generalize w5.drewN k6 = w6 at *
      go_wp2_with fail
      refine (refRise_any Nm m cn _ _ nm6).mono ?_
      rintro e w7 ⟨rfl, k7, rfl⟩
      have B7 := bel_drewN B6 k7
      generalize fs.all fitB = F at *
      generalize riseB ts = G at *
      generalize riseB (fs.map fun x => x.1) = K at *
      cases F <;> cases G <;> cases K
      all_goals
        have hR := HR4.out
        simp at hR
        subst hR
        go_wp2_with fail
        go_ret
        exact ⟨rfl, B7⟩

end Go.Proofs.YtiplfhmimpkplaaGreat.EvWalk

