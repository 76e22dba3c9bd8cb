/-
  Words on memory for layer 1: a slice that reads as bytes; its conversion to a string; a reader behind a pointer. No Go text here.
-/
import Derived.Below
import Derived.Laws.OwnMore
import Derived.Laws.IdiomStrings
import Derived.Laws.CopyOwn
import Derived.Deep.Draws
import Derived.Lib.Hide
import Derived.Lib.BufferWrite
import Derived.Maps.AppendAt
import Derived.OwnWalk
import Derived.Laws.Slices
import Derived.OpenShut
import Derived.ProofKit
import Derived.Deep.Grids
import Derived.SliceStrings
import Derived.Test.YtniemomngggifaaProg
import Derived.Deep.Slices
import Derived.Lib.SmallJoins
import Derived.WalkKit
import Derived.KernelRfl
import Derived.Laws.BitsAllLaws
import Derived.Laws.Rows
import Derived.Deep.WholeRow
import Derived.WalkSpells
import Derived.Lib.LazyBuf
import Derived.Deep.QuietTactic
import Derived.BigQuiet
import Derived.Deep.RegionWith
import Derived.Deep.RegionLaw
import Derived.IntWalk
import Derived.Deep.DeepCutAuto
import Derived.ArgAppend
import Derived.Lib.AppendZerosOnto
namespace Go.Proofs.Ytniemomngggifaa.NumMem
open Go.RowKit

/-- The cells of bytes. -/
def cellsOf (l : List UInt8) : List Value := l.map fun c => .int .u8 (c.toNat : Int)

theorem cellsOf_length (l : List UInt8) : (cellsOf l).length = l.length := by simp [cellsOf]
theorem cellsOf_append (a b : List UInt8) : cellsOf (a ++ b) = cellsOf a ++ cellsOf b := by simp [cellsOf]
theorem cellsOf_one (l : List UInt8) : ∀ v ∈ cellsOf l, v.oneCell' = true := by
  intro v hv
  simp only [cellsOf, List.mem_map] at hv
  obtain ⟨c, _, rfl⟩ := hv
  rfl

/-- The slice value (A, n, cap) reads as the bytes l: nil and empty let in. -/
def Rd (w : World) (A : Option Addr) (n cap : Nat) (l : List UInt8) : Prop :=
  l.length = n ∧ n ≤ cap ∧ cap ≤ maxLen ∧ (0 < n → ∃ b o, A = some ⟨b, o, none⟩ ∧ ∀ i, i < n → w.cell? ⟨b, o + i, none⟩ = some (.int .u8 ((l.getD i 0).toNat : Int)))

variable {w w' : World} {A : Option Addr} {n cap : Nat} {l : List UInt8}

theorem Rd.nil (w : World) : Rd w none 0 0 [] := ⟨rfl, Nat.le_refl _, Nat.zero_le _, fun h => absurd h (by omega)⟩
theorem Rd.empty (w : World) (A : Option Addr) (h : cap ≤ maxLen) : Rd w A 0 cap [] := ⟨rfl, Nat.zero_le _, h, fun h => absurd h (by omega)⟩
theorem Rd.len (h : Rd w A n cap l) : l.length = n := h.1
theorem Rd.le (h : Rd w A n cap l) : n ≤ maxLen := Nat.le_trans h.2.1 h.2.2.1
theorem Rd.le_cap (h : Rd w A n cap l) : n ≤ cap := h.2.1

/-- The address, where there is a byte. -/
theorem Rd.at_ (h : Rd w A n cap l) (hn : 0 < n) : ∃ b o, A = some ⟨b, o, none⟩ ∧ b < w.heap.size ∧ ∀ i, i < n → w.cell? ⟨b, o + i, none⟩ = some (.int .u8 ((l.getD i 0).toNat : Int)) := by
  obtain ⟨b, o, rfl, hc⟩ := h.2.2.2 hn
  exact ⟨b, o, rfl, World.block_lt_of_cell? w _ (hc 0 hn), hc⟩

theorem Rd.keep (h : Rd w A n cap l) (hk : ∀ b o, A = some ⟨b, o, none⟩ → 0 < n → ∀ i, i < n → w'.cell? ⟨b, o + i, none⟩ = w.cell? ⟨b, o + i, none⟩) : Rd w' A n cap l :=
  ⟨h.1, h.2.1, h.2.2.1, fun hn => by
    obtain ⟨b, o, rfl, hc⟩ := h.2.2.2 hn
    exact ⟨b, o, rfl, fun i hi => (hk b o rfl hn i hi).trans (hc i hi)⟩⟩

theorem Rd.below (h : Rd w A n cap l) (hb : Below w.heap.size w w') : Rd w' A n cap l :=
  ⟨h.1, h.2.1, h.2.2.1, fun hn => by
    obtain ⟨b, o, rfl, hlt, hc⟩ := h.at_ hn
    exact ⟨b, o, rfl, fun i hi => (hb.cell (p := ⟨b, o + i, none⟩) hlt).trans (hc i hi)⟩⟩

theorem Rd.drewN (h : Rd w A n cap l) (k : Nat) : Rd (w.drewN k) A n cap l := h
theorem Rd.drew (h : Rd w A n cap l) : Rd w.drew A n cap l := h

/-- Kept where just block g has changed, and block g holds no byte at the place. -/
theorem Rd.grown {g : Nat} (h : Rd w A n cap l) (hg : w.grownBy w' (some g)) (hne : ∀ o k, w.cell? ⟨g, o, none⟩ ≠ some (.int .u8 k)) : Rd w' A n cap l :=
  ⟨h.1, h.2.1, h.2.2.1, fun hn => by
    obtain ⟨b, o, rfl, hlt, hc⟩ := h.at_ hn
    have hbg : b ≠ g := by
      rintro rfl
      exact hne _ _ (hc 0 hn)
    exact ⟨b, o, rfl, fun i hi => hg.cell (hc i hi) (by simpa using hbg)⟩⟩

/-- What stands behind the first k bytes: the slice v[k:]. The model keeps the address where k is the capacity. -/
theorem Rd.cut (h : Rd w A n cap l) {k : Nat} (hk : k ≤ n) : Rd w (if cap = k then A else A.map (·.add k)) (n - k) (cap - k) (l.drop k) := by
  refine ⟨by rw [List.length_drop, h.1], by have := h.2.1; omega, by have := h.2.2.1; omega, fun hn => ?_⟩
  obtain ⟨b, o, rfl, hc⟩ := h.2.2.2 (by omega)
  have := h.2.1
  rw [if_neg (by omega)]
  refine ⟨b, o + k, by simp [Addr.add], fun i hi => ?_⟩
  have := hc (k + i) (by omega)
  rw [Nat.add_assoc, this]
  simp [List.getD, List.getElem?_drop]

/-- The first k bytes: v[:k]. -/
theorem Rd.first (h : Rd w A n cap l) {k : Nat} (hk : k ≤ n) : Rd w A k cap (l.take k) := by
  refine ⟨by rw [List.length_take, h.1]; omega, by have := h.2.1; omega, h.2.2.1, fun hn => ?_⟩
  obtain ⟨b, o, rfl, hc⟩ := h.2.2.2 (by omega)
  refine ⟨b, o, rfl, fun i hi => ?_⟩
  rw [hc i (by omega)]
  simp [List.getD, hi]

/-- A row of the call's own, whole. -/
theorem Rd.of_block {g : Nat} {t : TypeId} {fr : Nat × Nat} {cs : Array Value} (hg : w.heap[g]? = some (.cells cs t fr)) (hl : l.length = n) (hn : n ≤ cap) (hc : cap ≤ maxLen) (h : ∀ i, i < n → cs[i]? = some (.int .u8 ((l.getD i 0).toNat : Int))) :
    Rd w (some ⟨g, 0, none⟩) n cap l :=
  ⟨hl, hn, hc, fun _ => ⟨g, 0, rfl, fun i hi => by rw [Nat.zero_add, cell_of_row w g i cs t fr hg]; exact h i hi⟩⟩

/-- string(v). -/
theorem Rd.string {P : Program} (h : Rd w A n cap l) (src dst e : TypeId) (hs : P.underlying src = some (.slice e)) (he : P.underlying e = some (.int .u8)) (hd : P.underlying dst = some .string) :
    (convert src dst (.slice A n cap)).run P w = .ok (.string ⟨l.toArray⟩) w := by
  obtain ⟨hl, h1, h2, h3⟩ := h
  subst hl
  rcases Nat.eq_zero_or_pos l.length with h0 | h0
  · have hl0 : l = [] := List.eq_nil_of_length_eq_zero h0
    subst hl0
    rw [run_convert_bytes_string w src dst e A _ cap hs he hd]
    cases A with
    | none => simp [Conv.bytesToString, Sem.run_pure]; rfl
    | some a =>
      have hlo := run_loadCells_list (P := P) w a [] (fun j v hj => by simp at hj)
      rw [run_bytesToString w a _ cap [] (by simpa using hlo)]
      rfl
  · obtain ⟨b, o, rfl, hc⟩ := h3 h0
    refine run_convert_bytes_back w src dst e ⟨b, o, none⟩ cap l hs he hd fun j hj => ?_
    have hadd : (⟨b, o, none⟩ : Addr).add j = ⟨b, o + j, none⟩ := by unfold Addr.add; split <;> simp_all
    rw [hadd, hc j hj]
    simp [List.getD, List.getElem?_eq_getElem hj]

/-- The source of a copy or an append. -/
theorem Rd.src (h : Rd w A n cap l) (h0 : 0 < (cellsOf l).length) : ∃ ad, A = some ad ∧ ∀ j v, (cellsOf l)[j]? = some v → w.cell? (ad.add j) = some v := by
  rw [cellsOf_length, h.1] at h0
  obtain ⟨b, o, rfl, hc⟩ := h.2.2.2 h0
  refine ⟨_, rfl, fun j v hj => ?_⟩
  have hadd : (⟨b, o, none⟩ : Addr).add j = ⟨b, o + j, none⟩ := by unfold Addr.add; split <;> simp_all
  have hjn : j < l.length := by
    have := (List.getElem?_eq_some_iff.1 hj).1
    simpa [cellsOf] using this
  rw [hadd, hc j (by rw [← h.1]; exact hjn)]
  simp [cellsOf, List.getElem?_eq_getElem hjn] at hj
  simp [List.getD, List.getElem?_eq_getElem hjn, hj]

/-- Block g is just the cells of the bytes l, none frozen. -/
def Row (w : World) (g : Nat) (t : TypeId) (l : List UInt8) : Prop := w.heap[g]? = some (.cells (cellsOf l).toArray t (0, 0))

section
variable {g : Nat} {t : TypeId}
theorem Row.lt (h : Row w g t l) : g < w.heap.size := (Array.getElem?_eq_some_iff.1 h).1
theorem Row.cell (h : Row w g t l) {i : Nat} (hi : i < l.length) : w.cell? ⟨g, i, none⟩ = some (.int .u8 ((l.getD i 0).toNat : Int)) := by
  rw [cell_of_row w g i _ t (0, 0) h]
  simp [cellsOf, List.getElem?_eq_getElem hi, List.getD]
theorem Row.frozen (h : Row w g t l) (i : Nat) : w.frozen? ⟨g, i, none⟩ = false := by
  unfold Row at h
  simp [World.frozen?, h]
theorem Row.rd (h : Row w g t l) (hn : l.length ≤ maxLen) : Rd w (some ⟨g, 0, none⟩) l.length l.length l :=
  Rd.of_block h rfl (Nat.le_refl _) hn fun i hi => by simp [cellsOf, List.getElem?_eq_getElem hi, List.getD]
theorem Row.set_ (h : Row w g t l) (i : Nat) (c : UInt8) : Row (w.setCell ⟨g, i, none⟩ (.int .u8 (c.toNat : Int))) g t (l.set i c) := by
  unfold Row at h ⊢
  simp only [World.setCell, Array.getElem?_modify, h]
  simp [cellsOf, List.map_set]
theorem Row.below {B : Nat} (h : Row w g t l) (hb : Below B w w') (hg : g < B) : Row w' g t l := (hb.block g hg).trans h
theorem Row.new (w : World) (t : TypeId) (l : List UInt8) : Row (w.alloc (.cells (cellsOf l).toArray t)) w.heap.size t l := heap_alloc_new w _
end

theorem grown_setCell {a w : World} {g : Nat} (h : a.grownBy w (some g)) (i : Nat) (u : Value) : a.grownBy (w.setCell ⟨g, i, none⟩ u) (some g) :=
  ⟨h.os, h.tape, h.output, by simpa [World.setCell] using h.size, fun k hk hne => (Below.heap_setCell w _ u k (fun e => hne (by simp [e]))).trans (h.block k hk hne)⟩
theorem grown_below {a w : World} (h : a.grownBy w none) : Below a.heap.size a w := ⟨h.os, h.tape, h.output, h.size, fun k hk => h.block k hk (by simp)⟩
theorem below_grown {a w : World} (h : Below a.heap.size a w) (row : Option Nat) : a.grownBy w row := ⟨h.os, h.tape, h.output, h.size, fun k hk _ => h.block k hk⟩

/-- make([]byte, k). -/
theorem run_make_bytes {P : Program} (T e : TypeId) (hT : P.underlying T = some (.slice e)) (hi : (P.info? e).map (fun i => (i.zero, i.size, i.bytes)) = some (some (.int .u8 0), 1, 1))
    (k : Nat) (hk : k ≤ 281474976710656) (x : Int) (hx : x = (k : Int)) (w : World) :
    (Instr.makeSlice T (.int .i64 x) (.int .i64 x)).run P w = .ok (.slice (some ⟨w.heap.size, 0, none⟩) k k) (w.alloc (.cells (cellsOf (List.replicate k 0)).toArray e)) := by
  subst hx
  obtain ⟨i, h1, h2, h3, h4⟩ : ∃ i, P.info? e = some i ∧ i.zero = some (.int .u8 0) ∧ i.size = 1 ∧ i.bytes = 1 := by
    cases hq : P.info? e with
    | none => simp [hq] at hi
    | some i => simp [hq] at hi; exact ⟨i, rfl, hi.1, hi.2.1, hi.2.2⟩
  rw [run_make w T e i (.int .u8 0) hT h1 h2 .i64 .i64 k k (by omega) (by omega) (by rw [h4]; omega) (by omega)]
  have hm : madeCells (Value.int .u8 0).cells ((k : Int).toNat * i.size) = (cellsOf (List.replicate k 0)).toArray := by
    apply Array.toList_inj.1
    rw [h3, Nat.mul_one, Int.toNat_natCast]
    show (madeCells #[Value.int .u8 0] k).toList = _
    rw [toList_madeCells_one]
    simp [cellsOf]
  rw [hm, Int.toNat_natCast]

/-- copy(dst, s), s a text that just fits, dst in a row of the call's own. -/
theorem wpList_copy_text {P : Program} {w : World} {ops : Array Oper} {rest : List Oper} {o : Oper} {a : Act} {Q : Exit → Act → World → Prop} (hgd : o.guard = none) (d s : Operand) (dT sT : TypeId)
    (ho : o.op = .call { callee := .builtin .copy, args := #[d, s], argTypes := #[dT, sT] }) (elem : TypeId) (hu : P.underlying dT = some (.slice elem)) (hsz : (P.info? elem).map (·.size) = some 1)
    (dp : Option Addr) (dLen dCap : Nat) (x : ByteArray) (hd : a.eval d = .slice dp dLen dCap) (hs : a.eval s = .string x)
    (g off : Nat) (L : List UInt8) (t : TypeId) (hg : Row w g t L) (hle : x.size = dLen) (hpos : 0 < x.size → dp = some ⟨g, off, none⟩) (hfit : off + x.size ≤ L.length)
    (h : ∀ w', Row w' g t (L.take off ++ (x.data.toList ++ L.drop (off + x.size))) → w.grownBy w' (some g) → wpList P ops Q rest (a.put o.dst (goInt x.size)) w') :
    wpList P ops Q (o :: rest) a w := by
  refine wpList_plain hgd fun K hK => ?_
  by_cases h0 : x.size = 0
  · have hrun := Go.Lib.run_copy_empty_string (P := P) w dT sT o.type elem dp dLen dCap x hu (by rw [hsz]; rfl) h0
    unfold Oper.wp
    simp [execOp, ho, resolve, invoke, builtin, hd, hs, hrun, Result.andThen]
    have hx : x.data.toList = [] := List.eq_nil_of_length_eq_zero (by simpa using h0)
    have := h w (by rw [hx, h0]; simpa using hg) ⟨rfl, rfl, rfl, Nat.le_refl _, fun _ _ _ => rfl⟩
    rw [h0] at this
    exact hK _ _ this
  · obtain rfl := hpos (by omega)
    have hrun := Go.Lib.run_copy_row_string (P := P) w dT sT o.type elem g off dLen dCap x _ t hu hsz hg (by omega) (by simpa [cellsOf] using hfit)
    unfold Oper.wp
    simp [execOp, ho, resolve, invoke, builtin, hd, hs, hrun, Result.andThen]
    refine hK _ _ (h _ ?_ ⟨rfl, rfl, rfl, by simp [World.setRow], fun k _ hne => setRow_other w g k _ (fun e => hne (by simp [e]))⟩)
    have e := setRow_heap w g _ (cellsOf (L.take off ++ (x.data.toList ++ L.drop (off + x.size)))).toArray t _ hg
    have e2 : List.take off (cellsOf L) ++ (Go.Lib.byteCells x.data.toList ++ List.drop (off + x.size) (cellsOf L)) = cellsOf (L.take off ++ (x.data.toList ++ L.drop (off + x.size))) := by
      simp [cellsOf, Go.Lib.byteCells]
    rw [Row, e2]
    exact e

/-- A slice's row is older than block g. -/
def Old (A : Option Addr) (g : Nat) : Prop := ∀ a, A = some a → a.block < g
theorem Old.none (g : Nat) : Old none g := fun _ h => by cases h
theorem Old.add {A : Option Addr} {g : Nat} (h : Old A g) (k : Nat) : Old (A.map (·.add k)) g := by
  intro a ha
  cases A with
  | none => cases ha
  | some b =>
    simp only [Option.map_some, Option.some.injEq] at ha
    have := h b rfl
    rw [← ha]
    unfold Addr.add
    split <;> exact this

/-- A reader behind a pointer: block g (of type T) holds a slice that reads as l, its row older than g, and whether it is bad. -/
def Rdr (w : World) (T : TypeId) (g : Nat) (l : List UInt8) (bad : Bool) : Prop :=
  ∃ A n cap, w.heap[g]? = some (.cells #[.slice A n cap, .bool bad] T (0, 0)) ∧ Rd w A n cap l ∧ Old A g

section
variable {T : TypeId} {g : Nat} {bad : Bool}
theorem two_cell {c0 c1 : Value} (h : w.heap[g]? = some (.cells #[c0, c1] T (0, 0))) : w.cell? ⟨g, 0, none⟩ = some c0 ∧ w.cell? ⟨g, 1, none⟩ = some c1 ∧ (∀ i, w.frozen? ⟨g, i, none⟩ = false) :=
  ⟨by rw [cell_of_row w g 0 _ T (0, 0) h]; rfl, by rw [cell_of_row w g 1 _ T (0, 0) h]; rfl, fun i => by simp [World.frozen?, h]⟩
theorem two_no_byte {c0 c1 : Value} (h : w.heap[g]? = some (.cells #[c0, c1] T (0, 0))) (h0 : ∀ k, c0 ≠ .int .u8 k) (h1 : ∀ k, c1 ≠ .int .u8 k) : ∀ o k, w.cell? ⟨g, o, none⟩ ≠ some (.int .u8 k) := by
  intro o k
  rw [cell_of_row w g o _ T (0, 0) h]
  match o with
  | 0 => simpa using h0 k
  | 1 => simpa using h1 k
  | n + 2 => simp
theorem two_set0 {c0 c1 v : Value} (h : w.heap[g]? = some (.cells #[c0, c1] T (0, 0))) : (w.setCell ⟨g, 0, none⟩ v).heap[g]? = some (.cells #[v, c1] T (0, 0)) := by
  simp [World.setCell, Array.getElem?_modify, h]
theorem two_set1 {c0 c1 v : Value} (h : w.heap[g]? = some (.cells #[c0, c1] T (0, 0))) : (w.setCell ⟨g, 1, none⟩ v).heap[g]? = some (.cells #[c0, v] T (0, 0)) := by
  simp [World.setCell, Array.getElem?_modify, h]
theorem Rdr.lt (h : Rdr w T g l bad) : g < w.heap.size := by
  obtain ⟨A, n, cap, hh, _⟩ := h
  exact (Array.getElem?_eq_some_iff.1 hh).1
theorem Rdr.no_byte (h : Rdr w T g l bad) : ∀ o k, w.cell? ⟨g, o, none⟩ ≠ some (.int .u8 k) := by
  obtain ⟨A, n, cap, hh, _⟩ := h
  exact two_no_byte hh (by simp) (by simp)
theorem Rdr.below (h : Rdr w T g l bad) (hb : Below w.heap.size w w') : Rdr w' T g l bad := by
  have hlt := h.lt
  obtain ⟨A, n, cap, hh, hr, ho⟩ := h
  exact ⟨A, n, cap, (hb.block g hlt).trans hh, hr.below hb, ho⟩
/-- Kept where another reader's block alone has changed. -/
theorem Rdr.grown {g' : Nat} (h : Rdr w T g l bad) (hg : w.grownBy w' (some g')) (hne : g ≠ g') (hno : ∀ o k, w.cell? ⟨g', o, none⟩ ≠ some (.int .u8 k)) : Rdr w' T g l bad := by
  have hlt := h.lt
  obtain ⟨A, n, cap, hh, hr, ho⟩ := h
  exact ⟨A, n, cap, (hg.block g hlt (by simpa using hne)).trans hh, hr.grown hg hno, ho⟩
end

end Go.Proofs.Ytniemomngggifaa.NumMem

/-
  Words on memory for slices of any elements: a slice that reads as a row of cells (k cells an element; nil and empty let in), rows of the call's own, append. No Go text here.
-/
namespace Go.Proofs.Ytniemomngggifaa.MemRow
open Go.RowKit
set_option linter.unusedVariables false

/-- The slice value (A, n, cap) of elements of k cells reads as the cells cs. -/
def RdC (k : Nat) (w : World) (A : Option Addr) (n cap : Nat) (cs : List Value) : Prop :=
  cs.length = n * k ∧ n ≤ cap ∧ cap ≤ maxLen ∧ (0 < n → ∃ b o, A = some ⟨b, o, none⟩ ∧ ∀ i v, cs[i]? = some v → w.cell? ⟨b, o + i, none⟩ = some v)

variable {w w' : World} {A : Option Addr} {n cap k : Nat} {cs : List Value} {ss : List ByteArray} {fs : List (ByteArray × Int)}

theorem RdC.nil (w : World) : RdC k w none 0 0 [] := ⟨by simp, Nat.le_refl _, Nat.zero_le _, fun h => absurd h (by omega)⟩
theorem RdC.empty (w : World) (A : Option Addr) (h : cap ≤ maxLen) : RdC k w A 0 cap [] := ⟨by simp, Nat.zero_le _, h, fun h => absurd h (by omega)⟩
theorem RdC.len (h : RdC k w A n cap cs) : cs.length = n * k := h.1
theorem RdC.le_cap (h : RdC k w A n cap cs) : n ≤ cap := h.2.1
theorem RdC.cap_le (h : RdC k w A n cap cs) : cap ≤ maxLen := h.2.2.1
theorem RdC.le (h : RdC k w A n cap cs) : n ≤ maxLen := Nat.le_trans h.2.1 h.2.2.1

theorem RdC.at_ (h : RdC k w A n cap cs) (hk : 0 < k) (hn : 0 < n) : ∃ b o, A = some ⟨b, o, none⟩ ∧ b < w.heap.size ∧ ∀ i v, cs[i]? = some v → w.cell? ⟨b, o + i, none⟩ = some v := by
  obtain ⟨b, o, rfl, hc⟩ := h.2.2.2 hn
  have h0 : 0 < cs.length := by rw [h.1]; exact Nat.mul_pos hn hk
  exact ⟨b, o, rfl, World.block_lt_of_cell? w _ (hc 0 _ (List.getElem?_eq_getElem h0)), hc⟩

theorem RdC.keep (h : RdC k w A n cap cs) (hk : ∀ b o, A = some ⟨b, o, none⟩ → ∀ i v, w.cell? ⟨b, o + i, none⟩ = some v → w'.cell? ⟨b, o + i, none⟩ = some v) : RdC k w' A n cap cs :=
  ⟨h.1, h.2.1, h.2.2.1, fun hn => by
    obtain ⟨b, o, rfl, hc⟩ := h.2.2.2 hn
    exact ⟨b, o, rfl, fun i v hi => hk b o rfl i v (hc i v hi)⟩⟩

/-- As 'keep', where the slice may be empty. -/
theorem RdC.keepN (h : RdC k w A n cap cs) (hk : 0 < n → ∀ b o, A = some ⟨b, o, none⟩ → ∀ i v, w.cell? ⟨b, o + i, none⟩ = some v → w'.cell? ⟨b, o + i, none⟩ = some v) : RdC k w' A n cap cs :=
  ⟨h.1, h.2.1, h.2.2.1, fun hn => by
    obtain ⟨b, o, rfl, hc⟩ := h.2.2.2 hn
    exact ⟨b, o, rfl, fun i v hi => hk hn b o rfl i v (hc i v hi)⟩⟩

theorem RdC.below (h : RdC k w A n cap cs) (hb : Below w.heap.size w w') : RdC k w' A n cap cs :=
  h.keep fun b o _ i v hi => (hb.cell (p := ⟨b, o + i, none⟩) (World.block_lt_of_cell? w _ hi)).trans hi

theorem RdC.drewN (h : RdC k w A n cap cs) (m : Nat) : RdC k (w.drewN m) A n cap cs := h
theorem RdC.drew (h : RdC k w A n cap cs) : RdC k w.drew A n cap cs := h

/-- Kept where just block g has changed, and the slice lies in another. -/
theorem RdC.grown {row : Option Nat} (h : RdC k w A n cap cs) (hg : w.grownBy w' row) (hne : ∀ b o, A = some ⟨b, o, none⟩ → some b ≠ row) : RdC k w' A n cap cs :=
  h.keep fun b o hA i v hi => hg.cell hi (hne b o hA)

theorem add_plain (b o i : Nat) : (⟨b, o, none⟩ : Addr).add i = ⟨b, o + i, none⟩ := by unfold Addr.add; split <;> simp_all

/-- v[m:]. The model keeps the address where m is the capacity. -/
theorem RdC.cut (h : RdC k w A n cap cs) {m : Nat} (hm : m ≤ n) : RdC k w (if cap = m then A else A.map (·.add (m * k))) (n - m) (cap - m) (cs.drop (m * k)) := by
  refine ⟨by rw [List.length_drop, h.1, Nat.sub_mul], by have := h.2.1; omega, by have := h.2.2.1; omega, fun hn => ?_⟩
  obtain ⟨b, o, rfl, hc⟩ := h.2.2.2 (by omega)
  have := h.2.1
  rw [if_neg (by omega)]
  refine ⟨b, o + m * k, by simp [Addr.add], fun i v hi => ?_⟩
  rw [List.getElem?_drop] at hi
  rw [Nat.add_assoc]
  exact hc _ v hi

/-- v[:m]. -/
theorem RdC.first (h : RdC k w A n cap cs) {m : Nat} (hm : m ≤ n) : RdC k w A m cap (cs.take (m * k)) := by
  have hmk : m * k ≤ n * k := Nat.mul_le_mul_right k hm
  refine ⟨by rw [List.length_take, h.1]; omega, by have := h.2.1; omega, h.2.2.1, fun hn => ?_⟩
  obtain ⟨b, o, rfl, hc⟩ := h.2.2.2 (by omega)
  refine ⟨b, o, rfl, fun i v hi => hc i v ?_⟩
  by_cases h1 : i < m * k
  · rwa [List.getElem?_take_of_lt h1] at hi
  · rw [List.getElem?_eq_none (by rw [List.length_take]; omega)] at hi
    cases hi

theorem RdC.of_block {g : Nat} {t : TypeId} {fr : Nat × Nat} {ar : Array Value} (hg : w.heap[g]? = some (.cells ar t fr)) (hl : cs.length = n * k) (hn : n ≤ cap) (hc : cap ≤ maxLen) (h : ∀ (i : Nat) (v : Value), cs[i]? = some v → ar[i]? = some v) :
    RdC k w (some ⟨g, 0, none⟩) n cap cs :=
  ⟨hl, hn, hc, fun _ => ⟨g, 0, rfl, fun i v hi => by rw [Nat.zero_add, cell_of_row w g i ar t fr hg]; exact h i v hi⟩⟩

/-- A new row. -/
theorem RdC.new (w : World) (t : TypeId) (cs : List Value) (hl : cs.length = n * k) (hn : n ≤ maxLen) : RdC k (w.alloc (.cells cs.toArray t)) (some ⟨w.heap.size, 0, none⟩) n n cs :=
  RdC.of_block (heap_alloc_new w _) hl (Nat.le_refl _) hn fun i v hi => by simpa using hi

/-- A slice of the call's own (its block from 'base' on) that holds the cells cs. -/
def OwnC (k : Nat) (w : World) (base : Nat) (t : TypeId) (A : Option Addr) (n cap : Nat) (cs : List Value) : Prop := w.ownsRow base t k (.slice A n cap) n cs

variable {base : Nat} {t : TypeId}

theorem OwnC.len (h : OwnC k w base t A n cap cs) : cs.length = n * k := h.1

theorem OwnC.rd (h : OwnC k w base t A n cap cs) : RdC k w A n cap cs := by
  have hl := h.len
  rcases h.2 with ⟨hv, hn⟩ | ⟨g, c, cur, hv, hb, hg, hnc, hcm, hcs, htake⟩
  · injection hv with e1 e2 e3
    subst e1 e3
    refine ⟨hl, by omega, Nat.zero_le _, fun h0 => absurd h0 (by omega)⟩
  · injection hv with e1 e2 e3
    subst e1 e3
    refine RdC.of_block hg hl hnc hcm fun i v hi => ?_
    rw [← htake] at hi
    have hlt : i < n * k := by
      have := (List.getElem?_eq_some_iff.1 hi).1
      rw [List.length_take] at this
      omega
    rw [List.getElem?_take_of_lt hlt] at hi
    simpa using hi

theorem OwnC.lt (h : OwnC k w base t A n cap cs) : ∀ a, A = some a → base ≤ a.block ∧ a.block < w.heap.size := by
  rintro a rfl
  exact World.ownsRow.lt h a.block rfl

theorem OwnC.below (h : OwnC k w base t A n cap cs) (hb : Below w.heap.size w w') : OwnC k w' base t A n cap cs := World.ownsRow.kept h (below_grown_ hb) (by
  cases hv : (Value.slice A n cap).ownBlock <;> simp)
where below_grown_ (hb : Below w.heap.size w w') : w.grownBy w' none := ⟨hb.os, hb.tape, hb.output, hb.size, fun j hj _ => hb.block j hj⟩

theorem OwnC.nil (w : World) (t : TypeId) : OwnC k w base t none 0 0 [] := ⟨by simp, .inl ⟨rfl, rfl⟩⟩

theorem OwnC.empty (w : World) (t : TypeId) (hb : base ≤ w.heap.size) : OwnC k (w.alloc (.cells #[] t)) base t (some ⟨w.heap.size, 0, none⟩) 0 0 [] :=
  ⟨by simp, .inr ⟨w.heap.size, 0, #[], rfl, hb, heap_alloc_new w _, Nat.le_refl _, Nat.zero_le _, by simp, by simp⟩⟩

/-- A row of the call's own stays where another one of the call's own has grown. -/
theorem OwnC.grown {row : Option Nat} (h : OwnC k w base t A n cap cs) (hg : w.grownBy w' row) (hne : ∀ a, A = some a → some a.block ≠ row) : OwnC k w' base t A n cap cs := World.ownsRow.kept h hg (by
  cases A with
  | none => simp [Value.ownBlock]
  | some a => right; simpa [Value.ownBlock] using hne a rfl)

section
variable {P : Program}
/-- append: of a row of the call's own and what reads as cells. -/
theorem run_append_cells (T ty e : TypeId) (z : Value) (by_ : Nat) (hT : P.underlying T = some (.slice e)) (hi : (P.info? e).map (fun i => (i.zero, i.size, i.bytes)) = some (some z, k, by_)) (hzk : z.cells.size = k) (hk : 0 < k)
    (hown : OwnC k w base e A n cap cs) {B : Option Addr} {m c : Nat} {ds : List Value} (hr : RdC k w B m c ds) (h1 : ∀ v ∈ ds, v.oneCell' = true) (h63 : n + m ≤ maxLen) (hsz : (n + m) * by_ ≤ 140737488355328) (hbase : base ≤ w.heap.size) :
    ∃ A' cap' w', (Builtin.append_ #[T, T] ty #[.slice A n cap, .slice B m c]).run P w = .ok (.slice A' (n + m) cap') w' ∧ OwnC k w' base e A' (n + m) cap' (cs ++ ds) ∧ w.grownBy w' (A.map (·.block)) ∧ (A'.map (·.block) = A.map (·.block) ∨ A'.map (·.block) = some w.heap.size) := by
  obtain ⟨i, g1, g2, g3, g4⟩ : ∃ i, P.info? e = some i ∧ i.zero = some z ∧ i.size = k ∧ i.bytes = by_ := by
    cases hq : P.info? e with
    | none => simp [hq] at hi
    | some i => simp [hq] at hi; exact ⟨i, rfl, hi.1, hi.2.1, hi.2.2⟩
  have ob : (Value.slice A n cap).ownBlock = A.map (·.block) := by cases A <;> rfl
  have done : ∀ v' w2, (Builtin.append_ #[T, T] ty #[.slice A n cap, .slice B m c]).run P w = .ok v' w2 → w2.ownsRow base e k v' (n + m) (cs ++ ds) → w.grownBy w2 (Value.slice A n cap).ownBlock → (v'.ownBlock = (Value.slice A n cap).ownBlock ∨ v'.ownBlock = some w.heap.size) →
      ∃ A' cap' w', (Builtin.append_ #[T, T] ty #[.slice A n cap, .slice B m c]).run P w = .ok (.slice A' (n + m) cap') w' ∧ OwnC k w' base e A' (n + m) cap' (cs ++ ds) ∧ w.grownBy w' (A.map (·.block)) ∧ (A'.map (·.block) = A.map (·.block) ∨ A'.map (·.block) = some w.heap.size) := by
    intro v' w2 hrun ho hg hbl
    rw [ob] at hg hbl
    rcases ho.2 with ⟨rfl, hn⟩ | ⟨g, c2, cur, rfl, hrest⟩
    · refine ⟨none, 0, w2, by rw [hrun, hn], ?_, hg, hbl⟩
      rw [hn] at ho ⊢
      exact ho
    · exact ⟨_, c2, w2, hrun, ho, hg, hbl⟩
  cases B with
  | none =>
    have hm : m = 0 := by
      rcases Nat.eq_zero_or_pos m with h0 | h0
      · exact h0
      · obtain ⟨b, o, h, _⟩ := hr.2.2.2 h0
        cases h
    subst hm
    have hd : ds = [] := List.eq_nil_of_length_eq_zero (by rw [hr.1]; simp)
    subst hd
    refine done (.slice A n cap) w ?_ (by simpa [OwnC] using hown) (World.grownBy.refl _ _) (.inl rfl)
    have hown' := hown
    rcases hown'.2 with ⟨hv, rfl⟩ | ⟨g, c2, cur, hv, _, _, hnc, _⟩
    · injection hv with e1 e2 e3
      subst e1 e3
      simp [Builtin.append_, run_underlying hT, sizeOf, typeInfo, g1, Builtin.lenOf, Builtin.firstCells]
    · injection hv with e1 e2 e3
      subst e1 e3
      simp [Builtin.append_, run_underlying hT, sizeOf, typeInfo, g1, Builtin.lenOf, Builtin.firstCells, hnc, storeCells]
  | some ad =>
    have hsrc : ∀ j u, ds[j]? = some u → w.cell? (ad.add j) = some u := by
      intro j u hu
      have hm : 0 < m := by
        have := (List.getElem?_eq_some_iff.1 hu).1
        rw [hr.1] at this
        exact Nat.pos_of_mul_pos_right (by omega : 0 < m * k) |> fun h => h
      obtain ⟨b, o, h, hc⟩ := hr.2.2.2 hm
      injection h with h
      subst h
      rw [add_plain]
      exact hc j u hu
    obtain ⟨v', w2, hrun, ho, hg, _, hbl⟩ := run_append_own_at (P := P) w base T ty e i z k by_ hT g1 g2 g3 g4 hzk hk _ n _ hown ad m c ds hr.1 hsrc h1 h63 hsz hbase
    exact done v' w2 hrun ho hg hbl

theorem wp_append_cells {o : Oper} {a : Act} {K : Act → World → Prop} {Q : Exit → Act → World → Prop} (s x : Operand) (T : TypeId)
    (ho : o.op = .call { callee := .builtin .append, args := #[s, x], argTypes := #[T, T] }) (e : TypeId) (z : Value) (by_ : Nat) (hT : P.underlying T = some (.slice e)) (hi : (P.info? e).map (fun i => (i.zero, i.size, i.bytes)) = some (some z, k, by_)) (hzk : z.cells.size = k) (hk : 0 < k)
    (hs : a.eval s = .slice A n cap) {B : Option Addr} {m c : Nat} {ds : List Value} (hx : a.eval x = .slice B m c) (hown : OwnC k w base e A n cap cs) (hr : RdC k w B m c ds) (h1 : ∀ v ∈ ds, v.oneCell' = true) (h63 : n + m ≤ maxLen) (hsz : (n + m) * by_ ≤ 140737488355328) (hbase : base ≤ w.heap.size)
    (h : ∀ A' cap' w', OwnC k w' base e A' (n + m) cap' (cs ++ ds) → w.grownBy w' (A.map (·.block)) → (A'.map (·.block) = A.map (·.block) ∨ A'.map (·.block) = some w.heap.size) → K (a.put o.dst (.slice A' (n + m) cap')) w') : o.wp P a w K Q := by
  obtain ⟨A', cap', w', hrun, h2, h3, h4⟩ := run_append_cells (P := P) T o.type e z by_ hT hi hzk hk hown hr h1 h63 hsz hbase
  unfold Oper.wp execOp
  simp only [ho, resolve, invoke, builtin, Sem.run_bind, Sem.run_pure, Result.andThen_ok, List.map_toArray, List.map_cons, List.map_nil, hs, hx, hrun]
  exact h A' cap' w' h2 h3 h4

theorem wpList_append_cells {ops : Array Oper} {rest : List Oper} {o : Oper} {a : Act} {Q : Exit → Act → World → Prop} (hgd : o.guard = none) (s x : Operand) (T : TypeId)
    (ho : o.op = .call { callee := .builtin .append, args := #[s, x], argTypes := #[T, T] }) (e : TypeId) (z : Value) (by_ : Nat) (hT : P.underlying T = some (.slice e)) (hi : (P.info? e).map (fun i => (i.zero, i.size, i.bytes)) = some (some z, k, by_)) (hzk : z.cells.size = k) (hk : 0 < k)
    (hs : a.eval s = .slice A n cap) {B : Option Addr} {m c : Nat} {ds : List Value} (hx : a.eval x = .slice B m c) (hown : OwnC k w base e A n cap cs) (hr : RdC k w B m c ds) (h1 : ∀ v ∈ ds, v.oneCell' = true) (h63 : n + m ≤ maxLen) (hsz : (n + m) * by_ ≤ 140737488355328) (hbase : base ≤ w.heap.size)
    (h : ∀ A' cap' w', OwnC k w' base e A' (n + m) cap' (cs ++ ds) → w.grownBy w' (A.map (·.block)) → (A'.map (·.block) = A.map (·.block) ∨ A'.map (·.block) = some w.heap.size) → wpList P ops Q rest (a.put o.dst (.slice A' (n + m) cap')) w') : wpList P ops Q (o :: rest) a w :=
  wpList_plain hgd fun _ hK => wp_append_cells s x T ho e z by_ hT hi hzk hk hs hx hown hr h1 h63 hsz hbase fun A' cap' w' h2 h3 h4 => hK _ _ (h A' cap' w' h2 h3 h4)

theorem step_append_cells {ops : Array Oper} {o : Oper} {a : Act} {K : Act → World → Prop} {Q : Exit → Act → World → Prop} {E : Prop} (hw : Region.wanted o (yielded ops a.tmps) = true) (s x : Operand) (T : TypeId)
    (ho : o.op = .call { callee := .builtin .append, args := #[s, x], argTypes := #[T, T] }) (e : TypeId) (z : Value) (by_ : Nat) (hT : P.underlying T = some (.slice e)) (hi : (P.info? e).map (fun i => (i.zero, i.size, i.bytes)) = some (some z, k, by_)) (hzk : z.cells.size = k) (hk : 0 < k)
    (hs : a.eval s = .slice A n cap) {B : Option Addr} {m c : Nat} {ds : List Value} (hx : a.eval x = .slice B m c) (hown : OwnC k w base e A n cap cs) (hr : RdC k w B m c ds) (h1 : ∀ v ∈ ds, v.oneCell' = true) (h63 : n + m ≤ maxLen) (hsz : (n + m) * by_ ≤ 140737488355328) (hbase : base ≤ w.heap.size)
    (h : ∀ A' cap' w', OwnC k w' base e A' (n + m) cap' (cs ++ ds) → w.grownBy w' (A.map (·.block)) → (A'.map (·.block) = A.map (·.block) ∨ A'.map (·.block) = some w.heap.size) → K (a.put o.dst (.slice A' (n + m) cap')) w') :
    if Region.wanted o (yielded ops a.tmps) = true then Oper.wp P o a w K Q else E := by
  rw [if_pos hw]
  exact wp_append_cells s x T ho e z by_ hT hi hzk hk hs hx hown hr h1 h63 hsz hbase h
end

/-- Below, where a row of the call's own has grown. -/
theorem below_grown_own (hown : OwnC k w base t A n cap cs) {w0 : World} (hb : Below base w0 w) (hg : w.grownBy w' (A.map (·.block))) (hbase : base ≤ w.heap.size) : Below base w0 w' :=
  hb.grown hg hbase fun g hg' => by
    cases A with
    | none => simp at hg'
    | some a =>
      simp only [Option.map_some, Option.some.injEq] at hg'
      subst hg'
      exact (hown.lt a rfl).1

section
variable {P : Program}
theorem run_size {e : TypeId} (hi : (P.info? e).map (·.size) = some k) (W : World) : (sizeOf e).run P W = .ok k W := by
  cases hq : P.info? e with
  | none => simp [hq] at hi
  | some i =>
    have hs : i.size = k := by simpa [hq] using hi
    simp [sizeOf, typeInfo, hq, hs]
/-- v[m:] -/
theorem slice_lo (T e : TypeId) (hT : P.underlying T = some (.slice e)) (he : P.elem T = e) (hi : (P.info? e).map (·.size) = some k) (h : RdC k w A n cap cs) {m : Nat} (hm : m ≤ n) :
    ∃ A1, (∀ W, (Instr.slice T (.slice A n cap) (some (.int .i64 (m : Int))) none none).run P W = .ok (.slice A1 (n - m) (cap - m)) W) ∧ RdC k w A1 (n - m) (cap - m) (cs.drop (m * k)) := by
  refine ⟨_, fun W => ?_, h.cut hm⟩
  have hu : P.underlying T = some (.slice (P.elem T)) := by rw [he]; exact hT
  rw [run_slice_l (P := P) W T _ n cap hu .i64 (m : Int) (by omega) (by omega), he, run_size hi]
  simp only [Result.andThen, sliced, Int.toNat_natCast]
/-- v[:m] -/
theorem slice_hi (T e : TypeId) (hT : P.underlying T = some (.slice e)) (he : P.elem T = e) (hi : (P.info? e).map (·.size) = some k) (h : RdC k w A n cap cs) {m : Nat} (hm : m ≤ n) :
    (∀ W, (Instr.slice T (.slice A n cap) none (some (.int .i64 (m : Int))) none).run P W = .ok (.slice A m cap) W) ∧ RdC k w A m cap (cs.take (m * k)) := by
  refine ⟨fun W => ?_, h.first hm⟩
  have hc := h.le_cap
  have hu : P.underlying T = some (.slice (P.elem T)) := by rw [he]; exact hT
  have e0 : A.map (·.add 0) = A := by cases A <;> simp [Addr.add]
  rw [run_slice_h (P := P) W T _ n cap hu .i64 (m : Int) (by omega) (by omega), he, run_size hi]
  simp only [Result.andThen, sliced, Int.toNat_natCast, Nat.zero_mul, e0, Nat.sub_zero]
  congr 2
  split <;> rfl
end

/-- append([]T{}, x...): a copy. -/
theorem wpList_copy_cells {P : Program} {ops : Array Oper} {rest : List Oper} {o : Oper} {a : Act} {Q : Exit → Act → World → Prop} (hgd : o.guard = none) (s x : Operand) (T : TypeId)
    (ho : o.op = .call { callee := .builtin .append, args := #[s, x], argTypes := #[T, T] }) (e : TypeId) (z : Value) (by_ : Nat) (hT : P.underlying T = some (.slice e)) (hi : (P.info? e).map (fun i => (i.zero, i.size, i.bytes)) = some (some z, k, by_)) (hzk : z.cells.size = k) (hk : 0 < k)
    {c0 : Nat} (hs : a.eval s = .slice A 0 c0) {B : Option Addr} {m c : Nat} {ds : List Value} (hx : a.eval x = .slice B m c) (hown : OwnC k w base e A 0 c0 []) (hr : RdC k w B m c ds) (h1 : ∀ v ∈ ds, v.oneCell' = true) (h63 : m ≤ maxLen) (hsz : m * by_ ≤ 140737488355328) (hbase : base ≤ w.heap.size) {w0 : World} (hb : Below base w0 w)
    (h : ∀ A' cap' w', OwnC k w' base e A' m cap' ds → Below base w0 w' → wpList P ops Q rest (a.put o.dst (.slice A' m cap')) w') : wpList P ops Q (o :: rest) a w :=
  wpList_append_cells hgd s x T ho e z by_ hT hi hzk hk hs hx hown hr h1 (by omega) (by rw [Nat.zero_add]; exact hsz) hbase fun A' cap' w' h2 h3 _ => by
    have h4 := h A' cap' w' (by simpa using h2) (below_grown_own hown hb h3 hbase)
    rw [Nat.zero_add]
    exact h4
/-- append(v, x...), v of the call's own. -/
theorem wpList_more_cells {P : Program} {ops : Array Oper} {rest : List Oper} {o : Oper} {a : Act} {Q : Exit → Act → World → Prop} (hgd : o.guard = none) (s x : Operand) (T : TypeId)
    (ho : o.op = .call { callee := .builtin .append, args := #[s, x], argTypes := #[T, T] }) (e : TypeId) (z : Value) (by_ : Nat) (hT : P.underlying T = some (.slice e)) (hi : (P.info? e).map (fun i => (i.zero, i.size, i.bytes)) = some (some z, k, by_)) (hzk : z.cells.size = k) (hk : 0 < k)
    (hs : a.eval s = .slice A n cap) {B : Option Addr} {m c : Nat} {ds : List Value} (hx : a.eval x = .slice B m c) (hown : OwnC k w base e A n cap cs) (hr : RdC k w B m c ds) (h1 : ∀ v ∈ ds, v.oneCell' = true) (h63 : n + m ≤ maxLen) (hsz : (n + m) * by_ ≤ 140737488355328) (hbase : base ≤ w.heap.size) {w0 : World} (hb : Below base w0 w)
    (h : ∀ A' cap' w', OwnC k w' base e A' (n + m) cap' (cs ++ ds) → Below base w0 w' → w.grownBy w' (A.map (·.block)) → wpList P ops Q rest (a.put o.dst (.slice A' (n + m) cap')) w') : wpList P ops Q (o :: rest) a w :=
  wpList_append_cells hgd s x T ho e z by_ hT hi hzk hk hs hx hown hr h1 h63 hsz hbase fun A' cap' w' h2 h3 _ => h A' cap' w' h2 (below_grown_own hown hb h3 hbase) h3

/-! ### Texts, and numbers with a name -/

def strs (ss : List ByteArray) : List Value := ss.map .string
theorem strs_length (ss : List ByteArray) : (strs ss).length = ss.length := by simp [strs]
theorem strs_append (a b : List ByteArray) : strs (a ++ b) = strs a ++ strs b := by simp [strs]
theorem strs_one (ss : List ByteArray) : ∀ v ∈ strs ss, v.oneCell' = true := by
  intro v hv
  simp only [strs, List.mem_map] at hv
  obtain ⟨c, _, rfl⟩ := hv
  rfl
theorem strs_take (ss : List ByteArray) (i : Nat) : (strs ss).take (i * 1) = strs (ss.take i) := by simp [strs]
theorem strs_drop (ss : List ByteArray) (i : Nat) : (strs ss).drop (i * 1) = strs (ss.drop i) := by simp [strs]

/-- A slice of texts. -/
def RdS (w : World) (A : Option Addr) (n cap : Nat) (ss : List ByteArray) : Prop := RdC 1 w A n cap (strs ss)
theorem RdS.len (h : RdS w A n cap ss) : ss.length = n := by have := h.1; rw [strs_length] at this; omega
theorem RdS.at_ (h : RdS w A n cap ss) (hn : 0 < n) : ∃ b o, A = some ⟨b, o, none⟩ ∧ b < w.heap.size ∧ ∀ i, i < n → w.cell? ⟨b, o + i, none⟩ = some (.string (ss.getD i ByteArray.empty)) := by
  obtain ⟨b, o, rfl, hb, hc⟩ := RdC.at_ h (by omega) hn
  refine ⟨b, o, rfl, hb, fun i hi => hc i _ ?_⟩
  have hi' : i < ss.length := by rw [h.len]; exact hi
  simp [strs, List.getD, List.getElem?_eq_getElem hi']

def fld (f : ByteArray × Int) : List Value := [.string f.1, .int .i64 f.2]
def flds (fs : List (ByteArray × Int)) : List Value := fs.flatMap fld
theorem flds_length (fs : List (ByteArray × Int)) : (flds fs).length = fs.length * 2 := by
  induction fs with
  | nil => rfl
  | cons f fs ih => rw [flds, List.flatMap_cons, List.length_append, ← flds, ih]; simp [fld]; omega
theorem flds_append (a b : List (ByteArray × Int)) : flds (a ++ b) = flds a ++ flds b := by simp [flds]
theorem flds_one (fs : List (ByteArray × Int)) : ∀ v ∈ flds fs, v.oneCell' = true := by
  intro v hv
  simp only [flds, List.mem_flatMap, fld] at hv
  obtain ⟨c, _, hv⟩ := hv
  simp at hv
  rcases hv with rfl | rfl <;> rfl
theorem flds_take (fs : List (ByteArray × Int)) : ∀ i : Nat, (flds fs).take (i * 2) = flds (fs.take i) := by
  induction fs with
  | nil => intro i; simp [flds]
  | cons f fs ih =>
    intro i
    cases i with
    | zero => simp [flds]
    | succ i =>
      have e : (i + 1) * 2 = i * 2 + 2 := by omega
      rw [e, List.take_succ_cons, show flds (f :: fs) = Value.string f.1 :: Value.int .i64 f.2 :: flds fs from rfl, List.take_succ_cons, List.take_succ_cons, ih i]
      rfl
theorem flds_drop (fs : List (ByteArray × Int)) : ∀ i : Nat, (flds fs).drop (i * 2) = flds (fs.drop i) := by
  induction fs with
  | nil => intro i; simp [flds]
  | cons f fs ih =>
    intro i
    cases i with
    | zero => simp
    | succ i =>
      have e : (i + 1) * 2 = i * 2 + 2 := by omega
      rw [e, List.drop_succ_cons, show flds (f :: fs) = Value.string f.1 :: Value.int .i64 f.2 :: flds fs from rfl, List.drop_succ_cons, List.drop_succ_cons, ih i]
theorem flds_get (fs : List (ByteArray × Int)) : ∀ i : Nat, i < fs.length → (flds fs)[i * 2]? = some (.string (fs.getD i (ByteArray.empty, 0)).1) ∧ (flds fs)[i * 2 + 1]? = some (.int .i64 (fs.getD i (ByteArray.empty, 0)).2) := by
  induction fs with
  | nil => intro i hi; simp at hi
  | cons f fs ih =>
    intro i hi
    cases i with
    | zero => exact ⟨rfl, rfl⟩
    | succ i =>
      have e : (i + 1) * 2 = i * 2 + 2 := by omega
      have hi' : i < fs.length := by simpa using hi
      rw [e, show flds (f :: fs) = Value.string f.1 :: Value.int .i64 f.2 :: flds fs from rfl]
      have := ih i hi'
      simpa using this

/-- A slice of numbers with a name. -/
def RdF (w : World) (A : Option Addr) (n cap : Nat) (fs : List (ByteArray × Int)) : Prop := RdC 2 w A n cap (flds fs)
theorem RdF.len (h : RdF w A n cap fs) : fs.length = n := by have := h.1; rw [flds_length] at this; omega
theorem RdF.at_ (h : RdF w A n cap fs) (hn : 0 < n) : ∃ b o, A = some ⟨b, o, none⟩ ∧ b < w.heap.size ∧ ∀ i, i < n → w.cell? ⟨b, o + i * 2, none⟩ = some (.string (fs.getD i (ByteArray.empty, 0)).1) ∧ w.cell? ⟨b, o + i * 2 + 1, none⟩ = some (.int .i64 (fs.getD i (ByteArray.empty, 0)).2) := by
  obtain ⟨b, o, rfl, hb, hc⟩ := RdC.at_ h (by omega) hn
  refine ⟨b, o, rfl, hb, fun i hi => ?_⟩
  have hg := flds_get fs i (by rw [h.len]; exact hi)
  exact ⟨hc _ _ hg.1, by rw [Nat.add_assoc]; exact hc _ _ hg.2⟩

theorem RdF.get {b o : Nat} (h : RdF w (some ⟨b, o, none⟩) n cap fs) {i : Nat} (hi : i < n) : w.cell? ⟨b, o + i * 2, none⟩ = some (.string (fs.getD i (ByteArray.empty, 0)).1) ∧ w.cell? ⟨b, o + i * 2 + 1, none⟩ = some (.int .i64 (fs.getD i (ByteArray.empty, 0)).2) := by
  obtain ⟨b', o', e, _, hc⟩ := h.at_ (by omega)
  injection e with e
  injection e with e1 e2
  subst e1 e2
  exact hc i hi
theorem RdS.get {b o : Nat} (h : RdS w (some ⟨b, o, none⟩) n cap ss) {i : Nat} (hi : i < n) : w.cell? ⟨b, o + i, none⟩ = some (.string (ss.getD i ByteArray.empty)) := by
  obtain ⟨b', o', e, _, hc⟩ := h.at_ (by omega)
  injection e with e
  injection e with e1 e2
  subst e1 e2
  exact hc i hi
theorem bcell {b o : Nat} {v : Value} (hb : Below w.heap.size w w') (hc : w.cell? ⟨b, o, none⟩ = some v) : w'.cell? ⟨b, o, none⟩ = some v := (hb.cell (p := ⟨b, o, none⟩) (World.block_lt_of_cell? w _ hc)).trans hc

end Go.Proofs.Ytniemomngggifaa.MemRow

/-
  append on bytes: onto a row of the call's own, from a slice that reads as bytes (nil and empty let in). No Go text here.
-/
namespace Go.Proofs.Ytniemomngggifaa.NumMem
open Go.RowKit

/-- A slice of the call's own (its block from 'base' on) that holds the bytes l. -/
def Own (w : World) (base : Nat) (t : TypeId) (A : Option Addr) (n cap : Nat) (l : List UInt8) : Prop := w.ownsRow base t 1 (.slice A n cap) n (cellsOf l)

variable {w w' : World} {base : Nat} {t : TypeId} {A : Option Addr} {n cap : Nat} {l : List UInt8}

theorem Own.len (h : Own w base t A n cap l) : l.length = n := by
  have := h.1
  simpa [cellsOf] using this

theorem Own.rd (h : Own w base t A n cap l) : Rd w A n cap l := by
  have hl := h.len
  rcases h.2 with ⟨hv, hn⟩ | ⟨g, c, cur, hv, hb, hg, hnc, hcm, hcs, htake⟩
  · injection hv with e1 e2 e3
    subst e1 e3
    refine ⟨hl, by omega, Nat.zero_le _, fun h0 => absurd h0 (by omega)⟩
  · injection hv with e1 e2 e3
    subst e1 e3
    refine Rd.of_block hg hl hnc hcm fun i hi => ?_
    have hh : (cellsOf l)[i]? = cur.toList[i]? := by
      rw [← htake, List.getElem?_take_of_lt (by omega)]
    have hi' : i < l.length := by omega
    rw [← Array.getElem?_toList, ← hh]
    simp [cellsOf, List.getElem?_eq_getElem hi', List.getD]

theorem Own.block (h : Own w base t A n cap l) {b o : Nat} (hA : A = some ⟨b, o, none⟩) : base ≤ b ∧ b < w.heap.size := by
  subst hA
  exact h.lt b rfl

theorem Own.below (h : Own w base t A n cap l) (hb : Below w.heap.size w w') : Own w' base t A n cap l := World.ownsRow.kept h (below_grown hb none) (by
  cases hv : (Value.slice A n cap).ownBlock <;> simp)

theorem Own.empty (w : World) (t : TypeId) (hb : base ≤ w.heap.size) : Own (w.alloc (.cells #[] t)) base t (some ⟨w.heap.size, 0, none⟩) 0 0 [] :=
  World.ownsRow_made w #[] 0 hb (Nat.zero_le _) (by simp)

section
variable {P : Program}
theorem run_append_bytes (T ty e : TypeId) (hT : P.underlying T = some (.slice e)) (hi : (P.info? e).map (fun i => (i.zero, i.size, i.bytes)) = some (some (.int .u8 0), 1, 1))
    (hown : Own w base e A n cap l) {B : Option Addr} {m c : Nat} {k : List UInt8} (hr : Rd w B m c k) (hsz : n + m ≤ 140737488355328) (hbase : base ≤ w.heap.size) :
    ∃ A' cap' w', (Builtin.append_ #[T, T] ty #[.slice A n cap, .slice B m c]).run P w = .ok (.slice A' (n + m) cap') w' ∧ Own w' base e A' (n + m) cap' (l ++ k) ∧ w.grownBy w' (Value.slice A n cap).ownBlock := by
  obtain ⟨i, h1, h2, h3, h4⟩ : ∃ i, P.info? e = some i ∧ i.zero = some (.int .u8 0) ∧ i.size = 1 ∧ i.bytes = 1 := by
    cases hq : P.info? e with
    | none => simp [hq] at hi
    | some i => simp [hq] at hi; exact ⟨i, rfl, hi.1, hi.2.1, hi.2.2⟩
  have done : ∀ v' w2, (Builtin.append_ #[T, T] ty #[.slice A n cap, .slice B m c]).run P w = .ok v' w2 → w2.ownsRow base e 1 v' (n + m) (cellsOf l ++ cellsOf k) → w.grownBy w2 (Value.slice A n cap).ownBlock →
      ∃ A' cap' w', (Builtin.append_ #[T, T] ty #[.slice A n cap, .slice B m c]).run P w = .ok (.slice A' (n + m) cap') w' ∧ Own w' base e A' (n + m) cap' (l ++ k) ∧ w.grownBy w' (Value.slice A n cap).ownBlock := by
    intro v' w2 hrun ho hg
    rcases ho.2 with ⟨rfl, hn⟩ | ⟨g, c2, cur, rfl, hrest⟩
    · refine ⟨none, 0, w2, by rw [hrun, hn], ?_, hg⟩
      unfold Own
      rw [cellsOf_append, hn]
      rw [hn] at ho
      exact ho
    · refine ⟨_, c2, w2, hrun, ?_, hg⟩
      unfold Own
      rw [cellsOf_append]
      exact ho
  cases B with
  | none =>
    have hm : m = 0 := by
      rcases Nat.eq_zero_or_pos m with h0 | h0
      · exact h0
      · obtain ⟨b, o, h, _⟩ := hr.2.2.2 h0
        cases h
    subst hm
    have hk : k = [] := List.eq_nil_of_length_eq_zero hr.len
    subst hk
    refine done (.slice A n cap) w ?_ (by simpa [cellsOf, Own] using hown) (World.grownBy.refl _ _)
    have hown' := hown
    rcases hown'.2 with ⟨hv, rfl⟩ | ⟨g, c2, cur, hv, _, _, hnc, _⟩
    · injection hv with e1 e2 e3
      subst e1 e3
      simp [Builtin.append_, run_underlying hT, sizeOf, typeInfo, h1, Builtin.lenOf, Builtin.firstCells]
    · injection hv with e1 e2 e3
      subst e1 e3
      simp [Builtin.append_, run_underlying hT, sizeOf, typeInfo, h1, Builtin.lenOf, Builtin.firstCells, hnc, storeCells]
  | some ad =>
    have hsrc : ∀ j u, (cellsOf k)[j]? = some u → w.cell? (ad.add j) = some u := by
      intro j u hu
      obtain ⟨ad', h, hc⟩ := hr.src (by have := (List.getElem?_eq_some_iff.1 hu).1; omega)
      injection h with h
      subst h
      exact hc j u hu
    obtain ⟨v', w2, hrun, ho, hg, _, _⟩ := run_append_own_at (P := P) w base T ty e i (.int .u8 0) 1 1 hT h1 h2 h3 h4 rfl (by omega) _ n _ hown ad m c (cellsOf k) (by rw [cellsOf_length, hr.len, Nat.mul_one]) hsrc (cellsOf_one k) (by unfold maxLen; omega) (by omega) hbase
    exact done v' w2 hrun ho hg

theorem wp_append_bytes {o : Oper} {a : Act} {K : Act → World → Prop} {Q : Exit → Act → World → Prop} (s x : Operand) (T : TypeId)
    (ho : o.op = .call { callee := .builtin .append, args := #[s, x], argTypes := #[T, T] }) (e : TypeId) (hT : P.underlying T = some (.slice e)) (hi : (P.info? e).map (fun i => (i.zero, i.size, i.bytes)) = some (some (.int .u8 0), 1, 1))
    (hs : a.eval s = .slice A n cap) {B : Option Addr} {m c : Nat} {k : List UInt8} (hx : a.eval x = .slice B m c) (hown : Own w base e A n cap l) (hr : Rd w B m c k) (hsz : n + m ≤ 140737488355328) (hbase : base ≤ w.heap.size)
    (h : ∀ A' cap' w', Own w' base e A' (n + m) cap' (l ++ k) → w.grownBy w' (Value.slice A n cap).ownBlock → K (a.put o.dst (.slice A' (n + m) cap')) w') : o.wp P a w K Q := by
  obtain ⟨A', cap', w', hrun, h2, h3⟩ := run_append_bytes (P := P) T o.type e hT hi hown hr hsz hbase
  unfold Oper.wp execOp
  simp only [ho, resolve, invoke, builtin, Sem.run_bind, Sem.run_pure, Result.andThen_ok, List.map_toArray, List.map_cons, List.map_nil, hs, hx, hrun]
  exact h A' cap' w' h2 h3

theorem wpList_append_bytes {ops : Array Oper} {rest : List Oper} {o : Oper} {a : Act} {Q : Exit → Act → World → Prop} (hgd : o.guard = none) (s x : Operand) (T : TypeId)
    (ho : o.op = .call { callee := .builtin .append, args := #[s, x], argTypes := #[T, T] }) (e : TypeId) (hT : P.underlying T = some (.slice e)) (hi : (P.info? e).map (fun i => (i.zero, i.size, i.bytes)) = some (some (.int .u8 0), 1, 1))
    (hs : a.eval s = .slice A n cap) {B : Option Addr} {m c : Nat} {k : List UInt8} (hx : a.eval x = .slice B m c) (hown : Own w base e A n cap l) (hr : Rd w B m c k) (hsz : n + m ≤ 140737488355328) (hbase : base ≤ w.heap.size)
    (h : ∀ A' cap' w', Own w' base e A' (n + m) cap' (l ++ k) → w.grownBy w' (Value.slice A n cap).ownBlock → wpList P ops Q rest (a.put o.dst (.slice A' (n + m) cap')) w') : wpList P ops Q (o :: rest) a w :=
  wpList_plain hgd fun _ hK => wp_append_bytes s x T ho e hT hi hs hx hown hr hsz hbase fun A' cap' w' h2 h3 => hK _ _ (h A' cap' w' h2 h3)

theorem step_append_bytes {ops : Array Oper} {o : Oper} {a : Act} {K : Act → World → Prop} {Q : Exit → Act → World → Prop} {E : Prop} (hw : Region.wanted o (yielded ops a.tmps) = true) (s x : Operand) (T : TypeId)
    (ho : o.op = .call { callee := .builtin .append, args := #[s, x], argTypes := #[T, T] }) (e : TypeId) (hT : P.underlying T = some (.slice e)) (hi : (P.info? e).map (fun i => (i.zero, i.size, i.bytes)) = some (some (.int .u8 0), 1, 1))
    (hs : a.eval s = .slice A n cap) {B : Option Addr} {m c : Nat} {k : List UInt8} (hx : a.eval x = .slice B m c) (hown : Own w base e A n cap l) (hr : Rd w B m c k) (hsz : n + m ≤ 140737488355328) (hbase : base ≤ w.heap.size)
    (h : ∀ A' cap' w', Own w' base e A' (n + m) cap' (l ++ k) → w.grownBy w' (Value.slice A n cap).ownBlock → K (a.put o.dst (.slice A' (n + m) cap')) w') :
    if Region.wanted o (yielded ops a.tmps) = true then Oper.wp P o a w K Q else E := by
  rw [if_pos hw]
  exact wp_append_bytes s x T ho e hT hi hs hx hown hr hsz hbase h
/-- append([]byte{}, x...): a copy of x. -/
theorem wpList_append_fresh {ops : Array Oper} {rest : List Oper} {o : Oper} {a : Act} {Q : Exit → Act → World → Prop} (hgd : o.guard = none) (s x : Operand) (T : TypeId)
    (ho : o.op = .call { callee := .builtin .append, args := #[s, x], argTypes := #[T, T] }) (e : TypeId) (hT : P.underlying T = some (.slice e)) (hi : (P.info? e).map (fun i => (i.zero, i.size, i.bytes)) = some (some (.int .u8 0), 1, 1))
    {c0 : Nat} (hs : a.eval s = .slice A 0 c0) {B : Option Addr} {m c : Nat} {k : List UInt8} (hx : a.eval x = .slice B m c) (hown : Own w base e A 0 c0 []) (hr : Rd w B m c k) (hsz : m ≤ 140737488355328) (hbase : base ≤ w.heap.size) (w0 : World) (hb : Below base w0 w)
    (h : ∀ A' cap' w', Own w' base e A' m cap' k → Below base w0 w' → wpList P ops Q rest (a.put o.dst (.slice A' m cap')) w') : wpList P ops Q (o :: rest) a w :=
  wpList_append_bytes hgd s x T ho e hT hi hs hx hown hr (by omega) hbase fun A' cap' w' h2 h3 => by
    have h4 := h A' cap' w' (by simpa using h2) (hb.grown h3 hbase (fun g hg => (World.ownsRow.lt hown g hg).1))
    rw [Nat.zero_add]
    exact h4

/-- append(v, x...), v of the call's own. -/
theorem wpList_append_more {ops : Array Oper} {rest : List Oper} {o : Oper} {a : Act} {Q : Exit → Act → World → Prop} (hgd : o.guard = none) (s x : Operand) (T : TypeId)
    (ho : o.op = .call { callee := .builtin .append, args := #[s, x], argTypes := #[T, T] }) (e : TypeId) (hT : P.underlying T = some (.slice e)) (hi : (P.info? e).map (fun i => (i.zero, i.size, i.bytes)) = some (some (.int .u8 0), 1, 1))
    (hs : a.eval s = .slice A n cap) {B : Option Addr} {m c : Nat} {k : List UInt8} (hx : a.eval x = .slice B m c) (hown : Own w base e A n cap l) (hr : Rd w B m c k) (hsz : n + m ≤ 140737488355328) (hbase : base ≤ w.heap.size) (w0 : World) (hb : Below base w0 w)
    (h : ∀ A' cap' w', Own w' base e A' (n + m) cap' (l ++ k) → Below base w0 w' → wpList P ops Q rest (a.put o.dst (.slice A' (n + m) cap')) w') : wpList P ops Q (o :: rest) a w :=
  wpList_append_bytes hgd s x T ho e hT hi hs hx hown hr hsz hbase fun A' cap' w' h2 h3 =>
    h A' cap' w' h2 (hb.grown h3 hbase (fun g hg => (World.ownsRow.lt hown g hg).1))
/-- append([]byte{}, x...) inside a region that draws its order. -/
theorem step_append_fresh {ops : Array Oper} {o : Oper} {a : Act} {K : Act → World → Prop} {Q : Exit → Act → World → Prop} {E : Prop} (hw : Region.wanted o (yielded ops a.tmps) = true) (s x : Operand) (T : TypeId)
    (ho : o.op = .call { callee := .builtin .append, args := #[s, x], argTypes := #[T, T] }) (e : TypeId) (hT : P.underlying T = some (.slice e)) (hi : (P.info? e).map (fun i => (i.zero, i.size, i.bytes)) = some (some (.int .u8 0), 1, 1))
    {c0 : Nat} (hs : a.eval s = .slice A 0 c0) {B : Option Addr} {m c : Nat} {k : List UInt8} (hx : a.eval x = .slice B m c) (hown : Own w base e A 0 c0 []) (hr : Rd w B m c k) (hsz : m ≤ 140737488355328) (hbase : base ≤ w.heap.size) (w0 : World) (hb : Below base w0 w)
    (h : ∀ A' cap' w', Own w' base e A' m cap' k → Below base w0 w' → K (a.put o.dst (.slice A' m cap')) w') :
    if Region.wanted o (yielded ops a.tmps) = true then Oper.wp P o a w K Q else E :=
  step_append_bytes hw s x T ho e hT hi hs hx hown hr (by omega) hbase fun A' cap' w' h2 h3 => by
    have h4 := h A' cap' w' (by simpa using h2) (hb.grown h3 hbase (fun g hg => (World.ownsRow.lt hown g hg).1))
    rw [Nat.zero_add]
    exact h4
end

end Go.Proofs.Ytniemomngggifaa.NumMem

/-
  Opening the arguments of a statement: what a value that can be read as data is. No Go text here.
-/
namespace Go.Proofs.Ytniemomngggifaa.Open
open Go.RowKit Go.ChangeShapes Go.WideShapes Go.Proofs.Ytniemomngggifaa.NumMem

/-- A slice of one-cell elements: its i-th cell holds f i. -/
def Sl (w : World) (A : Option Addr) (n cap : Nat) (f : Nat → Value) : Prop :=
  n ≤ cap ∧ cap ≤ maxLen ∧ (0 < n → ∃ b o, A = some ⟨b, o, none⟩ ∧ ∀ i, i < n → w.cell? ⟨b, o + i, none⟩ = some (f i))

theorem Sl.at_ {w : World} {A : Option Addr} {n cap : Nat} {f : Nat → Value} (h : Sl w A n cap f) (hn : 0 < n) : ∃ b o, A = some ⟨b, o, none⟩ ∧ b < w.heap.size ∧ ∀ i, i < n → w.cell? ⟨b, o + i, none⟩ = some (f i) := by
  obtain ⟨b, o, rfl, hc⟩ := h.2.2 hn
  exact ⟨b, o, rfl, World.block_lt_of_cell? w _ (hc 0 hn), hc⟩

theorem Sl.below {w w' : World} {B : Nat} {A : Option Addr} {n cap : Nat} {f : Nat → Value} (h : Sl w A n cap f) (hb : Below B w w') (hB : w.heap.size ≤ B) : Sl w' A n cap f :=
  ⟨h.1, h.2.1, fun hn => by
    obtain ⟨b, o, rfl, hlt, hc⟩ := h.at_ hn
    exact ⟨b, o, rfl, fun i hi => (hb.cell (p := ⟨b, o + i, none⟩) (Nat.lt_of_lt_of_le hlt hB)).trans (hc i hi)⟩⟩

section
variable {H : Type} {enc : TypeId × Value → H} {P : Program} {W : World} {base : Nat} {t e : TypeId} {v : Value} {d : DataW H} {p : List MemPlace}

theorem op_int {k : IntKind} (ht : P.underlying t = some (.int k)) (ho : Value.okWide P W .any base t v) (h : DataW.Trod enc P W 0 (fun _ => true) true t v d p) : ∃ x, v = .int k x ∧ (Lit.int k x).wf = true := by
  obtain ⟨x, rfl, _, _, wx⟩ := open_int ht ho h
  exact ⟨x, rfl, wx⟩

theorem op_i64 (ht : P.underlying t = some (.int .i64)) (ho : Value.okWide P W .any base t v) (h : DataW.Trod enc P W 0 (fun _ => true) true t v d p) :
    ∃ x, v = .int .i64 x ∧ -9223372036854775808 ≤ x ∧ x ≤ 9223372036854775807 := by
  obtain ⟨x, rfl, wx⟩ := op_int ht ho h
  exact ⟨x, rfl, bounds_i64 wx⟩

theorem op_bool (ht : P.underlying t = some .bool) (ho : Value.okWide P W .any base t v) (h : DataW.Trod enc P W 0 (fun _ => true) true t v d p) : ∃ x, v = .bool x := by
  obtain ⟨x, rfl, _, _⟩ := open_bool ht ho h
  exact ⟨x, rfl⟩

theorem op_string (ht : P.underlying t = some .string) (ho : Value.okWide P W .any base t v) (h : DataW.Trod enc P W 0 (fun _ => true) true t v d p) : ∃ s, v = .string s ∧ s.size ≤ maxLen := by
  obtain ⟨s, rfl, _, _, hs⟩ := Go.ChangeMaps.open_string ht ho h
  exact ⟨s, rfl, hs⟩

theorem spot_none {w : World} {x : Addr} {v : Value} (h : w.cell? (x.add 0) = some v) : x = ⟨x.block, x.off, none⟩ := by
  have := World.cell?_spot h
  obtain ⟨b, o, s⟩ := x
  have hs : s = none := by simpa [Addr.add] using this
  subst hs
  rfl

theorem add_at (b o i : Nat) : (⟨b, o, none⟩ : Addr).add i = ⟨b, o + i, none⟩ := by unfold Addr.add; split <;> simp_all

/-- From cells up to the capacity to 'Sl'. -/
theorem sl_of {a : Addr} {len cap : Nat} {f : Nat → Value} (hl : len ≤ cap) (hm : cap ≤ maxLen) (hc : ∀ i, i < cap → W.cell? (a.add i) = some (f i)) : Sl W (some a) len cap f :=
  ⟨hl, hm, fun hn => by
    have e := spot_none (hc 0 (by omega))
    refine ⟨a.block, a.off, by rw [← e], fun i hi => ?_⟩
    have := hc i (by omega)
    rw [e, add_at] at this
    exact this⟩

theorem op_ints {k : IntKind} (ht : P.underlying t = some (.slice e)) (he : P.underlying e = some (.int k)) (hce : P.cellsOf e = 1) (ho : Value.okWide P W .any base t v) (h : DataW.Trod enc P W 0 (fun _ => true) true t v d p) :
    ∃ (A : Option Addr) (n cap : Nat) (zs : List Int), v = .slice A n cap ∧ zs.length = n ∧ (∀ z ∈ zs, (Lit.int k z).wf = true) ∧ Sl W A n cap (fun i => .int k (zs.getD i 0)) := by
  obtain ⟨a, len, cap, rfl⟩ := okWide_slice ht ho
  obtain ⟨fuel, hf⟩ := h
  rcases open_ints ht he hce hf with ⟨hcs, _⟩ | ⟨x, l, c, zs, hcs, _, hl, hm, hz, _, hcell, hwz⟩
  · simp [Value.cells] at hcs
    obtain ⟨rfl, rfl, rfl⟩ := hcs
    exact ⟨none, 0, 0, [], rfl, rfl, by simp, Nat.le_refl _, Nat.zero_le _, fun h => absurd h (by omega)⟩
  · simp [Value.cells] at hcs
    obtain ⟨rfl, rfl, rfl⟩ := hcs
    have hz' : zs.length = cap := by simpa using hz
    have hs := sl_of (W := W) (f := fun i => .int k (zs.getD i 0)) hl hm (by rw [← hz']; exact hcell)
    refine ⟨_, _, _, zs.take len, rfl, by simp; omega, fun z hz => hwz z (List.mem_of_mem_take hz), hs.1, hs.2.1, fun hn => ?_⟩
    obtain ⟨b, o, hA, hc⟩ := hs.2.2 hn
    refine ⟨b, o, hA, fun i hi => ?_⟩
    rw [hc i hi]
    simp [List.getD, hi]

theorem op_bytes (ht : P.underlying t = some (.slice e)) (he : P.underlying e = some (.int .u8)) (hce : P.cellsOf e = 1) (ho : Value.okWide P W .any base t v) (h : DataW.Trod enc P W 0 (fun _ => true) true t v d p) :
    ∃ (A : Option Addr) (n cap : Nat) (l : List UInt8), v = .slice A n cap ∧ Rd W A n cap l := by
  obtain ⟨A, n, cap, zs, rfl, hl, hw, hs⟩ := op_ints ht he hce ho h
  refine ⟨A, n, cap, zs.map fun z => UInt8.ofNat z.toNat, rfl, by simpa using hl, hs.1, hs.2.1, fun hn => ?_⟩
  obtain ⟨b, o, hA, hc⟩ := hs.2.2 hn
  refine ⟨b, o, hA, fun i hi => ?_⟩
  have hi' : i < zs.length := by omega
  have hb := bounds_u8 (hw zs[i] (List.getElem_mem hi'))
  rw [hc i hi]
  simp only [List.getD, List.getElem?_map, List.getElem?_eq_getElem hi', Option.map_some, Option.getD_some]
  congr 2
  have : zs[i].toNat < 256 := by omega
  simp [Nat.mod_eq_of_lt this]
  omega

theorem op_bools (ht : P.underlying t = some (.slice e)) (he : P.underlying e = some .bool) (hce : P.cellsOf e = 1) (ho : Value.okWide P W .any base t v) (h : DataW.Trod enc P W 0 (fun _ => true) true t v d p) :
    ∃ (A : Option Addr) (n cap : Nat) (B : Nat → Bool), v = .slice A n cap ∧ Sl W A n cap (fun i => .bool (B i)) := by
  obtain ⟨a, len, cap, rfl⟩ := okWide_slice ht ho
  obtain ⟨fuel, hf⟩ := h
  rcases Go.Deep.open_bools ht he hce hf with ⟨hcs, _⟩ | ⟨x, l, c, B, hcs, _, hl, hm, _, hcell⟩
  · simp [Value.cells] at hcs
    obtain ⟨rfl, rfl, rfl⟩ := hcs
    exact ⟨none, 0, 0, fun _ => false, rfl, Nat.le_refl _, Nat.zero_le _, fun h => absurd h (by omega)⟩
  · simp [Value.cells] at hcs
    obtain ⟨rfl, rfl, rfl⟩ := hcs
    exact ⟨_, _, _, B, rfl, sl_of hl hm hcell⟩

theorem op_strings (ht : P.underlying t = some (.slice e)) (he : P.underlying e = some .string) (hce : P.cellsOf e = 1) (ho : Value.okWide P W .any base t v) (h : DataW.Trod enc P W 0 (fun _ => true) true t v d p) :
    ∃ (A : Option Addr) (n cap : Nat) (ss : List ByteArray), v = .slice A n cap ∧ ss.length = n ∧ (∀ s ∈ ss, s.size ≤ maxLen) ∧ Sl W A n cap (fun i => .string (ss.getD i ByteArray.empty)) := by
  obtain ⟨a, len, cap, rfl⟩ := okWide_slice ht ho
  obtain ⟨fuel, hf⟩ := h
  rcases open_strings ht he hce hf with ⟨hcs, _⟩ | ⟨x, l, c, zs, hcs, _, hl, hm, hz, _, hcell, hwz⟩
  · simp [Value.cells] at hcs
    obtain ⟨rfl, rfl, rfl⟩ := hcs
    exact ⟨none, 0, 0, [], rfl, rfl, by simp, Nat.le_refl _, Nat.zero_le _, fun h => absurd h (by omega)⟩
  · simp [Value.cells] at hcs
    obtain ⟨rfl, rfl, rfl⟩ := hcs
    have hz' : zs.length = cap := by simpa using hz
    have hs := sl_of (W := W) (f := fun i => .string (zs.getD i ByteArray.empty)) hl hm (by rw [← hz']; exact hcell)
    refine ⟨_, _, _, zs.take len, rfl, by simp; omega, fun z hz => hwz z (List.mem_of_mem_take hz), hs.1, hs.2.1, fun hn => ?_⟩
    obtain ⟨b, o, hA, hc⟩ := hs.2.2 hn
    refine ⟨b, o, hA, fun i hi => ?_⟩
    rw [hc i hi]
    simp [List.getD, hi]
end

end Go.Proofs.Ytniemomngggifaa.Open

/-
  Layer 9's readings: rows of slices of bytes, an argument that is one; rows of such of a call's own.
-/
namespace Go.Proofs.Ytniemomngggifaa.FrWalk
open Go.RowKit Go.ChangeShapes Go.WideShapes Go.Joins Go.Deep Go.Proofs.Ytniemomngggifaa.MemRow Go.Proofs.Ytniemomngggifaa.NumMem Go.Proofs.Ytniemomngggifaa.Open

/-- The cell at an address is a slice that reads as x. -/
def BsCell (w : World) (b o : Nat) (x : List UInt8) : Prop := ∃ A n ca, w.cell? ⟨b, o, none⟩ = some (.slice A n ca) ∧ Rd w A n ca x
theorem BsCell.below {w w' : World} {b o : Nat} {x : List UInt8} (h : BsCell w b o x) (hb : Below w.heap.size w w') : BsCell w' b o x := by
  obtain ⟨A, n, ca, h0, h1⟩ := h
  exact ⟨A, n, ca, bcell hb h0, h1.below hb⟩
/-- A slice that reads as rows of bytes. -/
def RdB (w : World) (A : Option Addr) (n cap : Nat) (xs : List (List UInt8)) : Prop :=
  xs.length = n ∧ n ≤ cap ∧ cap ≤ maxLen ∧ (0 < n → ∃ b o, A = some ⟨b, o, none⟩ ∧ b < w.heap.size ∧ ∀ i, i < n → BsCell w b (o + i) (xs.getD i []))
section
variable {w w' : World} {A : Option Addr} {n cap : Nat} {xs : List (List UInt8)}
theorem RdB.nil (w : World) : RdB w none 0 0 [] := ⟨rfl, Nat.le_refl _, Nat.zero_le _, fun h => absurd h (by omega)⟩
theorem RdB.len (h : RdB w A n cap xs) : xs.length = n := h.1
theorem RdB.le_cap (h : RdB w A n cap xs) : n ≤ cap := h.2.1
theorem RdB.le (h : RdB w A n cap xs) : n ≤ maxLen := Nat.le_trans h.2.1 h.2.2.1
theorem RdB.at_ (h : RdB w A n cap xs) (hn : 0 < n) : ∃ b o, A = some ⟨b, o, none⟩ ∧ b < w.heap.size ∧ ∀ i, i < n → BsCell w b (o + i) (xs.getD i []) := h.2.2.2 hn
theorem RdB.below (h : RdB w A n cap xs) (hb : Below w.heap.size w w') : RdB w' A n cap xs :=
  ⟨h.1, h.2.1, h.2.2.1, fun hn => by
    obtain ⟨b, o, hA, hlt, hc⟩ := h.2.2.2 hn
    exact ⟨b, o, hA, Nat.lt_of_lt_of_le hlt hb.size, fun i hi => (hc i hi).below hb⟩⟩
theorem RdB.first (h : RdB w A n cap xs) {m : Nat} (hm : m ≤ n) : RdB w A m cap (xs.take m) :=
  ⟨by rw [List.length_take, h.1]; omega, Nat.le_trans hm h.2.1, h.2.2.1, fun hn => by
    obtain ⟨b, o, hA, hlt, hc⟩ := h.2.2.2 (by omega)
    refine ⟨b, o, hA, hlt, fun i hi => ?_⟩
    have e : (xs.take m).getD i [] = xs.getD i [] := by
      simp only [List.getD]
      rw [List.getElem?_take_of_lt hi]
    rw [e]
    exact hc i (by omega)⟩
end

/-- The cells cs are slices that read as xs, as R says it. -/
def BsC (R : Option Addr → Nat → Nat → List UInt8 → Prop) : List (List UInt8) → List Value → Prop
  | [], cs => cs = []
  | x :: xs, cs => ∃ A n c cs', cs = .slice A n c :: cs' ∧ R A n c x ∧ BsC R xs cs'
section
variable {R R' : Option Addr → Nat → Nat → List UInt8 → Prop}
theorem BsC.map (h : ∀ (A : Option Addr) (n c : Nat) (x : List UInt8), R A n c x → R' A n c x) : ∀ (xs : List (List UInt8)) (cs : List Value), BsC R xs cs → BsC R' xs cs
  | [], _, k => k
  | _ :: xs, _, ⟨A, n, c, cs', e, r, k⟩ => ⟨A, n, c, cs', e, h _ _ _ _ r, BsC.map h xs cs' k⟩
theorem BsC.snoc {x : List UInt8} {A : Option Addr} {n c : Nat} (r : R A n c x) : ∀ (xs : List (List UInt8)) (cs : List Value), BsC R xs cs → BsC R (xs ++ [x]) (cs ++ [.slice A n c])
  | [], cs, h => by
    obtain rfl : cs = [] := h
    exact ⟨A, n, c, [], rfl, r, rfl⟩
  | y :: xs, cs, ⟨A1, n1, c1, cs', hc, r1, h⟩ => by
    subst hc
    exact ⟨A1, n1, c1, cs' ++ [.slice A n c], rfl, r1, BsC.snoc r xs cs' h⟩
theorem BsC.at_ : ∀ (xs : List (List UInt8)) (cs : List Value), BsC R xs cs → ∀ i, i < xs.length → ∃ A n c, cs[i]? = some (.slice A n c) ∧ R A n c (xs.getD i [])
  | [], _, _, i, hi => by simp at hi
  | x :: xs, cs, ⟨A, n, c, cs', hc, r, h⟩, i, hi => by
    subst hc
    cases i with
    | zero => exact ⟨A, n, c, rfl, r⟩
    | succ i =>
      obtain ⟨A1, n1, c1, q, r1⟩ := BsC.at_ xs cs' h i (by simpa using hi)
      exact ⟨A1, n1, c1, by simpa using q, by simpa using r1⟩
theorem BsC.one : ∀ (xs : List (List UInt8)) (cs : List Value), BsC R xs cs → ∀ v ∈ cs, v.oneCell' = true
  | [], cs, h => by
    obtain rfl : cs = [] := h
    simp
  | _ :: xs, cs, ⟨A, n, c, cs', hc, _, h⟩ => by
    subst hc
    intro v hv
    rcases List.mem_cons.1 hv with rfl | hv
    · rfl
    · exact BsC.one xs cs' h v hv
end
theorem bs_rd {w : World} {base : Nat} {t : TypeId} {A : Option Addr} {n cap : Nat} {cs : List Value} {xs : List (List UInt8)} {R : Option Addr → Nat → Nat → List UInt8 → Prop} (o : OwnC 1 w base t A n cap cs) (hl : xs.length = n) (h : BsC R xs cs) (hR : ∀ (A : Option Addr) (n c : Nat) (x : List UInt8), R A n c x → Rd w A n c x) : RdB w A n cap xs := by
  have r := OwnC.rd o
  refine ⟨hl, r.2.1, r.2.2.1, fun hn => ?_⟩
  obtain ⟨b, a, hA, hlt, hcell⟩ := RdC.at_ r (by omega) hn
  refine ⟨b, a, hA, hlt, fun i hi => ?_⟩
  obtain ⟨B, m, c, q, r1⟩ := BsC.at_ xs cs h i (by omega)
  exact ⟨B, m, c, hcell _ _ q, hR _ _ _ _ r1⟩
/-- Two rows of a call's own of unlike elements lie in unlike blocks. -/
theorem own_far {k k' : Nat} {w : World} {base base' : Nat} {t t' : TypeId} {A A' : Option Addr} {n n' cap cap' : Nat} {cs cs' : List Value} (h : OwnC k w base t A n cap cs) (h' : OwnC k' w base' t' A' n' cap' cs') (ht : t ≠ t') : ∀ a, A = some a → some a.block ≠ A'.map (·.block) := by
  rintro a rfl e
  cases A' with
  | none => cases e
  | some a' =>
    simp only [Option.map_some, Option.some.injEq] at e
    rcases h.2 with ⟨hv, _⟩ | ⟨g, c, cur, hv, _, hg, _⟩
    · cases hv
    · rcases h'.2 with ⟨hv', _⟩ | ⟨g', c', cur', hv', _, hg', _⟩
      · cases hv'
      · injection hv with e1
        injection e1 with e1
        injection hv' with e2
        injection e2 with e2
        subst e1 e2
        simp only at e
        subst e
        rw [hg] at hg'
        injection hg' with hg'
        injection hg' with _ e3
        exact ht e3

/-- A slice of a call's own that holds rows of bytes, these its own too. -/
def OwnB (w : World) (base : Nat) (A : Option Addr) (n cap : Nat) (xs : List (List UInt8)) : Prop := ∃ cs, OwnC 1 w base 22 A n cap cs ∧ xs.length = n ∧ BsC (fun B m c x => Own w base 5 B m c x) xs cs
section
variable {w w' : World} {base : Nat} {A : Option Addr} {n cap : Nat} {xs : List (List UInt8)}
theorem OwnB.nil (w : World) (base : Nat) : OwnB w base none 0 0 [] := ⟨[], OwnC.nil _ _, rfl, rfl⟩
theorem OwnB.empty (w : World) {base : Nat} (hb : base ≤ w.heap.size) : OwnB (w.alloc (.cells #[] 22)) base (some ⟨w.heap.size, 0, none⟩) 0 0 [] := ⟨[], OwnC.empty w _ hb, rfl, rfl⟩
theorem OwnB.len (h : OwnB w base A n cap xs) : xs.length = n := by
  obtain ⟨_, _, h, _⟩ := h
  exact h
theorem OwnB.below (h : OwnB w base A n cap xs) (hb : Below w.heap.size w w') : OwnB w' base A n cap xs := by
  obtain ⟨cs, o, hl, hc⟩ := h
  exact ⟨cs, OwnC.below o hb, hl, BsC.map (fun _ _ _ _ h => OwnC.below (k := 1) h hb) xs cs hc⟩
theorem OwnB.rd (h : OwnB w base A n cap xs) : RdB w A n cap xs := by
  obtain ⟨cs, o, hl, hc⟩ := h
  exact bs_rd o hl hc fun _ _ _ _ h => h.rd
/-- A row more. -/
theorem OwnB.more {cs : List Value} {B A' : Option Addr} {m c cap' : Nat} {x : List UInt8} (o : OwnC 1 w base 22 A n cap cs) (hl : xs.length = n) (hc : BsC (fun B m c x => Own w base 5 B m c x) xs cs) (ox : Own w base 5 B m c x)
    (o' : OwnC 1 w' base 22 A' (n + 1) cap' (cs ++ [.slice B m c])) (hg : w.grownBy w' (A.map (·.block))) : OwnB w' base A' (n + 1) cap' (xs ++ [x]) :=
  have k1 : ∀ (B : Option Addr) (m c : Nat) (x : List UInt8), Own w base 5 B m c x → Own w' base 5 B m c x := fun _ _ _ _ h => OwnC.grown (k := 1) h hg (own_far (k := 1) h o (by decide))
  ⟨_, o', by rw [List.length_append, hl]; rfl, BsC.snoc (k1 _ _ _ _ ox) xs cs (BsC.map k1 xs cs hc)⟩
end
/-- A slice of a call's own that holds rows of bytes that were there in w0. -/
def OldB (w0 w : World) (base : Nat) (A : Option Addr) (n cap : Nat) (xs : List (List UInt8)) : Prop := ∃ cs, OwnC 1 w base 22 A n cap cs ∧ xs.length = n ∧ BsC (fun B m c x => Rd w0 B m c x) xs cs
section
variable {w0 w w' : World} {base : Nat} {A : Option Addr} {n cap : Nat} {xs : List (List UInt8)}
theorem OldB.nil (w0 w : World) (base : Nat) : OldB w0 w base none 0 0 [] := ⟨[], OwnC.nil _ _, rfl, rfl⟩
theorem OldB.empty (w0 w : World) {base : Nat} (hb : base ≤ w.heap.size) : OldB w0 (w.alloc (.cells #[] 22)) base (some ⟨w.heap.size, 0, none⟩) 0 0 [] := ⟨[], OwnC.empty w _ hb, rfl, rfl⟩
theorem OldB.len (h : OldB w0 w base A n cap xs) : xs.length = n := by
  obtain ⟨_, _, h, _⟩ := h
  exact h
theorem OldB.below (h : OldB w0 w base A n cap xs) (hb : Below w.heap.size w w') : OldB w0 w' base A n cap xs := by
  obtain ⟨cs, o, hl, hc⟩ := h
  exact ⟨cs, OwnC.below o hb, hl, hc⟩
theorem OldB.rd (h : OldB w0 w base A n cap xs) (hb : Below w0.heap.size w0 w) : RdB w A n cap xs := by
  obtain ⟨cs, o, hl, hc⟩ := h
  exact bs_rd o hl hc fun _ _ _ _ h => h.below hb
theorem OldB.more {cs : List Value} {B A' : Option Addr} {m c cap' : Nat} {x : List UInt8} (hl : xs.length = n) (hc : BsC (fun B m c x => Rd w0 B m c x) xs cs) (rx : Rd w0 B m c x)
    (o' : OwnC 1 w' base 22 A' (n + 1) cap' (cs ++ [.slice B m c])) : OldB w0 w' base A' (n + 1) cap' (xs ++ [x]) :=
  ⟨_, o', by rw [List.length_append, hl]; rfl, BsC.snoc rx xs cs hc⟩
end
theorem bytes_info : (Try.prog.info? 22).map (fun i => (i.zero, i.size, i.bytes)) = some (some (.slice none 0 0), 1, 24) := by kernel_rfl

section
variable {H : Type} {enc : TypeId × Value → H} {P : Program} {W : World} {base : Nat} {t e u : TypeId} {v : Value} {d : DataW H} {p : List MemPlace}
/-- A slice of bytes, in cells. -/
theorem tr_byt {fuel : Nat} {y : DataW H × List MemPlace} (ht : P.underlying t = some (.slice e)) (he : P.underlying e = some (.int .u8)) (hce : P.cellsOf e = 1) (h : DataW.trod enc P W 0 (fun _ => true) true fuel t [v] = some y) :
    ∃ (A : Option Addr) (n cap : Nat) (l : List UInt8), v = .slice A n cap ∧ Rd W A n cap l := by
  rcases open_ints ht he hce h with ⟨hcs, _⟩ | ⟨x, l, c, zs, hcs, _, hl, hm, hz, _, hcell, hwz⟩
  · simp only [List.cons.injEq, and_true] at hcs
    subst hcs
    exact ⟨none, 0, 0, [], rfl, Rd.nil W⟩
  · simp only [List.cons.injEq, and_true] at hcs
    subst hcs
    have hz' : zs.length = c := by simpa using hz
    have hs := sl_of (W := W) (f := fun i => .int .u8 (zs.getD i 0)) hl hm (by rw [← hz']; exact hcell)
    refine ⟨_, _, _, (zs.take l).map fun z => UInt8.ofNat z.toNat, rfl, by simp; omega, hs.1, hs.2.1, fun hn => ?_⟩
    obtain ⟨b, o, hA, hc⟩ := hs.2.2 hn
    refine ⟨b, o, hA, fun i hi => ?_⟩
    have hi' : i < zs.length := by omega
    have hi2 : i < (zs.take l).length := by rw [List.length_take]; omega
    have hb := bounds_u8 (hwz zs[i] (List.getElem_mem hi'))
    rw [hc i hi]
    simp only [List.getD, List.getElem?_map, List.getElem?_eq_getElem hi', List.getElem?_eq_getElem hi2, Option.map_some, Option.getD_some, List.getElem_take]
    congr 2
    have : zs[i].toNat < 256 := by omega
    simp [Nat.mod_eq_of_lt this]
    omega
theorem tr_rows {fuel : Nat} {y : DataW H × List MemPlace} (ht : P.underlying t = some (.slice e)) (he : P.underlying e = some (.slice u)) (ce : P.cellsOf e = 1) (hu : P.underlying u = some (.int .u8)) (cu : P.cellsOf u = 1)
    (h : DataW.trod enc P W 0 (fun _ => true) true fuel t [v] = some y) : ∃ A n ca xs, v = .slice A n ca ∧ RdB W A n ca xs := by
  rcases open_slice ht h with ⟨hcs, _⟩ | ⟨a, l, c, m, nn, D, Pl, hcs, _, hl, hm, hmm, _, hx⟩
  · simp only [List.cons.injEq, and_true] at hcs
    subst hcs
    exact ⟨none, 0, 0, [], rfl, RdB.nil W⟩
  · simp only [List.cons.injEq, and_true] at hcs
    subst hcs
    have hm' : m = c := by simpa using hmm
    subst hm'
    have each : ∀ i, i < m → ∃ x : List UInt8, ∃ A n ca, W.cell? (a.add i) = some (.slice A n ca) ∧ Rd W A n ca x := by
      intro i hi
      obtain ⟨cs', h1, h2⟩ := hx i hi
      rw [ce] at h1
      obtain ⟨_, hlen, hcell⟩ := World.cells?_some h1
      match cs', hlen with
      | [v0], _ =>
        have e0 := hcell 0 (by omega)
        rw [add_add] at e0
        obtain ⟨A, n, ca, x, rfl, r⟩ := tr_byt he hu cu h2
        exact ⟨x, A, n, ca, by simpa using e0, r⟩
    have hex : ∃ F : Nat → List UInt8, ∀ i, i < m → ∃ A n ca, W.cell? (a.add i) = some (.slice A n ca) ∧ Rd W A n ca (F i) :=
      ⟨fun i => if hi : i < m then (each i hi).choose else [], fun i hi => by simp only [hi, dif_pos]; exact (each i hi).choose_spec⟩
    obtain ⟨F, hF'⟩ := hex
    refine ⟨_, l, m, (List.range l).map F, rfl, ⟨by simp, hl, hm, fun hn => ?_⟩⟩
    obtain ⟨_, _, _, hc0, _⟩ := hF' 0 (by omega)
    have e0 := spot_none hc0
    have hb := World.block_lt_of_cell? W _ hc0
    rw [e0, add_at] at hb
    refine ⟨a.block, a.off, by rw [← e0], hb, fun i hi => ?_⟩
    have hFj : ((List.range l).map F).getD i [] = F i := by simp [List.getD, hi]
    rw [hFj]
    obtain ⟨A, n, ca, h0, r⟩ := hF' i (by omega)
    rw [e0, add_at] at h0
    exact ⟨A, n, ca, h0, r⟩
end
section
variable {H : Type} {enc : TypeId × Value → H}
set_option maxRecDepth 100000 in
/-- Rows of bytes that came in. -/
theorem op_rows {W : World} {base : Nat} {v : Value} {d : DataW H} {p : List MemPlace} (ho : Value.okWide Try.prog W .any base 37 v) (h : DataW.Trod enc Try.prog W 0 (fun _ => true) true 37 v d p) :
    ∃ A n ca xs, v = .slice A n ca ∧ RdB W A n ca xs := by
  obtain ⟨a, len, cap, rfl⟩ := okWide_slice Try.underlying37 ho
  obtain ⟨fuel, hf⟩ := h
  exact tr_rows Try.underlying37 Try.underlying22 (by kernel_rfl) Try.underlying5 (by kernel_rfl) hf
end

end Go.Proofs.Ytniemomngggifaa.FrWalk

/-
  Plain mathematics of layer 2 (crc): the register stepB by stepB is linear and loses nothing; so four turned bytes side by side are told. No Go text and no model here.
-/
namespace Go.Proofs.Ytniemomngggifaa.CrcMath

def poly : Nat := 3988292384

def stepB (x : Nat) : Nat := x / 2 ^^^ (if x % 2 = 1 then poly else 0)

theorem xor_half (a b : Nat) : (a ^^^ b) / 2 = a / 2 ^^^ b / 2 := Nat.xor_div_two

theorem xor_par (a b : Nat) : (a ^^^ b) % 2 = (a + b) % 2 := by
  have h := @Nat.xor_mod_two_eq_one a b
  rcases Nat.mod_two_eq_zero_or_one a with ha | ha <;> rcases Nat.mod_two_eq_zero_or_one b with hb | hb <;> rcases Nat.mod_two_eq_zero_or_one (a ^^^ b) with hc | hc <;> simp [ha, hb, hc] at h <;> omega

theorem xor4 (a b c d : Nat) : (a ^^^ b) ^^^ (c ^^^ d) = (a ^^^ c) ^^^ (b ^^^ d) := by
  rw [Nat.xor_assoc, Nat.xor_assoc, ← Nat.xor_assoc b c d, Nat.xor_comm b c, Nat.xor_assoc]

theorem step_xor (a b : Nat) : stepB (a ^^^ b) = stepB a ^^^ stepB b := by
  unfold stepB
  rw [xor_half, xor_par, xor4]
  congr 1
  rcases Nat.mod_two_eq_zero_or_one a with ha | ha <;> rcases Nat.mod_two_eq_zero_or_one b with hb | hb
  · rw [if_neg (by omega), if_neg (by omega), if_neg (by omega)]; rfl
  · rw [if_pos (by omega), if_neg (by omega), if_pos (by omega)]; simp
  · rw [if_pos (by omega), if_pos (by omega), if_neg (by omega)]; simp
  · rw [if_neg (by omega), if_pos (by omega), if_pos (by omega)]; simp

theorem step_lt (x : Nat) (h : x < 4294967296) : stepB x < 4294967296 := by
  unfold stepB
  refine Nat.xor_lt_two_pow (n := 32) (by omega) ?_
  split
  · decide
  · decide

theorem step_zero : stepB 0 = 0 := rfl

theorem xor_self_eq {a b : Nat} (h : a ^^^ b = 0) : a = b := by
  have h1 : a ^^^ b ^^^ b = b := by rw [h]; simp
  rwa [Nat.xor_assoc, Nat.xor_self, Nat.xor_zero] at h1

theorem step_eq_zero {x : Nat} (hx : x < 4294967296) (h : stepB x = 0) : x = 0 := by
  unfold stepB at h
  by_cases hp : x % 2 = 1
  · rw [if_pos hp] at h
    have := xor_self_eq h
    unfold poly at this
    omega
  · rw [if_neg hp, Nat.xor_zero] at h
    omega

/-- Eight steps: one byte. -/
def step8 (x : Nat) : Nat := stepB (stepB (stepB (stepB (stepB (stepB (stepB (stepB x)))))))

theorem step8_xor (a b : Nat) : step8 (a ^^^ b) = step8 a ^^^ step8 b := by
  unfold step8
  simp only [step_xor]
theorem step8_lt (x : Nat) (h : x < 4294967296) : step8 x < 4294967296 := by
  unfold step8
  exact step_lt _ (step_lt _ (step_lt _ (step_lt _ (step_lt _ (step_lt _ (step_lt _ (step_lt _ h)))))))
theorem step8_zero : step8 0 = 0 := rfl
theorem step8_eq_zero {x : Nat} (hx : x < 4294967296) (h : step8 x = 0) : x = 0 := by
  unfold step8 at h
  have h1 := step_lt _ hx
  have h2 := step_lt _ h1
  have h3 := step_lt _ h2
  have h4 := step_lt _ h3
  have h5 := step_lt _ h4
  have h6 := step_lt _ h5
  have h7 := step_lt _ h6
  exact step_eq_zero hx (step_eq_zero h1 (step_eq_zero h2 (step_eq_zero h3 (step_eq_zero h4 (step_eq_zero h5 (step_eq_zero h6 (step_eq_zero h7 h)))))))
theorem step8_inj {a b : Nat} (ha : a < 4294967296) (hb : b < 4294967296) (h : step8 a = step8 b) : a = b := by
  apply xor_self_eq
  apply step8_eq_zero (Nat.xor_lt_two_pow (n := 32) ha hb)
  rw [step8_xor, h, Nat.xor_self]

theorem step_even (q : Nat) : stepB (2 * q) = q := by
  unfold stepB
  rw [if_neg (by omega), Nat.xor_zero]
  omega
theorem step8_shift (q : Nat) : step8 (256 * q) = q := by
  unfold step8
  rw [show 256 * q = 2 * (128 * q) from by omega, step_even, show 128 * q = 2 * (64 * q) from by omega, step_even, show 64 * q = 2 * (32 * q) from by omega, step_even, show 32 * q = 2 * (16 * q) from by omega, step_even,
    show 16 * q = 2 * (8 * q) from by omega, step_even, show 8 * q = 2 * (4 * q) from by omega, step_even, show 4 * q = 2 * (2 * q) from by omega, step_even, step_even]

theorem split256 (x : Nat) : x = 256 * (x / 256) ^^^ x % 256 := by
  have h : 2 ^ 8 * (x / 2 ^ 8) ^^^ x % 2 ^ 8 = x := by
    apply Nat.eq_of_testBit_eq
    intro i
    rw [Nat.testBit_xor, Nat.testBit_two_pow_mul, Nat.testBit_mod_two_pow, Nat.testBit_div_two_pow]
    by_cases hi : i < 8
    · simp [hi, show ¬ 8 ≤ i from by omega]
    · simp [hi, show 8 ≤ i from by omega, show i - 8 + 8 = i from by omega]
  exact h.symm

/-- The table's way: the register's byte looked up, the rest moved down. -/
theorem step8_split (x : Nat) : step8 x = x / 256 ^^^ step8 (x % 256) := by
  conv => lhs; rw [split256 x]
  rw [step8_xor, step8_shift]

theorem xor_low (r c : Nat) (hc : c < 256) : (r ^^^ c) / 256 = r / 256 := by
  have e : (r ^^^ c) / 2 ^ 8 = r / 2 ^ 8 ^^^ c / 2 ^ 8 := Nat.xor_div_two_pow
  have : c / 2 ^ 8 = 0 := by omega
  rw [this, Nat.xor_zero] at e
  simpa using e

/-- One byte c into the register r. -/
def upd (r c : Nat) : Nat := step8 (r ^^^ c)

theorem upd_table (r c : Nat) (hc : c < 256) : upd r c = r / 256 ^^^ step8 ((r ^^^ c) % 256) := by
  unfold upd
  rw [step8_split, xor_low r c hc]

theorem xor_byte_lt {r c : Nat} (hr : r < 4294967296) (hc : c < 256) : r ^^^ c < 4294967296 := Nat.xor_lt_two_pow (n := 32) hr (by omega)
theorem upd_lt {r c : Nat} (hr : r < 4294967296) (hc : c < 256) : upd r c < 4294967296 := step8_lt _ (xor_byte_lt hr hc)
theorem upd_xor (r s c d : Nat) : upd (r ^^^ s) (c ^^^ d) = upd r c ^^^ upd s d := by
  unfold upd
  rw [xor4, step8_xor]

/-- Bytes into the register. -/
def reg (r : Nat) : List UInt8 → Nat
  | [] => r
  | c :: l => reg (upd r c.toNat) l

theorem reg_append (r : Nat) (a b : List UInt8) : reg r (a ++ b) = reg (reg r a) b := by
  induction a generalizing r with
  | nil => rfl
  | cons c a ih => exact ih _
theorem reg_lt {r : Nat} (hr : r < 4294967296) (l : List UInt8) : reg r l < 4294967296 := by
  induction l generalizing r with
  | nil => exact hr
  | cons c l ih => exact ih (upd_lt hr (UInt8.toNat_lt c))

theorem toNat_xor (a b : UInt8) : (a ^^^ b).toNat = a.toNat ^^^ b.toNat := UInt8.toNat_xor a b

/-- Linear. -/
theorem reg_xor (a b : List UInt8) (h : a.length = b.length) (r s : Nat) : reg (r ^^^ s) (List.zipWith (· ^^^ ·) a b) = reg r a ^^^ reg s b := by
  induction a generalizing r s b with
  | nil =>
    have : b = [] := List.eq_nil_of_length_eq_zero (by simpa using h.symm)
    subst this
    rfl
  | cons c a ih =>
    cases b with
    | nil => simp at h
    | cons d b =>
      simp only [List.zipWith_cons_cons, reg]
      rw [toNat_xor, upd_xor]
      exact ih b (by simpa using h) _ _

theorem reg_zeros_zero (n : Nat) : reg 0 (List.replicate n 0) = 0 := by
  induction n with
  | zero => rfl
  | succ n ih => rw [List.replicate_succ]; exact ih
theorem reg_zeros_inj {r : Nat} (hr : r < 4294967296) (n : Nat) (h : reg r (List.replicate n 0) = 0) : r = 0 := by
  induction n generalizing r with
  | zero => exact h
  | succ n ih =>
    rw [List.replicate_succ] at h
    have h1 := ih (upd_lt hr (by decide)) h
    unfold upd at h1
    have h2 := step8_eq_zero (xor_byte_lt hr (by decide)) h1
    simpa using h2

/-- No register is lost: the same bytes take unlike registers to unlike ones. -/
theorem reg_inj {r s : Nat} (hr : r < 4294967296) (hs : s < 4294967296) (l : List UInt8) (h : reg r l = reg s l) : r = s := by
  induction l generalizing r s with
  | nil => exact h
  | cons c l ih =>
    have h1 := ih (upd_lt hr (UInt8.toNat_lt c)) (upd_lt hs (UInt8.toNat_lt c)) h
    have h2 := step8_inj (xor_byte_lt hr (UInt8.toNat_lt c)) (xor_byte_lt hs (UInt8.toNat_lt c)) h1
    have h3 : r ^^^ c.toNat ^^^ c.toNat = s ^^^ c.toNat ^^^ c.toNat := by rw [h2]
    simpa [Nat.xor_assoc] using h3

/-- The word of bytes, the least first. -/
def word : List UInt8 → Nat
  | [] => 0
  | c :: l => c.toNat + 256 * word l

theorem word_lt (l : List UInt8) : word l < 256 ^ l.length := by
  induction l with
  | nil => simp [word]
  | cons c l ih =>
    have := UInt8.toNat_lt c
    simp only [word, List.length_cons, Nat.pow_succ]
    omega

theorem word_xor (c : UInt8) (m : Nat) : c.toNat + 256 * m = 256 * m ^^^ c.toNat := by
  have h := split256 (c.toNat + 256 * m)
  have hc := UInt8.toNat_lt c
  have e1 : (c.toNat + 256 * m) / 256 = m := by omega
  have e2 : (c.toNat + 256 * m) % 256 = c.toNat := by omega
  rw [e1, e2] at h
  exact h

/-- Bytes into a register are their word in it, and as many bytes 0. -/
theorem reg_word (l : List UInt8) (r : Nat) : reg r l = reg (r ^^^ word l) (List.replicate l.length 0) := by
  induction l generalizing r with
  | nil => simp [reg, word]
  | cons c l ih =>
    simp only [reg, word, List.length_cons, List.replicate_succ]
    rw [ih]
    congr 1
    unfold upd
    rw [word_xor]
    have e : (r ^^^ (256 * word l ^^^ c.toNat)) ^^^ (0 : UInt8).toNat = (r ^^^ c.toNat) ^^^ 256 * word l := by
      show (r ^^^ (256 * word l ^^^ c.toNat)) ^^^ 0 = _
      rw [Nat.xor_zero, Nat.xor_comm (256 * word l), Nat.xor_assoc]
    rw [e, step8_xor (r ^^^ c.toNat), step8_shift]

/-- The four bytes of a sum, the least first. -/
def le4 (v : Nat) : List UInt8 := [v.toUInt8, (v / 256).toUInt8, (v / 65536).toUInt8, (v / 16777216).toUInt8]

theorem u8 (x : Nat) : (x.toUInt8).toNat = x % 256 := by simp [Nat.toUInt8, UInt8.toNat_ofNat']

theorem word_le4 {v : Nat} (hv : v < 4294967296) : word (le4 v) = v := by
  simp only [word, le4, u8]
  omega

def ones : Nat := 4294967295

/-- The checksum. -/
def sum (b : List UInt8) : Nat := reg ones b ^^^ ones

theorem ones_lt : ones < 4294967296 := by decide
theorem sum_lt (b : List UInt8) : sum b < 4294967296 := Nat.xor_lt_two_pow (n := 32) (reg_lt ones_lt b) ones_lt

/-- The seal. -/
def closedB (b : List UInt8) : List UInt8 := b ++ le4 (sum b)

theorem le4_length (v : Nat) : (le4 v).length = 4 := rfl
theorem closedB_length (b : List UInt8) : (closedB b).length = b.length + 4 := by simp [closedB, le4_length]

/-- What is left in the register behind a seal, whatever was closedB. -/
def rest : Nat := reg ones (List.replicate 4 0)

theorem reg_closedB (b : List UInt8) : reg ones (closedB b) = rest := by
  unfold closedB rest
  rw [reg_append, reg_word, word_le4 (sum_lt b), le4_length]
  congr 1
  unfold sum
  rw [← Nat.xor_assoc, Nat.xor_self, Nat.zero_xor]

theorem four (l : List UInt8) (h : l.length = 4) : ∃ a b c d, l = [a, b, c, d] := by
  match l, h with
  | [a, b, c, d], _ => exact ⟨a, b, c, d, rfl⟩

theorem le4_word (l : List UInt8) (h : l.length = 4) : le4 (word l) = l := by
  obtain ⟨a, b, c, d, rfl⟩ := four l h
  have ha := UInt8.toNat_lt a
  have hb := UInt8.toNat_lt b
  have hc := UInt8.toNat_lt c
  have hd := UInt8.toNat_lt d
  simp only [le4, word]
  have e : ∀ (x : Nat) (y : UInt8), x % 256 = y.toNat → x.toUInt8 = y := fun x y h => by
    apply UInt8.toNat_inj.1
    rw [u8, h]
  rw [e _ a (by omega), e _ b (by omega), e _ c (by omega), e _ d (by omega)]

/-- Just the seals leave that. -/
theorem closedB_of_reg (x t : List UInt8) (ht : t.length = 4) (h : reg ones (x ++ t) = rest) : x ++ t = closedB x := by
  unfold closedB
  congr 1
  unfold rest at h
  rw [reg_append, reg_word, ht] at h
  have hw : word t < 4294967296 := by have := word_lt t; rw [ht] at this; exact this
  have h1 := reg_inj (Nat.xor_lt_two_pow (n := 32) (reg_lt ones_lt x) hw) ones_lt _ h
  have h2 : word t = sum x := by
    have h3 : sum x = reg ones x ^^^ (reg ones x ^^^ word t) := by unfold sum; rw [h1]
    rw [h3, ← Nat.xor_assoc, Nat.xor_self, Nat.zero_xor]
  rw [← h2, le4_word t ht]

/-- Is s a seal? Of what stands ahead of its last four bytes. -/
theorem is_closedB (s : List UInt8) (h4 : 4 ≤ s.length) : closedB (s.take (s.length - 4)) = s ↔ reg ones s = rest := by
  constructor
  · intro h
    rw [← h]
    exact reg_closedB _
  · intro h
    have hs : s.take (s.length - 4) ++ s.drop (s.length - 4) = s := List.take_append_drop _ _
    have := closedB_of_reg (s.take (s.length - 4)) (s.drop (s.length - 4)) (by simp; omega) (by rw [hs]; exact h)
    rw [hs] at this
    exact this.symm

theorem closedB_inj {a b : List UInt8} (h : closedB a = closedB b) : a = b := by
  have hl : a.length = b.length := by
    have := congrArg List.length h
    rw [closedB_length, closedB_length] at this
    omega
  exact (List.append_inj h hl).1

/-- Bytes that are turned within four side by side: ahead of them and behind them nothing is. -/
theorem turned_reg (s e : List UInt8) (hl : e.length = s.length) (k m : Nat) (t : List UInt8) (ht : t.length ≤ 4) (he : e = List.replicate k 0 ++ (t ++ List.replicate m 0)) (hne : ∃ c ∈ t, c ≠ 0) (r : Nat) :
    reg r (List.zipWith (· ^^^ ·) s e) ≠ reg r s := by
  intro h
  have h1 := reg_xor s e hl.symm r 0
  rw [Nat.xor_zero, h] at h1
  have h2 : reg 0 e = 0 := by
    have h3 : reg r s ^^^ reg r s = reg r s ^^^ (reg r s ^^^ reg 0 e) := by rw [← h1]
    rw [Nat.xor_self, ← Nat.xor_assoc, Nat.xor_self, Nat.zero_xor] at h3
    exact h3.symm
  rw [he, reg_append, reg_zeros_zero, reg_append, reg_word t, Nat.zero_xor] at h2
  have hw : word t < 4294967296 := by
    have h3 := word_lt t
    have h4 : 256 ^ t.length ≤ 256 ^ 4 := Nat.pow_le_pow_right (by omega) ht
    omega
  have h5 := reg_zeros_inj (reg_lt hw _) _ h2
  have h6 := reg_zeros_inj hw _ h5
  have key : ∀ l : List UInt8, word l = 0 → ∀ c ∈ l, c = 0 := by
    intro l
    induction l with
    | nil => intro _ c hc; cases hc
    | cons d l ih =>
      intro hz c hc
      simp only [word] at hz
      have hd : d.toNat = 0 := by omega
      have hw0 : word l = 0 := by omega
      rcases List.mem_cons.1 hc with rfl | hc
      · exact UInt8.toNat_inj.1 hd
      · exact ih hw0 c hc
  obtain ⟨c, hc, hc0⟩ := hne
  exact hc0 (key t h6 c hc)

/-- Unlike bytes have unlike entries. -/
theorem entry_inj {a b : Nat} (ha : a < 256) (hb : b < 256) (h : step8 a = step8 b) : a = b := step8_inj (by omega) (by omega) h

/-- The same change of bytes makes the same change of the sum. -/
theorem sum_change (a e : List UInt8) (h : a.length = e.length) : sum a ^^^ sum (List.zipWith (· ^^^ ·) a e) = reg 0 e := by
  unfold sum
  have := reg_xor a e h ones 0
  rw [Nat.xor_zero] at this
  rw [this, xor4, Nat.xor_self, Nat.xor_zero, ← Nat.xor_assoc, Nat.xor_self, Nat.zero_xor]

end Go.Proofs.Ytniemomngggifaa.CrcMath

/-
  Plain mathematics of layer 2 (crc): bytes that are turned, one behind the other; what the sum tells of them. No Go text here.
-/
namespace Go.Proofs.Ytniemomngggifaa.CrcMath

/-- s, of which i bytes from 'at' on are turned. -/
def turn (s : List UInt8) (p i : Nat) (b : List UInt8) : List UInt8 := s.mapIdx fun j c => if p ≤ j ∧ j < p + i then c ^^^ b.getD (j - p) 0 else c

theorem turn_length (s : List UInt8) (p i : Nat) (b : List UInt8) : (turn s p i b).length = s.length := by simp [turn]
theorem turn_get (s : List UInt8) (p i : Nat) (b : List UInt8) (j : Nat) (h : j < s.length) : (turn s p i b)[j]? = some (if p ≤ j ∧ j < p + i then s[j] ^^^ b.getD (j - p) 0 else s[j]) := by
  simp [turn, h]
theorem turn_zero (s : List UInt8) (p : Nat) (b : List UInt8) : turn s p 0 b = s := by
  apply List.ext_getElem?
  intro j
  by_cases h : j < s.length
  · rw [turn_get s p 0 b j h, if_neg (by omega), List.getElem?_eq_getElem h]
  · rw [List.getElem?_eq_none (by rw [turn_length]; omega), List.getElem?_eq_none (by omega)]
theorem turn_at (s : List UInt8) (p i : Nat) (b : List UInt8) (h : p + i < s.length) : (turn s p i b).getD (p + i) 0 = s.getD (p + i) 0 := by
  simp only [List.getD]
  rw [turn_get s p i b _ h, if_neg (by omega), List.getElem?_eq_getElem h]
theorem turn_step (s : List UInt8) (p i : Nat) (b : List UInt8) (h : p + i < s.length) : (turn s p i b).set (p + i) (s.getD (p + i) 0 ^^^ b.getD i 0) = turn s p (i + 1) b := by
  apply List.ext_getElem?
  intro j
  rw [List.getElem?_set]
  by_cases hj : j < s.length
  · rw [turn_get s p (i + 1) b j hj, turn_get s p i b j hj]
    by_cases he : p + i = j
    · subst he
      rw [if_pos rfl, if_pos (by rw [turn_length]; exact h), if_pos (by omega), Nat.add_sub_cancel_left]
      simp [List.getD, h]
    · rw [if_neg he]
      by_cases hin : p ≤ j ∧ j < p + i
      · rw [if_pos hin, if_pos (by omega)]
      · rw [if_neg hin, if_neg (by omega)]
  · rw [List.getElem?_eq_none (l := turn s p (i + 1) b) (by rw [turn_length]; omega), List.getElem?_eq_none (l := turn s p i b) (by rw [turn_length]; omega)]
    split
    · rename_i he
      rw [if_neg (by rw [turn_length]; omega)]
    · rfl

/-- The change as a row of its own. -/
def change (n p i : Nat) (b : List UInt8) : List UInt8 := List.replicate p 0 ++ (b.take i ++ List.replicate (n - p - i) 0)

theorem change_length (n p i : Nat) (b : List UInt8) (hi : i ≤ b.length) (h : p + i ≤ n) : (change n p i b).length = n := by
  simp only [change, List.length_append, List.length_replicate, List.length_take]
  omega
theorem change_get (n p i : Nat) (b : List UInt8) (hi : i ≤ b.length) (h : p + i ≤ n) (j : Nat) (hj : j < n) : (change n p i b)[j]? = some (if p ≤ j ∧ j < p + i then b.getD (j - p) 0 else 0) := by
  unfold change
  by_cases h1 : j < p
  · rw [List.getElem?_append_left (by simpa using h1), if_neg (by omega)]
    simp [h1]
  · rw [List.getElem?_append_right (by simp; omega), List.length_replicate]
    by_cases h2 : j < p + i
    · have h3 : j - p < (b.take i).length := by rw [List.length_take]; omega
      rw [List.getElem?_append_left h3, if_pos (by omega), List.getElem?_take_of_lt (by omega), List.getD, List.getElem?_eq_getElem (by omega)]
      rfl
    · have h3 : (b.take i).length = i := by rw [List.length_take]; omega
      rw [List.getElem?_append_right (by omega), h3, if_neg (by omega), List.getElem?_replicate, if_pos (by omega)]

theorem turn_change (s : List UInt8) (p i : Nat) (b : List UInt8) (hi : i ≤ b.length) (h : p + i ≤ s.length) : turn s p i b = List.zipWith (· ^^^ ·) s (change s.length p i b) := by
  apply List.ext_getElem?
  intro j
  by_cases hj : j < s.length
  · rw [turn_get s p i b j hj, List.getElem?_zipWith, List.getElem?_eq_getElem hj, change_get _ p i b hi h j hj]
    simp only
    by_cases hin : p ≤ j ∧ j < p + i
    · rw [if_pos hin, if_pos hin]
    · rw [if_neg hin, if_neg hin]
      simp
  · rw [List.getElem?_eq_none (by rw [turn_length]; omega), List.getElem?_eq_none (by simp; omega)]

/-- Four at most, side by side, one of them at least turned: another register. -/
theorem turn_reg (s : List UInt8) (p i : Nat) (b : List UInt8) (hi : i ≤ b.length) (h4 : i ≤ 4) (h : p + i ≤ s.length) (hne : ∃ c ∈ b.take i, c ≠ 0) (r : Nat) : reg r (turn s p i b) ≠ reg r s := by
  rw [turn_change s p i b hi h]
  exact turned_reg s (change s.length p i b) (change_length _ p i b hi h) p (s.length - p - i) (b.take i) (by rw [List.length_take]; omega) rfl hne r

theorem turn_sum (s : List UInt8) (p : Nat) (c : UInt8) (h : p < s.length) (hc : c ≠ 0) : sum (turn s p 1 [c]) ≠ sum s := by
  have hr := turn_reg s p 1 [c] (by simp) (by omega) (by omega) ⟨c, by simp, hc⟩ ones
  intro he
  apply hr
  unfold sum at he
  have h2 : reg ones (turn s p 1 [c]) ^^^ ones ^^^ ones = reg ones s ^^^ ones ^^^ ones := by rw [he]
  simpa [Nat.xor_assoc] using h2

/-- A turned seal is none. -/
theorem turn_none (x : List UInt8) (p i : Nat) (b : List UInt8) (hi : i ≤ b.length) (h4 : i ≤ 4) (h : p + i ≤ (closedB x).length) (hne : ∃ c ∈ b.take i, c ≠ 0) : ∀ y, closedB y ≠ turn (closedB x) p i b := by
  intro y hy
  apply turn_reg (closedB x) p i b hi h4 h hne ones
  rw [← hy, reg_closedB, reg_closedB]
/-- Nothing turned: as it was. -/
theorem turn_same (s : List UInt8) (p i : Nat) (b : List UInt8) (hz : ∀ c ∈ b.take i, c = 0) : turn s p i b = s := by
  apply List.ext_getElem?
  intro j
  by_cases h : j < s.length
  · rw [turn_get s p i b j h, List.getElem?_eq_getElem h]
    by_cases hin : p ≤ j ∧ j < p + i
    · rw [if_pos hin]
      have : b.getD (j - p) 0 = 0 := by
        by_cases hb : j - p < b.length
        · have hb2 : j - p < (b.take i).length := by rw [List.length_take]; omega
          have hm := hz (b.take i)[j - p] (List.getElem_mem hb2)
          rw [List.getElem_take] at hm
          simp [List.getD, hb, hm]
        · simp [List.getD, List.getElem?_eq_none (Nat.le_of_not_lt hb)]
      rw [this]
      simp
    · rw [if_neg hin]
  · rw [List.getElem?_eq_none (by rw [turn_length]; omega), List.getElem?_eq_none (by omega)]

end Go.Proofs.Ytniemomngggifaa.CrcMath

/-
  Plain mathematics of layer 9 (frame): a frame, what is taken as one, frames one behind the other; cut frames, turned bytes. No Go text and no model here.
-/
namespace Go.Proofs.Ytniemomngggifaa.FrMath
open Go.Proofs.Ytniemomngggifaa.CrcMath

def maxF : Nat := 16384
/-- A frame. -/
def frameF (b : List UInt8) : List UInt8 := le4 b.length ++ (le4 (sum (le4 b.length ++ b)) ++ b)
theorem frameF_length (b : List UInt8) : (frameF b).length = b.length + 8 := by
  simp only [frameF, List.length_append, le4_length]
  omega
/-- What is taken. -/
def takeF (l : List UInt8) : Option (List UInt8) :=
  if l.length < 8 then none
  else if maxF < word (l.take 4) then none
  else if l.length - 8 < word (l.take 4) then none
  else if frameF ((l.drop 8).take (word (l.take 4))) = l.take (8 + word (l.take 4)) then some ((l.drop 8).take (word (l.take 4))) else none
theorem len_word {x y : List UInt8} (hx : x.length ≤ maxF) (hy : y.length ≤ maxF) (h : le4 x.length = le4 y.length) : x.length = y.length := by
  unfold maxF at hx hy
  have := congrArg word h
  rwa [word_le4 (by omega), word_le4 (by omega)] at this
theorem frame_take4 (x r : List UInt8) : (frameF x ++ r).take 4 = le4 x.length := by
  unfold frameF
  rw [List.append_assoc, List.take_append_of_le_length (by rw [le4_length]; omega), List.take_of_length_le (by rw [le4_length]; omega)]
theorem frame_drop8 (x r : List UInt8) : (frameF x ++ r).drop 8 = x ++ r := by
  rfl
theorem takeF_frame {x : List UInt8} (h : x.length ≤ maxF) (r : List UInt8) : takeF (frameF x ++ r) = some x := by
  have hm := h
  unfold maxF at hm
  have hw : word ((frameF x ++ r).take 4) = x.length := by rw [frame_take4, word_le4 (by omega)]
  have hl : (frameF x ++ r).length = x.length + 8 + r.length := by rw [List.length_append, frameF_length]
  unfold takeF
  rw [hw, frame_drop8, List.take_append_of_le_length (Nat.le_refl _), List.take_of_length_le (l := x) (Nat.le_refl _)]
  rw [if_neg (by omega), if_neg (by unfold maxF; omega), if_neg (by omega), if_pos]
  rw [List.take_append_of_le_length (by rw [frameF_length]; omega), List.take_of_length_le (by rw [frameF_length]; omega)]
theorem takeF_some {l x : List UInt8} (h : takeF l = some x) : x.length ≤ maxF ∧ l = frameF x ++ l.drop (8 + x.length) := by
  unfold takeF at h
  split at h
  · cases h
  split at h
  · cases h
  split at h
  · cases h
  split at h
  · rename_i h1 h2 h3 h4
    injection h with h
    have hl : x.length = word (l.take 4) := by
      rw [← h, List.length_take, List.length_drop]
      omega
    refine ⟨by omega, ?_⟩
    rw [h] at h4
    rw [h4, hl, List.take_append_drop]
  · cases h
theorem frame_begins {x y r s : List UInt8} (hx : x.length ≤ maxF) (hy : y.length ≤ maxF) (h : frameF x ++ r = frameF y ++ s) : x = y ∧ r = s := by
  have h4 : le4 x.length = le4 y.length := by rw [← frame_take4 x r, h, frame_take4]
  have hl := len_word hx hy h4
  obtain ⟨h1, h2⟩ := List.append_inj h (by rw [frameF_length, frameF_length, hl])
  refine ⟨?_, h2⟩
  have h5 := frame_drop8 x []
  rw [List.append_nil, List.append_nil, h1] at h5
  have h6 := frame_drop8 y []
  rw [List.append_nil, List.append_nil, h5] at h6
  exact h6
theorem take_none_short {l : List UInt8} (h : l.length < 8) : takeF l = none := by
  unfold takeF
  rw [if_pos h]
/-- A frame that is cut. -/
theorem cut_none {y : List UInt8} (hy : y.length ≤ maxF) {c : Nat} (hc : c < y.length + 8) : takeF ((frameF y).take c) = none := by
  cases h : takeF ((frameF y).take c) with
  | none => rfl
  | some x =>
    exfalso
    obtain ⟨hx, hl⟩ := takeF_some h
    have h1 : frameF y ++ [] = frameF x ++ (((frameF y).take c).drop (8 + x.length) ++ (frameF y).drop c) := by
      rw [← List.append_assoc, ← hl, List.take_append_drop, List.append_nil]
    have h2 := (frame_begins hy hx h1).1
    have h3 := congrArg List.length hl
    rw [List.length_append, List.length_take, frameF_length, frameF_length, ← h2] at h3
    omega
theorem set_turn (s : List UInt8) (p : Nat) (c : UInt8) (h : p < s.length) : s.set p (s.getD p 0 ^^^ c) = turn s p 1 [c] := by
  have := turn_step s p 0 [c] (by omega)
  rw [turn_zero] at this
  simpa using this
theorem xor_ne {a c : UInt8} (hc : c ≠ 0) : a ^^^ c ≠ a := by
  intro h
  apply hc
  have : a ^^^ (a ^^^ c) = a ^^^ a := by rw [h]
  rwa [← UInt8.xor_assoc, UInt8.xor_self, UInt8.zero_xor] at this
theorem set_ne {s : List UInt8} {p : Nat} {v : UInt8} (h : p < s.length) (hv : v ≠ s.getD p 0) : s.set p v ≠ s := by
  intro e
  apply hv
  have h1 : (s.set p v)[p]? = some v := by rw [List.getElem?_set_self h]
  rw [e] at h1
  rw [List.getD, h1]
  rfl
/-- A byte that is turned, none of the first four. -/
theorem turned_none {y : List UInt8} (hy : y.length ≤ maxF) {p : Nat} {c : UInt8} (h4 : 4 ≤ p) (hp : p < y.length + 8) (hc : c ≠ 0) (t : List UInt8) : takeF ((frameF y).set p ((frameF y).getD p 0 ^^^ c) ++ t) = none := by
  have hpl : p < (frameF y).length := by rw [frameF_length]; exact hp
  have hne : (frameF y).getD p 0 ^^^ c ≠ (frameF y).getD p 0 := xor_ne hc
  cases h : takeF ((frameF y).set p ((frameF y).getD p 0 ^^^ c) ++ t) with
  | none => rfl
  | some x =>
    exfalso
    obtain ⟨hx, hl⟩ := takeF_some h
    generalize ((frameF y).set p ((frameF y).getD p 0 ^^^ c) ++ t).drop (8 + x.length) = r at hl
    have e4 : (frameF x ++ r).take 4 = le4 y.length := by
      rw [← hl, List.take_append_of_le_length (by rw [List.length_set, frameF_length]; omega), List.take_set_of_le h4]
      have := frame_take4 y []
      rwa [List.append_nil] at this
    rw [frame_take4] at e4
    have hxy := len_word hx hy e4
    obtain ⟨h1, _⟩ := List.append_inj hl (by rw [List.length_set, frameF_length, frameF_length, hxy])
    by_cases h8 : p < 8
    · have hd : ((frameF y).set p ((frameF y).getD p 0 ^^^ c)).drop 8 = y := by
        rw [List.drop_set_of_lt h8]
        have := frame_drop8 y []
        rwa [List.append_nil, List.append_nil] at this
      rw [h1] at hd
      have h6 := frame_drop8 x []
      rw [List.append_nil, List.append_nil, hd] at h6
      rw [← h6] at h1
      exact set_ne hpl hne h1
    · have hg : (frameF y).getD p 0 = (le4 y.length ++ y).getD (p - 4) 0 := by
        unfold frameF
        simp only [List.getD]
        rw [← List.append_assoc, List.getElem?_append_right (by simp [le4_length]; omega), List.getElem?_append_right (by simp [le4_length]; omega)]
        simp only [List.length_append, le4_length]
        rw [show p - (4 + 4) = p - 4 - 4 by omega]
      have hsx : le4 (sum (le4 x.length ++ x)) = le4 (sum (le4 y.length ++ y)) := by
        have h7 := congrArg (fun l => (l.drop 4).take 4) h1
        rw [List.drop_set, if_neg (by omega)] at h7
        rw [List.take_set_of_le (by omega)] at h7
        unfold frameF at h7
        rw [List.drop_append_of_le_length (by simp [le4_length]), List.drop_append_of_le_length (by simp [le4_length])] at h7
        simp only [List.drop_of_length_le (show (le4 y.length).length ≤ 4 by simp [le4_length]), List.drop_of_length_le (show (le4 x.length).length ≤ 4 by simp [le4_length]), List.nil_append] at h7
        rw [List.take_append_of_le_length (by simp [le4_length]), List.take_append_of_le_length (by simp [le4_length]), List.take_of_length_le (by simp [le4_length]), List.take_of_length_le (by simp [le4_length])] at h7
        exact h7.symm
      have hsum : sum (le4 x.length ++ x) = sum (le4 y.length ++ y) := by
        have := congrArg word hsx
        rwa [word_le4 (sum_lt _), word_le4 (sum_lt _)] at this
      have hx2 : le4 x.length ++ x = turn (le4 y.length ++ y) (p - 4) 1 [c] := by
        rw [← set_turn _ _ _ (by simp [le4_length]; omega), ← hg]
        have h9 := congrArg (fun l => l.drop 8) h1
        rw [List.drop_set, if_neg (by omega)] at h9
        have f1 := frame_drop8 y []
        have f2 := frame_drop8 x []
        rw [List.append_nil, List.append_nil] at f1 f2
        rw [f1, f2] at h9
        rw [List.set_append_right _ _ (by simp [le4_length]; omega), e4, ← h9]
        rw [le4_length, show p - 4 - 4 = p - 8 by omega]
      rw [hx2] at hsum
      exact turn_sum _ _ _ (by simp [le4_length]; omega) hc hsum

/-- Frames one behind the other. -/
def joinF (xs : List (List UInt8)) : List UInt8 := xs.flatMap frameF
/-- All that are taken. -/
def scanF (l : List UInt8) : List (List UInt8) :=
  match h : takeF l with
  | none => []
  | some x => x :: scanF (l.drop (8 + x.length))
termination_by l.length
decreasing_by
  have hl := congrArg List.length (takeF_some h).2
  rw [List.length_append, frameF_length] at hl
  rw [List.length_drop] at hl ⊢
  omega
theorem scanF_none {l : List UInt8} (h : takeF l = none) : scanF l = [] := by
  rw [scanF]
  split
  · rfl
  · rename_i h2
    rw [h] at h2
    cases h2
theorem scanF_some {l x : List UInt8} (h : takeF l = some x) : scanF l = x :: scanF (l.drop (8 + x.length)) := by
  rw [scanF]
  split
  · rename_i h2
    rw [h] at h2
    cases h2
  · rename_i y h2
    rw [h] at h2
    injection h2 with h2
    subst h2
    rfl
theorem scanF_frame {x : List UInt8} (h : x.length ≤ maxF) (r : List UInt8) : scanF (frameF x ++ r) = x :: scanF r := by
  rw [scanF_some (takeF_frame h r), show 8 + x.length = (frameF x).length by rw [frameF_length]; omega, List.drop_left]
theorem scanF_nil : scanF [] = [] := scanF_none rfl
theorem scanF_join : ∀ (xs : List (List UInt8)), (∀ x ∈ xs, x.length ≤ maxF) → ∀ r, scanF (joinF xs ++ r) = xs ++ scanF r
  | [], _, r => rfl
  | x :: xs, h, r => by
    unfold joinF
    rw [List.flatMap_cons, List.append_assoc, scanF_frame (h x (List.mem_cons_self ..)), List.cons_append]
    congr 1
    exact scanF_join xs (fun y hy => h y (List.mem_cons_of_mem _ hy)) r
theorem scanF_all {xs : List (List UInt8)} (h : ∀ x ∈ xs, x.length ≤ maxF) : scanF (joinF xs) = xs := by
  have := scanF_join xs h []
  rwa [List.append_nil, scanF_nil, List.append_nil] at this
theorem joinF_append (xs ys : List (List UInt8)) : joinF (xs ++ ys) = joinF xs ++ joinF ys := List.flatMap_append
theorem joinF_cons (x : List UInt8) (xs : List (List UInt8)) : joinF (x :: xs) = frameF x ++ joinF xs := List.flatMap_cons
theorem joinF_one (x : List UInt8) : joinF [x] = frameF x := by
  rw [joinF_cons]
  exact List.append_nil _
/-- What is taken are the bytes at the beginning, and few enough each. -/
theorem scanF_is (l : List UInt8) : ∃ r, l = joinF (scanF l) ++ r ∧ takeF r = none ∧ ∀ x ∈ scanF l, x.length ≤ maxF := by
  induction hn : l.length using Nat.strongRecOn generalizing l with
  | _ n ih =>
    cases h : takeF l with
    | none => exact ⟨l, by rw [scanF_none h]; rfl, h, by rw [scanF_none h]; simp⟩
    | some x =>
      obtain ⟨hx, hl⟩ := takeF_some h
      have hlt : (l.drop (8 + x.length)).length < n := by
        have := congrArg List.length hl
        rw [List.length_append, frameF_length] at this
        omega
      obtain ⟨r, h1, h2, h3⟩ := ih _ hlt _ rfl
      refine ⟨r, ?_, h2, ?_⟩
      · rw [scanF_some h, joinF_cons, List.append_assoc, ← h1]
        exact hl
      · rw [scanF_some h]
        intro y hy
        rcases List.mem_cons.1 hy with rfl | hy
        · exact hx
        · exact h3 y hy
/-- Frames that are cut: those ahead. -/
theorem scan_cut {xs : List (List UInt8)} (h : ∀ x ∈ xs, x.length ≤ maxF) {y : List UInt8} (hy : y.length ≤ maxF) {c : Nat} (hc : c < y.length + 8) : scanF (joinF xs ++ (frameF y).take c) = xs := by
  rw [scanF_join xs h, scanF_none (cut_none hy hc), List.append_nil]
/-- Frames of which a byte is turned, none of the first four of its frame: those ahead. -/
theorem scan_turned {xs : List (List UInt8)} (h : ∀ x ∈ xs, x.length ≤ maxF) {y : List UInt8} (hy : y.length ≤ maxF) {p : Nat} {c : UInt8} (h4 : 4 ≤ p) (hp : p < y.length + 8) (hc : c ≠ 0) (t : List UInt8) :
    scanF (joinF xs ++ ((frameF y).set p ((frameF y).getD p 0 ^^^ c) ++ t)) = xs := by
  rw [scanF_join xs h, scanF_none (turned_none hy h4 hp hc t), List.append_nil]

end Go.Proofs.Ytniemomngggifaa.FrMath

/-
  Contracts of layer 2 (crc): entry. It leaves the world as it was.
-/
namespace Go.Proofs.Ytniemomngggifaa.CrcWalk
open Go.RowKit Go.Proofs.Ytniemomngggifaa.CrcMath

theorem ret_int {k : IntKind} {a b : Int} (h : a = b) : Ending.returned (.int k a) = .returned (.int k b) := by rw [h]
theorem ret_bool {a b : Bool} (h : a = b) : Ending.returned (.bool a) = .returned (.bool b) := by rw [h]

/-- k steps. -/
def steps : Nat → Nat → Nat
  | 0, x => x
  | k + 1, x => stepB (steps k x)
theorem steps_lt (k : Nat) {x : Nat} (h : x < 4294967296) : steps k x < 4294967296 := by
  induction k with
  | zero => exact h
  | succ k ih => exact step_lt _ ih
theorem steps_8 (x : Nat) : steps 8 x = step8 x := rfl

theorem low_and (x : Nat) (h : x < 4294967296) : bits .and .u32 (x : Int) 1 = ((x % 2 : Nat) : Int) := by
  have e := u32_and_nat x 1 h (by decide)
  rw [Nat.and_one_is_mod] at e
  exact e
theorem xor_poly (x : Nat) (h : x < 4294967296) : bits .xor .u32 ((x : Int) / 2) 3988292384 = ((x / 2 ^^^ poly : Nat) : Int) := by
  have e := u32_xor_nat (x / 2) poly (by omega) (by decide)
  rw [show (((x / 2 : Nat) : Int)) = (x : Int) / 2 from by omega] at e
  exact e
theorem step_odd {x : Nat} (h : x % 2 = 1) : stepB x = x / 2 ^^^ poly := by unfold stepB; rw [if_pos h]
theorem step_evn {x : Nat} (h : ¬ x % 2 = 1) : stepB x = x / 2 := by unfold stepB; rw [if_neg h, Nat.xor_zero]

set_option maxHeartbeats 400000 in
set_option maxRecDepth 100000 in
theorem entry_any (i : Nat) (w : World) (hi : i < 4294967296) :
    Calls Try.prog 19 #[.int .u32 (i : Int)] w fun e w' => e = .returned (.int .u32 (step8 i : Nat)) ∧ w = w' := by
  go_enter Try.func19, Try.ntmps19
  go_wp2
  go_loop [0, 4] (fun r c => ∃ k : Nat, k ≤ 8 ∧ r = .int .u32 ((steps k i : Nat) : Int) ∧ c = .int .i64 k) (fun _ c => 8 - (intOf c).toNat)
  case atStart => exact ⟨0, by omega, rfl, rfl⟩
  case round =>
    obtain ⟨k, hk, rfl, rfl⟩ := hrel
    by_cases hlt : k < 8
    · have hx := steps_lt k hi
      have hs : steps (k + 1) i = stepB (steps k i) := rfl
      have HS := Go.Lib.hid hs
      clear hs
      generalize steps k i = x at *
      have ea := low_and x hx
      by_cases hp : x % 2 = 1
      · have ea1 : bits .and .u32 (x : Int) 1 = 1 := by rw [ea, hp]; rfl
        have ex := xor_poly x hx
        have HP := Go.Lib.hid hp
        clear ea hp
        go_wp2
        go_round
        case rel => exact ⟨k + 1, by omega, by rw [HS.out, step_odd HP.out], by go_num⟩
        case measure => simp [intOf]; omega
      · have ea1 : bits .and .u32 (x : Int) 1 = 0 := by rw [ea]; omega
        have HP := Go.Lib.hid hp
        clear ea hp
        go_wp2
        go_round
        case rel => exact ⟨k + 1, by omega, by rw [HS.out, step_evn HP.out]; go_num, by go_num⟩
        case measure => simp [intOf]; omega
    · obtain rfl : k = 8 := by omega
      go_wp2
      go_ret
      exact ⟨by rw [steps_8]; rfl, rfl⟩

end Go.Proofs.Ytniemomngggifaa.CrcWalk

/-
  Contract of layer 2 (crc): New; what a table in memory is.
-/
namespace Go.Proofs.Ytniemomngggifaa.CrcWalk
open Go.RowKit Go.Proofs.Ytniemomngggifaa.CrcMath Go.Proofs.Ytniemomngggifaa.NumMem

/-- The table of which k entries are made. -/
def part (k : Nat) : Array Value := ((List.range 256).map fun j => Value.int .u32 ((if j < k then step8 j else 0 : Nat) : Int)).toArray

theorem part_size (k : Nat) : (part k).size = 256 := by simp [part]
theorem part_get (k j : Nat) (h : j < 256) : (part k)[j]? = some (.int .u32 ((if j < k then step8 j else 0 : Nat) : Int)) := by
  simp [part, h]
theorem part_set (k : Nat) : (part k).setIfInBounds k (.int .u32 ((step8 k : Nat) : Int)) = part (k + 1) := by
  apply Array.ext_getElem?
  intro j
  rw [Array.getElem?_setIfInBounds]
  by_cases hj : j < 256
  · rw [part_get (k + 1) j hj]
    by_cases hkj : k = j
    · subst hkj
      rw [if_pos rfl, if_pos (by rw [part_size]; exact hj), if_pos (by omega)]
    · rw [if_neg hkj, part_get k j hj]
      by_cases h2 : j < k
      · rw [if_pos h2, if_pos (by omega)]
      · rw [if_neg h2, if_neg (by omega)]
  · have e1 : (part (k + 1))[j]? = none := Array.getElem?_eq_none (by rw [part_size]; omega)
    have e2 : (part k)[j]? = none := Array.getElem?_eq_none (by rw [part_size]; omega)
    rw [e1, e2]
    split <;> first | rfl | (rw [part_size]; rw [if_neg (by omega)])
theorem part_one (k : Nat) : (part k).all (·.oneCell') = true := by
  rw [Array.all_eq_true_iff_forall_mem]
  intro v hv
  simp [part] at hv
  obtain ⟨j, _, rfl⟩ := hv
  rfl

/-- The whole table. -/
def tab : Array Value := part 256
theorem tab_size : tab.size = 256 := part_size 256
theorem tab_get (j : Nat) (h : j < 256) : tab[j]? = some (.int .u32 ((step8 j : Nat) : Int)) := by
  unfold tab
  rw [part_get 256 j h, if_pos h]
theorem tab_one : tab.all (·.oneCell') = true := part_one 256

theorem tab_info : (Try.prog.info? 26).map (fun i => (i.zero, i.size)) = some (some (.agg (part 0)), 256) := by kernel_rfl

/-- Block g is the table. -/
def Tab (w : World) (g : Nat) : Prop := w.heap[g]? = some (.cells tab 26 (0, 0))
theorem Tab.lt {w : World} {g : Nat} (h : Tab w g) : g < w.heap.size := (Array.getElem?_eq_some_iff.1 h).1
theorem Tab.below {w w' : World} {g : Nat} (h : Tab w g) (hb : Below w.heap.size w w') : Tab w' g := (hb.block g h.lt).trans h
theorem Tab.cell {w : World} {g : Nat} (h : Tab w g) (j : Nat) (hj : j < 256) : w.cell? ⟨g, j, none⟩ = some (.int .u32 ((step8 j : Nat) : Int)) := by
  rw [cell_of_row w g j _ _ _ h]
  exact tab_get j hj
theorem Tab.new (w : World) : Tab (w.alloc (.cells tab 26)) w.heap.size := heap_alloc_new w _

theorem below_setRow {B : Nat} {a w : World} (h : Below B a w) (g : Nat) (cs : Array Value) (hg : B ≤ g) : Below B a (w.setRow g cs) :=
  ⟨h.os, h.tape, h.output, by simpa using h.size, fun k hk => (setRow_other w g k cs (by omega)).trans (h.block k hk)⟩

set_option maxRecDepth 100000 in
set_option maxHeartbeats 1000000 in
theorem new_any (w : World) :
    Calls Try.prog 9 #[] w fun e w' => e = .returned (.agg tab) ∧ Below w.heap.size w w' := by
  obtain ⟨hz, hsz⟩ := zero_of_info tab_info
  go_enter Try.func9, Try.ntmps9
  go_wp2_with fail
  go_loopw [3] (fun i wr => ∃ k : Nat, k ≤ 256 ∧ i = .int .i64 k ∧ wr = (w.alloc (.cells (part 0) 26)).alloc (.cells (part k) 26)) (fun i _ => 256 - (intOf i).toNat)
  case atStart => exact ⟨0, by omega, rfl, rfl⟩
  case round =>
    obtain ⟨k, hk, rfl, rfl⟩ := hrel
    by_cases hlt : k < 256
    · have hg := part_get k k hlt
      have hs := part_set k
      have hs8 := step8_lt k (by omega)
      go_wp2_with (go_at_call 19; refine (entry_any k _ (by omega)).mono ?_; rintro e w' ⟨rfl, rfl⟩)
      go_roundw
      case rel => exact ⟨k + 1, by omega, by go_num, rfl⟩
      case measure => simp [intOf]; omega
    · obtain rfl : k = 256 := by omega
      rw [← part_size 256] at hsz
      have H1 := Go.Lib.hid hsz
      clear hsz
      go_wp2_with (first
        | (with_reducible refine wpList_load_row rfl 26 (.tmp 1) rfl (w.heap.size + 1) rfl 26 (part 256) (0, 0) _ (heap_alloc2_new w _ _) Try.underlying26 rfl H1.out ?_)
        | (with_reducible refine wpList_store_row rfl 26 (.tmp 0) (.tmp 12) rfl w.heap.size (part 256) rfl rfl 26 (part 0) (heap_alloc2_old w _ _) H1.out (by rw [part_size, part_size]) (part_one 256) ?_))
      exact bodyPost_ret_by (v := .agg (part 256)) (results_cell_row rfl _ _ w.heap.size 26 (part 256) (0, 0) _ rfl (setRow_heap _ _ _ _ _ _ (heap_alloc2_old w _ _)) Try.underlying26 rfl H1.out) rfl ⟨rfl, below_setRow (((Below.refl _ _).alloc (Nat.le_refl _) _).alloc (by simp) _) _ _ (Nat.le_refl _)⟩

end Go.Proofs.Ytniemomngggifaa.CrcWalk

/-
  Contract of layer 2 (crc): Sum.
-/
namespace Go.Proofs.Ytniemomngggifaa.CrcWalk
open Go.RowKit Go.Proofs.Ytniemomngggifaa.CrcMath Go.Proofs.Ytniemomngggifaa.NumMem

theorem reg_take (r : Nat) (l : List UInt8) (k : Nat) (h : k < l.length) : reg r (l.take (k + 1)) = upd (reg r (l.take k)) (l.getD k 0).toNat := by
  rw [List.take_succ_eq_append_getElem h, reg_append]
  simp [reg, List.getD, h]

/-- The entry's number. -/
theorem low_byte (x c : Nat) (hc : c < 256) : bits .xor .u8 ((x : Int) % 256) (c : Int) = (((x ^^^ c) % 256 : Nat) : Int) := by
  have e : (x : Int) % 256 = ((x % 256 : Nat) : Int) := by omega
  rw [e, u8_xor_nat _ _ (by omega) hc]
  have h : (x ^^^ c) % 2 ^ 8 = x % 2 ^ 8 ^^^ c % 2 ^ 8 := Nat.xor_mod_two_pow
  have h2 : c % 2 ^ 8 = c := by omega
  rw [h2] at h
  congr 1
  exact h.symm
theorem upd_bits (x c j : Nat) (hx : x < 4294967296) (hc : c < 256) (hj : (x ^^^ c) % 256 = j) : bits .xor .u32 ((x : Int) / 256) ((step8 j : Nat) : Int) = ((upd x c : Nat) : Int) := by
  have h : j < 256 := by omega
  have h8 := step8_lt j (by omega)
  have e : (x : Int) / 256 = ((x / 256 : Nat) : Int) := by omega
  rw [e, u32_xor_nat _ _ (by omega) h8, upd_table x c hc, hj]
theorem inv_bits (x : Nat) (hx : x < 4294967296) : bits .xor .u32 IntKind.u32.max (x : Int) = ((x ^^^ ones : Nat) : Int) := by
  have e := u32_xor_nat ones x ones_lt hx
  rw [Nat.xor_comm] at e
  exact e

set_option maxRecDepth 100000 in
set_option maxHeartbeats 1000000 in
theorem sum_any (g : Nat) (A : Option Addr) (n cap : Nat) (l : List UInt8) (w : World) (ht : Tab w g) (hr : Rd w A n cap l) :
    Calls Try.prog 27 #[.pointer (some ⟨g, 0, none⟩), .slice A n cap] w fun e w' => e = .returned (.int .u32 (sum l : Nat)) ∧ w = w' := by
  have hn := hr.le
  unfold maxLen at hn
  have hl := hr.len
  have HL := Go.Lib.hid hl
  clear hl
  go_enter Try.func27, Try.ntmps27
  go_wp2
  go_loop [5, 11] (fun r i => ∃ k : Nat, k ≤ n ∧ r = .int .u32 ((reg ones (l.take k) : Nat) : Int) ∧ i = .int .i64 k) (fun _ i => n - (intOf i).toNat)
  case atStart => exact ⟨0, by omega, rfl, rfl⟩
  case round =>
    obtain ⟨k, hk, rfl, rfl⟩ := hrel
    by_cases hlt : k < n
    · obtain ⟨b, o, rfl, hbl, hc⟩ := hr.at_ (by omega)
      have hck := hc k hlt
      clear hc
      have hx := reg_lt ones_lt (l.take k)
      have hs := reg_take ones l k (by rw [HL.out]; exact hlt)
      have HS := Go.Lib.hid hs
      clear hs
      generalize reg ones (l.take k) = x at *
      have hcl := UInt8.toNat_lt (l.getD k 0)
      generalize (l.getD k 0).toNat = c at *
      have e1 := low_byte x c hcl
      obtain ⟨j, hj⟩ : ∃ j, (x ^^^ c) % 256 = j := ⟨_, rfl⟩
      have hj2 : j < 256 := by omega
      have e2 := upd_bits x c j hx hcl hj
      have e3 := ht.cell j hj2
      rw [hj] at e1
      clear hj hr hbl
      go_wp2
      go_round
      case rel => exact ⟨k + 1, by omega, by rw [HS.out], by go_num⟩
      case measure => simp [intOf]; omega
    · obtain rfl : n = k := by omega
      have hsg : IntKind.u32.signed = false := rfl
      have hx := reg_lt ones_lt (l.take n)
      have e1 := inv_bits _ hx
      have HE := Go.Lib.hid e1
      clear e1
      go_wp2
      go_ret
      refine ⟨ret_int ?_, rfl⟩
      rw [HE.out, List.take_of_length_le (by rw [HL.out]; exact Nat.le_refl _)]
      rfl

end Go.Proofs.Ytniemomngggifaa.CrcWalk

/-
  Contracts of layer 2 (crc): putSum, takeSum.
-/
namespace Go.Proofs.Ytniemomngggifaa.CrcWalk
open Go.RowKit Go.Proofs.Ytniemomngggifaa.CrcMath Go.Proofs.Ytniemomngggifaa.NumMem

theorem row_set (L X : List UInt8) (o k : Nat) (c : UInt8) (hk : X.length = k) (ho : o + k < L.length) : (L.take o ++ (X ++ L.drop (o + k))).set (o + k) c = L.take o ++ ((X ++ [c]) ++ L.drop (o + (k + 1))) := by
  subst hk
  have h1 : (L.take o).length = o := by simp; omega
  rw [List.set_append_right _ _ (by omega), h1, Nat.add_sub_cancel_left, List.set_append_right _ _ (by omega), Nat.sub_self, List.drop_eq_getElem_cons ho]
  simp [Nat.add_assoc]

/-- The state of putSum behind k bytes. -/
structure PutAt (w wr : World) (g o : Nat) (t : TypeId) (L : List UInt8) (v k : Nat) : Prop where
  row : Row wr g t (L.take o ++ ((le4 v).take k ++ L.drop (o + k)))
  grown : w.grownBy wr (some g)
  size : wr.heap.size = w.heap.size

theorem putAt_start {w : World} {g o : Nat} {t : TypeId} {L : List UInt8} {v : Nat} (h : Row w g t L) : PutAt w w g o t L v 0 :=
  ⟨by simpa using h, ⟨rfl, rfl, rfl, Nat.le_refl _, fun _ _ _ => rfl⟩, rfl⟩
theorem putAt_cell {w wr : World} {g o : Nat} {t : TypeId} {L : List UInt8} {v k : Nat} (h : PutAt w wr g o t L v k) (hk : k < 4) (ho : o + 4 ≤ L.length) : (∃ x, wr.cell? ⟨g, o + k, none⟩ = some x) ∧ wr.frozen? ⟨g, o + k, none⟩ = false := by
  refine ⟨⟨_, h.row.cell (i := o + k) ?_⟩, h.row.frozen _⟩
  simp only [List.length_append, List.length_take, List.length_drop, le4_length]
  omega
theorem putAt_step {w wr : World} {g o : Nat} {t : TypeId} {L : List UInt8} {v k : Nat} (h : PutAt w wr g o t L v k) (hk : k < 4) (ho : o + 4 ≤ L.length) (x : Int) (hx : x = (((le4 v).getD k 0).toNat : Int)) :
    PutAt w (wr.setCell ⟨g, o + k, none⟩ (.int .u8 x)) g o t L v (k + 1) := by
  subst hx
  refine ⟨?_, grown_setCell h.grown _ _, by simpa [World.setCell] using h.size⟩
  have h2 := h.row.set_ (o + k) ((le4 v).getD k 0)
  rw [row_set L _ o k _ (by rw [List.length_take, le4_length]; omega) (by omega)] at h2
  have e : (le4 v).take (k + 1) = (le4 v).take k ++ [(le4 v).getD k 0] := by
    have hk4 : k < (le4 v).length := by rw [le4_length]; exact hk
    rw [List.take_succ_eq_append_getElem hk4, List.getD, List.getElem?_eq_getElem hk4]
    rfl
  rw [e]
  exact h2

theorem le4_at (v k : Nat) (hk : k < 4) : (((le4 v).getD k 0).toNat : Int) = (v : Int) / 2 ^ (8 * k) % 256 := by
  rcases (by omega : k = 0 ∨ k = 1 ∨ k = 2 ∨ k = 3) with rfl | rfl | rfl | rfl
  · show ((v.toUInt8.toNat : Nat) : Int) = (v : Int) / 1 % 256
    rw [u8]; omega
  · show (((v / 256).toUInt8.toNat : Nat) : Int) = (v : Int) / 256 % 256
    rw [u8]; omega
  · show (((v / 65536).toUInt8.toNat : Nat) : Int) = (v : Int) / 65536 % 256
    rw [u8]; omega
  · show (((v / 16777216).toUInt8.toNat : Nat) : Int) = (v : Int) / 16777216 % 256
    rw [u8]; omega

theorem word_snoc (l : List UInt8) (c : UInt8) : word (l ++ [c]) = word l + c.toNat * 2 ^ (8 * l.length) := by
  induction l with
  | nil => simp [word]
  | cons d l ih =>
    simp only [List.cons_append, word, List.length_cons, ih]
    have e : 2 ^ (8 * (l.length + 1)) = 256 * 2 ^ (8 * l.length) := by
      rw [Nat.mul_add, Nat.pow_add, Nat.mul_comm]
    rw [e, Nat.mul_add, Nat.add_assoc, Nat.mul_left_comm]
theorem word_take (l : List UInt8) (k : Nat) (h : k < l.length) : word (l.take (k + 1)) = word (l.take k) + (l.getD k 0).toNat * 2 ^ (8 * k) := by
  have e : (l.take k).length = k := by rw [List.length_take]; omega
  rw [List.take_succ_eq_append_getElem h, word_snoc, e]
  simp [List.getD, h]
/-- A byte more, above the others. -/
theorem or_word (x c k : Nat) (hk : k < 4) (hc : c < 256) (hx : x < 2 ^ (8 * k)) : bits .or .u32 (x : Int) (IntKind.u32.wrap ((c : Int) * 2 ^ (8 * k))) = ((x + c * 2 ^ (8 * k) : Nat) : Int) := by
  have key : ∀ m : Nat, m = 2 ^ (8 * k) → c * m < 4294967296 → bits .or .u32 (x : Int) (IntKind.u32.wrap ((c : Int) * 2 ^ (8 * k))) = ((x + c * 2 ^ (8 * k) : Nat) : Int) := by
    intro m hm hlt
    have hc' : c * 2 ^ (8 * k) < 4294967296 := by rw [← hm]; exact hlt
    have e1 : ((c : Int) * 2 ^ (8 * k)) = ((c * 2 ^ (8 * k) : Nat) : Int) := by push_cast; rfl
    have e2 : IntKind.u32.wrap ((c * 2 ^ (8 * k) : Nat) : Int) = ((c * 2 ^ (8 * k) : Nat) : Int) := by rw [IntKind.wrap_u32]; omega
    have hx4 : x < 4294967296 := by
      have : 2 ^ (8 * k) ≤ 2 ^ 32 := Nat.pow_le_pow_right (by omega) (by omega)
      omega
    rw [e1, e2, u32_or_nat _ _ hx4 hc']
    congr 1
    rw [Nat.or_comm, Nat.mul_comm, ← Nat.two_pow_add_eq_or_of_lt hx, Nat.add_comm]
  rcases (by omega : k = 0 ∨ k = 1 ∨ k = 2 ∨ k = 3) with rfl | rfl | rfl | rfl
  · exact key 1 rfl (by omega)
  · exact key 256 rfl (by omega)
  · exact key 65536 rfl (by omega)
  · exact key 16777216 rfl (by omega)

end Go.Proofs.Ytniemomngggifaa.CrcWalk

/-
  Contracts of layer 2 (crc): Seal, Open (and bytes.Clone).
-/
namespace Go.Proofs.Ytniemomngggifaa.CrcWalk
open Go.RowKit Go.Proofs.Ytniemomngggifaa.CrcMath Go.Proofs.Ytniemomngggifaa.NumMem

theorem u8_info : (Try.prog.info? 5).map (fun i => (i.zero, i.size, i.bytes)) = some (some (.int .u8 0), 1, 1) := by kernel_rfl
theorem u8_size : (Try.prog.info? 5).map (·.size) = some 1 := by kernel_rfl

theorem splice_zeros (l : List UInt8) (room : Nat) : splice (cellsOf (List.replicate (l.length + room) 0)) 0 (cellsOf l) = cellsOf (l ++ List.replicate room 0) := by
  unfold splice
  rw [cellsOf_append, cellsOf_length]
  simp [cellsOf]

theorem still {P : Program} {f : FuncId} {args : Array Value} {w : World} {n : Nat} {v : Value} (h : Calls P f args (w.drewN n) fun e w' => e = .returned v ∧ w.drewN n = w') : Calls P f args (w.drewN n) fun e w' => e = .returned v ∧ ∃ m, w' = w.drewN m :=
  h.mono fun _ _ hh => ⟨hh.1, n, hh.2.symm⟩
theorem bel_drewN {B : Nat} {a w : World} (h : Below B a w) (n : Nat) : Below B a (w.drewN n) := ⟨h.os, h.tape, h.output, h.size, h.block⟩
theorem Tab.drewN {w : World} {g : Nat} (h : Tab w g) (n : Nat) : Tab (w.drewN n) g := h
theorem Tab.drew {w : World} {g : Nat} (h : Tab w g) : Tab w.drew g := h
theorem undrew {w w' : World} {r : Option Nat} (h : w.drew.grownBy w' r) : w.grownBy w' r := ⟨h.os, h.tape, h.output, h.size, h.block⟩
theorem below_chain {w w1 w2 : World} (h1 : Below w.heap.size w w1) (h2 : Below w1.heap.size w1 w2) : Below w.heap.size w w2 := h1.trans (h2.mono h1.size)

theorem seal_row (l z : List UInt8) (n : Nat) (hl : l.length = n) : (l ++ List.replicate 4 (0 : UInt8)).take n ++ (z ++ (l ++ List.replicate 4 (0 : UInt8)).drop (n + 4)) = l ++ z := by
  subst hl
  have h : (l ++ List.replicate 4 (0 : UInt8)).drop (l.length + 4) = [] := List.drop_eq_nil_of_le (by simp)
  rw [h, List.take_left]
  simp

theorem elem_bytes : Try.prog.elem 22 = 5 := by kernel_rfl
theorem run_size_u8 (W : World) : (sizeOf 5).run Try.prog W = .ok 1 W := by
  have hi := u8_size
  cases hq : Try.prog.info? 5 with
  | none => simp [hq] at hi
  | some i =>
    have hs : i.size = 1 := by simpa [hq] using hi
    simp [sizeOf, typeInfo, hq, hs]
/-- v[m:] of bytes. -/
theorem slice_from (b o n cap m k : Nat) (h : m ≤ n) (hc : m < cap) (hk : n - m = k) (W : World) :
    (Instr.slice 22 (.slice (some ⟨b, o, none⟩) n cap) (some (.int .i64 (m : Int))) none none).run Try.prog W = .ok (.slice (some ⟨b, o + m, none⟩) k (cap - m)) W := by
  have hu : Try.prog.underlying 22 = some (.slice (Try.prog.elem 22)) := by rw [elem_bytes]; exact Try.underlying22
  have e : (⟨b, o, none⟩ : Addr).add m = ⟨b, o + m, none⟩ := by unfold Addr.add; split <;> simp_all
  rw [run_slice_l (P := Try.prog) W 22 _ n cap hu .i64 (m : Int) (by omega) (by omega), elem_bytes, run_size_u8]
  simp only [Result.andThen, sliced, Int.toNat_natCast, Nat.mul_one, Option.map_some, e, hk]
  rw [if_neg (by omega)]
/-- v[:m] of bytes. -/
theorem slice_upto (A : Option Addr) (n cap m : Nat) (hc : m ≤ cap) (W : World) :
    (Instr.slice 22 (.slice A n cap) none (some (.int .i64 (m : Int))) none).run Try.prog W = .ok (.slice A m cap) W := by
  have hu : Try.prog.underlying 22 = some (.slice (Try.prog.elem 22)) := by rw [elem_bytes]; exact Try.underlying22
  have e : A.map (·.add 0) = A := by cases A <;> simp [Addr.add]
  rw [run_slice_h (P := Try.prog) W 22 _ n cap hu .i64 (m : Int) (by omega) (by omega), elem_bytes, run_size_u8]
  simp only [Result.andThen, sliced, Int.toNat_natCast, Nat.zero_mul, e, Nat.sub_zero]
  congr 2
  split <;> rfl

/-- bytes.Clone. -/
def Cloned (w : World) (n : Nat) (l : List UInt8) (e : Ending) (w' : World) : Prop := ∃ A cap, e = .returned (.slice A n cap) ∧ Rd w' A n cap l ∧ Below w.heap.size w w'

set_option maxHeartbeats 1000000 in
set_option maxRecDepth 100000 in
theorem clone_any (A : Option Addr) (n cap : Nat) (l : List UInt8) (w : World) (h : Rd w A n cap l) (hn : n ≤ 140737488355328) :
    Calls Try.prog 26 #[.slice A n cap] w (Cloned w n l) := by
  cases A with
  | none =>
    have hn0 : n = 0 := by
      rcases Nat.eq_zero_or_pos n with h0 | h0
      · exact h0
      · obtain ⟨b, o, hh, _⟩ := h.2.2.2 h0
        cases hh
    subst hn0
    have hl := h.len
    have hq := fun W => Go.Lib.run_eql_slice_nil (P := Try.prog) W 22 5 none 0 cap 0 0 Try.underlying22
    go_enter Try.func26, Try.ntmps26
    go_wp2_with fail
    go_ret
    exact ⟨none, 0, rfl, ⟨hl, Nat.le_refl _, Nat.zero_le _, fun h => absurd h (by omega)⟩, Below.refl _ _⟩
  | some a =>
    have hb : Below w.heap.size w (w.alloc (.cells #[] 5)) := (Below.refl _ _).alloc (Nat.le_refl _) _
    have hq := fun W => Go.Lib.run_eql_slice_nil (P := Try.prog) W 22 5 (some a) n cap 0 0 Try.underlying22
    go_enter Try.func26, Try.ntmps26
    go_wp2_with (at_builtin; refine wpList_append_fresh rfl (.tmp 5) (.tmp 6) 22 rfl 5 Try.underlying22 u8_info rfl rfl (Own.empty w 5 (Nat.le_refl _)) (h.below hb) hn hb.size w hb ?_; intro A5 c5 w5 o5 b5)
    go_ret
    exact ⟨A5, c5, rfl, o5.rd, b5⟩

/-- What Open tells of a seal. -/
def Opened (w : World) (n : Nat) (x : List UInt8) (e : Ending) (w' : World) : Prop := ∃ A cap, e = .returned (.tuple #[.slice A n cap, .int .i64 0]) ∧ Rd w' A n cap x ∧ Below w.heap.size w w'

theorem open_math (l : List UInt8) (m : Nat) (h : l.length = m + 4) : word (l.drop m) = sum (l.take m) ↔ closedB (l.take m) = l := by
  have hd : (l.drop m).length = 4 := by simp [h]
  constructor
  · intro e
    unfold closedB
    rw [← e, le4_word _ hd, List.take_append_drop]
  · intro e
    have e2 : l.drop m = le4 (sum (l.take m)) := by
      have h1 : (l.take m ++ le4 (sum (l.take m))) = l.take m ++ l.drop m := by rw [List.take_append_drop]; exact e
      exact (List.append_cancel_left h1).symm
    rw [e2, word_le4 (sum_lt _)]

end Go.Proofs.Ytniemomngggifaa.CrcWalk

/-
  Contracts of the document's own answers for layer 2 (registrarref02): Entry, Sum, Seal, Open.
-/
namespace Go.Proofs.Ytniemomngggifaa.CrcWalk
open Go.RowKit Go.Proofs.Ytniemomngggifaa.CrcMath Go.Proofs.Ytniemomngggifaa.NumMem

set_option maxHeartbeats 400000 in
set_option maxRecDepth 100000 in
theorem refEntry_any (i : Nat) (w : World) (hi : i < 4294967296) :
    Calls Try.prog 29 #[.int .i64 (i : Int)] w fun e w' => e = .returned (.int .u32 (step8 i : Nat)) ∧ w = w' := by
  go_enter Try.func29, Try.ntmps29
  go_wp2
  go_loop [3, 4] (fun r c => ∃ k : Nat, k ≤ 8 ∧ r = .int .u32 ((steps k i : Nat) : Int) ∧ c = .int .i64 k) (fun _ c => 8 - (intOf c).toNat)
  case atStart => exact ⟨0, by omega, rfl, rfl⟩
  case round =>
    obtain ⟨k, hk, rfl, rfl⟩ := hrel
    by_cases hlt : k < 8
    · have hx := steps_lt k hi
      have hs : steps (k + 1) i = stepB (steps k i) := rfl
      have HS := Go.Lib.hid hs
      clear hs
      generalize steps k i = x at *
      by_cases hp : x % 2 = 1
      · have ex := xor_poly x hx
        have ea : (x : Int) % 2 = 1 := by omega
        have HP := Go.Lib.hid hp
        clear hp
        go_wp2
        go_round
        case rel => exact ⟨k + 1, by omega, by rw [HS.out, step_odd HP.out], by go_num⟩
        case measure => simp [intOf]; omega
      · have ea : (x : Int) % 2 = 0 := by omega
        have HP := Go.Lib.hid hp
        clear hp
        go_wp2
        go_round
        case rel => exact ⟨k + 1, by omega, by rw [HS.out, step_evn HP.out]; go_num, by go_num⟩
        case measure => simp [intOf]; omega
    · obtain rfl : k = 8 := by omega
      go_wp2
      go_ret
      exact ⟨by rw [steps_8]; rfl, rfl⟩

theorem xor32 (x c : Nat) (hx : x < 4294967296) (hc : c < 256) : bits .xor .u32 (x : Int) (c : Int) = ((x ^^^ c : Nat) : Int) := u32_xor_nat x c hx (by omega)

set_option maxRecDepth 100000 in
set_option maxHeartbeats 1000000 in
theorem refSum_any (A : Option Addr) (n cap : Nat) (l : List UInt8) (w : World) (hr : Rd w A n cap l) :
    Calls Try.prog 24 #[.slice A n cap] w fun e w' => e = .returned (.int .u32 (sum l : Nat)) ∧ w = w' := by
  have hn := hr.le
  unfold maxLen at hn
  have hl := hr.len
  have HL := Go.Lib.hid hl
  clear hl
  go_enter Try.func24, Try.ntmps24
  go_wp2
  go_loop [3, 4] (fun r i => ∃ k : Nat, k ≤ n ∧ r = .int .u32 ((reg ones (l.take k) : Nat) : Int) ∧ i = .int .i64 k) (fun _ i => n - (intOf i).toNat)
  case atStart => exact ⟨0, by omega, rfl, rfl⟩
  case round =>
    obtain ⟨k, hk, rfl, rfl⟩ := hrel
    by_cases hlt : k < n
    · obtain ⟨b, o, rfl, hbl, hc⟩ := hr.at_ (by omega)
      have hck := hc k hlt
      clear hc
      have hx := reg_lt ones_lt (l.take k)
      have hs := reg_take ones l k (by rw [HL.out]; exact hlt)
      have HS := Go.Lib.hid hs
      clear hs
      generalize reg ones (l.take k) = x at *
      have hcl := UInt8.toNat_lt (l.getD k 0)
      generalize (l.getD k 0).toNat = c at *
      have e1 := xor32 x c hx hcl
      have hy := xor_byte_lt hx hcl
      obtain ⟨j, hj⟩ : ∃ j, (x ^^^ c) % 256 = j := ⟨_, rfl⟩
      have hj2 : j < 256 := by omega
      have e2 := upd_bits x c j hx hcl hj
      have HJ := Go.Lib.hid hj
      clear hj hr hbl
      generalize x ^^^ c = y at *
      have hj3 : (y : Int) % 256 = (j : Int) := by have := HJ.out; omega
      go_wp2_with (go_at_call 29; refine (refEntry_any j _ (by omega)).mono ?_; rintro e w' ⟨rfl, rfl⟩)
      go_round
      case rel => exact ⟨k + 1, by omega, by rw [HS.out], by go_num⟩
      case measure => simp [intOf]; omega
    · obtain rfl : n = k := by omega
      have hx := reg_lt ones_lt (l.take n)
      have e1 : bits .xor .u32 ((reg ones (l.take n) : Nat) : Int) 4294967295 = ((reg ones (l.take n) ^^^ ones : Nat) : Int) := u32_xor_nat _ ones hx ones_lt
      have HE := Go.Lib.hid e1
      clear e1
      go_wp2
      go_ret
      refine ⟨ret_int ?_, rfl⟩
      rw [HE.out, List.take_of_length_le (by rw [HL.out]; exact Nat.le_refl _)]
      rfl

theorem cells_le4 (v : Nat) (hv : v < 4294967296) : #[Value.int .u8 ((v : Int) % 256), .int .u8 ((v : Int) / 256 % 256), .int .u8 ((v : Int) / 65536 % 256), .int .u8 ((v : Int) / 16777216)] = (cellsOf (le4 v)).toArray := by
  have h := fun k hk => le4_at v k hk
  have h0 := h 0 (by omega)
  have h1 := h 1 (by omega)
  have h2 := h 2 (by omega)
  have h3 := h 3 (by omega)
  have e : cellsOf (le4 v) = [.int .u8 (((le4 v).getD 0 0).toNat : Int), .int .u8 (((le4 v).getD 1 0).toNat : Int), .int .u8 (((le4 v).getD 2 0).toNat : Int), .int .u8 (((le4 v).getD 3 0).toNat : Int)] := rfl
  have h4 : (v : Int) / 2 ^ (8 * 3) % 256 = (v : Int) / 16777216 := by
    show (v : Int) / 16777216 % 256 = _
    omega
  rw [e, h0, h1, h2, h3, h4]
  simp

/-- A slice in new memory that reads as l. -/
def Fresh (w : World) (n : Nat) (l : List UInt8) (e : Ending) (w' : World) : Prop := ∃ A cap, e = .returned (.slice A n cap) ∧ Rd w' A n cap l ∧ Below w.heap.size w w'

theorem rd_str {w : World} {A : Option Addr} {n cap : Nat} {l : List UInt8} (h : Rd w A n cap l) : (convert 22 9 (.slice A n cap)).run Try.prog w = .ok (.string ⟨l.toArray⟩) w :=
  h.string (P := Try.prog) 22 9 5 Try.underlying22 Try.underlying5 Try.underlying9

theorem row_rd {w : World} {g : Nat} {t : TypeId} {l : List UInt8} {n : Nat} (h : Row w g t l) (hl : l.length = n) (hn : n ≤ 281474976710656) : Rd w (some ⟨g, 0, none⟩) n n l := by
  subst hl
  exact h.rd (by unfold maxLen; omega)

end Go.Proofs.Ytniemomngggifaa.CrcWalk

/-
  Contracts of the document's answers of layer 9: four, Put.
-/
namespace Go.Proofs.Ytniemomngggifaa.FrWalk
open Go.RowKit Go.Proofs.Ytniemomngggifaa.MemRow Go.Proofs.Ytniemomngggifaa.NumMem Go.Proofs.Ytniemomngggifaa.CrcMath Go.Proofs.Ytniemomngggifaa.CrcWalk Go.Proofs.Ytniemomngggifaa.FrMath

set_option maxHeartbeats 1000000 in
set_option maxRecDepth 100000 in
theorem refFour_any (v : Nat) (w : World) (hv : v < 4294967296) :
    Calls Try.prog 23 #[.int .u32 (v : Int)] w fun e w' => ∃ A c, e = .returned (.slice A 4 c) ∧ Rd w' A 4 c (le4 v) ∧ Below w.heap.size w w' := by
  have hcs := cells_le4 v hv
  have al : Below w.heap.size w (w.alloc (.cells #[Value.int .u8 ((v : Int) % 256), .int .u8 ((v : Int) / 256 % 256), .int .u8 ((v : Int) / 65536 % 256), .int .u8 ((v : Int) / 16777216)] 5)) := (Below.refl _ _).alloc (Nat.le_refl _) _
  have r6 : Rd (w.alloc (.cells #[Value.int .u8 ((v : Int) % 256), .int .u8 ((v : Int) / 256 % 256), .int .u8 ((v : Int) / 65536 % 256), .int .u8 ((v : Int) / 16777216)] 5)) (some ⟨w.heap.size, 0, none⟩) 4 4 (le4 v) := by
    rw [hcs]
    exact (Row.new w 5 (le4 v)).rd (by unfold maxLen; rw [le4_length]; omega)
  have HV := Go.Lib.hid hv
  clear hcs
  go_enter Try.func23, Try.ntmps23
  go_wp2_with fail
  go_ret
  exact ⟨_, _, rfl, r6, al⟩

def putC (l : List UInt8) : Int := if maxF < l.length then 3 else 0
def putB (l : List UInt8) : List UInt8 := if maxF < l.length then [] else frameF l
/-- What a frame that is put comes to. -/
def PutOut (l : List UInt8) (w : World) (e : Ending) (w' : World) : Prop :=
  ∃ A m c, e = .returned (.tuple #[.slice A m c, .int .i64 (putC l)]) ∧ Rd w' A m c (putB l) ∧ Below w.heap.size w w'
set_option maxHeartbeats 2000000 in
set_option maxRecDepth 100000 in
theorem refPutF_any (A : Option Addr) (n cap : Nat) (l : List UInt8) (w : World) (h : Rd w A n cap l) :
    Calls Try.prog 12 #[.slice A n cap] w (PutOut l w) := by
  have hl := h.len
  by_cases hn : n ≤ 16384
  · have i1 : ¬ (n : Int) > 16384 := by omega
    have ec : putC l = 0 := by unfold putC maxF; rw [if_neg (by omega)]
    have eb : putB l = frameF l := by unfold putB maxF; rw [if_neg (by omega)]
    unfold PutOut
    rw [ec, eb]
    have hw : IntKind.u32.wrap (n : Int) = (n : Int) := IntWalk.u32_in _ (by omega)
    have HL := Go.Lib.hid hl
    clear ec eb hl
    go_enter Try.func12, Try.ntmps12
    go_wp2_with fail
    refine (refFour_any n w (by omega)).mono ?_
    rintro e w1 ⟨A1, c1, rfl, r1, b1⟩
    have al1 : Below w1.heap.size w1 (w1.alloc (.cells #[] 5)) := (Below.refl _ _).alloc (Nat.le_refl _) _
    have r1' := r1.below al1
    have R0 := Go.Lib.hid h
    have R1 := Go.Lib.hid r1
    clear r1 h
    go_wp2_with (first
      | (at_builtin; refine wpList_append_fresh rfl (.tmp 14) (.tmp 15) 22 rfl 5 Try.underlying22 u8_info rfl rfl (Own.empty w1 5 (Nat.le_refl _)) r1' (by omega) al1.size w1 al1 ?_; intro A2 c2 w2 o2 b2; have r2 := R0.out.below (below_chain b1 b2))
      | (at_builtin; refine wpList_append_more rfl (.tmp 16) (.tmp 17) 22 rfl 5 Try.underlying22 u8_info rfl rfl o2 r2 (by omega) b2.size w1 b2 ?_; intro A3 c3 w3 o3 b3; clear o2 r2 r1' al1))
    have b3' := below_chain b1 b3
    have ho3 := o3.rd
    have hs := sum_lt (le4 n ++ l)
    refine (refSum_any A3 (4 + n) c3 _ w3 ho3).mono ?_
    rintro e w' ⟨rfl, rfl⟩
    generalize hv : sum (le4 n ++ l) = v at *
    have HV := Go.Lib.hid hv
    have al3 : Below w3.heap.size w3 (w3.alloc (.cells #[] 5)) := (Below.refl _ _).alloc (Nat.le_refl _) _
    have r3 := R1.out.below (below_chain b3 al3)
    clear hv ho3 o3
    go_wp2_with (first
      | (at_builtin; refine wpList_append_fresh rfl (.tmp 20) (.tmp 21) 22 rfl 5 Try.underlying22 u8_info rfl rfl (Own.empty w3 5 (Nat.le_refl _)) r3 (by omega) al3.size w3 al3 ?_; intro A4 c4 w4 o4 b4))
    refine (refFour_any v w4 hs).mono ?_
    rintro e w5 ⟨A5, c5, rfl, r5, b5⟩
    have o5 := o4.below b5
    have b5' := b4.trans (b5.mono b4.size)
    clear o4 b4 b5 al3 r3
    go_wp2_with (first
      | (at_builtin; refine wpList_append_more rfl (.tmp 23) (.tmp 25) 22 rfl 5 Try.underlying22 u8_info rfl rfl o5 r5 (by omega) b5'.size w3 b5' ?_; intro A6 c6 w6 o6 b6; have r6 := R0.out.below (below_chain b3' b6); clear o5 r5 b5')
      | (at_builtin; refine wpList_append_more rfl (.tmp 27) (.tmp 28) 22 rfl 5 Try.underlying22 u8_info rfl rfl o6 r6 (by omega) b6.size w3 b6 ?_; intro A7 c7 w7 o7 b7; clear o6 r6 b6))
    go_ret2
    refine ⟨A7, _, c7, rfl, ?_, below_chain b3' b7⟩
    have e7 : le4 n ++ le4 v ++ l = frameF l := by
      rw [← HV.out, ← HL.out, List.append_assoc]
      rfl
    rw [← e7]
    exact o7.rd
  · have i1 : (n : Int) > 16384 := by omega
    have ec : putC l = 3 := by unfold putC maxF; rw [if_pos (by omega)]
    have eb : putB l = [] := by unfold putB maxF; rw [if_pos (by omega)]
    unfold PutOut
    rw [ec, eb]
    clear ec eb hl
    go_enter Try.func12, Try.ntmps12
    go_wp2_with fail
    go_ret2
    exact ⟨none, 0, 0, rfl, Rd.nil _, Below.refl _ _⟩

end Go.Proofs.Ytniemomngggifaa.FrWalk

/-
  Contracts of the document's answers of layer 9: Take.
-/
namespace Go.Proofs.Ytniemomngggifaa.FrWalk
open Go.RowKit Go.Proofs.Ytniemomngggifaa.MemRow Go.Proofs.Ytniemomngggifaa.NumMem Go.Proofs.Ytniemomngggifaa.CrcMath Go.Proofs.Ytniemomngggifaa.CrcWalk Go.Proofs.Ytniemomngggifaa.FrMath

/-- v[i:j] of bytes. -/
theorem slice_mid {w : World} {A : Option Addr} {n cap : Nat} {l : List UInt8} (h : Rd w A n cap l) {i j : Nat} {x y : Int} (hx : x = i) (hy : y = j) (hij : i ≤ j) (hj : j ≤ n) :
    ∃ A1 c1, (∀ W, (Instr.slice 22 (.slice A n cap) (some (.int .i64 x)) (some (.int .i64 y)) none).run Try.prog W = .ok (.slice A1 (j - i) c1) W) ∧ Rd w A1 (j - i) c1 ((l.drop i).take (j - i)) := by
  subst hx hy
  have hc := h.le_cap
  refine ⟨_, _, fun W => ?_, (h.cut (k := i) (by omega)).first (k := j - i) (by omega)⟩
  have hu : Try.prog.underlying 22 = some (.slice (Try.prog.elem 22)) := by rw [elem_bytes]; exact Try.underlying22
  rw [run_slice_lh (P := Try.prog) W 22 _ n cap hu .i64 .i64 (i : Int) (j : Int) (by omega) (by omega) (by omega), elem_bytes, run_size_u8]
  simp only [Result.andThen, sliced, Int.toNat_natCast, Nat.mul_one]
/-- v[i:] of bytes. -/
theorem slice_low {w : World} {A : Option Addr} {n cap : Nat} {l : List UInt8} (h : Rd w A n cap l) {i : Nat} (hi : i ≤ n) :
    ∃ A1, (∀ W, (Instr.slice 22 (.slice A n cap) (some (.int .i64 (i : Int))) none none).run Try.prog W = .ok (.slice A1 (n - i) (cap - i)) W) ∧ Rd w A1 (n - i) (cap - i) (l.drop i) := by
  refine ⟨_, fun W => ?_, h.cut hi⟩
  have hu : Try.prog.underlying 22 = some (.slice (Try.prog.elem 22)) := by rw [elem_bytes]; exact Try.underlying22
  rw [run_slice_l (P := Try.prog) W 22 _ n cap hu .i64 (i : Int) (by omega) (by omega), elem_bytes, run_size_u8]
  simp only [Result.andThen, sliced, Int.toNat_natCast, Nat.mul_one]
theorem word4 (l : List UInt8) (h : 4 ≤ l.length) : word (l.take 4) = (l.getD 0 0).toNat + 256 * (l.getD 1 0).toNat + 65536 * (l.getD 2 0).toNat + 16777216 * (l.getD 3 0).toNat := by
  match l, h with
  | a :: b :: c :: d :: r, _ =>
    simp only [List.take, word, List.getD_cons_zero, List.getD_cons_succ]
    omega

theorem own_low {k : Nat} {w : World} {base base' : Nat} {t : TypeId} {A : Option Addr} {n cap : Nat} {cs : List Value} (h : OwnC k w base t A n cap cs) (hb : base' ≤ base) : OwnC k w base' t A n cap cs := by
  refine ⟨h.1, ?_⟩
  rcases h.2 with h2 | ⟨g, c, cur, hv, hg, h3⟩
  · exact .inl h2
  · exact .inr ⟨g, c, cur, hv, Nat.le_trans hb hg, h3⟩

def takeB (l : List UInt8) : List UInt8 := (takeF l).getD []
def takeN (l : List UInt8) : Nat := match takeF l with
  | none => 0
  | some x => 8 + x.length
theorem takeN_none {l : List UInt8} (h : takeF l = none) : takeN l = 0 := by unfold takeN; rw [h]
theorem takeN_some {l x : List UInt8} (h : takeF l = some x) : takeN l = 8 + x.length := by unfold takeN; rw [h]
theorem takeB_none {l : List UInt8} (h : takeF l = none) : takeB l = [] := by unfold takeB; rw [h]; rfl
theorem takeB_some {l x : List UInt8} (h : takeF l = some x) : takeB l = x := by unfold takeB; rw [h]; rfl
/-- What a frame that is taken comes to. -/
def TakeOut (l : List UInt8) (w : World) (e : Ending) (w' : World) : Prop :=
  ∃ A m c, e = .returned (.tuple #[.slice A m c, .int .i64 (takeN l : Nat)]) ∧ Own w' w.heap.size 5 A m c (takeB l) ∧ Below w.heap.size w w'
theorem bytes_apart {a b : List UInt8} (h : a ≠ b) : (a == b) = false := by rw [beq_eq_false_iff_ne]; exact h
theorem bytes_str {w : World} {A : Option Addr} {n cap : Nat} {l : List UInt8} (h : Rd w A n cap l) : (convert 22 9 (.slice A n cap)).run Try.prog w = .ok (.string ⟨l.toArray⟩) w :=
  h.string (P := Try.prog) 22 9 5 Try.underlying22 Try.underlying5 Try.underlying9
theorem none_out {l : List UInt8} (ht : takeF l = none) {w w' : World} (hb : Below w.heap.size w w') : TakeOut l w (.returned (.tuple #[.slice none 0 0, .int .i64 0])) w' :=
  ⟨none, 0, 0, by rw [takeN_none ht]; rfl, by rw [takeB_none ht]; exact OwnC.nil (k := 1) _ _, hb⟩
set_option maxHeartbeats 4000000 in
set_option maxRecDepth 100000 in
theorem refTakeF_any (A : Option Addr) (n cap : Nat) (l : List UInt8) (w : World) (h : Rd w A n cap l) :
    Calls Try.prog 14 #[.slice A n cap] w (TakeOut l w) := by
  have hl := h.len
  have hnm := h.le
  unfold maxLen at hnm
  by_cases h8 : n < 8
  · have i1 : (n : Int) < 8 := by omega
    have ht := take_none_short (l := l) (by omega)
    clear hl
    go_enter Try.func14, Try.ntmps14
    go_wp2_with fail
    go_ret2
    exact none_out ht (Below.refl _ _)
  · have i1 : ¬ (n : Int) < 8 := by omega
    have R0 := Go.Lib.hid h
    obtain ⟨b, o, rfl, _, hc⟩ := h.at_ (by omega)
    have k0 := hc 0 (by omega)
    have k1 := hc 1 (by omega)
    have k2 := hc 2 (by omega)
    have k3 := hc 3 (by omega)
    rw [Nat.add_zero] at k0
    have hw4 := word4 l (by omega)
    have u0 := UInt8.toNat_lt (l.getD 0 0)
    have u1 := UInt8.toNat_lt (l.getD 1 0)
    have u2 := UInt8.toNat_lt (l.getD 2 0)
    have u3 := UInt8.toNat_lt (l.getD 3 0)
    generalize hN : word (l.take 4) = N at *
    generalize (l.getD 0 0).toNat = a0 at *
    generalize (l.getD 1 0).toNat = a1 at *
    generalize (l.getD 2 0).toNat = a2 at *
    generalize (l.getD 3 0).toNat = a3 at *
    have s0 : IntKind.i64.wrap (a0 : Int) = a0 := IntWalk.i64_in _ (by omega)
    have s1 : IntKind.i64.wrap (a1 : Int) = a1 := IntWalk.i64_in _ (by omega)
    have s2 : IntKind.i64.wrap (a2 : Int) = a2 := IntWalk.i64_in _ (by omega)
    have s3 : IntKind.i64.wrap (a3 : Int) = a3 := IntWalk.i64_in _ (by omega)
    have m1 : IntKind.i64.wrap (256 * (a1 : Int)) = 256 * (a1 : Int) := IntWalk.i64_in _ (by omega)
    have m2 : IntKind.i64.wrap (65536 * (a2 : Int)) = 65536 * (a2 : Int) := IntWalk.i64_in _ (by omega)
    have m3 : IntKind.i64.wrap (16777216 * (a3 : Int)) = 16777216 * (a3 : Int) := IntWalk.i64_in _ (by omega)
    have p1 : IntKind.i64.wrap ((a0 : Int) + 256 * (a1 : Int)) = (a0 : Int) + 256 * (a1 : Int) := IntWalk.i64_in _ (by omega)
    have p2 : IntKind.i64.wrap ((a0 : Int) + 256 * (a1 : Int) + 65536 * (a2 : Int)) = (a0 : Int) + 256 * (a1 : Int) + 65536 * (a2 : Int) := IntWalk.i64_in _ (by omega)
    have p3 : IntKind.i64.wrap ((a0 : Int) + 256 * (a1 : Int) + 65536 * (a2 : Int) + 16777216 * (a3 : Int)) = (N : Int) := by rw [IntWalk.i64_in _ (by omega)]; omega
    have hNl : N < 4294967296 := by omega
    have HN := Go.Lib.hid hN
    have HL := Go.Lib.hid hl
    clear hc hw4 u0 u1 u2 u3 hN hl h
    go_enter Try.func14, Try.ntmps14
    go_wp2_with fail
    go_quiet (fail)
    have bq : Below w.heap.size w (w.drewN nq) := bel_drewN (Below.refl _ _) nq
    have rq := R0.out.below bq
    clear s0 s1 s2 s3 m1 m2 m3 p1 p2 p3 k0 k1 k2 k3
    generalize w.drewN nq = wq at *
    by_cases hb : 16384 < N
    · have i2 : (N : Int) > 16384 := by omega
      have ht : takeF l = none := by
        have := HL.out
        unfold takeF maxF
        rw [HN.out, if_neg (by omega), if_pos hb]
      go_wp2_with fail
      go_ret2
      exact none_out ht bq
    · have i2 : ¬ (N : Int) > 16384 := by omega
      have hs : IntKind.i64.wrap ((n : Int) - 8) = (n : Int) - 8 := IntWalk.i64_in _ (by omega)
      by_cases hb2 : n - 8 < N
      · have i3 : (N : Int) > (n : Int) - 8 := by omega
        have ht : takeF l = none := by
          have := HL.out
          unfold takeF maxF
          rw [HN.out, if_neg (by omega), if_neg hb, if_pos (by omega)]
        go_wp2_with fail
        go_ret2
        exact none_out ht bq
      · have i3 : ¬ (N : Int) > (n : Int) - 8 := by omega
        have hcp := rq.le_cap
        have hs2 : IntKind.i64.wrap (8 + (N : Int)) = 8 + (N : Int) := IntWalk.i64_in _ (by omega)
        obtain ⟨A1, c1, q1, r1⟩ := slice_mid rq (i := 8) (j := 8 + N) (x := 8) (y := 8 + (N : Int)) rfl (by omega) (by omega) (by omega)
        rw [show 8 + N - 8 = N by omega] at q1 r1
        have al : Below wq.heap.size wq (wq.alloc (.cells #[] 5)) := (Below.refl _ _).alloc (Nat.le_refl _) _
        have r1' := r1.below al
        have hxl := r1.len
        clear r1
        go_wp2_with (at_builtin; refine wpList_append_fresh rfl (.tmp 42) (.tmp 46) 22 rfl 5 Try.underlying22 u8_info rfl rfl (Own.empty wq 5 (Nat.le_refl _)) r1' (by omega) al.size wq al ?_; intro A2 c2 w2 o2 b2)
        have o2r := o2.rd
        have b2' := below_chain bq b2
        refine (refPutF_any A2 N c2 _ w2 o2r).mono ?_
        rintro e w3 ⟨A3, m3, c3, rfl, r3, b3⟩
        have ec : putC ((l.drop 8).take N) = 0 := by
          unfold putC maxF
          rw [if_neg (by omega)]
        have eb : putB ((l.drop 8).take N) = frameF ((l.drop 8).take N) := by
          unfold putB maxF
          rw [if_neg (by omega)]
        rw [eb] at r3
        rw [ec]
        have o3 := o2.below b3
        have b3' := b2.trans (b3.mono b2.size)
        have rw3 := (R0.out.below (below_chain b2' b3)).first (k := 8 + N) (by omega)
        have q2 : ∀ W, (Instr.slice 22 (.slice (some ⟨b, o, none⟩) n cap) none (some (.int .i64 (8 + (N : Int)))) none).run Try.prog W = .ok (.slice (some ⟨b, o, none⟩) (8 + N) cap) W := fun W => slice_upto (some ⟨b, o, none⟩) n cap (8 + N) (by omega) W
        have sf := fun q => bytes_str (r3.drewN q)
        have sl := fun q => bytes_str (rw3.drewN q)
        have hbase : w.heap.size ≤ wq.heap.size := bq.size
        clear r1' o2 o2r b2 b2' b3 r3 rw3 ec eb q1 al rq
        have HX : Hid (takeF l = if frameF ((l.drop 8).take N) = l.take (8 + N) then some ((l.drop 8).take N) else none) := by
          have := HL.out
          refine Go.Lib.hid ?_
          unfold takeF maxF
          rw [HN.out, if_neg (by omega), if_neg hb, if_neg (by omega)]
        generalize hx : (l.drop 8).take N = x at *
        clear hx
        generalize l.take (8 + N) = y at *
        by_cases he : frameF x = y
        · subst he
          have ht : takeF l = some x := by
            have := HX.out
            rwa [if_pos rfl] at this
          have HT := Go.Lib.hid ht
          clear ht HX
          go_wp2_with fail
          go_quiet (fail)
          go_wp2_with fail
          go_ret2
          refine ⟨A2, N, c2, ?_, ?_, ?_⟩
          · rw [takeN_some HT.out, hxl]
            rfl
          · rw [takeB_some HT.out]
            exact own_low (k := 1) (o3.below (bel_drewN (Below.refl _ _) _)) hbase
          · exact bel_drewN (below_chain bq b3') _
        · have ht : takeF l = none := by
            have := HX.out
            rwa [if_neg he] at this
          have HT := Go.Lib.hid ht
          have hne := bytes_apart he
          clear ht HX he
          go_wp2_with fail
          go_quiet (fail)
          go_wp2_with fail
          go_ret2
          refine none_out HT.out ?_
          exact bel_drewN (below_chain bq b3') _

end Go.Proofs.Ytniemomngggifaa.FrWalk

/-
  Contracts of the document's answers of layer 9: Scan.
-/
namespace Go.Proofs.Ytniemomngggifaa.FrWalk
open Go.RowKit Go.Proofs.Ytniemomngggifaa.MemRow Go.Proofs.Ytniemomngggifaa.NumMem Go.Proofs.Ytniemomngggifaa.CrcMath Go.Proofs.Ytniemomngggifaa.CrcWalk Go.Proofs.Ytniemomngggifaa.FrMath

theorem join_len : ∀ xs : List (List UInt8), 8 * xs.length ≤ (joinF xs).length
  | [] => Nat.le_refl _
  | x :: xs => by
    have := join_len xs
    rw [joinF_cons, List.length_append, frameF_length, List.length_cons]
    omega
theorem join_snoc (xs : List (List UInt8)) (x : List UInt8) : (joinF (xs ++ [x])).length = (joinF xs).length + (8 + x.length) := by
  rw [joinF_append, joinF_one, List.length_append, frameF_length]
  omega
/-- What all frames come to. -/
def ScanOut (l : List UInt8) (w : World) (e : Ending) (w' : World) : Prop :=
  ∃ A m c, e = .returned (.tuple #[.slice A m c, .int .i64 ((joinF (scanF l)).length : Nat)]) ∧ OwnB w' w.heap.size A m c (scanF l) ∧ Below w.heap.size w w'
set_option maxHeartbeats 4000000 in
set_option maxRecDepth 100000 in
theorem refScanF_any (A : Option Addr) (n cap : Nat) (l : List UInt8) (w : World) (h : Rd w A n cap l) (hn : n ≤ 1000000) :
    Calls Try.prog 16 #[.slice A n cap] w (ScanOut l w) := by
  have al : Below w.heap.size w (w.alloc (.cells #[] 22)) := (Below.refl _ _).alloc (Nat.le_refl _) _
  have o1 := OwnB.empty w (Nat.le_refl w.heap.size)
  have R0 := Go.Lib.hid h
  have HL := Go.Lib.hid h.len
  clear h
  go_enter Try.func16, Try.ntmps16
  go_wp2_with fail
  go_loopw [4, 5, 6, 7] (fun s i _ _ wr => ∃ (A' : Option Addr) (m c j : Nat) (xs : List (List UInt8)), s = .slice A' m c ∧ i = .int .i64 j ∧ j ≤ n ∧ Hid (scanF l = xs ++ scanF (l.drop j)) ∧ Hid ((joinF xs).length = j) ∧ OwnB wr w.heap.size A' m c xs ∧ Below w.heap.size w wr) (fun _ i _ _ _ => n - (intOf i).toNat)
  case atStart => exact ⟨_, 0, 0, 0, [], rfl, rfl, Nat.zero_le _, Go.Lib.hid rfl, Go.Lib.hid rfl, o1, al⟩
  case round =>
    obtain ⟨A', m, c, j, xs, rfl, rfl, hj, HS, HJ, oj, Bj⟩ := hrel
    clear o1 al
    obtain ⟨A1, q1, r1⟩ := slice_low (R0.out.below Bj) hj
    go_wp2_with fail
    refine (refTakeF_any A1 (n - j) (cap - j) (l.drop j) wr r1).mono ?_
    rintro e w2 ⟨A2, m2, c2, rfl, o2, b2⟩
    have oj2 := oj.below b2
    have B2 := below_chain Bj b2
    have hbase := Bj.size
    clear r1 q1 oj Bj
    cases ht : takeF (l.drop j) with
    | none =>
      have e1 : scanF l = xs := by rw [HS.out, scanF_none ht, List.append_nil]
      have E1 := Go.Lib.hid e1
      rw [takeN_none ht]
      clear ht e1
      go_wp2_with fail
      go_ret2
      exact ⟨A', m, c, by (rw [E1.out, HJ.out]; rfl), by rw [E1.out]; exact oj2, B2⟩
    | some x =>
      obtain ⟨hx, hd⟩ := takeF_some ht
      have hle := congrArg List.length hd
      rw [List.length_append, frameF_length, List.length_drop, HL.out] at hle
      rw [takeN_some ht]
      rw [takeB_some ht] at o2
      have HS2 : Hid (scanF l = (xs ++ [x]) ++ scanF (l.drop (j + (8 + x.length)))) := by
        refine Go.Lib.hid ?_
        rw [HS.out, scanF_some ht, List.drop_drop, List.append_assoc]
        rfl
      have HJ2 : Hid ((joinF (xs ++ [x])).length = j + (8 + x.length)) := Go.Lib.hid (by rw [join_snoc, HJ.out])
      have hm8 := join_len xs
      rw [HJ.out, oj2.len] at hm8
      have hk8 : 8 ≤ 8 + x.length := by omega
      have hjk : j + (8 + x.length) ≤ n := by omega
      clear ht hd hle hx
      generalize 8 + x.length = k at *
      have i1 : ¬ (k : Int) = 0 := by omega
      have hw : IntKind.i64.wrap ((j : Int) + (k : Int)) = (j : Int) + (k : Int) := IntWalk.i64_in _ (by omega)
      obtain ⟨cs, oc, hlc, hbc⟩ := oj2
      have al2 : Below w2.heap.size w2 (w2.alloc (.cells #[.slice A2 m2 c2] 22)) := (Below.refl _ _).alloc (Nat.le_refl _) _
      have d2 : RdC 1 (w2.alloc (.cells #[.slice A2 m2 c2] 22)) (some ⟨w2.heap.size, 0, none⟩) 1 1 [.slice A2 m2 c2] := RdC.new w2 _ [.slice A2 m2 c2] rfl (by decide)
      have oc2 := OwnC.below oc al2
      have hbc2 := BsC.map (fun _ _ _ _ h => OwnC.below (k := 1) h al2) xs cs hbc
      have ox2 : Own (w2.alloc (.cells #[.slice A2 m2 c2] 22)) w.heap.size 5 A2 m2 c2 x := own_low (k := 1) (o2.below al2) hbase
      have B3 := below_chain B2 al2
      clear oc hbc o2 b2 B2 al2
      go_wp2_with (at_builtin; refine wpList_append_cells rfl (.tmp 20) (.tmp 22) 37 rfl 22 (.slice none 0 0) 24 Try.underlying37 bytes_info rfl (by decide) rfl rfl oc2 d2 (fun v hv => by rw [List.mem_singleton.1 hv]; rfl) (by unfold maxLen; omega) (by omega) B3.size ?_; intro A4 c4 w4 o4 g4 _)
      have o5 := OwnB.more oc2 hlc hbc2 ox2 o4 g4
      have B5 := below_grown_own oc2 B3 g4 B3.size
      clear oc2 hbc2 ox2 o4 d2
      go_roundw
      case rel => exact ⟨A4, m + 1, c4, j + k, xs ++ [x], rfl, by go_num, hjk, HS2, HJ2, o5, B5⟩
      case measure => simp [intOf]; omega

end Go.Proofs.Ytniemomngggifaa.FrWalk

/-
  Contracts of the document's answers of layer 9: Same.
-/
namespace Go.Proofs.Ytniemomngggifaa.FrWalk
open Go.RowKit Go.Proofs.Ytniemomngggifaa.MemRow Go.Proofs.Ytniemomngggifaa.NumMem Go.Proofs.Ytniemomngggifaa.CrcMath Go.Proofs.Ytniemomngggifaa.CrcWalk Go.Proofs.Ytniemomngggifaa.FrMath

theorem rows_take (l : List (List UInt8)) (j : Nat) (h : j < l.length) : l.take (j + 1) = l.take j ++ [l.getD j []] := by
  rw [List.take_succ_eq_append_getElem h]
  simp [List.getD, List.getElem?_eq_getElem h]
theorem RdB.drewN {w : World} {A : Option Addr} {n cap : Nat} {xs : List (List UInt8)} (h : RdB w A n cap xs) (q : Nat) : RdB (w.drewN q) A n cap xs := h
set_option maxHeartbeats 4000000 in
set_option maxRecDepth 100000 in
theorem refSameB_any (A B : Option Addr) (n m ca cb : Nat) (ss tt : List (List UInt8)) (w : World) (ha : RdB w A n ca ss) (hb : RdB w B m cb tt) :
    Calls Try.prog 17 #[.slice A n ca, .slice B m cb] w fun e w' => e = .returned (.bool (decide (ss = tt))) ∧ ∃ k, w' = w.drewN k := by
  have hn := ha.le
  have hm := hb.le
  unfold maxLen at hn hm
  have la := ha.len
  have lb := hb.len
  by_cases hnm : n = m
  · subst hnm
    generalize hR : decide (ss = tt) = R
    have HR := Go.Lib.hid hR
    have LA := Go.Lib.hid la
    have LB := Go.Lib.hid lb
    clear hR la lb
    go_enter Try.func17, Try.ntmps17
    go_wp2_with fail
    go_loopw [5] (fun i wr => ∃ j : Nat, j ≤ n ∧ i = .int .i64 j ∧ ss.take j = tt.take j ∧ ∃ q, wr = w.drewN q) (fun i _ => n - (intOf i).toNat)
    case atStart => exact ⟨0, Nat.zero_le _, rfl, rfl, 0, rfl⟩
    case round =>
      obtain ⟨j, hj, rfl, hq, q, hw⟩ := hrel
      have HQ := Go.Lib.hid hq
      clear hq
      have ha' : RdB wr A n ca ss := by rw [hw]; exact ha
      have hb' : RdB wr B n cb tt := by rw [hw]; exact hb
      have HW := Go.Lib.hid hw
      clear hw
      by_cases hlt : j < n
      · obtain ⟨ba, oa, rfl, _, ka⟩ := ha'.at_ (by omega)
        obtain ⟨bb, ob, rfl, _, kb⟩ := hb'.at_ (by omega)
        obtain ⟨A1, n1, c1, ka1, ra1⟩ := ka j hlt
        obtain ⟨B1, m1, d1, kb1, rb1⟩ := kb j hlt
        have i1 : (j : Int) < n := by omega
        have ta := rows_take ss j (by rw [LA.out]; exact hlt)
        have tb := rows_take tt j (by rw [LB.out]; exact hlt)
        have TA := Go.Lib.hid ta
        have TB := Go.Lib.hid tb
        clear ka kb ta tb ha' hb'
        generalize hx : ss.getD j [] = x at *
        generalize hy : tt.getD j [] = y at *
        have HX := Go.Lib.hid hx
        have HY := Go.Lib.hid hy
        have sa := fun q => bytes_str (ra1.drewN q)
        have sb := fun q => bytes_str (rb1.drewN q)
        clear hx hy ra1 rb1
        by_cases hxy : x = y
        · subst hxy
          go_wp2_with fail
          go_quiet (fail)
          go_wp2_with fail
          go_roundw
          case rel => exact ⟨j + 1, by omega, by go_num, by rw [TA.out, TB.out, HQ.out], q + nq, by rw [HW.out, World.drewN_drewN]⟩
          case measure => simp [intOf]; omega
        · have hne := bytes_apart hxy
          have hR : R = false := by
            rw [← HR.out]
            refine decide_eq_false fun h => hxy ?_
            rw [← HX.out, ← HY.out, h]
          subst hR
          go_wp2_with fail
          go_quiet (fail)
          go_wp2_with fail
          go_ret
          exact ⟨rfl, q + nq, by rw [HW.out, World.drewN_drewN]⟩
      · obtain rfl : n = j := by omega
        have hR : R = true := by
          rw [← HR.out]
          refine decide_eq_true ?_
          have h1 := HQ.out
          rwa [List.take_of_length_le (by rw [LA.out]; exact Nat.le_refl _), List.take_of_length_le (by rw [LB.out]; exact Nat.le_refl _)] at h1
        subst hR
        go_wp2_with fail
        go_ret
        exact ⟨rfl, q, HW.out⟩
  · have hR : decide (ss = tt) = false := decide_eq_false fun h => hnm (by rw [← la, ← lb, h])
    have i1 : ¬ (n : Int) = m := by omega
    rw [hR]
    clear hR la lb
    go_enter Try.func17, Try.ntmps17
    go_wp2_with fail
    go_ret
    exact ⟨rfl, 0, rfl⟩

end Go.Proofs.Ytniemomngggifaa.FrWalk

/-
  Contracts of the landed frame: putWord, takeWord; append onto a slice without room.
-/
namespace Go.Proofs.Ytniemomngggifaa.FrWalk
open Go.RowKit Go.Proofs.Ytniemomngggifaa.MemRow Go.Proofs.Ytniemomngggifaa.NumMem Go.Proofs.Ytniemomngggifaa.CrcMath Go.Proofs.Ytniemomngggifaa.CrcWalk Go.Proofs.Ytniemomngggifaa.FrMath

set_option maxHeartbeats 1000000 in
set_option maxRecDepth 100000 in
theorem putWord_any (v : Nat) (w : World) :
    Calls Try.prog 20 #[.int .u32 (v : Int)] w fun e w' => ∃ A c, e = .returned (.slice A 4 c) ∧ Rd w' A 4 c (le4 v) ∧ Below w.heap.size w w' := by
  have hmk := fun W => run_make_bytes (P := Try.prog) 22 5 Try.underlying22 u8_info 4 (by omega) (4 : Int) (by omega) W
  obtain ⟨w1, hw1⟩ : ∃ w1, w1 = w.alloc (.cells (cellsOf (List.replicate 4 0)).toArray 5) := ⟨_, rfl⟩
  have row : Row w1 w.heap.size 5 (List.replicate 4 0) := by rw [hw1]; exact heap_alloc_new w _
  have bel : Below w.heap.size w w1 := by rw [hw1]; exact (Below.refl _ _).alloc (Nat.le_refl _) _
  have hm1 := hmk w
  rw [← hw1] at hm1
  clear hmk hw1
  go_enter Try.func20, Try.ntmps20
  go_wp2_with fail
  go_loopw [8] (fun i wr => ∃ k : Nat, k ≤ 4 ∧ i = .int .i64 k ∧ PutAt w1 wr w.heap.size 0 5 (List.replicate 4 0) v k) (fun i _ => 4 - (intOf i).toNat)
  case atStart => exact ⟨0, by omega, rfl, putAt_start row⟩
  case round =>
    obtain ⟨k, hk, rfl, hf⟩ := hrel
    by_cases hlt : k < 4
    · obtain ⟨⟨x, hx⟩, hfr⟩ := putAt_cell hf hlt (by decide)
      have hs := putAt_step hf hlt (by decide)
      rw [Nat.zero_add] at hx hfr hs
      have HS := Go.Lib.hid hs
      clear hs
      have e1 := le4_at v k hlt
      have E1 := Go.Lib.hid e1
      clear e1 hm1 bel row
      go_wp2
      go_roundw
      case rel => exact ⟨k + 1, by omega, by go_num, HS.out _ E1.out.symm⟩
      case measure => simp [intOf]; omega
    · obtain rfl : k = 4 := by omega
      have hr := hf.row
      rw [List.take_of_length_le (l := le4 v) (by rw [le4_length]; exact Nat.le_refl _)] at hr
      have hb := bel.grown hf.grown bel.size (by rintro k ⟨rfl⟩; exact Nat.le_refl _)
      go_wp2_with fail
      go_ret
      exact ⟨_, _, rfl, by simpa [le4_length] using hr.rd (by unfold maxLen; simp [le4_length]), hb⟩

set_option maxHeartbeats 1000000 in
set_option maxRecDepth 100000 in
theorem takeWord_any (A : Option Addr) (cap : Nat) (l : List UInt8) (w : World) (h : Rd w A 4 cap l) :
    Calls Try.prog 25 #[.slice A 4 cap] w fun e w' => e = .returned (.int .u32 (word l : Nat)) ∧ w = w' := by
  have hl := h.len
  have HL := Go.Lib.hid hl
  clear hl
  obtain ⟨b, o, rfl, hbl, hc⟩ := h.at_ (by omega)
  have HC := Go.Lib.hid hc
  clear hc
  go_enter Try.func25, Try.ntmps25
  go_wp2
  go_loop [3, 8] (fun r i => ∃ k : Nat, k ≤ 4 ∧ r = .int .u32 ((word (l.take k) : Nat) : Int) ∧ i = .int .i64 k) (fun _ i => 4 - (intOf i).toNat)
  case atStart => exact ⟨0, by omega, rfl, rfl⟩
  case round =>
    obtain ⟨k, hk, rfl, rfl⟩ := hrel
    by_cases hlt : k < 4
    · have hck := HC.out k hlt
      have hs := word_take l k (by rw [HL.out]; exact hlt)
      have hx := word_lt (l.take k)
      have ek : (l.take k).length = k := by rw [List.length_take, HL.out]; omega
      rw [ek, show (256 : Nat) = 2 ^ 8 from rfl, ← Nat.pow_mul] at hx
      have hcl := UInt8.toNat_lt (l.getD k 0)
      generalize (l.getD k 0).toNat = c at *
      generalize word (l.take k) = x at *
      have e1 := or_word x c k hlt hcl hx
      rw [← hs, IntKind.wrap_u32] at e1
      clear ek hs hx h
      go_wp2
      go_round
      case rel => exact ⟨k + 1, by omega, by first | rfl | rw [e1], by go_num⟩
      case measure => simp [intOf]; omega
    · obtain rfl : k = 4 := by omega
      go_wp2
      go_ret
      refine ⟨ret_int ?_, rfl⟩
      rw [List.take_of_length_le (by rw [HL.out]; exact Nat.le_refl _)]

/-- v[:n:n] of bytes. -/
theorem slice_full (A : Option Addr) (n cap : Nat) (hc : n ≤ cap) (W : World) :
    (Instr.slice 22 (.slice A n cap) none (some (.int .i64 (n : Int))) (some (.int .i64 (n : Int)))).run Try.prog W = .ok (.slice A n n) W := by
  have hu : Try.prog.underlying 22 = some (.slice (Try.prog.elem 22)) := by rw [elem_bytes]; exact Try.underlying22
  have e : A.map (·.add 0) = A := by cases A <;> simp [Addr.add]
  rw [run_slice_hm (P := Try.prog) W 22 _ n cap hu .i64 .i64 (n : Int) (n : Int) (by omega) (by omega) (by omega), elem_bytes, run_size_u8]
  simp only [Result.andThen, sliced, Int.toNat_natCast, Nat.zero_mul, e, Nat.sub_zero]
  congr 2
  split <;> rfl
theorem Rd.src_any {w : World} {A : Option Addr} {n cap : Nat} {l : List UInt8} (h : Rd w A n cap l) {ad : Addr} (hA : A = some ad) : ∀ j u, (cellsOf l)[j]? = some u → w.cell? (ad.add j) = some u := by
  intro j u hu
  obtain ⟨ad', h1, hc⟩ := h.src (by have := (List.getElem?_eq_some_iff.1 hu).1; omega)
  rw [hA] at h1
  injection h1 with h1
  subst h1
  exact hc j u hu
/-- append onto a slice without room: it and new memory alone are read. -/
theorem run_append_full {w : World} {A B : Option Addr} {n m c : Nat} {l k : List UInt8} (ha : Rd w A n n l) (hb : Rd w B m c k) (h0 : 0 < n) (hsz : n + m ≤ 140737488355328) (ty : TypeId) :
    ∃ A' cap' w', (Builtin.append_ #[22, 22] ty #[.slice A n n, .slice B m c]).run Try.prog w = .ok (.slice A' (n + m) cap') w' ∧ Rd w' A' (n + m) cap' (l ++ k) ∧ Below w.heap.size w w' := by
  have hi := u8_info
  have hT := Try.underlying22
  obtain ⟨i, h1, h2, h3, h4⟩ : ∃ i, Try.prog.info? 5 = some i ∧ i.zero = some (.int .u8 0) ∧ i.size = 1 ∧ i.bytes = 1 := by
    cases hq : Try.prog.info? 5 with
    | none => simp [hq] at hi
    | some i => simp [hq] at hi; exact ⟨i, rfl, hi.1, hi.2.1, hi.2.2⟩
  obtain ⟨b, o, rfl, _, _⟩ := ha.at_ h0
  by_cases hm : m = 0
  · subst hm
    have hk : k = [] := List.eq_nil_of_length_eq_zero hb.len
    subst hk
    refine ⟨some ⟨b, o, none⟩, n, w, ?_, by simpa using ha, Below.refl _ _⟩
    cases B with
    | none => simp [Builtin.append_, run_underlying hT, sizeOf, typeInfo, h1, Builtin.lenOf, Builtin.firstCells, storeCells]
    | some ad =>
      have := run_append_room_cells (P := Try.prog) w 22 ty 5 i hT h1 b o n n ad 0 c [] (by simp) (by simp) (by simp) (Nat.le_refl _) (by simp) (by simp)
      rw [this]
      rfl
  · obtain ⟨b', o', rfl, _, _⟩ := hb.at_ (by omega)
    obtain ⟨v', w', hrun, ho, hg⟩ := run_append_arg_grows (P := Try.prog) w 22 ty 5 i (.int .u8 0) 1 1 hT h1 h2 h3 h4 rfl (by omega) ⟨b, o, none⟩ n n (cellsOf l) (by rw [cellsOf_length, ha.len, Nat.mul_one]) (Rd.src_any ha rfl) ⟨b', o', none⟩ m c (cellsOf k) (by rw [cellsOf_length, hb.len, Nat.mul_one]) (Rd.src_any hb rfl) (by omega) (by unfold maxLen; omega) (by omega)
    rcases ho.2 with ⟨rfl, hn⟩ | ⟨g, c2, cur, rfl, hrest⟩
    · omega
    · refine ⟨_, c2, w', hrun, ?_, grown_below hg⟩
      have oo : Own w' w.heap.size 5 (some ⟨g, 0, none⟩) (n + m) c2 (l ++ k) := by
        unfold Own
        rw [cellsOf_append]
        exact ho
      exact oo.rd

end Go.Proofs.Ytniemomngggifaa.FrWalk

/-
  Contracts of the landed frame: sumOf; the library's slices.Grow, slices.Concat on rows of bytes.
-/
namespace Go.Proofs.Ytniemomngggifaa.FrWalk
open Go.RowKit Go.Proofs.Ytniemomngggifaa.MemRow Go.Proofs.Ytniemomngggifaa.NumMem Go.Proofs.Ytniemomngggifaa.CrcMath Go.Proofs.Ytniemomngggifaa.CrcWalk Go.Proofs.Ytniemomngggifaa.FrMath

set_option maxHeartbeats 1000000 in
set_option maxRecDepth 100000 in
theorem sumOf_any (g : Nat) (A B : Option Addr) (n ca m cb : Nat) (l k : List UInt8) (w : World) (ht : Tab w g) (ha : Rd w A n ca l) (hb : Rd w B m cb k) (h0 : 0 < n) (hsz : n + m ≤ 140737488355328) :
    Calls Try.prog 21 #[.pointer (some ⟨g, 0, none⟩), .slice A n ca, .slice B m cb] w fun e w' => e = .returned (.int .u32 (sum (l ++ k) : Nat)) ∧ Below w.heap.size w w' := by
  have hq := fun W => slice_full A n ca ha.le_cap W
  have ha2 : Rd w A n n l := ⟨ha.1, Nat.le_refl _, ha.le, ha.2.2.2⟩
  obtain ⟨A1, c1, w1, hap, r1, b1⟩ := run_append_full ha2 hb h0 hsz 22
  have t1 := ht.below b1
  clear ha ha2 hb
  go_enter Try.func21, Try.ntmps21
  go_wp2_with (at_builtin; refine Lib.wpList_append_run _ rfl _ _ _ _ rfl _ _ rfl rfl _ _ hap ?_)
  refine (sum_any g A1 (n + m) c1 _ w1 t1 r1).mono ?_
  rintro e w' ⟨rfl, rfl⟩
  go_wp2_with fail
  go_ret
  exact ⟨rfl, b1⟩

theorem u8_info_one : ∃ i, Try.prog.info? 5 = some i ∧ i.zero = some (.int .u8 0) ∧ i.size = 1 ∧ i.bytes = 1 := by
  have hi := u8_info
  cases hq : Try.prog.info? 5 with
  | none => simp [hq] at hi
  | some i => simp [hq] at hi; exact ⟨i, rfl, hi.1, hi.2.1, hi.2.2⟩

set_option maxHeartbeats 2000000 in
set_option maxRecDepth 100000 in
/-- Grow(nil, n): nothing, with room for n. -/
theorem grow_any (n : Nat) (w : World) (h0 : 0 < n) (hn : n ≤ 140737488355328) :
    Calls Try.prog 28 #[.slice none 0 0, .int .i64 n] w fun e w' => ∃ cap, e = .returned (.slice (some ⟨w.heap.size, 0, none⟩) 0 cap) ∧ Own w' w.heap.size 5 (some ⟨w.heap.size, 0, none⟩) 0 cap [] ∧ Below w.heap.size w w' := by
  obtain ⟨i, g1, g2, g3, g4⟩ := u8_info_one
  have hrz : ∀ ty, (Builtin.append_ #[22, 3] ty #[.slice none 0 0, .int .i64 n]).run Try.prog w = .ok (.slice (some ⟨w.heap.size, 0, none⟩) n (grownCap w n 0 5)) (w.drew.alloc (.cells (#[] ++ Builtin.zeroCells #[.int .u8 0] n ++ Builtin.zeroCells #[.int .u8 0] (grownCap w n 0 5 - n)) 5)) := fun ty => by
    have h := Lib.run_append_grow_zeros (P := Try.prog) w 22 3 ty 5 i (.int .u8 0) .i64 .i64 Try.underlying22 Try.underlying3 g1 g2 none 0 0 [] (by simp [Builtin.firstCells]) n h0 (by omega) (by omega) (by omega) (by rw [g4]; omega) (by
      rw [Nat.zero_add, g4]
      exact growslice_fits h0 (by omega))
    rw [Nat.zero_add] at h
    exact h
  have hge := grownCap_ge w n 0 5
  have hle := grownCap_le_maxLen w n 0 5 (by unfold maxLen; omega)
  obtain ⟨G, hG⟩ : ∃ G, G = grownCap w n 0 5 := ⟨_, rfl⟩
  rw [← hG] at hrz hge hle
  have own : Own (w.alloc (.cells (Builtin.zeroCells #[.int .u8 0] n ++ Builtin.zeroCells #[.int .u8 0] (G - n)) 5)).drew w.heap.size 5 (some ⟨w.heap.size, 0, none⟩) 0 G [] :=
    ⟨by simp [cellsOf], .inr ⟨w.heap.size, G, _, rfl, Nat.le_refl _, heap_alloc_new w _, Nat.zero_le _, hle, by simp only [Array.size_append, size_zeroCells]; simp; omega, by simp [cellsOf]⟩⟩
  have OWN := Go.Lib.hid own
  have bel : Below w.heap.size w (w.alloc (.cells (Builtin.zeroCells #[.int .u8 0] n ++ Builtin.zeroCells #[.int .u8 0] (G - n)) 5)).drew :=
    let h := (Below.refl w.heap.size w).alloc (Nat.le_refl _) (.cells (Builtin.zeroCells #[.int .u8 0] n ++ Builtin.zeroCells #[.int .u8 0] (G - n)) 5)
    ⟨h.os, h.tape, h.output, h.size, h.block⟩
  have BEL := Go.Lib.hid bel
  clear own bel hG
  unfold maxLen at hle
  go_enter Try.func28, Try.ntmps28
  go_wp2_with (at_builtin; refine Lib.wpList_append_run _ rfl _ _ _ _ rfl _ _ rfl rfl _ _ (hrz _) ?_)
  go_ret
  exact ⟨G, rfl, OWN.out, BEL.out⟩

theorem flat_take (xs : List (List UInt8)) (j : Nat) (h : j < xs.length) : (xs.take (j + 1)).flatten = (xs.take j).flatten ++ xs.getD j [] := by
  rw [rows_take xs j h, List.flatten_append]
  simp
theorem flat_take_le (xs : List (List UInt8)) (j : Nat) : (xs.take j).flatten.length ≤ xs.flatten.length := by
  have h := congrArg (fun l => (List.flatten l).length) (List.take_append_drop j xs)
  simp only [List.flatten_append, List.length_append] at h
  omega

set_option maxHeartbeats 4000000 in
set_option maxRecDepth 100000 in
/-- Concat of rows. -/
theorem concat_any (A : Option Addr) (n cap : Nat) (xs : List (List UInt8)) (w : World) (h : RdB w A n cap xs) (h0 : 0 < xs.flatten.length) (hs : xs.flatten.length ≤ 1000000000) :
    Calls Try.prog 22 #[.slice A n cap] w fun e w' => ∃ A' c', e = .returned (.slice A' xs.flatten.length c') ∧ Own w' w.heap.size 5 A' xs.flatten.length c' xs.flatten ∧ Below w.heap.size w w' := by
  have hn : 0 < n := by
    rcases Nat.eq_zero_or_pos n with hz | hz
    · rw [hz] at h
      rw [List.eq_nil_of_length_eq_zero h.len] at h0
      simp at h0
    · exact hz
  have hm := h.le
  unfold maxLen at hm
  have HL := Go.Lib.hid h.len
  have R0 := Go.Lib.hid h
  generalize hT : xs.flatten.length = T at *
  have HT := Go.Lib.hid hT
  clear h hT
  go_enter Try.func22, Try.ntmps22
  go_wp2_with fail
  go_loopw [3, 5, 11] (fun sz _ i wr => ∃ j s : Nat, j ≤ n ∧ i = .int .i64 j ∧ sz = .int .i64 (s : Int) ∧ Hid (s = (xs.take j).flatten.length) ∧ w = wr) (fun _ _ i _ => n - (intOf i).toNat)
  case atStart => exact ⟨0, 0, by omega, rfl, rfl, Go.Lib.hid rfl, rfl⟩
  case round =>
    obtain ⟨j, s, hj, rfl, rfl, HS, rfl⟩ := hrel
    have hsl := flat_take_le xs j
    rw [← HS.out, HT.out] at hsl
    by_cases hlt : j < n
    · obtain ⟨b, o, rfl, _, kc⟩ := R0.out.at_ (by omega)
      obtain ⟨A1, n1, c1, k1, r1⟩ := kc j hlt
      have hf := flat_take xs j (by rw [HL.out]; exact hlt)
      have hfl := congrArg List.length hf
      rw [List.length_append, ← HS.out, r1.len] at hfl
      have hsl2 := flat_take_le xs (j + 1)
      rw [HT.out, hfl] at hsl2
      have HF := Go.Lib.hid hfl
      clear kc r1 hf hfl
      go_wp2_with fail
      go_roundw
      case rel => exact ⟨j + 1, s + n1, by omega, by go_num, by go_num, Go.Lib.hid HF.out.symm, by first | trivial | rfl⟩
      case measure => simp [intOf]; omega
    · obtain rfl : n = j := by omega
      obtain rfl : s = T := by rw [HS.out, ← HT.out, List.take_of_length_le (by rw [HL.out]; exact Nat.le_refl _)]
      clear hsl
      go_wp2_with fail
      refine (grow_any s w h0 (by omega)).mono ?_
      rintro e w2 ⟨cg, rfl, o2, b2⟩
      go_wp2_with fail
      go_loopw [6, 8, 27] (fun ns _ i wr => ∃ (j : Nat) (A' : Option Addr) (c' : Nat) (q : Nat) (x : List UInt8), j ≤ n ∧ i = .int .i64 j ∧ ns = .slice A' q c' ∧ Hid (x = (xs.take j).flatten) ∧ Own wr w.heap.size 5 A' q c' x ∧ Below w.heap.size w wr) (fun _ _ i _ => n - (intOf i).toNat)
      case atStart => exact ⟨0, _, _, 0, [], by omega, rfl, rfl, Go.Lib.hid rfl, o2, b2⟩
      case round =>
        obtain ⟨j, A', c', q, x, hj, rfl, rfl, HX, oq, bq⟩ := hrel
        clear o2 b2
        have hxl := flat_take_le xs j
        rw [← HX.out, HT.out, oq.len] at hxl
        by_cases hlt : j < n
        · obtain ⟨b, o, rfl, _, kc⟩ := (R0.out.below bq).at_ (by omega)
          obtain ⟨A1, n1, c1, k1, r1⟩ := kc j hlt
          have hf := flat_take xs j (by rw [HL.out]; exact hlt)
          rw [← HX.out] at hf
          have hxl2 := flat_take_le xs (j + 1)
          rw [hf, HT.out, List.length_append, oq.len, r1.len] at hxl2
          have HF := Go.Lib.hid hf
          have hsz : q + n1 ≤ 140737488355328 := by omega
          have bs := bq.size
          clear kc hf
          go_wp2_with (at_builtin; refine wpList_append_more rfl (.tmp 31) (.tmp 32) 22 rfl 5 Try.underlying22 u8_info rfl rfl oq r1 hsz bs w bq ?_; intro A3 c3 w3 o3 b3)
          go_roundw
          case rel => exact ⟨j + 1, A3, c3, _, _, by omega, by go_num, rfl, Go.Lib.hid HF.out.symm, o3, b3⟩
          case measure => simp [intOf]; omega
        · obtain rfl : n = j := by omega
          have hx : x = xs.flatten := by rw [HX.out, List.take_of_length_le (by rw [HL.out]; exact Nat.le_refl _)]
          have hq : q = s := by rw [← oq.len, hx, HT.out]
          rw [hq, hx] at oq
          rw [hq]
          clear hq hx HX
          go_wp2_with fail
          go_ret
          exact ⟨A', c', rfl, oq, bq⟩

end Go.Proofs.Ytniemomngggifaa.FrWalk

/-
  Contracts of the landed frame: Put.
-/
namespace Go.Proofs.Ytniemomngggifaa.FrWalk
open Go.RowKit Go.Proofs.Ytniemomngggifaa.MemRow Go.Proofs.Ytniemomngggifaa.NumMem Go.Proofs.Ytniemomngggifaa.CrcMath Go.Proofs.Ytniemomngggifaa.CrcWalk Go.Proofs.Ytniemomngggifaa.FrMath

set_option maxHeartbeats 2000000 in
set_option maxRecDepth 100000 in
theorem put9_any (g : Nat) (A : Option Addr) (n cap : Nat) (l : List UInt8) (w : World) (ht : Tab w g) (h : Rd w A n cap l) :
    Calls Try.prog 10 #[.pointer (some ⟨g, 0, none⟩), .slice A n cap] w (PutOut l w) := by
  have hl := h.len
  by_cases hn : n ≤ 16384
  · have i1 : ¬ (n : Int) > 16384 := by omega
    have ec : putC l = 0 := by unfold putC maxF; rw [if_neg (by omega)]
    have eb : putB l = frameF l := by unfold putB maxF; rw [if_neg (by omega)]
    unfold PutOut
    rw [ec, eb]
    have hw : IntKind.u32.wrap (n : Int) = (n : Int) := IntWalk.u32_in _ (by omega)
    have HL := Go.Lib.hid hl
    clear ec eb hl
    go_enter Try.func10, Try.ntmps10
    go_wp2_with fail
    refine (putWord_any n w).mono ?_
    rintro e w1 ⟨A1, c1, rfl, r1, b1⟩
    have t1 := ht.below b1
    have ra1 := h.below b1
    go_wp2_with fail
    refine (sumOf_any g A1 A 4 c1 n cap (le4 n) l w1 t1 r1 ra1 (by omega) (by omega)).mono ?_
    rintro e w2 ⟨rfl, b2⟩
    generalize hv : sum (le4 n ++ l) = v at *
    have HV := Go.Lib.hid hv
    have r2 := r1.below b2
    have ra2 := ra1.below b2
    have B2 := below_chain b1 b2
    clear hv r1 ra1 b1 b2 t1 ht h
    go_wp2_with fail
    refine (putWord_any v w2).mono ?_
    rintro e w3 ⟨A3, c3, rfl, r3, b3⟩
    have al : Below w3.heap.size w3 (w3.alloc (.cells #[.slice A1 4 c1, .slice A3 4 c3, .slice A n cap] 22)) := (Below.refl _ _).alloc (Nat.le_refl _) _
    have hh := heap_alloc_new w3 (.cells #[.slice A1 4 c1, .slice A3 4 c3, .slice A n cap] 22)
    have rb : RdB (w3.alloc (.cells #[.slice A1 4 c1, .slice A3 4 c3, .slice A n cap] 22)) (some ⟨w3.heap.size, 0, none⟩) 3 3 [le4 n, le4 v, l] := by
      refine ⟨rfl, Nat.le_refl _, by unfold maxLen; omega, fun _ => ⟨w3.heap.size, 0, rfl, (Array.getElem?_eq_some_iff.1 hh).1, fun i hi => ?_⟩⟩
      obtain rfl | rfl | rfl : i = 0 ∨ i = 1 ∨ i = 2 := by omega
      · exact ⟨A1, 4, c1, by rw [cell_of_row _ _ _ _ _ _ hh]; rfl, (r2.below b3).below al⟩
      · exact ⟨A3, 4, c3, by rw [cell_of_row _ _ _ _ _ _ hh]; rfl, r3.below al⟩
      · exact ⟨A, n, cap, by rw [cell_of_row _ _ _ _ _ _ hh]; rfl, (ra2.below b3).below al⟩
    have B3 := below_chain (below_chain B2 b3) al
    have e7 : [le4 n, le4 v, l].flatten = frameF l := by
      rw [← HV.out, ← HL.out]
      simp [frameF]
    have hfl := frameF_length l
    rw [HL.out] at hfl
    have cc := concat_any (some ⟨w3.heap.size, 0, none⟩) 3 3 _ _ rb (by rw [e7]; omega) (by rw [e7]; omega)
    rw [e7] at cc
    clear rb r2 ra2 r3 hh al b3 B2 e7 hfl
    go_wp2_with fail
    refine cc.mono ?_
    rintro e w4 ⟨A4, c4, rfl, o4, b4⟩
    have B4 := below_chain B3 b4
    have r4 := o4.rd
    clear o4 B3 b4 cc
    go_wp2_with fail
    go_ret2
    exact ⟨A4, _, c4, rfl, r4, B4⟩
  · have i1 : (n : Int) > 16384 := by omega
    have ec : putC l = 3 := by unfold putC maxF; rw [if_pos (by omega)]
    have eb : putB l = [] := by unfold putB maxF; rw [if_pos (by omega)]
    unfold PutOut
    rw [ec, eb]
    clear ec eb hl
    go_enter Try.func10, Try.ntmps10
    go_wp2_with fail
    go_ret2
    exact ⟨none, 0, 0, rfl, Rd.nil _, Below.refl _ _⟩

end Go.Proofs.Ytniemomngggifaa.FrWalk

