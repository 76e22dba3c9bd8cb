/-
  Words on memory for layer 1: a slice that reads as bytes; its conversion to a string; a reader behind a pointer. No Go text here.
-/
import Derived.Below
import Derived.Laws.OwnMore
import Derived.Laws.IdiomStrings
import Derived.Laws.CopyOwn
import Derived.Deep.Draws
import Derived.Lib.Hide
import Derived.Lib.BufferWrite
namespace Go.Proofs.Ytfbooapgjhhjmaa.NumMem
open Go.RowKit

/-- The cells of bytes. -/
def cellsOf (l : List UInt8) : List Value := l.map fun c => .int .u8 (c.toNat : Int)

theorem cellsOf_length (l : List UInt8) : (cellsOf l).length = l.length := by simp [cellsOf]
theorem cellsOf_append (a b : List UInt8) : cellsOf (a ++ b) = cellsOf a ++ cellsOf b := by simp [cellsOf]
theorem cellsOf_one (l : List UInt8) : ∀ v ∈ cellsOf l, v.oneCell' = true := by
  intro v hv
  simp only [cellsOf, List.mem_map] at hv
  obtain ⟨c, _, rfl⟩ := hv
  rfl

/-- The slice value (A, n, cap) reads as the bytes l: nil and empty let in. -/
def Rd (w : World) (A : Option Addr) (n cap : Nat) (l : List UInt8) : Prop :=
  l.length = n ∧ n ≤ cap ∧ cap ≤ maxLen ∧ (0 < n → ∃ b o, A = some ⟨b, o, none⟩ ∧ ∀ i, i < n → w.cell? ⟨b, o + i, none⟩ = some (.int .u8 ((l.getD i 0).toNat : Int)))

variable {w w' : World} {A : Option Addr} {n cap : Nat} {l : List UInt8}

theorem Rd.nil (w : World) : Rd w none 0 0 [] := ⟨rfl, Nat.le_refl _, Nat.zero_le _, fun h => absurd h (by omega)⟩
theorem Rd.empty (w : World) (A : Option Addr) (h : cap ≤ maxLen) : Rd w A 0 cap [] := ⟨rfl, Nat.zero_le _, h, fun h => absurd h (by omega)⟩
theorem Rd.len (h : Rd w A n cap l) : l.length = n := h.1
theorem Rd.le (h : Rd w A n cap l) : n ≤ maxLen := Nat.le_trans h.2.1 h.2.2.1
theorem Rd.le_cap (h : Rd w A n cap l) : n ≤ cap := h.2.1

/-- The address, where there is a byte. -/
theorem Rd.at_ (h : Rd w A n cap l) (hn : 0 < n) : ∃ b o, A = some ⟨b, o, none⟩ ∧ b < w.heap.size ∧ ∀ i, i < n → w.cell? ⟨b, o + i, none⟩ = some (.int .u8 ((l.getD i 0).toNat : Int)) := by
  obtain ⟨b, o, rfl, hc⟩ := h.2.2.2 hn
  exact ⟨b, o, rfl, World.block_lt_of_cell? w _ (hc 0 hn), hc⟩

theorem Rd.keep (h : Rd w A n cap l) (hk : ∀ b o, A = some ⟨b, o, none⟩ → 0 < n → ∀ i, i < n → w'.cell? ⟨b, o + i, none⟩ = w.cell? ⟨b, o + i, none⟩) : Rd w' A n cap l :=
  ⟨h.1, h.2.1, h.2.2.1, fun hn => by
    obtain ⟨b, o, rfl, hc⟩ := h.2.2.2 hn
    exact ⟨b, o, rfl, fun i hi => (hk b o rfl hn i hi).trans (hc i hi)⟩⟩

theorem Rd.below (h : Rd w A n cap l) (hb : Below w.heap.size w w') : Rd w' A n cap l :=
  ⟨h.1, h.2.1, h.2.2.1, fun hn => by
    obtain ⟨b, o, rfl, hlt, hc⟩ := h.at_ hn
    exact ⟨b, o, rfl, fun i hi => (hb.cell (p := ⟨b, o + i, none⟩) hlt).trans (hc i hi)⟩⟩

theorem Rd.drewN (h : Rd w A n cap l) (k : Nat) : Rd (w.drewN k) A n cap l := h
theorem Rd.drew (h : Rd w A n cap l) : Rd w.drew A n cap l := h

/-- Kept where just block g has changed, and block g holds no byte at the place. -/
theorem Rd.grown {g : Nat} (h : Rd w A n cap l) (hg : w.grownBy w' (some g)) (hne : ∀ o k, w.cell? ⟨g, o, none⟩ ≠ some (.int .u8 k)) : Rd w' A n cap l :=
  ⟨h.1, h.2.1, h.2.2.1, fun hn => by
    obtain ⟨b, o, rfl, hlt, hc⟩ := h.at_ hn
    have hbg : b ≠ g := by
      rintro rfl
      exact hne _ _ (hc 0 hn)
    exact ⟨b, o, rfl, fun i hi => hg.cell (hc i hi) (by simpa using hbg)⟩⟩

/-- What stands behind the first k bytes: the slice v[k:]. The model keeps the address where k is the capacity. -/
theorem Rd.cut (h : Rd w A n cap l) {k : Nat} (hk : k ≤ n) : Rd w (if cap = k then A else A.map (·.add k)) (n - k) (cap - k) (l.drop k) := by
  refine ⟨by rw [List.length_drop, h.1], by have := h.2.1; omega, by have := h.2.2.1; omega, fun hn => ?_⟩
  obtain ⟨b, o, rfl, hc⟩ := h.2.2.2 (by omega)
  have := h.2.1
  rw [if_neg (by omega)]
  refine ⟨b, o + k, by simp [Addr.add], fun i hi => ?_⟩
  have := hc (k + i) (by omega)
  rw [Nat.add_assoc, this]
  simp [List.getD, List.getElem?_drop]

/-- The first k bytes: v[:k]. -/
theorem Rd.first (h : Rd w A n cap l) {k : Nat} (hk : k ≤ n) : Rd w A k cap (l.take k) := by
  refine ⟨by rw [List.length_take, h.1]; omega, by have := h.2.1; omega, h.2.2.1, fun hn => ?_⟩
  obtain ⟨b, o, rfl, hc⟩ := h.2.2.2 (by omega)
  refine ⟨b, o, rfl, fun i hi => ?_⟩
  rw [hc i (by omega)]
  simp [List.getD, hi]

/-- A row of the call's own, whole. -/
theorem Rd.of_block {g : Nat} {t : TypeId} {fr : Nat × Nat} {cs : Array Value} (hg : w.heap[g]? = some (.cells cs t fr)) (hl : l.length = n) (hn : n ≤ cap) (hc : cap ≤ maxLen) (h : ∀ i, i < n → cs[i]? = some (.int .u8 ((l.getD i 0).toNat : Int))) :
    Rd w (some ⟨g, 0, none⟩) n cap l :=
  ⟨hl, hn, hc, fun _ => ⟨g, 0, rfl, fun i hi => by rw [Nat.zero_add, cell_of_row w g i cs t fr hg]; exact h i hi⟩⟩

/-- string(v). -/
theorem Rd.string {P : Program} (h : Rd w A n cap l) (src dst e : TypeId) (hs : P.underlying src = some (.slice e)) (he : P.underlying e = some (.int .u8)) (hd : P.underlying dst = some .string) :
    (convert src dst (.slice A n cap)).run P w = .ok (.string ⟨l.toArray⟩) w := by
  obtain ⟨hl, h1, h2, h3⟩ := h
  subst hl
  rcases Nat.eq_zero_or_pos l.length with h0 | h0
  · have hl0 : l = [] := List.eq_nil_of_length_eq_zero h0
    subst hl0
    rw [run_convert_bytes_string w src dst e A _ cap hs he hd]
    cases A with
    | none => simp [Conv.bytesToString, Sem.run_pure]; rfl
    | some a =>
      have hlo := run_loadCells_list (P := P) w a [] (fun j v hj => by simp at hj)
      rw [run_bytesToString w a _ cap [] (by simpa using hlo)]
      rfl
  · obtain ⟨b, o, rfl, hc⟩ := h3 h0
    refine run_convert_bytes_back w src dst e ⟨b, o, none⟩ cap l hs he hd fun j hj => ?_
    have hadd : (⟨b, o, none⟩ : Addr).add j = ⟨b, o + j, none⟩ := by unfold Addr.add; split <;> simp_all
    rw [hadd, hc j hj]
    simp [List.getD, List.getElem?_eq_getElem hj]

/-- The source of a copy or an append. -/
theorem Rd.src (h : Rd w A n cap l) (h0 : 0 < (cellsOf l).length) : ∃ ad, A = some ad ∧ ∀ j v, (cellsOf l)[j]? = some v → w.cell? (ad.add j) = some v := by
  rw [cellsOf_length, h.1] at h0
  obtain ⟨b, o, rfl, hc⟩ := h.2.2.2 h0
  refine ⟨_, rfl, fun j v hj => ?_⟩
  have hadd : (⟨b, o, none⟩ : Addr).add j = ⟨b, o + j, none⟩ := by unfold Addr.add; split <;> simp_all
  have hjn : j < l.length := by
    have := (List.getElem?_eq_some_iff.1 hj).1
    simpa [cellsOf] using this
  rw [hadd, hc j (by rw [← h.1]; exact hjn)]
  simp [cellsOf, List.getElem?_eq_getElem hjn] at hj
  simp [List.getD, List.getElem?_eq_getElem hjn, hj]

/-- Block g is just the cells of the bytes l, none frozen. -/
def Row (w : World) (g : Nat) (t : TypeId) (l : List UInt8) : Prop := w.heap[g]? = some (.cells (cellsOf l).toArray t (0, 0))

section
variable {g : Nat} {t : TypeId}
theorem Row.lt (h : Row w g t l) : g < w.heap.size := (Array.getElem?_eq_some_iff.1 h).1
theorem Row.cell (h : Row w g t l) {i : Nat} (hi : i < l.length) : w.cell? ⟨g, i, none⟩ = some (.int .u8 ((l.getD i 0).toNat : Int)) := by
  rw [cell_of_row w g i _ t (0, 0) h]
  simp [cellsOf, List.getElem?_eq_getElem hi, List.getD]
theorem Row.frozen (h : Row w g t l) (i : Nat) : w.frozen? ⟨g, i, none⟩ = false := by
  unfold Row at h
  simp [World.frozen?, h]
theorem Row.rd (h : Row w g t l) (hn : l.length ≤ maxLen) : Rd w (some ⟨g, 0, none⟩) l.length l.length l :=
  Rd.of_block h rfl (Nat.le_refl _) hn fun i hi => by simp [cellsOf, List.getElem?_eq_getElem hi, List.getD]
theorem Row.set_ (h : Row w g t l) (i : Nat) (c : UInt8) : Row (w.setCell ⟨g, i, none⟩ (.int .u8 (c.toNat : Int))) g t (l.set i c) := by
  unfold Row at h ⊢
  simp only [World.setCell, Array.getElem?_modify, h]
  simp [cellsOf, List.map_set]
theorem Row.below {B : Nat} (h : Row w g t l) (hb : Below B w w') (hg : g < B) : Row w' g t l := (hb.block g hg).trans h
theorem Row.new (w : World) (t : TypeId) (l : List UInt8) : Row (w.alloc (.cells (cellsOf l).toArray t)) w.heap.size t l := heap_alloc_new w _
end

theorem grown_setCell {a w : World} {g : Nat} (h : a.grownBy w (some g)) (i : Nat) (u : Value) : a.grownBy (w.setCell ⟨g, i, none⟩ u) (some g) :=
  ⟨h.os, h.tape, h.output, by simpa [World.setCell] using h.size, fun k hk hne => (Below.heap_setCell w _ u k (fun e => hne (by simp [e]))).trans (h.block k hk hne)⟩
theorem grown_below {a w : World} (h : a.grownBy w none) : Below a.heap.size a w := ⟨h.os, h.tape, h.output, h.size, fun k hk => h.block k hk (by simp)⟩
theorem below_grown {a w : World} (h : Below a.heap.size a w) (row : Option Nat) : a.grownBy w row := ⟨h.os, h.tape, h.output, h.size, fun k hk _ => h.block k hk⟩

/-- make([]byte, k). -/
theorem run_make_bytes {P : Program} (T e : TypeId) (hT : P.underlying T = some (.slice e)) (hi : (P.info? e).map (fun i => (i.zero, i.size, i.bytes)) = some (some (.int .u8 0), 1, 1))
    (k : Nat) (hk : k ≤ 281474976710656) (x : Int) (hx : x = (k : Int)) (w : World) :
    (Instr.makeSlice T (.int .i64 x) (.int .i64 x)).run P w = .ok (.slice (some ⟨w.heap.size, 0, none⟩) k k) (w.alloc (.cells (cellsOf (List.replicate k 0)).toArray e)) := by
  subst hx
  obtain ⟨i, h1, h2, h3, h4⟩ : ∃ i, P.info? e = some i ∧ i.zero = some (.int .u8 0) ∧ i.size = 1 ∧ i.bytes = 1 := by
    cases hq : P.info? e with
    | none => simp [hq] at hi
    | some i => simp [hq] at hi; exact ⟨i, rfl, hi.1, hi.2.1, hi.2.2⟩
  rw [run_make w T e i (.int .u8 0) hT h1 h2 .i64 .i64 k k (by omega) (by omega) (by rw [h4]; omega) (by omega)]
  have hm : madeCells (Value.int .u8 0).cells ((k : Int).toNat * i.size) = (cellsOf (List.replicate k 0)).toArray := by
    apply Array.toList_inj.1
    rw [h3, Nat.mul_one, Int.toNat_natCast]
    show (madeCells #[Value.int .u8 0] k).toList = _
    rw [toList_madeCells_one]
    simp [cellsOf]
  rw [hm, Int.toNat_natCast]

/-- copy(dst, s), s a text that just fits, dst in a row of the call's own. -/
theorem wpList_copy_text {P : Program} {w : World} {ops : Array Oper} {rest : List Oper} {o : Oper} {a : Act} {Q : Exit → Act → World → Prop} (hgd : o.guard = none) (d s : Operand) (dT sT : TypeId)
    (ho : o.op = .call { callee := .builtin .copy, args := #[d, s], argTypes := #[dT, sT] }) (elem : TypeId) (hu : P.underlying dT = some (.slice elem)) (hsz : (P.info? elem).map (·.size) = some 1)
    (dp : Option Addr) (dLen dCap : Nat) (x : ByteArray) (hd : a.eval d = .slice dp dLen dCap) (hs : a.eval s = .string x)
    (g off : Nat) (L : List UInt8) (t : TypeId) (hg : Row w g t L) (hle : x.size = dLen) (hpos : 0 < x.size → dp = some ⟨g, off, none⟩) (hfit : off + x.size ≤ L.length)
    (h : ∀ w', Row w' g t (L.take off ++ (x.data.toList ++ L.drop (off + x.size))) → w.grownBy w' (some g) → wpList P ops Q rest (a.put o.dst (goInt x.size)) w') :
    wpList P ops Q (o :: rest) a w := by
  refine wpList_plain hgd fun K hK => ?_
  by_cases h0 : x.size = 0
  · have hrun := Go.Lib.run_copy_empty_string (P := P) w dT sT o.type elem dp dLen dCap x hu (by rw [hsz]; rfl) h0
    unfold Oper.wp
    simp [execOp, ho, resolve, invoke, builtin, hd, hs, hrun, Result.andThen]
    have hx : x.data.toList = [] := List.eq_nil_of_length_eq_zero (by simpa using h0)
    have := h w (by rw [hx, h0]; simpa using hg) ⟨rfl, rfl, rfl, Nat.le_refl _, fun _ _ _ => rfl⟩
    rw [h0] at this
    exact hK _ _ this
  · obtain rfl := hpos (by omega)
    have hrun := Go.Lib.run_copy_row_string (P := P) w dT sT o.type elem g off dLen dCap x _ t hu hsz hg (by omega) (by simpa [cellsOf] using hfit)
    unfold Oper.wp
    simp [execOp, ho, resolve, invoke, builtin, hd, hs, hrun, Result.andThen]
    refine hK _ _ (h _ ?_ ⟨rfl, rfl, rfl, by simp [World.setRow], fun k _ hne => setRow_other w g k _ (fun e => hne (by simp [e]))⟩)
    have e := setRow_heap w g _ (cellsOf (L.take off ++ (x.data.toList ++ L.drop (off + x.size)))).toArray t _ hg
    have e2 : List.take off (cellsOf L) ++ (Go.Lib.byteCells x.data.toList ++ List.drop (off + x.size) (cellsOf L)) = cellsOf (L.take off ++ (x.data.toList ++ L.drop (off + x.size))) := by
      simp [cellsOf, Go.Lib.byteCells]
    rw [Row, e2]
    exact e

/-- A slice's row is older than block g. -/
def Old (A : Option Addr) (g : Nat) : Prop := ∀ a, A = some a → a.block < g
theorem Old.none (g : Nat) : Old none g := fun _ h => by cases h
theorem Old.add {A : Option Addr} {g : Nat} (h : Old A g) (k : Nat) : Old (A.map (·.add k)) g := by
  intro a ha
  cases A with
  | none => cases ha
  | some b =>
    simp only [Option.map_some, Option.some.injEq] at ha
    have := h b rfl
    rw [← ha]
    unfold Addr.add
    split <;> exact this

/-- A reader behind a pointer: block g (of type T) holds a slice that reads as l, its row older than g, and whether it is bad. -/
def Rdr (w : World) (T : TypeId) (g : Nat) (l : List UInt8) (bad : Bool) : Prop :=
  ∃ A n cap, w.heap[g]? = some (.cells #[.slice A n cap, .bool bad] T (0, 0)) ∧ Rd w A n cap l ∧ Old A g

section
variable {T : TypeId} {g : Nat} {bad : Bool}
theorem two_cell {c0 c1 : Value} (h : w.heap[g]? = some (.cells #[c0, c1] T (0, 0))) : w.cell? ⟨g, 0, none⟩ = some c0 ∧ w.cell? ⟨g, 1, none⟩ = some c1 ∧ (∀ i, w.frozen? ⟨g, i, none⟩ = false) :=
  ⟨by rw [cell_of_row w g 0 _ T (0, 0) h]; rfl, by rw [cell_of_row w g 1 _ T (0, 0) h]; rfl, fun i => by simp [World.frozen?, h]⟩
theorem two_no_byte {c0 c1 : Value} (h : w.heap[g]? = some (.cells #[c0, c1] T (0, 0))) (h0 : ∀ k, c0 ≠ .int .u8 k) (h1 : ∀ k, c1 ≠ .int .u8 k) : ∀ o k, w.cell? ⟨g, o, none⟩ ≠ some (.int .u8 k) := by
  intro o k
  rw [cell_of_row w g o _ T (0, 0) h]
  match o with
  | 0 => simpa using h0 k
  | 1 => simpa using h1 k
  | n + 2 => simp
theorem two_set0 {c0 c1 v : Value} (h : w.heap[g]? = some (.cells #[c0, c1] T (0, 0))) : (w.setCell ⟨g, 0, none⟩ v).heap[g]? = some (.cells #[v, c1] T (0, 0)) := by
  simp [World.setCell, Array.getElem?_modify, h]
theorem two_set1 {c0 c1 v : Value} (h : w.heap[g]? = some (.cells #[c0, c1] T (0, 0))) : (w.setCell ⟨g, 1, none⟩ v).heap[g]? = some (.cells #[c0, v] T (0, 0)) := by
  simp [World.setCell, Array.getElem?_modify, h]
theorem Rdr.lt (h : Rdr w T g l bad) : g < w.heap.size := by
  obtain ⟨A, n, cap, hh, _⟩ := h
  exact (Array.getElem?_eq_some_iff.1 hh).1
theorem Rdr.no_byte (h : Rdr w T g l bad) : ∀ o k, w.cell? ⟨g, o, none⟩ ≠ some (.int .u8 k) := by
  obtain ⟨A, n, cap, hh, _⟩ := h
  exact two_no_byte hh (by simp) (by simp)
theorem Rdr.below (h : Rdr w T g l bad) (hb : Below w.heap.size w w') : Rdr w' T g l bad := by
  have hlt := h.lt
  obtain ⟨A, n, cap, hh, hr, ho⟩ := h
  exact ⟨A, n, cap, (hb.block g hlt).trans hh, hr.below hb, ho⟩
/-- Kept where another reader's block alone has changed. -/
theorem Rdr.grown {g' : Nat} (h : Rdr w T g l bad) (hg : w.grownBy w' (some g')) (hne : g ≠ g') (hno : ∀ o k, w.cell? ⟨g', o, none⟩ ≠ some (.int .u8 k)) : Rdr w' T g l bad := by
  have hlt := h.lt
  obtain ⟨A, n, cap, hh, hr, ho⟩ := h
  exact ⟨A, n, cap, (hg.block g hlt (by simpa using hne)).trans hh, hr.grown hg hno, ho⟩
end

end Go.Proofs.Ytfbooapgjhhjmaa.NumMem
