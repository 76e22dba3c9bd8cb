/-
  Words of the walks of layer 5's statements.
-/
import Derived.Test.YtjglpmakjampjaaEdShown
import Derived.Test.YtjglpmakjampjaaEcSame
import Derived.Test.YtjglpmakjampjaaEdRows
import Derived.Deep.QuietTactic
import Derived.BigQuiet
namespace Go.Proofs.Ytjglpmakjampjaa.EeLaw
open Go.RowKit Go.WideShapes Go.ChangeShapes Go.Proofs.Ytjglpmakjampjaa.MemRow Go.Proofs.Ytjglpmakjampjaa.Ev Go.Proofs.Ytjglpmakjampjaa.NameMath Go.Proofs.Ytjglpmakjampjaa.NameWalk Go.Proofs.Ytjglpmakjampjaa.EvWalk Go.Proofs.Ytjglpmakjampjaa.NumMath Go.Proofs.Ytjglpmakjampjaa.NumMem Go.Proofs.Ytjglpmakjampjaa.NumWalk Go.Proofs.Ytjglpmakjampjaa.EcWalk Go.Proofs.Ytjglpmakjampjaa.EdWalk Go.Proofs.Ytjglpmakjampjaa.Open

theorem evAway {w : World} {g g' : Nat} {v0 v1 v2 v3 : Value} (h : EvAt w g v0 v1 v2 v3) (hne : g ≠ g') (x0 x1 x2 x3 : Value) : EvAt ((((w.setCell ⟨g', 0, none⟩ x0).setCell ⟨g', 1, none⟩ x1).setCell ⟨g', 2, none⟩ x2).setCell ⟨g', 3, none⟩ x3) g v0 v1 v2 v3 :=
  (((h.far hne x0).far hne x1).far hne x2).far hne x3
theorem bel_all {w a : World} (h : Below a.heap.size a w) {g : Nat} (hg : a.heap.size ≤ g) (x0 x1 x2 x3 : Value) : Below a.heap.size a ((((w.setCell ⟨g, 0, none⟩ x0).setCell ⟨g, 1, none⟩ x1).setCell ⟨g, 2, none⟩ x2).setCell ⟨g, 3, none⟩ x3) :=
  (((h.setCell hg _).setCell hg _).setCell hg _).setCell hg _
/-- The boxes of two events. -/
structure TwoAt (wr w : World) (a0 a1 a2 a3 b0 b1 b2 b3 : Value) : Prop where
  e0 : EvAt wr w.heap.size a0 a1 a2 a3
  e1 : EvAt wr (w.heap.size + 1) b0 b1 b2 b3
  bel : Below w.heap.size w wr
section
variable {wr w w' : World} {a0 a1 a2 a3 b0 b1 b2 b3 : Value}
theorem TwoAt.below (h : TwoAt wr w a0 a1 a2 a3 b0 b1 b2 b3) (hb : Below wr.heap.size wr w') : TwoAt w' w a0 a1 a2 a3 b0 b1 b2 b3 := ⟨h.e0.below hb h.e0.lt, h.e1.below hb h.e1.lt, below_chain h.bel hb⟩
theorem TwoAt.new (w : World) (a0 a1 a2 a3 b0 b1 b2 b3 : Value) :
    TwoAt ((w.alloc (.cells #[a0, a1, a2, a3] 26)).alloc (.cells #[b0, b1, b2, b3] 26)) w a0 a1 a2 a3 b0 b1 b2 b3 := by
  have e1 := EvAt.new w a0 a1 a2 a3
  have b1' : Below w.heap.size w (w.alloc (.cells #[a0, a1, a2, a3] 26)) := (Below.refl _ _).alloc (Nat.le_refl _) _
  generalize hw1 : w.alloc (.cells #[a0, a1, a2, a3] 26) = w1 at *
  have s1 : w1.heap.size = w.heap.size + 1 := by rw [← hw1]; simp
  have e2 := EvAt.new w1 b0 b1 b2 b3
  have b2' : Below w1.heap.size w1 (w1.alloc (.cells #[b0, b1, b2, b3] 26)) := (Below.refl _ _).alloc (Nat.le_refl _) _
  rw [s1] at e2
  exact ⟨e1.below b2' e1.lt, e2, below_chain b1' b2'⟩
theorem TwoAt.far (h : TwoAt wr w a0 a1 a2 a3 b0 b1 b2 b3) {g : Nat} (hg : w.heap.size + 1 < g) (i : Nat) (x : Value) : TwoAt (wr.setCell ⟨g, i, none⟩ x) w a0 a1 a2 a3 b0 b1 b2 b3 :=
  ⟨h.e0.far (by omega) x, h.e1.far (by omega) x, h.bel.setCell (by show w.heap.size ≤ g; omega) x⟩
theorem TwoAt.set0 (h : TwoAt wr w a0 a1 a2 a3 b0 b1 b2 b3) (x0 x1 x2 x3 : Value) : TwoAt ((((wr.setCell ⟨w.heap.size, 0, none⟩ x0).setCell ⟨w.heap.size, 1, none⟩ x1).setCell ⟨w.heap.size, 2, none⟩ x2).setCell ⟨w.heap.size, 3, none⟩ x3) w x0 x1 x2 x3 b0 b1 b2 b3 :=
  ⟨h.e0.all x0 x1 x2 x3, evAway h.e1 (by omega) x0 x1 x2 x3, bel_all h.bel (Nat.le_refl _) x0 x1 x2 x3⟩
theorem TwoAt.set1 (h : TwoAt wr w a0 a1 a2 a3 b0 b1 b2 b3) (x0 x1 x2 x3 : Value) : TwoAt ((((wr.setCell ⟨w.heap.size + 1, 0, none⟩ x0).setCell ⟨w.heap.size + 1, 1, none⟩ x1).setCell ⟨w.heap.size + 1, 2, none⟩ x2).setCell ⟨w.heap.size + 1, 3, none⟩ x3) w a0 a1 a2 a3 x0 x1 x2 x3 :=
  ⟨evAway h.e0 (by omega) x0 x1 x2 x3, h.e1.all x0 x1 x2 x3, bel_all h.bel (by omega) x0 x1 x2 x3⟩
end

theorem elem_bytes : Try.prog.elem 22 = 5 := by kernel_rfl
theorem run_size_u8 (W : World) : (sizeOf 5).run Try.prog W = .ok 1 W := by
  have hi := u8_size
  cases hq : Try.prog.info? 5 with
  | none => simp [hq] at hi
  | some i =>
    have hs : i.size = 1 := by simpa [hq] using hi
    simp [sizeOf, typeInfo, hq, hs]
/-- v[:m] of bytes. -/
theorem slice_upto (A : Option Addr) (n cap m : Nat) (hc : m ≤ cap) (W : World) :
    (Instr.slice 22 (.slice A n cap) none (some (.int .i64 (m : Int))) none).run Try.prog W = .ok (.slice A m cap) W := by
  have hu : Try.prog.underlying 22 = some (.slice (Try.prog.elem 22)) := by rw [elem_bytes]; exact Try.underlying22
  have e : A.map (·.add 0) = A := by cases A <;> simp [Addr.add]
  rw [run_slice_h (P := Try.prog) W 22 _ n cap hu .i64 (m : Int) (by omega) (by omega), elem_bytes, run_size_u8]
  simp only [Result.andThen, sliced, Int.toNat_natCast, Nat.zero_mul, e, Nat.sub_zero]
  congr 2
  split <;> rfl


theorem rd_str {w : World} {A : Option Addr} {n cap : Nat} {l : List UInt8} (h : Rd w A n cap l) : (convert 22 9 (.slice A n cap)).run Try.prog w = .ok (.string ⟨l.toArray⟩) w :=
  h.string (P := Try.prog) 22 9 5 Try.underlying22 Try.underlying5 Try.underlying9
theorem bytes_ne {a b : List UInt8} (h : a ≠ b) : (a == b) = false := by rw [beq_eq_false_iff_ne]; exact h
theorem bel_drewN {B : Nat} {a w : World} (h : Below B a w) (n : Nat) : Below B a (w.drewN n) := ⟨h.os, h.tape, h.output, h.size, h.block⟩
/-- A contract that leaves the world alone, inside a region that only reads. -/
theorem still {P : Program} {f : FuncId} {args : Array Value} {w : World} {n : Nat} {v : Value} (h : Calls P f args (w.drewN n) fun e w' => e = .returned v ∧ w.drewN n = w') : Calls P f args (w.drewN n) fun e w' => e = .returned v ∧ ∃ m, w' = w.drewN m :=
  h.mono fun _ _ hh => ⟨hh.1, n, hh.2.symm⟩

/-- Bytes that begin with an event's are that event's. -/
theorem encE_begin {a b : Ev} (ha : mayE a = 0) (hb : mayE b = 0) {r : List UInt8} (h : encE b = encE a ++ r) : a = b ∧ r = [] := by
  have h1 := takeE_encE hb []
  rw [List.append_nil, h, takeE_encE ha r] at h1
  simp only [Option.some.injEq, Prod.mk.injEq] at h1
  exact h1

section
variable {H : Type} {enc : TypeId × Value → H}
set_option maxRecDepth 100000 in
theorem op_events {W : World} {base : Nat} {v : Value} {d : DataW H} {p : List MemPlace} (ho : Value.okWide Try.prog W .any base 41 v) (h : DataW.Trod enc Try.prog W 0 (fun _ => true) true 41 v d p) :
    ∃ A n ca es, v = .slice A n ca ∧ RdE W A n ca es ∧ ∀ x ∈ es, EvOk x := by
  obtain ⟨a, len, cap, rfl⟩ := okWide_slice Try.underlying41 ho
  obtain ⟨fuel, hf⟩ := h
  exact tr_events Try.underlying41 Try.underlying26 (by kernel_rfl) (by kernel_rfl) Try.underlying9 Try.underlying9 Try.underlying23 Try.underlying9 (by kernel_rfl) Try.underlying24 Try.underlying52 (by kernel_rfl) rfl rfl (by kernel_rfl) (by kernel_rfl) Try.underlying9 Try.underlying3 hf
end

end Go.Proofs.Ytjglpmakjampjaa.EeLaw
