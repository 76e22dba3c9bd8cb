/-
  Contract of the document's answer of layer 4: May.
-/
import Derived.Test.YtfbooapgjhhjmaaEvRefC
namespace Go.Proofs.Ytfbooapgjhhjmaa.EvWalk
open Go.RowKit Go.Proofs.Ytfbooapgjhhjmaa.MemRow Go.Proofs.Ytfbooapgjhhjmaa.Ev Go.Proofs.Ytfbooapgjhhjmaa.NameMath Go.Proofs.Ytfbooapgjhhjmaa.NameWalk

/-- It is a name. -/
def nameB (s : ByteArray) : Bool := may s.data.toList
/-- A number that a field may have. -/
def fitB (f : ByteArray × Int) : Bool := decide (-1099511627776 ≤ f.2 ∧ f.2 ≤ 1099511627776)

/-- What is wrong with an event. -/
def mayE (e : Ev) : Int :=
  if (nameB e.s && nameB e.t) = false then 5
  else if 6 < e.tags.length ∨ 4 < e.fs.length then 3
  else if ((e.fs.all fun f => nameB f.1) && e.tags.all tagB) = false then 5
  else if (e.fs.all fitB && (riseB e.tags && riseB (e.fs.map (·.1)))) = false then 1 else 0

theorem refName_told {s : ByteArray} {b : Bool} (hs : s.size ≤ maxLen) (h : nameB s = b) (w : World) :
    Calls Try.prog 32 #[.string s] w fun e w' => e = .returned (.bool b) ∧ Below w.heap.size w w' := by
  subst h
  unfold maxLen at hs
  exact refMay_any s w (by omega)

theorem fs_take (fs : List (ByteArray × Int)) (j : Nat) (h : j < fs.length) : fs.take (j + 1) = fs.take j ++ [fs.getD j (ByteArray.empty, 0)] := by
  rw [List.take_succ_eq_append_getElem h]
  simp [List.getD, List.getElem?_eq_getElem h]
theorem fs_mem (fs : List (ByteArray × Int)) (j : Nat) (h : j < fs.length) : fs.getD j (ByteArray.empty, 0) ∈ fs := by
  simp only [List.getD, List.getElem?_eq_getElem h, Option.getD_some]
  exact List.getElem_mem h

/-- What stands at the head of a round of May. -/
structure MayAt (wr w2 : World) (Nm : Option Addr) (j cn : Nat) (fs : List (ByteArray × Int)) : Prop where
  own : OwnC 1 wr w2.heap.size 9 Nm j cn (strs ((fs.take j).map (·.1)))
  bel : Below w2.heap.size w2 wr
  names : (fs.take j).all (fun f => nameB f.1) = true

end Go.Proofs.Ytfbooapgjhhjmaa.EvWalk
