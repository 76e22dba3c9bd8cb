/-
  Contracts of layer 4: Has, Value, Same.
-/
import Derived.Test.YtfbooapgjhhjmaaEvCat
import Derived.Test.YtfbooapgjhhjmaaEvEq
import Derived.Deep.DeepCutAuto
namespace Go.Proofs.Ytfbooapgjhhjmaa.EvWalk
open Go.RowKit Go.Proofs.Ytfbooapgjhhjmaa.MemRow Go.Proofs.Ytfbooapgjhhjmaa.Ev Go.Proofs.Ytfbooapgjhhjmaa.NameMath Go.Proofs.Ytfbooapgjhhjmaa.NameWalk

set_option maxHeartbeats 2000000 in
set_option maxRecDepth 100000 in
theorem evHas_any (v : Value) (ev : Ev) (x : ByteArray) (w : World) (hv : IsEv w v ev) :
    Calls Try.prog 52 #[v, .string x] w fun e w' => e = .returned (.bool (hasB ev.tags x)) ∧ Below w.heap.size w w' := by
  obtain ⟨A, n, ca, B, m, cb, rfl, ha, _⟩ := hv
  have b0 : Below w.heap.size w (w.alloc (.cells #[.string ev.s, .string ev.t, .slice A n ca, .slice B m cb] 33)) := (Below.refl _ _).alloc (Nat.le_refl _) _
  have e0 := EvAt.new w (.string ev.s) (.string ev.t) (.slice A n ca) (.slice B m cb)
  have c := Go.Lib.hid (contains_any A n ca ev.tags x _ (RdC.below ha b0))
  have k2 := e0.c2
  clear ha e0
  generalize hasB ev.tags x = R at *
  go_enter Try.func52, Try.ntmps52
  go_wp2_with fail
  generalize w.alloc (.cells #[.string ev.s, .string ev.t, .slice A n ca, .slice B m cb] 33) = w1 at *
  refine (c.out).mono ?_
  rintro e w2 ⟨rfl, b1⟩
  go_wp2_with fail
  go_ret
  exact ⟨rfl, below_chain b0 b1⟩

end Go.Proofs.Ytfbooapgjhhjmaa.EvWalk
