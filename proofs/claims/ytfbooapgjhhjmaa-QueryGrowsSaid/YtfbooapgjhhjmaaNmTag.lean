/-
  Contract of layer 3: MayTag.
-/
import Derived.Test.YtfbooapgjhhjmaaNmCut
namespace Go.Proofs.Ytfbooapgjhhjmaa.NameWalk
open Go.RowKit Go.Proofs.Ytfbooapgjhhjmaa.NameMath

set_option maxRecDepth 100000 in
theorem mayTag_any (s : ByteArray) (w : World) (hs : s.size ≤ 9223372036854775807) :
    Calls Try.prog 28 #[.string s] w fun e w' => e = .returned (.bool (parts s.data.toList).2.2) ∧ Below w.heap.size w w' := by
  have hc := parts_any s w hs
  generalize parts s.data.toList = p at *
  go_enter Try.func28, Try.ntmps28
  go_wp2_with (go_at_call 47; refine hc.mono ?_; rintro e w' ⟨rfl, b1⟩)
  go_ret
  exact ⟨rfl, b1⟩

end Go.Proofs.Ytfbooapgjhhjmaa.NameWalk
