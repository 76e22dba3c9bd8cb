/-
  Layer 14's statements over the values that come in, at the landed index.
-/
import Derived.Test.YtiplfhmimpkplaaGreatMg7
namespace Go.Proofs.YtiplfhmimpkplaaGreat.IxWalk
open Go.RowKit Go.WideShapes Go.ChangeShapes Go.Proofs.YtiplfhmimpkplaaGreat.NumMem Go.Proofs.YtiplfhmimpkplaaGreat.Open

section
variable {H : Type} {enc : TypeId × Value → H}
set_option maxRecDepth 100000 in
theorem iplays_main (W : World) (base : Nat) (v0 v1 : Value) {d0 d1 : DataW H} {p0 p1 : List MemPlace} (o0 : Value.okWide Tryz.prog W .any base 22 v0) (o1 : Value.okWide Tryz.prog W .any base 27 v1)
    (h0 : DataW.Trod enc Tryz.prog W 0 (fun _ => true) true 22 v0 d0 p0) (h1 : DataW.Trod enc Tryz.prog W 0 (fun _ => true) true 27 v1 d1 p1) :
    Calls Tryz.prog 3 #[v0, v1] W fun e W' => e = .returned (.bool true) ∧ Below W.heap.size W W' := iplays_main' iTwo W base v0 v1 o0 o1 h0 h1
end

end Go.Proofs.YtiplfhmimpkplaaGreat.IxWalk

