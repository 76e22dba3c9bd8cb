/-
  QueryMatches, its walk over the landed query.
-/
import Derived.Test.YtfbooapgjhhjmaaQlLawE
import Derived.Test.YtfbooapgjhhjmaaQpApi
namespace Go.Proofs.Ytfbooapgjhhjmaa.QlLaw
open Go.RowKit Go.WideShapes Go.ChangeShapes Go.Proofs.Ytfbooapgjhhjmaa.MemRow Go.Proofs.Ytfbooapgjhhjmaa.Ev Go.Proofs.Ytfbooapgjhhjmaa.NameMath Go.Proofs.Ytfbooapgjhhjmaa.NameWalk Go.Proofs.Ytfbooapgjhhjmaa.EvWalk Go.Proofs.Ytfbooapgjhhjmaa.Qu Go.Proofs.Ytfbooapgjhhjmaa.QuWalk Go.Proofs.Ytfbooapgjhhjmaa.Open
section
variable {H : Type} {enc : TypeId × Value → H}
theorem matches_main (W : World) (base : Nat) (v0 v1 : Value) {d0 d1 : DataW H} {p0 p1 : List MemPlace} (o0 : Value.okWide Try.prog W .any base 24 v0) (o1 : Value.okWide Try.prog W .any base 33 v1)
    (h0 : DataW.Trod enc Try.prog W 0 (fun _ => true) true 24 v0 d0 p0) (h1 : DataW.Trod enc Try.prog W 0 (fun _ => true) true 33 v1 d1 p1) :
    Calls Try.prog 4 #[v0, v1] W fun e W' => e = .returned (.bool true) ∧ Below W.heap.size W W' := matches_main' qApi W base v0 v1 o0 o1 h0 h1
end

end Go.Proofs.Ytfbooapgjhhjmaa.QlLaw
