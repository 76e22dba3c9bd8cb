/-
  All of layer 10: the landed package's contracts and the six statements' walks.
-/
import Derived.Test.YtjoifkmcfenhpaaMg4
namespace Go.Proofs.Ytjoifkmcfenhpaa.BtWalk

theorem six_done : BApi := bApi

end Go.Proofs.Ytjoifkmcfenhpaa.BtWalk

