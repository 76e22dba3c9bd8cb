/-
  All five statements of layer 9, their walks over the landed frame.
-/
import Derived.Test.YtniemomngggifaaMg2
namespace Go.Proofs.Ytniemomngggifaa.FrWalk

theorem five_done : FApi := fApi

end Go.Proofs.Ytniemomngggifaa.FrWalk

