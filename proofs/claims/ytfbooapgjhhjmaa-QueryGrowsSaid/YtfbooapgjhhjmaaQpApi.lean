/-
  Layer 6: what is asked of the program's four calls is so.
-/
import Derived.Test.YtfbooapgjhhjmaaQpMay
import Derived.Test.YtfbooapgjhhjmaaQpMatch
import Derived.Test.YtfbooapgjhhjmaaQpSame
import Derived.Test.YtfbooapgjhhjmaaQpNorm
import Derived.Test.YtfbooapgjhhjmaaQlCom
namespace Go.Proofs.Ytfbooapgjhhjmaa.QlLaw
open Go.Proofs.Ytfbooapgjhhjmaa.Qu Go.Proofs.Ytfbooapgjhhjmaa.QuWalk Go.Proofs.Ytfbooapgjhhjmaa.Open

theorem qApi : QApi where
  may := fun v q w hv hok => mayQ_any v q w hv hok
  norm := fun v q w hv _ hq hc => normQ_any v q w hv (by omega) (fun c h => by have := hc c h; omega)
  mtch := fun v u q ev w hv hu => matchQ_any v u q ev w hv hu
  same := fun v u q r w hv hu => sameQ_any v u q r w hv hu

end Go.Proofs.Ytfbooapgjhhjmaa.QlLaw
