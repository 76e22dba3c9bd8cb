/-
  Contracts of layer 4.
-/
import Derived.Test.YtgldheeplhcmcaaEvApiA
import Derived.Test.YtgldheeplhcmcaaEvApiB
import Derived.Test.YtgldheeplhcmcaaEvApiN
