/-
  Layer 8: the walks of six statements, together.
-/
import Derived.Test.YtfdhfjmmmjhgbaaMg4


