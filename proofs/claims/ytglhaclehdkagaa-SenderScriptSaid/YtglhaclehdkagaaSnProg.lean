/-
  Layer 16: the program's sender: all its contracts (SnP1 to SnP4).
-/
import Derived.Test.YtglhaclehdkagaaSnP4
namespace Go.Proofs.Ytglhaclehdkagaa

end Go.Proofs.Ytglhaclehdkagaa

