/-
  fault's own search of a chain: for its number, and for its outermost fault.
-/
import Derived.Test.YtckbgggocmbbdaaDoorAs2
import Derived.Defers
import Derived.Recover
namespace Go.Proofs.YtckbgggocmbbdaaDoor
open Go.RowKit Go.Extern.Stop Go.Stop Go.Extern

end Go.Proofs.YtckbgggocmbbdaaDoor
