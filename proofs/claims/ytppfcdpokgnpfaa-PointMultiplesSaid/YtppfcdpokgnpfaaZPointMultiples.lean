/-
  PointMultiples: Any multiple of any point is the document's, by definition.
  No condition.
-/
import Derived.Test.YtppfcdpokgnpfaaZ12
namespace Go.Proofs.Ytppfcdpokgnpfaa
open Go.RowKit

theorem PointMultiples_holds : Rows.PointMultiplesSaid := PointMultiples_of code
end Go.Proofs.Ytppfcdpokgnpfaa
