/-
  PointGroup: Points are a group: sums are on the curve, the same in both orders and however they are put together, and what takes a point away makes Far.
  No condition.
-/
import Derived.Test.YtppfcdpokgnpfaaZ12
namespace Go.Proofs.Ytppfcdpokgnpfaa
open Go.RowKit

theorem PointGroup_holds : Rows.PointGroupSaid := PointGroup_of code
end Go.Proofs.Ytppfcdpokgnpfaa
