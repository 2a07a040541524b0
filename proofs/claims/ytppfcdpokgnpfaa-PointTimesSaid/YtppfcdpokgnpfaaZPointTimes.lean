/-
  PointTimes: A multiple by a sum of numbers is the sum of the multiples, and n times a point is Far.
  No condition.
-/
import Derived.Test.YtppfcdpokgnpfaaZ12
namespace Go.Proofs.Ytppfcdpokgnpfaa
open Go.RowKit

theorem PointTimes_holds : Rows.PointTimesSaid := PointTimes_of code
end Go.Proofs.Ytppfcdpokgnpfaa
