/-
  Whether any products may be, and any ticket covers any zone at any minute: the law FareCovers, called with any arguments, answers true and leaves its arguments as they were, over the landed package fare and those below.
  Conditions: none beyond those of the given statement.
-/
import Derived.Test.YtbfkecfcolcclaaGreatDoorZA13
import Derived.Test.YtbfkecfcolcclaaGreatDoorZA6
set_option maxRecDepth 1000000
set_option maxHeartbeats 20000000
namespace Go.Proofs.YtbfkecfcolcclaaGreatDoor
open Go.RowKit
open Go.Value renaming int → vI
open Go.IntKind renaming u64 → vU
open Go.Act renaming put → aP
open List renaming setIfInBounds_toArray → lA, set_cons_zero → lZ, set_cons_succ → lS
theorem FareCovers_holds : Rows.FareCoversCardSaid:=FareCovers_of code14a
end Go.Proofs.YtbfkecfcolcclaaGreatDoor
