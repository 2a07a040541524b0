/-
  A verdict is Valid just if the ticket checks, isn't revoked, and covers; with more revoked none becomes Valid: the law FareValid, called with any arguments, answers true and leaves its arguments as they were, over the landed package fare and those below.
  Conditions: none beyond those of the given statement.
-/
import Derived.Test.YtbfkecfcolcclaaGreatDoorZC20
import Derived.Test.YtbfkecfcolcclaaGreatDoorZC18
set_option maxRecDepth 1000000
set_option maxHeartbeats 20000000
namespace Go.Proofs.YtbfkecfcolcclaaGreatDoor
open Go.RowKit
open Go.Value renaming int → vI
open Go.IntKind renaming u64 → vU
open Go.Act renaming put → aP
open List renaming setIfInBounds_toArray → lA, set_cons_zero → lZ, set_cons_succ → lS
theorem FareValid_holds : Rows.FareValidCardSaid:=FareValid_of ⟨code14a,code14b codeL,code14c codeL⟩
end Go.Proofs.YtbfkecfcolcclaaGreatDoor
