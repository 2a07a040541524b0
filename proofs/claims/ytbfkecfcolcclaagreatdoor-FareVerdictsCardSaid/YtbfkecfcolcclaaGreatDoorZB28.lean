/-
  The verdict on any bytes, by any keys, revoked ones, and products: the law FareVerdicts, called with any arguments, answers true and leaves its arguments as they were, over the landed package fare and those below.
  Conditions: none beyond those of the given statement.
-/
import Derived.Test.YtbfkecfcolcclaaGreatDoorZB27
import Derived.Test.YtbfkecfcolcclaaGreatDoorZB25
set_option maxRecDepth 1000000
set_option maxHeartbeats 20000000
namespace Go.Proofs.YtbfkecfcolcclaaGreatDoor
open Go.RowKit
open Go.Value renaming int → vI
open Go.IntKind renaming u64 → vU
open Go.Act renaming put → aP
open List renaming setIfInBounds_toArray → lA, set_cons_zero → lZ, set_cons_succ → lS
theorem FareVerdicts_holds : Rows.FareVerdictsCardSaid:=FareVerdicts_of ⟨code14a,code14b codeL⟩
end Go.Proofs.YtbfkecfcolcclaaGreatDoor
