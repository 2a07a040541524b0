/-
  Whether any ticket may be, its body, and what any secret issues of it: the law TicketBodies, called with any arguments, answers true and leaves its arguments as they were, over the landed packages ticket, tlv, sign and those below.
  Conditions: none beyond those of the given statement.
-/
import Derived.Test.YtedehdbajiaaiaaGreatDoorZB31
import Derived.Test.YtedehdbajiaaiaaGreatDoorZB22
import Derived.Test.YtedehdbajiaaiaaGreatDoorZB27
set_option maxRecDepth 1000000
set_option maxHeartbeats 20000000
namespace Go.Proofs.YtedehdbajiaaiaaGreatDoor
open Go.RowKit
open Go.Value renaming int → vI
open Go.IntKind renaming u64 → vU
open Go.Act renaming put → aP
open List renaming setIfInBounds_toArray → lA, set_cons_zero → lZ, set_cons_succ → lS
theorem TicketBodies_holds : Rows.TicketBodiesCardSaid:=TicketBodies_of (code9 codeL)
end Go.Proofs.YtedehdbajiaaiaaGreatDoor
