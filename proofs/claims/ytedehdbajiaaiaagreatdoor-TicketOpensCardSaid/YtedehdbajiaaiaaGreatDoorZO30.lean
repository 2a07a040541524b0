/-
  What any bytes open as, and check as with any key: the law TicketOpens, called with any arguments, answers true and leaves its arguments as they were, over the landed packages ticket, tlv, sign and those below.
  Conditions: none beyond those of the given statement.
-/
import Derived.Test.YtedehdbajiaaiaaGreatDoorZO29
import Derived.Test.YtedehdbajiaaiaaGreatDoorZO21
import Derived.Test.YtedehdbajiaaiaaGreatDoorZO26
set_option maxRecDepth 1000000
set_option maxHeartbeats 20000000
namespace Go.Proofs.YtedehdbajiaaiaaGreatDoor
open Go.RowKit
open Go.Value renaming int → vI
open Go.IntKind renaming u64 → vU
open Go.Act renaming put → aP
open List renaming setIfInBounds_toArray → lA, set_cons_zero → lZ, set_cons_succ → lS
theorem TicketOpens_holds : Rows.TicketOpensCardSaid:=TicketOpens_of (code9 codeL)
end Go.Proofs.YtedehdbajiaaiaaGreatDoor
