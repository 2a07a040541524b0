/-
  What any bytes open as, as a signed record, and check as with any key: the law RecordOpens, called with any arguments, answers true and leaves its arguments as they were, over the landed packages record, tlv, sign and those below.
  Conditions: none beyond those of the given statement.
-/
import Derived.Test.YtihophdbkjhopaaGreatDoorZB25
import Derived.Test.YtihophdbkjhopaaGreatDoorZB24
import Derived.Test.YtihophdbkjhopaaGreatDoorZB23
set_option maxRecDepth 1000000
set_option maxHeartbeats 20000000
namespace Go.Proofs.YtihophdbkjhopaaGreatDoor
open Go.RowKit
open Go.Value renaming int → vI
open Go.IntKind renaming u64 → vU
open Go.Act renaming put → aP
open List renaming setIfInBounds_toArray → lA, set_cons_zero → lZ, set_cons_succ → lS
theorem RecordOpens_holds : Rows.RecordOpensCardSaid:=RecordOpens_of (code17 codeL)
end Go.Proofs.YtihophdbkjhopaaGreatDoor
