/-
  How many of any bytes are a chain of any device, with any key: the law RecordChains, called with any arguments, answers true and leaves its arguments as they were, over the landed packages record, tlv, sign and those below.
  Conditions: none beyond those of the given statement.
-/
import Derived.Test.YtihophdbkjhopaaGreatDoorZC25
import Derived.Test.YtihophdbkjhopaaGreatDoorZC24
set_option maxRecDepth 1000000
set_option maxHeartbeats 20000000
namespace Go.Proofs.YtihophdbkjhopaaGreatDoor
open Go.RowKit
open Go.Value renaming int → vI
open Go.IntKind renaming u64 → vU
open Go.Act renaming put → aP
open List renaming setIfInBounds_toArray → lA, set_cons_zero → lZ, set_cons_succ → lS
theorem RecordChains_holds : Rows.RecordChainsCardSaid:=RecordChains_of (code17 codeL)
end Go.Proofs.YtihophdbkjhopaaGreatDoor
