/-
  Of a chain of records the first ones are one, and no more than these are: the law RecordLinks, called with any arguments, answers true and leaves its arguments as they were, over the landed packages record, tlv, sign and those below.
  Conditions: none beyond those of the given statement.
-/
import Derived.Test.YtihophdbkjhopaaDoorZL16
import Derived.Test.YtihophdbkjhopaaDoorZL15
import Derived.Test.YtihophdbkjhopaaDoorZL14
set_option maxRecDepth 1000000
set_option maxHeartbeats 20000000
namespace Go.Proofs.YtihophdbkjhopaaDoor
open Go.RowKit
open Go.Value renaming int → vI
open Go.IntKind renaming u64 → vU
open Go.Act renaming put → aP
open List renaming setIfInBounds_toArray → lA, set_cons_zero → lZ, set_cons_succ → lS
theorem RecordLinks_holds : Rows.RecordLinksCardSaid:=RecordLinks_of (code17 codeL)
end Go.Proofs.YtihophdbkjhopaaDoor
