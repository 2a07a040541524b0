/-
  Public and Sign tell the key of a secret and the signature of a digest with it, as the document says (SignSigns). Conditions: none but the statement's own.
-/
import Derived.Test.YtmfjigcdhijkjaaGreatDoorZS24
import Derived.Test.YtmfjigcdhijkjaaGreatDoorZS10
set_option maxRecDepth 1000000
set_option maxHeartbeats 20000000
namespace Go.Proofs.YtmfjigcdhijkjaaGreatDoor
open Go.RowKit
open Go.Value renaming int → vI
open Go.IntKind renaming u64 → vU
open Go.Act renaming put → aP
open List renaming setIfInBounds_toArray → lA, set_cons_zero → lZ, set_cons_succ → lS
theorem SignSigns_holds : Rows.SignSignsCardSaid:=zix code7
end Go.Proofs.YtmfjigcdhijkjaaGreatDoor
#print axioms Go.Proofs.YtmfjigcdhijkjaaGreatDoor.SignSigns_holds
