/-
  Verify tells whether a signature of a digest holds for a key, as the document says (SignVerifies). Conditions: none but the statement's own.
-/
import Derived.Test.YtmfjigcdhijkjaaGreatDoorZV40
import Derived.Test.YtmfjigcdhijkjaaGreatDoorZV17
set_option maxRecDepth 1000000
set_option maxHeartbeats 20000000
namespace Go.Proofs.YtmfjigcdhijkjaaGreatDoor
open Go.RowKit
open Go.Act renaming put → aP
open List renaming setIfInBounds_toArray → lA, set_cons_zero → lZ, set_cons_succ → lS
theorem SignVerifies_holds : Rows.SignVerifiesCardSaid:=zgs code7
end Go.Proofs.YtmfjigcdhijkjaaGreatDoor
#print axioms Go.Proofs.YtmfjigcdhijkjaaGreatDoor.SignVerifies_holds
