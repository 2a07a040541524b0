/-
  What was signed with a secret holds for its key (SignHolds). Conditions: none but the statement's own.
-/
import Derived.Test.YtmfjigcdhijkjaaDoorZB47
import Derived.Test.YtmfjigcdhijkjaaDoorZB29
set_option maxRecDepth 1000000
set_option maxHeartbeats 20000000
namespace Go.Proofs.YtmfjigcdhijkjaaDoor
open Go.RowKit
open Go.Act renaming put → aP
open List renaming setIfInBounds_toArray → lA, set_cons_zero → lZ, set_cons_succ → lS
theorem SignHolds_holds : Rows.SignHoldsCardSaid:=zhm ⟨code7,codeD⟩
end Go.Proofs.YtmfjigcdhijkjaaDoor
#print axioms Go.Proofs.YtmfjigcdhijkjaaDoor.SignHolds_holds
