/-
  With S turned to n - S a signature holds, too, or neither does (SignTurns). Conditions: none but the statement's own.
-/
import Derived.Test.YtmfjigcdhijkjaaDoorZB47
import Derived.Test.YtmfjigcdhijkjaaDoorZB49
set_option maxRecDepth 1000000
set_option maxHeartbeats 20000000
namespace Go.Proofs.YtmfjigcdhijkjaaDoor
open Go.RowKit
open Go.Act renaming put → aP
open List renaming setIfInBounds_toArray → lA, set_cons_zero → lZ, set_cons_succ → lS
theorem SignTurns_holds : Rows.SignTurnsCardSaid:=zhk ⟨code7,codeD⟩
end Go.Proofs.YtmfjigcdhijkjaaDoor
#print axioms Go.Proofs.YtmfjigcdhijkjaaDoor.SignTurns_holds
