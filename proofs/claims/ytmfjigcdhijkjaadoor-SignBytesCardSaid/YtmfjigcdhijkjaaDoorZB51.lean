/-
  The bytes of any signature, and the signature of any bytes, are as the document says, and one is the other again (SignBytes). Conditions: none but the statement's own.
-/
import Derived.Test.YtmfjigcdhijkjaaDoorZB47
import Derived.Test.YtmfjigcdhijkjaaDoorZB27
set_option maxRecDepth 1000000
set_option maxHeartbeats 20000000
namespace Go.Proofs.YtmfjigcdhijkjaaDoor
open Go.RowKit
open Go.Act renaming put → aP
open List renaming setIfInBounds_toArray → lA, set_cons_zero → lZ, set_cons_succ → lS
theorem SignBytes_holds : Rows.SignBytesCardSaid:=zhn ⟨code7,codeD⟩
end Go.Proofs.YtmfjigcdhijkjaaDoor
#print axioms Go.Proofs.YtmfjigcdhijkjaaDoor.SignBytes_holds
