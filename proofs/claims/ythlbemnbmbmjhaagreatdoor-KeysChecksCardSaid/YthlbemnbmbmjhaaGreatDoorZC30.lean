/-
  What any bytes check as with any keys at any minute: the law KeysChecks, called with any arguments, answers true and leaves its arguments as they were, over the landed package keys and those below.
  Conditions: none beyond those of the given statement.
-/
import Derived.Test.YthlbemnbmbmjhaaGreatDoorZC29
import Derived.Test.YthlbemnbmbmjhaaGreatDoorZC28
import Derived.Test.YthlbemnbmbmjhaaGreatDoorZC26
set_option maxRecDepth 1000000
set_option maxHeartbeats 20000000
namespace Go.Proofs.YthlbemnbmbmjhaaGreatDoor
open Go.RowKit
open Go.Value renaming int → vI
open Go.IntKind renaming u64 → vU
open Go.Act renaming put → aP
open List renaming setIfInBounds_toArray → lA, set_cons_zero → lZ, set_cons_succ → lS
theorem KeysChecks_holds : Rows.KeysChecksCardSaid:=KeysChecks_of (code10 codeL)
end Go.Proofs.YthlbemnbmbmjhaaGreatDoor
