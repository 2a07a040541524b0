/-
  Of SSched.
-/
import Derived.Test.YtihophdbkjhopaaGreatDoorZD8
set_option maxRecDepth 1000000
set_option maxHeartbeats 20000000
namespace Go.Proofs.YtihophdbkjhopaaGreatDoor
open Go.RowKit
open Go.Value renaming int → vI
open Go.IntKind renaming u64 → vU
open Go.Act renaming put → aP
open List renaming setIfInBounds_toArray → lA, set_cons_zero → lZ, set_cons_succ → lS
def findBlock (k : Nat) : Code → Option Code
 | .block j c => if j = k then some (.block j c) else findBlock k c
 | .seq a b => match findBlock k a with
  | some c => some c
  | none => findBlock k b
 | .cond _ a b => match findBlock k a with
  | some c => some c
  | none => findBlock k b
 | .loop c => findBlock k c
 | .scope c => findBlock k c
 | _ => none
noncomputable def piece (k : Nat) : Code:=(Tryz.f36.body.bind (findBlock k)).getD .skip
end Go.Proofs.YtihophdbkjhopaaGreatDoor
