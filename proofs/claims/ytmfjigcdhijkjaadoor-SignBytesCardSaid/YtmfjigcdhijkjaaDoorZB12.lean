/-
  Of Q4 Q13.
-/
import Derived.Deep.RegionHeld3
import Derived.Test.YtmfjigcdhijkjaaDoorZB11
import Derived.Test.YtmfjigcdhijkjaaDoorZB5
import Derived.Test.YtmfjigcdhijkjaaDoorZB7
import Derived.Test.YtmfjigcdhijkjaaDoorZB1
set_option maxRecDepth 1000000
set_option maxHeartbeats 20000000
namespace Go.Proofs.YtmfjigcdhijkjaaDoor
open Go.RowKit
open Go.Act renaming put → aP
open List renaming setIfInBounds_toArray → lA, set_cons_zero → lZ, set_cons_succ → lS
theorem three_lt : 3 < Pt.pp:=by decide +kernel
theorem bb_lt : Pt.bb < Pt.pp:=by decide +kernel
def be32 (y : Nat → Nat) (k : Nat) : Nat:=lev (fun i => y (k + (31 - i))) 32
theorem be32_lt {y : Nat → Nat} (hy : ∀ j,y j < 256) (k : Nat) : be32 y k < top:=by
 have h:=zfz (z:=fun i => y (k + (31 - i))) (fun i => hy _) 32
 have e : (256 : Nat) ^ 32 = top:=by decide +kernel
 rw [← e]
 exact h
end Go.Proofs.YtmfjigcdhijkjaaDoor
