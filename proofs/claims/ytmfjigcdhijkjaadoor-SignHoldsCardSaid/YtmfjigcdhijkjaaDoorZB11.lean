/-
  Of Q3.
-/
import Derived.BigQuiet
import Derived.Deep.Cut
import Derived.Deep.CutRange
import Derived.Deep.RegionHeld3
import Derived.Test.YtmfjigcdhijkjaaDoorZB7
import Derived.Test.YtmfjigcdhijkjaaDoorZB1
import Derived.Test.YtmfjigcdhijkjaaDoorZB5
set_option maxRecDepth 1000000
set_option maxHeartbeats 20000000
namespace Go.Proofs.YtmfjigcdhijkjaaDoor
open Go.RowKit
open Go.Act renaming put → aP
open List renaming setIfInBounds_toArray → lA, set_cons_zero → lZ, set_cons_succ → lS
def rightN (X : Nat) : Nat:=((X * X % Pt.pp * X % Pt.pp + Pt.pp - 3 * X % Pt.pp) % Pt.pp + Pt.bb) % Pt.pp
def onB (X Y : Nat) (f : Bool) : Bool:=if f then decide (X = 0) && decide (Y = 0) else decide (X < Pt.pp) && (decide (Y < Pt.pp) && decide (Y * Y % Pt.pp = rightN X))
theorem eql_zero {X : Nat} (hX : X < top) (w : World) : (binOp .eql 24 (.agg #[.int .u64 (wd X 0),.int .u64 (wd X 1),.int .u64 (wd X 2),.int .u64 (wd X 3)]) (.agg #[.int .u64 0,.int .u64 0,.int .u64 0,.int .u64 0])).run Tryd.prog w = .ok (.bool (decide (X = 0))) w:=by
 have h:=eql_num hX (show 0 < top by decide) w
 have e0 : ∀ i,wd 0 i = 0:=by intro i; unfold wd dg; simp
 simp only [e0] at h
 exact h
end Go.Proofs.YtmfjigcdhijkjaaDoor
