/-
  Of Q7.
-/
import Derived.Deep.Cut
import Derived.Deep.CutRange
import Derived.Deep.RegionHeld3
import Derived.Test.YtmfjigcdhijkjaaDoorZB9
import Derived.Test.YtmfjigcdhijkjaaDoorZB1
import Derived.Test.YtmfjigcdhijkjaaDoorZB5
set_option maxRecDepth 1000000
set_option maxHeartbeats 20000000
namespace Go.Proofs.YtmfjigcdhijkjaaDoor
open Go.RowKit
open Go.Act renaming put → aP
open List renaming setIfInBounds_toArray → lA, set_cons_zero → lZ, set_cons_succ → lS
def x3 (U T X1 X2 : Nat) : Nat:=((U * T % Pt.pp * (U * T % Pt.pp) % Pt.pp + Pt.pp - X1) % Pt.pp + Pt.pp - X2) % Pt.pp
def y3 (U T X1 Y1 X2 : Nat) : Nat:=(U * T % Pt.pp * ((X1 + Pt.pp - x3 U T X1 X2) % Pt.pp) % Pt.pp + Pt.pp - Y1) % Pt.pp
theorem pp_one : 1 < Pt.pp:=by decide +kernel
end Go.Proofs.YtmfjigcdhijkjaaDoor
