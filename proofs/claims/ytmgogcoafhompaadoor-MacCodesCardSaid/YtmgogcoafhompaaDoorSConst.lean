/-
  clapperref03.constants: K0 to K63, in a new slice.
-/
import Derived.Test.YtmgogcoafhompaaDoorSSpec
import Derived.Test.YtmgogcoafhompaaDoorMem
import Derived.Test.YtmgogcoafhompaaDoorRows
import Derived.WalkKit
import Derived.WalkSpells
import Derived.WalkLawsBesides
import Derived.Deep.LoopGhost
import Derived.BigQuiet
namespace Go.Proofs.YtmgogcoafhompaaDoor
open Go.RowKit

/-- A new slice of words. -/
def kCells : Array Value := (kList.map fun (k : Nat) => Value.int .u32 (k : Int)).toArray
set_option maxRecDepth 100000 in
set_option maxHeartbeats 1000000 in
theorem constants_calls (w : World) :
    Calls Tryd.prog 17 #[] w fun e w' => e = .returned (.slice (some ⟨w.heap.size, 0, none⟩) 64 64) ∧ w' = w.alloc (.cells kCells 42) := by
  go_enter Tryd.func17, Tryd.ntmps17
  go_wp2
  go_ret
  exact ⟨rfl, congrArg (fun c => w.alloc (.cells c 42)) (by unfold kCells kList; rfl)⟩
theorem kRow {w : World} {g : Nat} (hg : g = w.heap.size) : (w.alloc (.cells kCells 42)).rowIs g 42 64 (fun j => .int .u32 (kc j : Nat)) := by
  refine row_new hg (by unfold kCells kList; rfl) fun i hi => ?_
  unfold kCells kc
  have hl : kList.length = 64 := by decide
  simp [List.getD, hl, hi]
end Go.Proofs.YtmgogcoafhompaaDoor
