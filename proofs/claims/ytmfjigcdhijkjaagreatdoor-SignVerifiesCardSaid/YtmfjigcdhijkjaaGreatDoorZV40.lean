/-
  Of Y8.
-/
import Derived.Test.YtmfjigcdhijkjaaGreatDoorZV39
import Derived.Test.YtmfjigcdhijkjaaGreatDoorZV34
import Derived.Test.YtmfjigcdhijkjaaGreatDoorZV32
set_option maxRecDepth 1000000
set_option maxHeartbeats 20000000
namespace Go.Proofs.YtmfjigcdhijkjaaGreatDoor
open Go.RowKit
open Go.Act renaming put → aP
open List renaming setIfInBounds_toArray → lA, set_cons_zero → lZ, set_cons_succ → lS
theorem up_code (w : World) (hK : KT w) : Calls Tryz.prog 5 #[] w fun e w' => e = .returned (.bool true) ∧ Ext w w' :=
 up7_calls (ex_sign fun _ y _ hK hm hy => ssign_ok hm y hy hK) (fun W => (sbytes_calls Pt.exR Pt.exS W).mono fun _ _ ⟨⟨v,he,ho⟩,hE⟩ => ⟨⟨v,he,ho⟩,hE⟩) w hK
theorem code7 : Code7 where
 up:=up_code
 chk_no:=fun _ _ _ _ _ y w hX hY hR hS h => sver_no hX hY hR hS h y w
 chk_yes:=fun p _ _ y w hR hS hy => sver_yes p hR hS y hy w
end Go.Proofs.YtmfjigcdhijkjaaGreatDoor
