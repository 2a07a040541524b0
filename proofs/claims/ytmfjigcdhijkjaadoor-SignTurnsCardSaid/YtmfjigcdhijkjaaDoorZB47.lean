/-
  Of Y8 Y9.
-/
import Derived.Test.YtmfjigcdhijkjaaDoorZB46
import Derived.Test.YtmfjigcdhijkjaaDoorZB37
import Derived.Test.YtmfjigcdhijkjaaDoorZB40
import Derived.Test.YtmfjigcdhijkjaaDoorZB39
set_option maxRecDepth 1000000
set_option maxHeartbeats 20000000
namespace Go.Proofs.YtmfjigcdhijkjaaDoor
open Go.RowKit
open Go.Act renaming put → aP
open List renaming setIfInBounds_toArray → lA, set_cons_zero → lZ, set_cons_succ → lS
theorem up_code (w : World) (hK : KT w) : Calls Tryd.prog 6 #[] w fun e w' => e = .returned (.bool true) ∧ Ext w w' :=
 up7_calls (ex_sign fun _ y _ hK hm hy => ssign_ok hm y hy hK) (fun W => (zgy Pt.exR Pt.exS W).mono fun _ _ ⟨⟨v,he,ho⟩,hE⟩ => ⟨⟨v,he,ho⟩,hE⟩) w hK
theorem code7 : Code7 where
 up:=up_code
 pub_bad:=fun _ w hD hm => spub_bad hD hm w
 pub_ok:=fun _ w hm => spub_ok hm rfl w
 sign_bad:=fun _ y w hD _ hm => ssign_bad hD hm y w
 sign_ok:=fun _ y _ hK hm hy => ssign_ok hm y hy hK
 chk_no:=fun _ _ _ _ _ y w hX hY hR hS h => sver_no hX hY hR hS h y w
 chk_yes:=fun p _ _ y w hR hS hy => sver_yes p hR hS y hy w
theorem codeD : CodeD where
 on_q:=on_q_is
 bytes:=fun R S w => zgy R S w
 parse_64:=fun b o c y hy hc w hb hcell => sparse_64 b o c y hy hc w hb hcell
 parse_no:=fun A n c hn w => sparse_no A n c hn w
end Go.Proofs.YtmfjigcdhijkjaaDoor
