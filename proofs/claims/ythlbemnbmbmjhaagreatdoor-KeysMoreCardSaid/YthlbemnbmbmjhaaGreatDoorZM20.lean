/-
  Of Y5 Y6 Y7 KJ.
-/
import Derived.Deep.QuietTactic
import Derived.BigQuiet
import Derived.Deep.RegionWith
import Derived.Test.YthlbemnbmbmjhaaGreatDoorRows
import Derived.WalkKit
import Derived.WalkSpells
import Derived.WalkLawsBesides
import Derived.Test.YthlbemnbmbmjhaaGreatDoorZM19
import Derived.Test.YthlbemnbmbmjhaaGreatDoorZM4
import Derived.Test.YthlbemnbmbmjhaaGreatDoorZM11
import Derived.Test.YthlbemnbmbmjhaaGreatDoorZM2
import Derived.Test.YthlbemnbmbmjhaaGreatDoorZM15
import Derived.Test.YthlbemnbmbmjhaaGreatDoorZM1
import Derived.Test.YthlbemnbmbmjhaaGreatDoorZM9
import Derived.Test.YthlbemnbmbmjhaaGreatDoorZM17
set_option maxRecDepth 1000000
set_option maxHeartbeats 20000000
namespace Go.Proofs.YthlbemnbmbmjhaaGreatDoor
open Go.RowKit
open Go.Value renaming int → vI
open Go.IntKind renaming u64 → vU
open Go.Act renaming put → aP
open List renaming setIfInBounds_toArray → lA, set_cons_zero → lZ, set_cons_succ → lS
theorem sver_far {X Y R S : Nat} (hX : X < top) (hY : Y < top) (hR : R < top) (hS : S < top) (y : Nat → Nat) (w : World) :
  Calls Tryz.prog 64 #[qv X Y true,dgv y,gv R S] w fun e w' => e = .returned (.bool false) ∧ Ext w w':=by
 have kX:=veil hX
 have kY:=veil hY
 have kR:=veil hR
 have kS:=veil hS
 clear hS hR hY hX
 unfold qv qc gv gc dgv dgc
 go_enter Tryz.func64,Tryz.ntmps64
 go_upto_region 1 with (fail)
 refine zfd fun w1 hx b0 b1 b2 => ?_
 have b0 : w1.heap[w.heap.size]? = some (.cells (qc X Y true) 29 (0,0)):=b0
 have b1 : w1.heap[w.heap.size + 1]? = some (.cells (dgc y) 112 (0,0)):=b1
 have b2 : w1.heap[w.heap.size + 1 + 1]? = some (.cells (gc R S) 78 (0,0)):=b2
 refine' zby (m:=19) (A:=_) ?h1 ?h2
 case h1 =>
  refine zaa (.pointer (some ⟨w.heap.size,8,none⟩)) rfl (zak rfl rfl (fldT2 _ ·)) ?_
  refine zaa (.bool true) rfl (zba rfl rfl b0 rfl (zbq ·)) ?_;simp only [aP,lA,lZ,lS]
  refine zaa (.bool true) rfl (zae (.inl rfl) rfl) ?_
  refine zaw rfl ?_;simp only [aP,lA,lZ,lS]
  refine zaw rfl ?_
  refine zaw rfl ?_;simp only [aP,lA,lZ,lS]
  refine zaa (.bool true) rfl (zav rfl rfl rfl) ?_
  refine zaa (.bool true) rfl (zae (.inl rfl) rfl) ?_;simp only [aP,lA,lZ,lS]
  refine zaw rfl ?_
  refine zaw rfl ?_;simp only [aP,lA,lZ,lS]
  refine zaw rfl ?_
  refine zaw rfl ?_;simp only [aP,lA,lZ,lS]
  refine zaa (.bool true) rfl (zav rfl rfl rfl) ?_
  refine zaa (.bool true) rfl (zae (.inl rfl) rfl) ?_;simp only [aP,lA,lZ,lS]
  refine zaw rfl ?_
  refine zaw rfl ?_;simp only [aP,lA,lZ,lS]
  refine zaw rfl ?_
  refine zaw rfl ?_;simp only [aP,lA,lZ,lS]
  refine zaa (.bool true) rfl (zav rfl rfl rfl) ?_;simp only [aP,lA,lZ,lS]
  exact zar
 refine zay rfl ?_
 intro w2 hE
 replace hx:=hx.trans hE
 clear hE
 go_upto_region 2 with (fail)
 go_wp2
 go_ret
 exact ⟨rfl,hx⟩
theorem sver_off {X Y R S : Nat} (hX : X < top) (hY : Y < top) (hR : R < top) (hS : S < top) (hon : onB X Y false = false) (y : Nat → Nat) (w : World) :
  Calls Tryz.prog 64 #[qv X Y false,dgv y,gv R S] w fun e w' => e = .returned (.bool false) ∧ Ext w w':=by
 have kX:=veil hX
 have kY:=veil hY
 have kR:=veil hR
 have kS:=veil hS
 have kon:=veil hon
 clear hon hS hR hY hX
 unfold qv qc gv gc dgv dgc
 go_enter Tryz.func64,Tryz.ntmps64
 go_upto_region 1 with (fail)
 refine zfd fun w1 hx b0 b1 b2 => ?_
 have b0 : w1.heap[w.heap.size]? = some (.cells (qc X Y false) 29 (0,0)):=b0
 have b1 : w1.heap[w.heap.size + 1]? = some (.cells (dgc y) 112 (0,0)):=b1
 have b2 : w1.heap[w.heap.size + 1 + 1]? = some (.cells (gc R S) 78 (0,0)):=b2
 refine' zby (m:=19) (A:=_) ?h1 ?h2
 case h1 =>
  refine zaa (.pointer (some ⟨w.heap.size,8,none⟩)) rfl (zak rfl rfl (fldT2 _ ·)) ?_
  refine zaa (.bool false) rfl (zba rfl rfl b0 rfl (zbq ·)) ?_;simp only [aP,lA,lZ,lS]
  refine zaa (.bool false) rfl (zae (.inl rfl) rfl) ?_
  refine zah (qv X Y false) rfl (zac rfl rfl b0 rfl Tryz.underlying29 rfl (iT _ _ _)) ?_;simp only [aP,lA,lZ,lS]
  refine zah (.bool false) rfl (zag (args:=[qv X Y false]) rfl rfl (fun W => zab Tryz.func47 rfl rfl _ W) (fun W hW => onp_is kon.out kX.out kY.out W)) ?_
  refine zah (.bool true) rfl (zbc rfl rfl rfl) ?_;simp only [aP,lA,lZ,lS]
  refine zaa (.bool true) rfl (zav rfl rfl rfl) ?_
  refine zaa (.bool true) rfl (zae (.inl rfl) rfl) ?_;simp only [aP,lA,lZ,lS]
  refine zaw rfl ?_
  refine zaw rfl ?_;simp only [aP,lA,lZ,lS]
  refine zaw rfl ?_
  refine zaw rfl ?_;simp only [aP,lA,lZ,lS]
  refine zaa (.bool true) rfl (zav rfl rfl rfl) ?_
  refine zaa (.bool true) rfl (zae (.inl rfl) rfl) ?_;simp only [aP,lA,lZ,lS]
  refine zaw rfl ?_
  refine zaw rfl ?_;simp only [aP,lA,lZ,lS]
  refine zaw rfl ?_
  refine zaw rfl ?_;simp only [aP,lA,lZ,lS]
  refine zaa (.bool true) rfl (zav rfl rfl rfl) ?_;simp only [aP,lA,lZ,lS]
  exact zar
 refine zay rfl ?_
 intro w2 hE
 replace hx:=hx.trans hE
 clear hE
 go_upto_region 2 with (fail)
 go_wp2
 go_ret
 exact ⟨rfl,hx⟩
theorem sver_r {X Y R S : Nat} (hX : X < top) (hY : Y < top) (hR : R < top) (hS : S < top) (hon : onB X Y false = true) (hr : mayB R = false) (y : Nat → Nat) (w : World) :
  Calls Tryz.prog 64 #[qv X Y false,dgv y,gv R S] w fun e w' => e = .returned (.bool false) ∧ Ext w w':=by
 have kX:=veil hX
 have kY:=veil hY
 have kR:=veil hR
 have kS:=veil hS
 have kon:=veil hon
 have kr:=veil hr
 clear hr hon hS hR hY hX
 unfold qv qc gv gc dgv dgc
 go_enter Tryz.func64,Tryz.ntmps64
 go_upto_region 1 with (fail)
 refine zfd fun w1 hx b0 b1 b2 => ?_
 have b0 : w1.heap[w.heap.size]? = some (.cells (qc X Y false) 29 (0,0)):=b0
 have b1 : w1.heap[w.heap.size + 1]? = some (.cells (dgc y) 112 (0,0)):=b1
 have b2 : w1.heap[w.heap.size + 1 + 1]? = some (.cells (gc R S) 78 (0,0)):=b2
 refine' zby (m:=19) (A:=_) ?h1 ?h2
 case h1 =>
  refine zaa (.pointer (some ⟨w.heap.size,8,none⟩)) rfl (zak rfl rfl (fldT2 _ ·)) ?_
  refine zaa (.bool false) rfl (zba rfl rfl b0 rfl (zbq ·)) ?_;simp only [aP,lA,lZ,lS]
  refine zaa (.bool false) rfl (zae (.inl rfl) rfl) ?_
  refine zah (qv X Y false) rfl (zac rfl rfl b0 rfl Tryz.underlying29 rfl (iT _ _ _)) ?_;simp only [aP,lA,lZ,lS]
  refine zah (.bool true) rfl (zag (args:=[qv X Y false]) rfl rfl (fun W => zab Tryz.func47 rfl rfl _ W) (fun W hW => onp_is kon.out kX.out kY.out W)) ?_
  refine zah (.bool false) rfl (zbc rfl rfl rfl) ?_;simp only [aP,lA,lZ,lS]
  refine zaa (.bool false) rfl (zav rfl rfl rfl) ?_
  refine zaa (.bool false) rfl (zae (.inl rfl) rfl) ?_;simp only [aP,lA,lZ,lS]
  refine zah (ptrTo (w.heap.size + 1 + 1)) rfl (zak rfl rfl (fldG0 _ ·)) ?_
  refine zah (nv R) rfl (zac rfl rfl b2 rfl uN rfl (iN _)) ?_;simp only [aP,lA,lZ,lS]
  refine zah (.bool false) rfl (zag (args:=[nv R]) rfl rfl (fun W => zab Tryz.func85 rfl rfl _ W) (fun W hW => zhx kr.out kR.out W)) ?_
  refine zah (.bool true) rfl (zbc rfl rfl rfl) ?_;simp only [aP,lA,lZ,lS]
  refine zaa (.bool true) rfl (zav rfl rfl rfl) ?_
  refine zaa (.bool true) rfl (zae (.inl rfl) rfl) ?_;simp only [aP,lA,lZ,lS]
  refine zaw rfl ?_
  refine zaw rfl ?_;simp only [aP,lA,lZ,lS]
  refine zaw rfl ?_
  refine zaw rfl ?_;simp only [aP,lA,lZ,lS]
  refine zaa (.bool true) rfl (zav rfl rfl rfl) ?_;simp only [aP,lA,lZ,lS]
  exact zar
 refine zay rfl ?_
 intro w2 hE
 replace hx:=hx.trans hE
 clear hE
 go_upto_region 2 with (fail)
 go_wp2
 go_ret
 exact ⟨rfl,hx⟩
theorem sver_s {X Y R S : Nat} (hX : X < top) (hY : Y < top) (hR : R < top) (hS : S < top) (hon : onB X Y false = true) (hr : mayB R = true) (hs : mayB S = false) (y : Nat → Nat) (w : World) :
  Calls Tryz.prog 64 #[qv X Y false,dgv y,gv R S] w fun e w' => e = .returned (.bool false) ∧ Ext w w':=by
 have kX:=veil hX
 have kY:=veil hY
 have kR:=veil hR
 have kS:=veil hS
 have kon:=veil hon
 have kr:=veil hr
 have ks:=veil hs
 clear hs hr hon hS hR hY hX
 unfold qv qc gv gc dgv dgc
 go_enter Tryz.func64,Tryz.ntmps64
 go_upto_region 1 with (fail)
 refine zfd fun w1 hx b0 b1 b2 => ?_
 have b0 : w1.heap[w.heap.size]? = some (.cells (qc X Y false) 29 (0,0)):=b0
 have b1 : w1.heap[w.heap.size + 1]? = some (.cells (dgc y) 112 (0,0)):=b1
 have b2 : w1.heap[w.heap.size + 1 + 1]? = some (.cells (gc R S) 78 (0,0)):=b2
 refine' zby (m:=19) (A:=_) ?h1 ?h2
 case h1 =>
  refine zaa (.pointer (some ⟨w.heap.size,8,none⟩)) rfl (zak rfl rfl (fldT2 _ ·)) ?_
  refine zaa (.bool false) rfl (zba rfl rfl b0 rfl (zbq ·)) ?_;simp only [aP,lA,lZ,lS]
  refine zaa (.bool false) rfl (zae (.inl rfl) rfl) ?_
  refine zah (qv X Y false) rfl (zac rfl rfl b0 rfl Tryz.underlying29 rfl (iT _ _ _)) ?_;simp only [aP,lA,lZ,lS]
  refine zah (.bool true) rfl (zag (args:=[qv X Y false]) rfl rfl (fun W => zab Tryz.func47 rfl rfl _ W) (fun W hW => onp_is kon.out kX.out kY.out W)) ?_
  refine zah (.bool false) rfl (zbc rfl rfl rfl) ?_;simp only [aP,lA,lZ,lS]
  refine zaa (.bool false) rfl (zav rfl rfl rfl) ?_
  refine zaa (.bool false) rfl (zae (.inl rfl) rfl) ?_;simp only [aP,lA,lZ,lS]
  refine zah (ptrTo (w.heap.size + 1 + 1)) rfl (zak rfl rfl (fldG0 _ ·)) ?_
  refine zah (nv R) rfl (zac rfl rfl b2 rfl uN rfl (iN _)) ?_;simp only [aP,lA,lZ,lS]
  refine zah (.bool true) rfl (zag (args:=[nv R]) rfl rfl (fun W => zab Tryz.func85 rfl rfl _ W) (fun W hW => zhx kr.out kR.out W)) ?_
  refine zah (.bool false) rfl (zbc rfl rfl rfl) ?_;simp only [aP,lA,lZ,lS]
  refine zaa (.bool false) rfl (zav rfl rfl rfl) ?_
  refine zaa (.bool false) rfl (zae (.inl rfl) rfl) ?_;simp only [aP,lA,lZ,lS]
  refine zah (.pointer (some ⟨w.heap.size + 1 + 1,4,none⟩)) rfl (zak rfl rfl (fldG1 _ ·)) ?_
  refine zah (nv S) rfl (zac rfl rfl b2 rfl uN rfl (iN _)) ?_;simp only [aP,lA,lZ,lS]
  refine zah (.bool false) rfl (zag (args:=[nv S]) rfl rfl (fun W => zab Tryz.func85 rfl rfl _ W) (fun W hW => zhx ks.out kS.out W)) ?_
  refine zah (.bool true) rfl (zbc rfl rfl rfl) ?_;simp only [aP,lA,lZ,lS]
  refine zaa (.bool true) rfl (zav rfl rfl rfl) ?_;simp only [aP,lA,lZ,lS]
  exact zar
 refine zay rfl ?_
 intro w2 hE
 replace hx:=hx.trans hE
 clear hE
 go_upto_region 2 with (fail)
 go_wp2
 go_ret
 exact ⟨rfl,hx⟩
theorem sver_all_t (y : Nat → Nat) {p a b c : Pt.Q} {X Y R S t E u v m : Nat} (hX : X < top) (hY : Y < top) (hR : R < top) (hS : S < top) (hon : onB X Y false = true) (hr : mayB R = true) (hs : mayB S = true) (hp : X = Pt.pX p.1 ∧ Y = Pt.pY p.1 ∧ false = Pt.pFar p.1) (hy : ∀ j,y j < 256) (hE : E = num32 y) (ht : t = Pt.iG Pt.nn S) (hu : u = E * t % Pt.nn) (hv : v = R * t % Pt.nn) (ha : a = Pt.grp.mul u Pt.base) (hb : b = Pt.grp.mul v p) (hc : c = Pt.grp.op a b) (hfar : Pt.pFar c.1 = true) (hm : m = Pt.pX c.1 % Pt.nn) (w : World) :
  Calls Tryz.prog 64 #[qv X Y false,dgv y,gv R S] w fun e w' => e = .returned (.bool (false)) ∧ Ext w w':=by
 obtain ⟨x,hx0⟩ : ∃ x,x = Pt.pX c.1:=⟨_,rfl⟩
 obtain ⟨z,hz0⟩ : ∃ z,z = Pt.pY c.1:=⟨_,rfl⟩
 have kEt:=veil (show E < top from by rw [hE]; exact num32_lt hy)
 have ksum:=fun W => sumof_calls (w:=W) (mul_top hu) (mul_top hv) hp ha hb hc
 rw [← hx0,← hz0,hfar] at ksum
 have KS:=veil ksum
 have km:=veil (show m = x % Pt.nn ∧ x < top from ⟨by rw [hx0]; exact hm,by rw [hx0]; exact (p_top _).1⟩)
 have kX:=veil hX
 have kY:=veil hY
 have kR:=veil hR
 have kS:=veil hS
 have kon:=veil hon
 have kr:=veil hr
 have ks:=veil hs
 have ky:=veil hy
 have kE:=veil hE
 have kt:=veil ht
 have ku:=veil hu
 have kv:=veil hv
 clear hv hu ht hE hy hs hr hon hS hR hY hX
 clear ksum hp ha hb hc hfar hm hx0 hz0
 unfold qv qc gv gc dgv dgc
 go_enter Tryz.func64,Tryz.ntmps64
 go_upto_region 1 with (fail)
 refine zfd fun w1 hx b0 b1 b2 => ?_
 have b0 : w1.heap[w.heap.size]? = some (.cells (qc X Y false) 29 (0,0)):=b0
 have b1 : w1.heap[w.heap.size + 1]? = some (.cells (dgc y) 112 (0,0)):=b1
 have b2 : w1.heap[w.heap.size + 1 + 1]? = some (.cells (gc R S) 78 (0,0)):=b2
 refine' zby (m:=19) (A:=_) ?h1 ?h2
 case h1 =>
  refine zaa (.pointer (some ⟨w.heap.size,8,none⟩)) rfl (zak rfl rfl (fldT2 _ ·)) ?_
  refine zaa (.bool false) rfl (zba rfl rfl b0 rfl (zbq ·)) ?_;simp only [aP,lA,lZ,lS]
  refine zaa (.bool false) rfl (zae (.inl rfl) rfl) ?_
  refine zah (qv X Y false) rfl (zac rfl rfl b0 rfl Tryz.underlying29 rfl (iT _ _ _)) ?_;simp only [aP,lA,lZ,lS]
  refine zah (.bool true) rfl (zag (args:=[qv X Y false]) rfl rfl (fun W => zab Tryz.func47 rfl rfl _ W) (fun W hW => onp_is kon.out kX.out kY.out W)) ?_
  refine zah (.bool false) rfl (zbc rfl rfl rfl) ?_;simp only [aP,lA,lZ,lS]
  refine zaa (.bool false) rfl (zav rfl rfl rfl) ?_
  refine zaa (.bool false) rfl (zae (.inl rfl) rfl) ?_;simp only [aP,lA,lZ,lS]
  refine zah (ptrTo (w.heap.size + 1 + 1)) rfl (zak rfl rfl (fldG0 _ ·)) ?_
  refine zah (nv R) rfl (zac rfl rfl b2 rfl uN rfl (iN _)) ?_;simp only [aP,lA,lZ,lS]
  refine zah (.bool true) rfl (zag (args:=[nv R]) rfl rfl (fun W => zab Tryz.func85 rfl rfl _ W) (fun W hW => zhx kr.out kR.out W)) ?_
  refine zah (.bool false) rfl (zbc rfl rfl rfl) ?_;simp only [aP,lA,lZ,lS]
  refine zaa (.bool false) rfl (zav rfl rfl rfl) ?_
  refine zaa (.bool false) rfl (zae (.inl rfl) rfl) ?_;simp only [aP,lA,lZ,lS]
  refine zah (.pointer (some ⟨w.heap.size + 1 + 1,4,none⟩)) rfl (zak rfl rfl (fldG1 _ ·)) ?_
  refine zah (nv S) rfl (zac rfl rfl b2 rfl uN rfl (iN _)) ?_;simp only [aP,lA,lZ,lS]
  refine zah (.bool true) rfl (zag (args:=[nv S]) rfl rfl (fun W => zab Tryz.func85 rfl rfl _ W) (fun W hW => zhx ks.out kS.out W)) ?_
  refine zah (.bool false) rfl (zbc rfl rfl rfl) ?_;simp only [aP,lA,lZ,lS]
  refine zaa (.bool false) rfl (zav rfl rfl rfl) ?_;simp only [aP,lA,lZ,lS]
  exact zar
 refine zay rfl ?_
 intro w2 hE
 replace b0:=hE.block b0
 replace b1:=hE.block b1
 replace b2:=hE.block b2
 replace hx:=hx.trans hE
 clear hE
 go_upto_region 3 with (fail)
 refine wp_region_lit ?_
 refine zeg (R:=fun t W' => ∃ b,t = ptrTo b ∧ Fn W' b ∧ Ext w2 W') (args:=[]) rfl rfl rfl (fun W => zab Tryz.func86 rfl rfl _ W) ((ziu w2).mono fun e W' ⟨⟨b,he,_,hF⟩,hE⟩ => ⟨_,he,b,rfl,hF,hE⟩) ?_
 rintro t0 w3 ⟨gf,rfl,hf,hE⟩
 replace b0:=hE.block b0
 replace b1:=hE.block b1
 replace b2:=hE.block b2
 replace hx:=hx.trans hE
 clear hE
 simp only [aP,lA,lZ,lS]
 go_upto_region 4 with (fail)
 refine' zau (m:=7) (A:=_) (by kernel_rfl) ?h2a ?h2b
 case h2a =>
  refine zaa (ptrTo gf) rfl (zae (.inl rfl) rfl) ?_
  refine zaa (.pointer (some ⟨w.heap.size + 1 + 1,4,none⟩)) rfl (zak rfl rfl (fldG1 _ ·)) ?_;simp only [aP,lA,lZ,lS]
  refine zaa (nv S) rfl (zac rfl rfl b2 rfl uN rfl (iN _)) ?_
  refine zaa (.tuple #[nv t,.nilIface]) rfl (zag (args:=[ptrTo gf,nv S]) rfl rfl (fun W => zab Tryz.func87 rfl rfl _ W) (fun W hW => ninv_p (may_ne ks.out) (may_lt ks.out) kt.out (hf.ext hW))) ?_;simp only [aP,lA,lZ,lS]
  refine zaa (.tuple #[nv t,.nilIface]) rfl (zae (.inl rfl) rfl) ?_
  refine zaa (nv t) rfl (zbe rfl rfl rfl) ?_;simp only [aP,lA,lZ,lS]
  refine zaa (.nilIface) rfl (zbe rfl rfl rfl) ?_;simp only [aP,lA,lZ,lS]
  exact zar
 refine zbu _ _ rfl rfl rfl rfl rfl rfl rfl (hzN ·) (fun _ => rfl) (fun _ => rfl) (iN _) rfl (zed _) ?_
 intro gt w4 hgt bt hE
 replace b0:=hE.block b0
 replace b1:=hE.block b1
 replace b2:=hE.block b2
 replace hf:=hf.ext hE
 replace hx:=hx.trans hE
 clear hE
 simp only [aP,lA,lZ,lS]
 clear hgt
 go_upto_region 5 with (fail)
 refine' zhb (m:=12) (A:=_) 13 (by kernel_rfl) (by kernel_rfl) (by kernel_rfl) ?h3a ?h3b
 case h3a =>
  refine zaa (ptrTo gf) rfl (zae (.inl rfl) rfl) ?_
  refine zaa (dgv y) rfl (zac rfl rfl b1 rfl Tryz.underlying112 rfl (iDg _)) ?_;simp only [aP,lA,lZ,lS]
  refine zaa (nv E) rfl (zag (args:=[dgv y]) rfl rfl (fun W => zab Tryz.func90 rfl rfl _ W) (fun W hW => numof_calls ky.out kE.out W)) ?_
  refine zaa (nv t) rfl (zac rfl rfl bt rfl uN rfl (iN _)) ?_;simp only [aP,lA,lZ,lS]
  refine zaa (nv u) rfl (zag (args:=[ptrTo gf,nv E,nv t]) rfl rfl (fun W => zab Tryz.func89 rfl rfl _ W) (fun W hW => nmul_p ku.out kEt.out (inv_top kt.out) (hf.ext hW))) ?_
  refine zaa (ptrTo gf) rfl (zae (.inl rfl) rfl) ?_;simp only [aP,lA,lZ,lS]
  refine zaa (ptrTo (w.heap.size + 1 + 1)) rfl (zak rfl rfl (fldG0 _ ·)) ?_
  refine zaa (nv R) rfl (zac rfl rfl b2 rfl uN rfl (iN _)) ?_;simp only [aP,lA,lZ,lS]
  refine zaa (nv t) rfl (zac rfl rfl bt rfl uN rfl (iN _)) ?_
  refine zaa (nv v) rfl (zag (args:=[ptrTo gf,nv R,nv t]) rfl rfl (fun W => zab Tryz.func89 rfl rfl _ W) (fun W hW => nmul_p kv.out kR.out (inv_top kt.out) (hf.ext hW))) ?_;simp only [aP,lA,lZ,lS]
  refine zaa (qv X Y false) rfl (zac rfl rfl b0 rfl Tryz.underlying29 rfl (iT _ _ _)) ?_
  refine zaa (qv x z true) rfl (zag (args:=[nv u,nv v,qv X Y false]) rfl rfl (fun W => zab Tryz.func88 rfl rfl _ W) (fun W hW => KS.out W)) ?_;simp only [aP,lA,lZ,lS]
  exact zar
 refine rest_var _ _ rfl rfl rfl rfl rfl rfl rfl rfl rfl (by kernel_rfl) (by kernel_rfl) (by kernel_rfl) rfl rfl (hzT ·) (fun _ => rfl) (fun _ => rfl) (iT _ _ _) rfl (zcr _ _ _) ?_
 intro gc w5 hgc bc hE
 refine NoPanic.normal ?_
 replace hf:=hf.ext hE
 replace hx:=hx.trans hE
 clear hE
 simp only [aP,lA,lZ,lS]
 clear hgc
 go_upto_region 6 with (fail)
 refine' zdx (m:=13) (A:=_) 13 (by kernel_rfl) (by kernel_rfl) ?h4a ?h4b
 case h4a =>
  refine zaa (.pointer (some ⟨gc,8,none⟩)) rfl (zak rfl rfl (fldT2 _ ·)) ?_
  refine zaa (.bool true) rfl (zba rfl rfl bc rfl (zbq ·)) ?_;simp only [aP,lA,lZ,lS]
  refine zaa (.bool false) rfl (zbc rfl rfl rfl) ?_
  refine zaa (.bool false) rfl (zae (.inl rfl) rfl) ?_;simp only [aP,lA,lZ,lS]
  refine zaw rfl ?_
  refine zaw rfl ?_;simp only [aP,lA,lZ,lS]
  refine zaw rfl ?_
  refine zaw rfl ?_;simp only [aP,lA,lZ,lS]
  refine zaw rfl ?_
  refine zaw rfl ?_;simp only [aP,lA,lZ,lS]
  refine zaw rfl ?_
  refine zaa (.bool false) rfl (zav rfl rfl rfl) ?_;simp only [aP,lA,lZ,lS]
  refine zaa (.bool false) rfl (zae (.inr rfl) rfl) ?_;simp only [aP,lA,lZ,lS]
  exact zar
 refine zcu rfl (by kernel_rfl) ?_
 intro w6 hE
 refine NoPanic.normal ?_
 replace hf:=hf.ext hE
 replace hx:=hx.trans hE
 clear hE
 go_wp2
 go_ret
 exact ⟨rfl,hx⟩
theorem sver_all_f (y : Nat → Nat) {p a b c : Pt.Q} {X Y R S t E u v m : Nat} (hX : X < top) (hY : Y < top) (hR : R < top) (hS : S < top) (hon : onB X Y false = true) (hr : mayB R = true) (hs : mayB S = true) (hp : X = Pt.pX p.1 ∧ Y = Pt.pY p.1 ∧ false = Pt.pFar p.1) (hy : ∀ j,y j < 256) (hE : E = num32 y) (ht : t = Pt.iG Pt.nn S) (hu : u = E * t % Pt.nn) (hv : v = R * t % Pt.nn) (ha : a = Pt.grp.mul u Pt.base) (hb : b = Pt.grp.mul v p) (hc : c = Pt.grp.op a b) (hfar : Pt.pFar c.1 = false) (hm : m = Pt.pX c.1 % Pt.nn) (w : World) :
  Calls Tryz.prog 64 #[qv X Y false,dgv y,gv R S] w fun e w' => e = .returned (.bool (decide (m = R))) ∧ Ext w w':=by
 obtain ⟨x,hx0⟩ : ∃ x,x = Pt.pX c.1:=⟨_,rfl⟩
 obtain ⟨z,hz0⟩ : ∃ z,z = Pt.pY c.1:=⟨_,rfl⟩
 have kEt:=veil (show E < top from by rw [hE]; exact num32_lt hy)
 have ksum:=fun W => sumof_calls (w:=W) (mul_top hu) (mul_top hv) hp ha hb hc
 rw [← hx0,← hz0,hfar] at ksum
 have KS:=veil ksum
 have km:=veil (show m = x % Pt.nn ∧ x < top from ⟨by rw [hx0]; exact hm,by rw [hx0]; exact (p_top _).1⟩)
 have kX:=veil hX
 have kY:=veil hY
 have kR:=veil hR
 have kS:=veil hS
 have kon:=veil hon
 have kr:=veil hr
 have ks:=veil hs
 have ky:=veil hy
 have kE:=veil hE
 have kt:=veil ht
 have ku:=veil hu
 have kv:=veil hv
 clear hv hu ht hE hy hs hr hon hS hR hY hX
 clear ksum hp ha hb hc hfar hm hx0 hz0
 unfold qv qc gv gc dgv dgc
 go_enter Tryz.func64,Tryz.ntmps64
 go_upto_region 1 with (fail)
 refine zfd fun w1 hx b0 b1 b2 => ?_
 have b0 : w1.heap[w.heap.size]? = some (.cells (qc X Y false) 29 (0,0)):=b0
 have b1 : w1.heap[w.heap.size + 1]? = some (.cells (dgc y) 112 (0,0)):=b1
 have b2 : w1.heap[w.heap.size + 1 + 1]? = some (.cells (gc R S) 78 (0,0)):=b2
 refine' zby (m:=19) (A:=_) ?h1 ?h2
 case h1 =>
  refine zaa (.pointer (some ⟨w.heap.size,8,none⟩)) rfl (zak rfl rfl (fldT2 _ ·)) ?_
  refine zaa (.bool false) rfl (zba rfl rfl b0 rfl (zbq ·)) ?_;simp only [aP,lA,lZ,lS]
  refine zaa (.bool false) rfl (zae (.inl rfl) rfl) ?_
  refine zah (qv X Y false) rfl (zac rfl rfl b0 rfl Tryz.underlying29 rfl (iT _ _ _)) ?_;simp only [aP,lA,lZ,lS]
  refine zah (.bool true) rfl (zag (args:=[qv X Y false]) rfl rfl (fun W => zab Tryz.func47 rfl rfl _ W) (fun W hW => onp_is kon.out kX.out kY.out W)) ?_
  refine zah (.bool false) rfl (zbc rfl rfl rfl) ?_;simp only [aP,lA,lZ,lS]
  refine zaa (.bool false) rfl (zav rfl rfl rfl) ?_
  refine zaa (.bool false) rfl (zae (.inl rfl) rfl) ?_;simp only [aP,lA,lZ,lS]
  refine zah (ptrTo (w.heap.size + 1 + 1)) rfl (zak rfl rfl (fldG0 _ ·)) ?_
  refine zah (nv R) rfl (zac rfl rfl b2 rfl uN rfl (iN _)) ?_;simp only [aP,lA,lZ,lS]
  refine zah (.bool true) rfl (zag (args:=[nv R]) rfl rfl (fun W => zab Tryz.func85 rfl rfl _ W) (fun W hW => zhx kr.out kR.out W)) ?_
  refine zah (.bool false) rfl (zbc rfl rfl rfl) ?_;simp only [aP,lA,lZ,lS]
  refine zaa (.bool false) rfl (zav rfl rfl rfl) ?_
  refine zaa (.bool false) rfl (zae (.inl rfl) rfl) ?_;simp only [aP,lA,lZ,lS]
  refine zah (.pointer (some ⟨w.heap.size + 1 + 1,4,none⟩)) rfl (zak rfl rfl (fldG1 _ ·)) ?_
  refine zah (nv S) rfl (zac rfl rfl b2 rfl uN rfl (iN _)) ?_;simp only [aP,lA,lZ,lS]
  refine zah (.bool true) rfl (zag (args:=[nv S]) rfl rfl (fun W => zab Tryz.func85 rfl rfl _ W) (fun W hW => zhx ks.out kS.out W)) ?_
  refine zah (.bool false) rfl (zbc rfl rfl rfl) ?_;simp only [aP,lA,lZ,lS]
  refine zaa (.bool false) rfl (zav rfl rfl rfl) ?_;simp only [aP,lA,lZ,lS]
  exact zar
 refine zay rfl ?_
 intro w2 hE
 replace b0:=hE.block b0
 replace b1:=hE.block b1
 replace b2:=hE.block b2
 replace hx:=hx.trans hE
 clear hE
 go_upto_region 3 with (fail)
 refine wp_region_lit ?_
 refine zeg (R:=fun t W' => ∃ b,t = ptrTo b ∧ Fn W' b ∧ Ext w2 W') (args:=[]) rfl rfl rfl (fun W => zab Tryz.func86 rfl rfl _ W) ((ziu w2).mono fun e W' ⟨⟨b,he,_,hF⟩,hE⟩ => ⟨_,he,b,rfl,hF,hE⟩) ?_
 rintro t0 w3 ⟨gf,rfl,hf,hE⟩
 replace b0:=hE.block b0
 replace b1:=hE.block b1
 replace b2:=hE.block b2
 replace hx:=hx.trans hE
 clear hE
 simp only [aP,lA,lZ,lS]
 go_upto_region 4 with (fail)
 refine' zau (m:=7) (A:=_) (by kernel_rfl) ?h2a ?h2b
 case h2a =>
  refine zaa (ptrTo gf) rfl (zae (.inl rfl) rfl) ?_
  refine zaa (.pointer (some ⟨w.heap.size + 1 + 1,4,none⟩)) rfl (zak rfl rfl (fldG1 _ ·)) ?_;simp only [aP,lA,lZ,lS]
  refine zaa (nv S) rfl (zac rfl rfl b2 rfl uN rfl (iN _)) ?_
  refine zaa (.tuple #[nv t,.nilIface]) rfl (zag (args:=[ptrTo gf,nv S]) rfl rfl (fun W => zab Tryz.func87 rfl rfl _ W) (fun W hW => ninv_p (may_ne ks.out) (may_lt ks.out) kt.out (hf.ext hW))) ?_;simp only [aP,lA,lZ,lS]
  refine zaa (.tuple #[nv t,.nilIface]) rfl (zae (.inl rfl) rfl) ?_
  refine zaa (nv t) rfl (zbe rfl rfl rfl) ?_;simp only [aP,lA,lZ,lS]
  refine zaa (.nilIface) rfl (zbe rfl rfl rfl) ?_;simp only [aP,lA,lZ,lS]
  exact zar
 refine zbu _ _ rfl rfl rfl rfl rfl rfl rfl (hzN ·) (fun _ => rfl) (fun _ => rfl) (iN _) rfl (zed _) ?_
 intro gt w4 hgt bt hE
 replace b0:=hE.block b0
 replace b1:=hE.block b1
 replace b2:=hE.block b2
 replace hf:=hf.ext hE
 replace hx:=hx.trans hE
 clear hE
 simp only [aP,lA,lZ,lS]
 clear hgt
 go_upto_region 5 with (fail)
 refine' zhb (m:=12) (A:=_) 13 (by kernel_rfl) (by kernel_rfl) (by kernel_rfl) ?h3a ?h3b
 case h3a =>
  refine zaa (ptrTo gf) rfl (zae (.inl rfl) rfl) ?_
  refine zaa (dgv y) rfl (zac rfl rfl b1 rfl Tryz.underlying112 rfl (iDg _)) ?_;simp only [aP,lA,lZ,lS]
  refine zaa (nv E) rfl (zag (args:=[dgv y]) rfl rfl (fun W => zab Tryz.func90 rfl rfl _ W) (fun W hW => numof_calls ky.out kE.out W)) ?_
  refine zaa (nv t) rfl (zac rfl rfl bt rfl uN rfl (iN _)) ?_;simp only [aP,lA,lZ,lS]
  refine zaa (nv u) rfl (zag (args:=[ptrTo gf,nv E,nv t]) rfl rfl (fun W => zab Tryz.func89 rfl rfl _ W) (fun W hW => nmul_p ku.out kEt.out (inv_top kt.out) (hf.ext hW))) ?_
  refine zaa (ptrTo gf) rfl (zae (.inl rfl) rfl) ?_;simp only [aP,lA,lZ,lS]
  refine zaa (ptrTo (w.heap.size + 1 + 1)) rfl (zak rfl rfl (fldG0 _ ·)) ?_
  refine zaa (nv R) rfl (zac rfl rfl b2 rfl uN rfl (iN _)) ?_;simp only [aP,lA,lZ,lS]
  refine zaa (nv t) rfl (zac rfl rfl bt rfl uN rfl (iN _)) ?_
  refine zaa (nv v) rfl (zag (args:=[ptrTo gf,nv R,nv t]) rfl rfl (fun W => zab Tryz.func89 rfl rfl _ W) (fun W hW => nmul_p kv.out kR.out (inv_top kt.out) (hf.ext hW))) ?_;simp only [aP,lA,lZ,lS]
  refine zaa (qv X Y false) rfl (zac rfl rfl b0 rfl Tryz.underlying29 rfl (iT _ _ _)) ?_
  refine zaa (qv x z false) rfl (zag (args:=[nv u,nv v,qv X Y false]) rfl rfl (fun W => zab Tryz.func88 rfl rfl _ W) (fun W hW => KS.out W)) ?_;simp only [aP,lA,lZ,lS]
  exact zar
 refine rest_var _ _ rfl rfl rfl rfl rfl rfl rfl rfl rfl (by kernel_rfl) (by kernel_rfl) (by kernel_rfl) rfl rfl (hzT ·) (fun _ => rfl) (fun _ => rfl) (iT _ _ _) rfl (zcr _ _ _) ?_
 intro gc w5 hgc bc hE
 refine NoPanic.normal ?_
 replace b2:=hE.block b2
 replace hf:=hf.ext hE
 replace hx:=hx.trans hE
 clear hE
 simp only [aP,lA,lZ,lS]
 clear hgc
 go_upto_region 6 with (fail)
 refine' zdx (m:=13) (A:=_) 13 (by kernel_rfl) (by kernel_rfl) ?h4a ?h4b
 case h4a =>
  refine zaa (.pointer (some ⟨gc,8,none⟩)) rfl (zak rfl rfl (fldT2 _ ·)) ?_
  refine zaa (.bool false) rfl (zba rfl rfl bc rfl (zbq ·)) ?_;simp only [aP,lA,lZ,lS]
  refine zaa (.bool true) rfl (zbc rfl rfl rfl) ?_
  refine zaa (.bool true) rfl (zae (.inl rfl) rfl) ?_;simp only [aP,lA,lZ,lS]
  refine zah (ptrTo gf) rfl (zae (.inl rfl) rfl) ?_
  refine zah (ptrTo gc) rfl (zak rfl rfl (fldT0 _ ·)) ?_;simp only [aP,lA,lZ,lS]
  refine zah (nv x) rfl (zac rfl rfl bc rfl uN rfl (iN _)) ?_
  refine zah (nv m) rfl (zag (args:=[ptrTo gf,nv x]) rfl rfl (fun W => zab Tryz.func91 rfl rfl _ W) (fun W hW => scut_calls km.out.1 km.out.2 (hf.ext hW))) ?_;simp only [aP,lA,lZ,lS]
  refine zah (ptrTo (w.heap.size + 1 + 1)) rfl (zak rfl rfl (fldG0 _ ·)) ?_
  refine zah (nv R) rfl (zac rfl rfl b2 rfl uN rfl (iN _)) ?_;simp only [aP,lA,lZ,lS]
  refine zah (.bool (decide (m = R))) rfl (made_eqn rfl rfl rfl (mod_top km.out.1) kR.out) ?_
  refine zaa (.bool (decide (m = R))) rfl (zav rfl rfl rfl) ?_;simp only [aP,lA,lZ,lS]
  refine zaa (.bool (decide (m = R))) rfl (zae (.inr rfl) rfl) ?_;simp only [aP,lA,lZ,lS]
  exact zar
 refine zcu rfl (by kernel_rfl) ?_
 intro w6 hE
 refine NoPanic.normal ?_
 replace hf:=hf.ext hE
 replace hx:=hx.trans hE
 clear hE
 go_wp2
 go_ret
 exact ⟨rfl,hx⟩
theorem sver_no {X Y R S : Nat} {f : Bool} (hX : X < top) (hY : Y < top) (hR : R < top) (hS : S < top) (h : onB X Y f = false) (y : Nat → Nat) (w : World) :
  Calls Tryz.prog 64 #[qv X Y f,dgv y,gv R S] w fun e w' => e = .returned (.bool false) ∧ Ext w w':=by
 cases f with
 | true => exact sver_far hX hY hR hS y w
 | false => exact sver_off hX hY hR hS h y w
theorem mod_mul_l (E t : Nat) : E * t % Pt.nn = E % Pt.nn * t % Pt.nn:=by
 have h1:=Nat.mul_mod E t Pt.nn
 have h2:=Nat.mul_mod (E % Pt.nn) t Pt.nn
 rw [Nat.mod_mod] at h2
 rw [h1,h2]
theorem sver_yes (p : Pt.Q) {R S : Nat} (hR : R < top) (hS : S < top) (y : Nat → Nat) (hy : ∀ j,y j < 256) (w : World) :
  Calls Tryz.prog 64 #[pv p,dgv y,gv R S] w fun e w' => e = .returned (.bool (Pt.verB p (num32 y) R S)) ∧ Ext w w':=by
 have hon:=onB_of p
 have hX:=(p_top p.1).1
 have hY:=(p_top p.1).2
 have hsum : Pt.sumOf p (num32 y) R S = Pt.grp.op (Pt.grp.mul (num32 y * Pt.iG Pt.nn S % Pt.nn) Pt.base) (Pt.grp.mul (R * Pt.iG Pt.nn S % Pt.nn) p):=by
  unfold Pt.sumOf
  rw [← mod_mul_l]
 unfold pv Pt.verB
 rw [inR_may,inR_may]
 cases hf : Pt.pFar p.1 with
 | true => exact sver_far hX hY hR hS y w
 | false =>
  rw [hf] at hon
  cases hr : mayB R with
  | false => exact sver_r hX hY hR hS hon hr y w
  | true =>
   cases hs : mayB S with
   | false => exact sver_s hX hY hR hS hon hr hs y w
   | true =>
    cases hc : Pt.pFar (Pt.sumOf p (num32 y) R S).1 with
    | true => exact sver_all_t (p:=p) y hX hY hR hS hon hr hs ⟨rfl,rfl,hf.symm⟩ hy rfl rfl rfl rfl rfl rfl hsum hc rfl w
    | false =>
     refine (sver_all_f (p:=p) (m:=Pt.pX (Pt.sumOf p (num32 y) R S).1 % Pt.nn) y hX hY hR hS hon hr hs ⟨rfl,rfl,hf.symm⟩ hy rfl rfl rfl rfl rfl rfl hsum hc rfl w).mono ?_
     rintro e w' ⟨rfl,hE⟩
     exact ⟨by simp only [Bool.not_false,Bool.true_and],hE⟩
theorem le_lo (y : Nat → Nat) : lev (fun k => y (32 - 1 - k)) 32 = be32 y 0:=by
 unfold be32
 simp only [Nat.zero_add]
theorem le_hi (y : Nat → Nat) : lev (fun k => y (32 + (32 - 1 - k))) 32 = be32 y 32:=rfl
theorem ofl_lo {b o c : Nat} {y : Nat → Nat} (hy : ∀ j,y j < 256) {w : World} (hlt : b < w.heap.size) (hcell : ∀ j,j < 64 → w.cell? ⟨b,o + j,none⟩ = some (.int .u8 (y j : Nat))) (W : World) (hW : Ext w W) : Calls Tryz.prog 81 #[.slice (some ⟨b,o,none⟩) 32 c] W fun e W' => e = .returned (.tuple #[nv (be32 y 0),.nilIface]) ∧ Ext W W':=by
 have h:=zgb b o 32 c y hy (by decide) W (Nat.lt_of_lt_of_le hlt (Below.size hW)) (fun j hj => (Below.cell (p:=⟨b,o + j,none⟩) hW hlt).trans (hcell j (by omega)))
 rw [le_lo] at h
 exact h
theorem ofl_hi {b o c : Nat} {y : Nat → Nat} (hy : ∀ j,y j < 256) {w : World} (hlt : b < w.heap.size) (hcell : ∀ j,j < 64 → w.cell? ⟨b,o + j,none⟩ = some (.int .u8 (y j : Nat))) (W : World) (hW : Ext w W) : Calls Tryz.prog 81 #[.slice (some ⟨b,o + 32,none⟩) 32 (c - 32)] W fun e W' => e = .returned (.tuple #[nv (be32 y 32),.nilIface]) ∧ Ext W W':=by
 have h:=zgb b (o + 32) 32 (c - 32) (fun j => y (32 + j)) (fun j => hy _) (by decide) W (Nat.lt_of_lt_of_le hlt (Below.size hW)) (fun j hj => by
  rw [Nat.add_assoc]
  exact (Below.cell (p:=⟨b,o + (32 + j),none⟩) hW hlt).trans (hcell (32 + j) (by omega)))
 rw [le_hi] at h
 exact h
theorem cut_lo (b o : Nat) {c : Nat} (hc : 64 ≤ c) (W : World) : (Instr.sliceAt 33 (.slice (some ⟨b,o,none⟩) 64 c) none (some (.int .i64 32)) none).run Tryz.prog W = .ok (.slice (some ⟨b,o,none⟩) 32 c) W:=by
 have h:=cut_to (some ⟨b,o,none⟩) 64 c 32 (by omega) W
 unfold cutA at h
 by_cases h0 : c = 0
 ·
  omega
 ·
  simpa [Addr.add_mid,h0] using h
theorem cut_hi (b o : Nat) {c : Nat} (hc : 64 ≤ c) (W : World) : (Instr.sliceAt 33 (.slice (some ⟨b,o,none⟩) 64 c) (some (.int .i64 32)) none none).run Tryz.prog W = .ok (.slice (some ⟨b,o + 32,none⟩) 32 (c - 32)) W:=by
 have h:=zjg (some ⟨b,o,none⟩) 64 c 32 (by omega) W
 unfold cutA at h
 rw [if_neg (by omega)] at h
 simpa [Addr.add_mid] using h
theorem sparse_no (A : Option Addr) (n c : Nat) (hn : n ≠ 64) (w : World) :
  Calls Tryz.prog 62 #[.slice A n c] w fun e w' => e = .returned (.tuple #[gv 0 0,.iface 39 (.int .i64 2)]) ∧ Ext w w':=by
 have hn2 : ¬ (n : Int) = 64:=by omega
 clear hn
 go_enter Tryz.func62,Tryz.ntmps62
 go_upto_region 1 with (fail)
 rw [gc_zero]
 refine zck fun w1 hx b0 => ?_
 go_upto_region 2 with (fail)
 refine' zau (m:=2) (A:=_) (by kernel_rfl) ?h1 ?h2
 case h1 =>
  refine zaa (gv 0 0) rfl (zbv rfl rfl (bldG0 ·)) ?_
  refine zaa (.iface 39 (.int .i64 2)) rfl (zic rfl (mkErr2 ·)) ?_;simp only [aP,lA,lZ,lS]
  exact zar
 refine zcv _ rfl rfl rfl rfl rfl rfl b0 (iSg _ _) (gc_size _ _) (zfn _ _) ?_
 intro w2 hB hb
 go_wp2
 exact bodyPost_ret (zbm rfl _ _ (w.heap.size) 78 (gc 0 0) (0,0) _ rfl hb Tryz.underlying78 rfl (iSg _ _)) rfl ⟨rfl,hx.new hB (by omega)⟩
theorem sparse_64 (b o c : Nat) (y : Nat → Nat) (hy : ∀ j,y j < 256) (hc : 64 ≤ c) (w : World) (hlt : b < w.heap.size) (hcell : ∀ j,j < 64 → w.cell? ⟨b,o + j,none⟩ = some (.int .u8 (y j : Nat))) :
  Calls Tryz.prog 62 #[.slice (some ⟨b,o,none⟩) 64 c] w fun e w' => e = .returned (.tuple #[gv (be32 y 0) (be32 y 32),.nilIface]) ∧ Ext w w':=by
 have kx:=fun (W : World) (hW : Ext w W) => ofl_lo (c:=c) hy hlt hcell W hW
 have ky:=fun (W : World) (hW : Ext w W) => ofl_hi (c:=c) hy hlt hcell W hW
 have q1:=cut_lo b o hc
 have q2:=cut_hi b o hc
 clear hy hc hlt hcell
 generalize be32 y 0 = PX at *
 generalize be32 y 32 = PY at *
 have KX:=veil kx
 have KY:=veil ky
 have Q1:=veil q1
 have Q2:=veil q2
 clear q1 q2 kx ky
 go_enter Tryz.func62,Tryz.ntmps62
 go_upto_region 1 with (fail)
 rw [gc_zero]
 refine zck fun w1 hx b0 => ?_
 go_upto_region 3 with (fail)
 refine' zau (m:=6) (A:=_) (by kernel_rfl) ?h1 ?h2
 case h1 =>
  refine zaa (.slice (some ⟨b,o,none⟩) 64 c) rfl (zae (.inl rfl) rfl) ?_
  refine zaa (.slice (some ⟨b,o,none⟩) 32 c) rfl (zdb rfl rfl Q1.out) ?_;simp only [aP,lA,lZ,lS]
  refine zaa (.tuple #[nv PX,.nilIface]) rfl (zag (args:=[.slice (some ⟨b,o,none⟩) 32 c]) rfl rfl (fun W => zab Tryz.func81 rfl rfl _ W) (fun W hW => KX.out W (hx.trans hW))) ?_
  refine zaa (.tuple #[nv PX,.nilIface]) rfl (zae (.inl rfl) rfl) ?_;simp only [aP,lA,lZ,lS]
  refine zaa (nv PX) rfl (zbe rfl rfl rfl) ?_
  refine zaa (.nilIface) rfl (zbe rfl rfl rfl) ?_;simp only [aP,lA,lZ,lS]
  exact zar
 refine zbu _ _ rfl rfl rfl rfl rfl rfl rfl (hzN ·) (fun _ => rfl) (fun _ => rfl) (iN _) (hsN _) (zed _) ?_
 intro gx w2 hgx bx hE
 replace b0:=hE.block b0
 replace hx:=hx.trans hE
 clear hE
 simp only [aP,lA,lZ,lS]
 clear hgx
 go_upto_region 4 with (fail)
 refine' zau (m:=6) (A:=_) (by kernel_rfl) ?h2a ?h2b
 case h2a =>
  refine zaa (.slice (some ⟨b,o,none⟩) 64 c) rfl (zae (.inl rfl) rfl) ?_
  refine zaa (.slice (some ⟨b,o + 32,none⟩) 32 (c - 32)) rfl (zdb rfl rfl Q2.out) ?_;simp only [aP,lA,lZ,lS]
  refine zaa (.tuple #[nv PY,.nilIface]) rfl (zag (args:=[.slice (some ⟨b,o + 32,none⟩) 32 (c - 32)]) rfl rfl (fun W => zab Tryz.func81 rfl rfl _ W) (fun W hW => KY.out W (hx.trans hW))) ?_
  refine zaa (.tuple #[nv PY,.nilIface]) rfl (zae (.inl rfl) rfl) ?_;simp only [aP,lA,lZ,lS]
  refine zaa (nv PY) rfl (zbe rfl rfl rfl) ?_
  refine zaa (.nilIface) rfl (zbe rfl rfl rfl) ?_;simp only [aP,lA,lZ,lS]
  exact zar
 refine zbu _ _ rfl rfl rfl rfl rfl rfl rfl (hzN ·) (fun _ => rfl) (fun _ => rfl) (iN _) (hsN _) (zed _) ?_
 intro gz w3 hgz bz hE
 replace b0:=hE.block b0
 replace bx:=hE.block bx
 replace hx:=hx.trans hE
 clear hE
 simp only [aP,lA,lZ,lS]
 clear hgz
 go_upto_region 5 with (fail)
 refine' zau (m:=3) (A:=_) (by kernel_rfl) ?h3a ?h3b
 case h3a =>
  refine zaa (nv PX) rfl (zac rfl rfl bx rfl uN rfl (iN _)) ?_
  refine zaa (nv PY) rfl (zac rfl rfl bz rfl uN rfl (iN _)) ?_;simp only [aP,lA,lZ,lS]
  refine zaa (gv PX PY) rfl (zbv (vs:=[(0,nv PX),(1,nv PY)]) rfl rfl (fun W => bldG W _ _)) ?_;simp only [aP,lA,lZ,lS]
  exact zar
 refine zcv _ rfl rfl rfl rfl rfl rfl b0 (iSg _ _) (gc_size _ _) (zfn _ _) ?_
 intro w4 hB hb
 go_wp2
 exact bodyPost_ret (zbm rfl _ _ (w.heap.size) 78 (gc PX PY) (0,0) _ rfl hb Tryz.underlying78 rfl (iSg _ _)) rfl ⟨rfl,hx.new hB (by omega)⟩
theorem code_sum (A : Option Addr) (m c : Nat) (bs : List Nat) (w : World) (hK : KT w) (hm : m = bs.length) (hmc : m ≤ c) (hle : m ≤ 100000) (hS : Bs w A bs) : Calls Tryz.prog 65 #[.slice A m c] w fun e w' => e = .returned (dgv (dgL bs)) ∧ Ext w w':=by
 subst hm
 exact sum_calls A bs.length c (fun j => bs.getD j 0) hS.1.getD hmc (by omega) w hK (src_bs hS)
theorem code_ver (X Y : Nat) (f : Bool) (y : Nat → Nat) (R S : Nat) (w : World) (hX : X < top) (hY : Y < top) (hR : R < top) (hS : S < top) (hy : ∀ j,y j < 256) : Calls Tryz.prog 64 #[qv X Y f,dgv y,gv R S] w fun e w' => e = .returned (.bool (vfL X Y f y R S)) ∧ Ext w w':=by
 cases h : onB X Y f with
 | false =>
  rw [vfL_off h]
  exact sver_no hX hY hR hS h y w
 | true =>
  obtain ⟨p,rfl,rfl,rfl⟩:=onB_some h
  rw [vfL_on]
  exact sver_yes p hR hS y hy w
theorem code_parse_no (A : Option Addr) (m c : Nat) (w : World) (hm : m ≠ 64) : Calls Tryz.prog 62 #[.slice A m c] w fun e w' => e = .returned (.tuple #[gv 0 0,.iface 39 (.int .i64 2)]) ∧ Ext w w':=sparse_no A m c hm w
theorem code_parse_64 (A : Option Addr) (m c : Nat) (bs : List Nat) (w : World) (hm : m = bs.length) (h64 : m = 64) (hc : m ≤ c) (hS : Bs w A bs) : Calls Tryz.prog 62 #[.slice A m c] w fun e w' => e = .returned (.tuple #[gv (sigR bs) (sigS bs),.nilIface]) ∧ Ext w w':=by
 subst h64
 obtain ⟨b,o,rfl,hb,hcl⟩:=hS.2.resolve_left (by omega)
 have e1 : be32 (fun j => bs.getD j 0) 0 = sigR bs:=zix (bs:=bs.take 32) (hS.1.take 32) (by rw [List.length_take]; omega) fun k hk => by
  simp only [List.getD_eq_getElem?_getD,List.getElem?_take_of_lt (show 32 - 1 - k < 32 by omega),Nat.zero_add]
 have e2 : be32 (fun j => bs.getD j 0) 32 = sigS bs:=zix (bs:=bs.drop 32) (hS.1.drop 32) (by rw [List.length_drop]; omega) fun k hk => by
  simp only [List.getD_eq_getElem?_getD,List.getElem?_drop]
 refine (sparse_64 b o c (fun j => bs.getD j 0) hS.1.getD hc w hb fun j hj => hcl j (by omega)).mono fun e w' ⟨he,hE⟩ => ⟨?_,hE⟩
 rw [he,e1,e2]
theorem codeL : CodeL where
 sum:=code_sum
 ver:=code_ver
 parse_no:=code_parse_no
 parse_64:=code_parse_64
end Go.Proofs.YthlbemnbmbmjhaaGreatDoor
