/-
  Of S2.
-/
import Derived.Test.YtmfjigcdhijkjaaGreatDoorZV13
set_option maxRecDepth 1000000
set_option maxHeartbeats 20000000
namespace Go.Proofs.YtmfjigcdhijkjaaGreatDoor
open Go.RowKit
open Go.Act renaming put → aP
open List renaming setIfInBounds_toArray → lA, set_cons_zero → lZ, set_cons_succ → lS
theorem ver_off_tt {X Y R S : Nat} (hX : X < top) (hY : Y < top) (hR : R < top) (hS : S < top) {f : Bool} (hon : onB X Y f = false) (hr : mayB R = true) (hs : mayB S = true) (y : Nat → Nat) {w : World} :
  Calls Tryz.prog 12 #[qv X Y f,dgv y,gv R S] w fun e w' => e = .returned (.bool false) ∧ Ext w w':=by
 have kX:=veil hX
 have kY:=veil hY
 have kR:=veil hR
 have kS:=veil hS
 have kon:=veil hon
 have kr:=veil hr
 have ks:=veil hs
 clear hs hr hon hS hR hY hX
 unfold qv qc gv gc dgv dgc
 go_enter Tryz.func12,Tryz.ntmps12
 go_upto_region 1 with (fail)
 obtain ⟨hx,b0,b1,b2⟩:=blocks3 w (.cells #[.int .u64 (wd X 0),.int .u64 (wd X 1),.int .u64 (wd X 2),.int .u64 (wd X 3),.int .u64 (wd Y 0),.int .u64 (wd Y 1),.int .u64 (wd Y 2),.int .u64 (wd Y 3),.bool (f)] 29) (.cells (arrOf 32 fun i => .int .u8 (y i : Nat)) 26) (.cells #[.int .u64 (wd R 0),.int .u64 (wd R 1),.int .u64 (wd R 2),.int .u64 (wd R 3),.int .u64 (wd S 0),.int .u64 (wd S 1),.int .u64 (wd S 2),.int .u64 (wd S 3)] 35)
 generalize ((w.alloc (.cells #[.int .u64 (wd X 0),.int .u64 (wd X 1),.int .u64 (wd X 2),.int .u64 (wd X 3),.int .u64 (wd Y 0),.int .u64 (wd Y 1),.int .u64 (wd Y 2),.int .u64 (wd Y 3),.bool (f)] 29)).alloc (.cells (arrOf 32 fun i => .int .u8 (y i : Nat)) 26)).alloc (.cells #[.int .u64 (wd R 0),.int .u64 (wd R 1),.int .u64 (wd R 2),.int .u64 (wd R 3),.int .u64 (wd S 0),.int .u64 (wd S 1),.int .u64 (wd S 2),.int .u64 (wd S 3)] 35) = w1 at *
 have b0 : w1.heap[w.heap.size]? = some (.cells (qc X Y f) 29 (0,0)):=b0
 have b1 : w1.heap[w.heap.size + 1]? = some (.cells (dgc y) 26 (0,0)):=b1
 have b2 : w1.heap[w.heap.size + 1 + 1]? = some (.cells (gc R S) 35 (0,0)):=b2
 refine' zan (m:=3) (A:=_) (by kernel_rfl) ?h1 ?h2
 case h1 =>
  refine zaa (qv X Y f) rfl (zac rfl rfl b0 rfl Tryz.underlying29 rfl (iT _ _ _)) ?_
  refine zaa (.bool false) rfl (zah (args:=[qv X Y f]) rfl rfl (fun W => zab Tryz.func38 rfl rfl _ W) (fun W hW => zeh kon.out kX.out kY.out W)) ?_;simp only [aP,lA,lZ,lS]
  refine zaa (.bool false) rfl (zaf (.inr rfl) rfl) ?_;simp only [aP,lA,lZ,lS]
  exact zaj
 refine zak rfl ?_
 intro w2 hE
 replace b2:=hE.block b2
 replace hx:=hx.trans hE
 clear hE
 go_upto_region 2 with (fail)
 refine' zan (m:=4) (A:=_) (by kernel_rfl) ?h2a ?h2b
 case h2a =>
  refine zaa (ptrTo (w.heap.size + 1 + 1)) rfl (zae rfl rfl (fldG0 _ ·)) ?_
  refine zaa (nv R) rfl (zac rfl rfl b2 rfl uN rfl (iN _)) ?_;simp only [aP,lA,lZ,lS]
  refine zaa (.bool true) rfl (zah (args:=[nv R]) rfl rfl (fun W => zab Tryz.func8 rfl rfl _ W) (fun W hW => zbv kr.out kR.out W)) ?_
  refine zaa (.bool true) rfl (zaf (.inr rfl) rfl) ?_;simp only [aP,lA,lZ,lS]
  exact zaj
 refine zak rfl ?_
 intro w3 hE
 replace b2:=hE.block b2
 replace hx:=hx.trans hE
 clear hE
 go_upto_region 3 with (fail)
 refine' zan (m:=4) (A:=_) (by kernel_rfl) ?h3a ?h3b
 case h3a =>
  refine zaa (.pointer (some ⟨w.heap.size + 1 + 1,4,none⟩)) rfl (zae rfl rfl (fldG1 _ ·)) ?_
  refine zaa (nv S) rfl (zac rfl rfl b2 rfl uN rfl (iN _)) ?_;simp only [aP,lA,lZ,lS]
  refine zaa (.bool true) rfl (zah (args:=[nv S]) rfl rfl (fun W => zab Tryz.func8 rfl rfl _ W) (fun W hW => zbv ks.out kS.out W)) ?_
  refine zaa (.bool true) rfl (zaf (.inr rfl) rfl) ?_;simp only [aP,lA,lZ,lS]
  exact zaj
 refine zak rfl ?_
 intro w4 hE
 replace hx:=hx.trans hE
 clear hE
 go_upto_region 4 with (fail)
 refine' zbm (m:=14) (A:=_) ?h4a ?h4b
 case h4a =>
  refine zaa (.bool false) rfl (zaf (.inl rfl) rfl) ?_
  refine zaa (.bool true) rfl (zax rfl rfl rfl) ?_;simp only [aP,lA,lZ,lS]
  refine zaa (.bool true) rfl (zaf (.inl rfl) rfl) ?_
  refine zau rfl ?_;simp only [aP,lA,lZ,lS]
  refine zau rfl ?_
  refine zaa (.bool true) rfl (zat rfl rfl rfl) ?_;simp only [aP,lA,lZ,lS]
  refine zaa (.bool true) rfl (zaf (.inl rfl) rfl) ?_
  refine zau rfl ?_;simp only [aP,lA,lZ,lS]
  refine zau rfl ?_
  refine zaa (.bool true) rfl (zat rfl rfl rfl) ?_;simp only [aP,lA,lZ,lS]
  refine zaa (.bool true) rfl (zaf (.inl rfl) rfl) ?_
  refine zau rfl ?_;simp only [aP,lA,lZ,lS]
  refine zau rfl ?_
  refine zaa (.bool true) rfl (zat rfl rfl rfl) ?_;simp only [aP,lA,lZ,lS]
  exact zaj
 refine zak rfl ?_
 intro w5 hE
 replace hx:=hx.trans hE
 clear hE
 go_upto_region 5 with (fail)
 refine' zan (m:=1) (A:=_) (by kernel_rfl) ?h5a ?h5b
 case h5a =>
  refine zaa (.bool false) rfl (zaf (.inr rfl) rfl) ?_;simp only [aP,lA,lZ,lS]
  exact zaj
 refine zak rfl ?_
 intro w6 hE
 replace hx:=hx.trans hE
 clear hE
 go_wp2
 go_ret
 exact ⟨rfl,hx⟩
theorem ver_off_tf {X Y R S : Nat} (hX : X < top) (hY : Y < top) (hR : R < top) (hS : S < top) {f : Bool} (hon : onB X Y f = false) (hr : mayB R = true) (hs : mayB S = false) (y : Nat → Nat) {w : World} :
  Calls Tryz.prog 12 #[qv X Y f,dgv y,gv R S] w fun e w' => e = .returned (.bool false) ∧ Ext w w':=by
 have kX:=veil hX
 have kY:=veil hY
 have kR:=veil hR
 have kS:=veil hS
 have kon:=veil hon
 have kr:=veil hr
 have ks:=veil hs
 clear hs hr hon hS hR hY hX
 unfold qv qc gv gc dgv dgc
 go_enter Tryz.func12,Tryz.ntmps12
 go_upto_region 1 with (fail)
 obtain ⟨hx,b0,b1,b2⟩:=blocks3 w (.cells #[.int .u64 (wd X 0),.int .u64 (wd X 1),.int .u64 (wd X 2),.int .u64 (wd X 3),.int .u64 (wd Y 0),.int .u64 (wd Y 1),.int .u64 (wd Y 2),.int .u64 (wd Y 3),.bool (f)] 29) (.cells (arrOf 32 fun i => .int .u8 (y i : Nat)) 26) (.cells #[.int .u64 (wd R 0),.int .u64 (wd R 1),.int .u64 (wd R 2),.int .u64 (wd R 3),.int .u64 (wd S 0),.int .u64 (wd S 1),.int .u64 (wd S 2),.int .u64 (wd S 3)] 35)
 generalize ((w.alloc (.cells #[.int .u64 (wd X 0),.int .u64 (wd X 1),.int .u64 (wd X 2),.int .u64 (wd X 3),.int .u64 (wd Y 0),.int .u64 (wd Y 1),.int .u64 (wd Y 2),.int .u64 (wd Y 3),.bool (f)] 29)).alloc (.cells (arrOf 32 fun i => .int .u8 (y i : Nat)) 26)).alloc (.cells #[.int .u64 (wd R 0),.int .u64 (wd R 1),.int .u64 (wd R 2),.int .u64 (wd R 3),.int .u64 (wd S 0),.int .u64 (wd S 1),.int .u64 (wd S 2),.int .u64 (wd S 3)] 35) = w1 at *
 have b0 : w1.heap[w.heap.size]? = some (.cells (qc X Y f) 29 (0,0)):=b0
 have b1 : w1.heap[w.heap.size + 1]? = some (.cells (dgc y) 26 (0,0)):=b1
 have b2 : w1.heap[w.heap.size + 1 + 1]? = some (.cells (gc R S) 35 (0,0)):=b2
 refine' zan (m:=3) (A:=_) (by kernel_rfl) ?h1 ?h2
 case h1 =>
  refine zaa (qv X Y f) rfl (zac rfl rfl b0 rfl Tryz.underlying29 rfl (iT _ _ _)) ?_
  refine zaa (.bool false) rfl (zah (args:=[qv X Y f]) rfl rfl (fun W => zab Tryz.func38 rfl rfl _ W) (fun W hW => zeh kon.out kX.out kY.out W)) ?_;simp only [aP,lA,lZ,lS]
  refine zaa (.bool false) rfl (zaf (.inr rfl) rfl) ?_;simp only [aP,lA,lZ,lS]
  exact zaj
 refine zak rfl ?_
 intro w2 hE
 replace b2:=hE.block b2
 replace hx:=hx.trans hE
 clear hE
 go_upto_region 2 with (fail)
 refine' zan (m:=4) (A:=_) (by kernel_rfl) ?h2a ?h2b
 case h2a =>
  refine zaa (ptrTo (w.heap.size + 1 + 1)) rfl (zae rfl rfl (fldG0 _ ·)) ?_
  refine zaa (nv R) rfl (zac rfl rfl b2 rfl uN rfl (iN _)) ?_;simp only [aP,lA,lZ,lS]
  refine zaa (.bool true) rfl (zah (args:=[nv R]) rfl rfl (fun W => zab Tryz.func8 rfl rfl _ W) (fun W hW => zbv kr.out kR.out W)) ?_
  refine zaa (.bool true) rfl (zaf (.inr rfl) rfl) ?_;simp only [aP,lA,lZ,lS]
  exact zaj
 refine zak rfl ?_
 intro w3 hE
 replace b2:=hE.block b2
 replace hx:=hx.trans hE
 clear hE
 go_upto_region 3 with (fail)
 refine' zan (m:=4) (A:=_) (by kernel_rfl) ?h3a ?h3b
 case h3a =>
  refine zaa (.pointer (some ⟨w.heap.size + 1 + 1,4,none⟩)) rfl (zae rfl rfl (fldG1 _ ·)) ?_
  refine zaa (nv S) rfl (zac rfl rfl b2 rfl uN rfl (iN _)) ?_;simp only [aP,lA,lZ,lS]
  refine zaa (.bool false) rfl (zah (args:=[nv S]) rfl rfl (fun W => zab Tryz.func8 rfl rfl _ W) (fun W hW => zbv ks.out kS.out W)) ?_
  refine zaa (.bool false) rfl (zaf (.inr rfl) rfl) ?_;simp only [aP,lA,lZ,lS]
  exact zaj
 refine zak rfl ?_
 intro w4 hE
 replace hx:=hx.trans hE
 clear hE
 go_upto_region 4 with (fail)
 refine' zbm (m:=14) (A:=_) ?h4a ?h4b
 case h4a =>
  refine zaa (.bool false) rfl (zaf (.inl rfl) rfl) ?_
  refine zaa (.bool true) rfl (zax rfl rfl rfl) ?_;simp only [aP,lA,lZ,lS]
  refine zaa (.bool true) rfl (zaf (.inl rfl) rfl) ?_
  refine zau rfl ?_;simp only [aP,lA,lZ,lS]
  refine zau rfl ?_
  refine zaa (.bool true) rfl (zat rfl rfl rfl) ?_;simp only [aP,lA,lZ,lS]
  refine zaa (.bool true) rfl (zaf (.inl rfl) rfl) ?_
  refine zau rfl ?_;simp only [aP,lA,lZ,lS]
  refine zau rfl ?_
  refine zaa (.bool true) rfl (zat rfl rfl rfl) ?_;simp only [aP,lA,lZ,lS]
  refine zaa (.bool true) rfl (zaf (.inl rfl) rfl) ?_
  refine zau rfl ?_;simp only [aP,lA,lZ,lS]
  refine zau rfl ?_
  refine zaa (.bool true) rfl (zat rfl rfl rfl) ?_;simp only [aP,lA,lZ,lS]
  exact zaj
 refine zak rfl ?_
 intro w5 hE
 replace hx:=hx.trans hE
 clear hE
 go_upto_region 5 with (fail)
 refine' zan (m:=1) (A:=_) (by kernel_rfl) ?h5a ?h5b
 case h5a =>
  refine zaa (.bool false) rfl (zaf (.inr rfl) rfl) ?_;simp only [aP,lA,lZ,lS]
  exact zaj
 refine zak rfl ?_
 intro w6 hE
 replace hx:=hx.trans hE
 clear hE
 go_wp2
 go_ret
 exact ⟨rfl,hx⟩
theorem ver_off_ft {X Y R S : Nat} (hX : X < top) (hY : Y < top) (hR : R < top) (hS : S < top) {f : Bool} (hon : onB X Y f = false) (hr : mayB R = false) (hs : mayB S = true) (y : Nat → Nat) {w : World} :
  Calls Tryz.prog 12 #[qv X Y f,dgv y,gv R S] w fun e w' => e = .returned (.bool false) ∧ Ext w w':=by
 have kX:=veil hX
 have kY:=veil hY
 have kR:=veil hR
 have kS:=veil hS
 have kon:=veil hon
 have kr:=veil hr
 have ks:=veil hs
 clear hs hr hon hS hR hY hX
 unfold qv qc gv gc dgv dgc
 go_enter Tryz.func12,Tryz.ntmps12
 go_upto_region 1 with (fail)
 obtain ⟨hx,b0,b1,b2⟩:=blocks3 w (.cells #[.int .u64 (wd X 0),.int .u64 (wd X 1),.int .u64 (wd X 2),.int .u64 (wd X 3),.int .u64 (wd Y 0),.int .u64 (wd Y 1),.int .u64 (wd Y 2),.int .u64 (wd Y 3),.bool (f)] 29) (.cells (arrOf 32 fun i => .int .u8 (y i : Nat)) 26) (.cells #[.int .u64 (wd R 0),.int .u64 (wd R 1),.int .u64 (wd R 2),.int .u64 (wd R 3),.int .u64 (wd S 0),.int .u64 (wd S 1),.int .u64 (wd S 2),.int .u64 (wd S 3)] 35)
 generalize ((w.alloc (.cells #[.int .u64 (wd X 0),.int .u64 (wd X 1),.int .u64 (wd X 2),.int .u64 (wd X 3),.int .u64 (wd Y 0),.int .u64 (wd Y 1),.int .u64 (wd Y 2),.int .u64 (wd Y 3),.bool (f)] 29)).alloc (.cells (arrOf 32 fun i => .int .u8 (y i : Nat)) 26)).alloc (.cells #[.int .u64 (wd R 0),.int .u64 (wd R 1),.int .u64 (wd R 2),.int .u64 (wd R 3),.int .u64 (wd S 0),.int .u64 (wd S 1),.int .u64 (wd S 2),.int .u64 (wd S 3)] 35) = w1 at *
 have b0 : w1.heap[w.heap.size]? = some (.cells (qc X Y f) 29 (0,0)):=b0
 have b1 : w1.heap[w.heap.size + 1]? = some (.cells (dgc y) 26 (0,0)):=b1
 have b2 : w1.heap[w.heap.size + 1 + 1]? = some (.cells (gc R S) 35 (0,0)):=b2
 refine' zan (m:=3) (A:=_) (by kernel_rfl) ?h1 ?h2
 case h1 =>
  refine zaa (qv X Y f) rfl (zac rfl rfl b0 rfl Tryz.underlying29 rfl (iT _ _ _)) ?_
  refine zaa (.bool false) rfl (zah (args:=[qv X Y f]) rfl rfl (fun W => zab Tryz.func38 rfl rfl _ W) (fun W hW => zeh kon.out kX.out kY.out W)) ?_;simp only [aP,lA,lZ,lS]
  refine zaa (.bool false) rfl (zaf (.inr rfl) rfl) ?_;simp only [aP,lA,lZ,lS]
  exact zaj
 refine zak rfl ?_
 intro w2 hE
 replace b2:=hE.block b2
 replace hx:=hx.trans hE
 clear hE
 go_upto_region 2 with (fail)
 refine' zan (m:=4) (A:=_) (by kernel_rfl) ?h2a ?h2b
 case h2a =>
  refine zaa (ptrTo (w.heap.size + 1 + 1)) rfl (zae rfl rfl (fldG0 _ ·)) ?_
  refine zaa (nv R) rfl (zac rfl rfl b2 rfl uN rfl (iN _)) ?_;simp only [aP,lA,lZ,lS]
  refine zaa (.bool false) rfl (zah (args:=[nv R]) rfl rfl (fun W => zab Tryz.func8 rfl rfl _ W) (fun W hW => zbv kr.out kR.out W)) ?_
  refine zaa (.bool false) rfl (zaf (.inr rfl) rfl) ?_;simp only [aP,lA,lZ,lS]
  exact zaj
 refine zak rfl ?_
 intro w3 hE
 replace b2:=hE.block b2
 replace hx:=hx.trans hE
 clear hE
 go_upto_region 3 with (fail)
 refine' zan (m:=4) (A:=_) (by kernel_rfl) ?h3a ?h3b
 case h3a =>
  refine zaa (.pointer (some ⟨w.heap.size + 1 + 1,4,none⟩)) rfl (zae rfl rfl (fldG1 _ ·)) ?_
  refine zaa (nv S) rfl (zac rfl rfl b2 rfl uN rfl (iN _)) ?_;simp only [aP,lA,lZ,lS]
  refine zaa (.bool true) rfl (zah (args:=[nv S]) rfl rfl (fun W => zab Tryz.func8 rfl rfl _ W) (fun W hW => zbv ks.out kS.out W)) ?_
  refine zaa (.bool true) rfl (zaf (.inr rfl) rfl) ?_;simp only [aP,lA,lZ,lS]
  exact zaj
 refine zak rfl ?_
 intro w4 hE
 replace hx:=hx.trans hE
 clear hE
 go_upto_region 4 with (fail)
 refine' zbm (m:=14) (A:=_) ?h4a ?h4b
 case h4a =>
  refine zaa (.bool false) rfl (zaf (.inl rfl) rfl) ?_
  refine zaa (.bool true) rfl (zax rfl rfl rfl) ?_;simp only [aP,lA,lZ,lS]
  refine zaa (.bool true) rfl (zaf (.inl rfl) rfl) ?_
  refine zau rfl ?_;simp only [aP,lA,lZ,lS]
  refine zau rfl ?_
  refine zaa (.bool true) rfl (zat rfl rfl rfl) ?_;simp only [aP,lA,lZ,lS]
  refine zaa (.bool true) rfl (zaf (.inl rfl) rfl) ?_
  refine zau rfl ?_;simp only [aP,lA,lZ,lS]
  refine zau rfl ?_
  refine zaa (.bool true) rfl (zat rfl rfl rfl) ?_;simp only [aP,lA,lZ,lS]
  refine zaa (.bool true) rfl (zaf (.inl rfl) rfl) ?_
  refine zau rfl ?_;simp only [aP,lA,lZ,lS]
  refine zau rfl ?_
  refine zaa (.bool true) rfl (zat rfl rfl rfl) ?_;simp only [aP,lA,lZ,lS]
  exact zaj
 refine zak rfl ?_
 intro w5 hE
 replace hx:=hx.trans hE
 clear hE
 go_upto_region 5 with (fail)
 refine' zan (m:=1) (A:=_) (by kernel_rfl) ?h5a ?h5b
 case h5a =>
  refine zaa (.bool false) rfl (zaf (.inr rfl) rfl) ?_;simp only [aP,lA,lZ,lS]
  exact zaj
 refine zak rfl ?_
 intro w6 hE
 replace hx:=hx.trans hE
 clear hE
 go_wp2
 go_ret
 exact ⟨rfl,hx⟩
theorem ver_off_ff {X Y R S : Nat} (hX : X < top) (hY : Y < top) (hR : R < top) (hS : S < top) {f : Bool} (hon : onB X Y f = false) (hr : mayB R = false) (hs : mayB S = false) (y : Nat → Nat) {w : World} :
  Calls Tryz.prog 12 #[qv X Y f,dgv y,gv R S] w fun e w' => e = .returned (.bool false) ∧ Ext w w':=by
 have kX:=veil hX
 have kY:=veil hY
 have kR:=veil hR
 have kS:=veil hS
 have kon:=veil hon
 have kr:=veil hr
 have ks:=veil hs
 clear hs hr hon hS hR hY hX
 unfold qv qc gv gc dgv dgc
 go_enter Tryz.func12,Tryz.ntmps12
 go_upto_region 1 with (fail)
 obtain ⟨hx,b0,b1,b2⟩:=blocks3 w (.cells #[.int .u64 (wd X 0),.int .u64 (wd X 1),.int .u64 (wd X 2),.int .u64 (wd X 3),.int .u64 (wd Y 0),.int .u64 (wd Y 1),.int .u64 (wd Y 2),.int .u64 (wd Y 3),.bool (f)] 29) (.cells (arrOf 32 fun i => .int .u8 (y i : Nat)) 26) (.cells #[.int .u64 (wd R 0),.int .u64 (wd R 1),.int .u64 (wd R 2),.int .u64 (wd R 3),.int .u64 (wd S 0),.int .u64 (wd S 1),.int .u64 (wd S 2),.int .u64 (wd S 3)] 35)
 generalize ((w.alloc (.cells #[.int .u64 (wd X 0),.int .u64 (wd X 1),.int .u64 (wd X 2),.int .u64 (wd X 3),.int .u64 (wd Y 0),.int .u64 (wd Y 1),.int .u64 (wd Y 2),.int .u64 (wd Y 3),.bool (f)] 29)).alloc (.cells (arrOf 32 fun i => .int .u8 (y i : Nat)) 26)).alloc (.cells #[.int .u64 (wd R 0),.int .u64 (wd R 1),.int .u64 (wd R 2),.int .u64 (wd R 3),.int .u64 (wd S 0),.int .u64 (wd S 1),.int .u64 (wd S 2),.int .u64 (wd S 3)] 35) = w1 at *
 have b0 : w1.heap[w.heap.size]? = some (.cells (qc X Y f) 29 (0,0)):=b0
 have b1 : w1.heap[w.heap.size + 1]? = some (.cells (dgc y) 26 (0,0)):=b1
 have b2 : w1.heap[w.heap.size + 1 + 1]? = some (.cells (gc R S) 35 (0,0)):=b2
 refine' zan (m:=3) (A:=_) (by kernel_rfl) ?h1 ?h2
 case h1 =>
  refine zaa (qv X Y f) rfl (zac rfl rfl b0 rfl Tryz.underlying29 rfl (iT _ _ _)) ?_
  refine zaa (.bool false) rfl (zah (args:=[qv X Y f]) rfl rfl (fun W => zab Tryz.func38 rfl rfl _ W) (fun W hW => zeh kon.out kX.out kY.out W)) ?_;simp only [aP,lA,lZ,lS]
  refine zaa (.bool false) rfl (zaf (.inr rfl) rfl) ?_;simp only [aP,lA,lZ,lS]
  exact zaj
 refine zak rfl ?_
 intro w2 hE
 replace b2:=hE.block b2
 replace hx:=hx.trans hE
 clear hE
 go_upto_region 2 with (fail)
 refine' zan (m:=4) (A:=_) (by kernel_rfl) ?h2a ?h2b
 case h2a =>
  refine zaa (ptrTo (w.heap.size + 1 + 1)) rfl (zae rfl rfl (fldG0 _ ·)) ?_
  refine zaa (nv R) rfl (zac rfl rfl b2 rfl uN rfl (iN _)) ?_;simp only [aP,lA,lZ,lS]
  refine zaa (.bool false) rfl (zah (args:=[nv R]) rfl rfl (fun W => zab Tryz.func8 rfl rfl _ W) (fun W hW => zbv kr.out kR.out W)) ?_
  refine zaa (.bool false) rfl (zaf (.inr rfl) rfl) ?_;simp only [aP,lA,lZ,lS]
  exact zaj
 refine zak rfl ?_
 intro w3 hE
 replace b2:=hE.block b2
 replace hx:=hx.trans hE
 clear hE
 go_upto_region 3 with (fail)
 refine' zan (m:=4) (A:=_) (by kernel_rfl) ?h3a ?h3b
 case h3a =>
  refine zaa (.pointer (some ⟨w.heap.size + 1 + 1,4,none⟩)) rfl (zae rfl rfl (fldG1 _ ·)) ?_
  refine zaa (nv S) rfl (zac rfl rfl b2 rfl uN rfl (iN _)) ?_;simp only [aP,lA,lZ,lS]
  refine zaa (.bool false) rfl (zah (args:=[nv S]) rfl rfl (fun W => zab Tryz.func8 rfl rfl _ W) (fun W hW => zbv ks.out kS.out W)) ?_
  refine zaa (.bool false) rfl (zaf (.inr rfl) rfl) ?_;simp only [aP,lA,lZ,lS]
  exact zaj
 refine zak rfl ?_
 intro w4 hE
 replace hx:=hx.trans hE
 clear hE
 go_upto_region 4 with (fail)
 refine' zbm (m:=14) (A:=_) ?h4a ?h4b
 case h4a =>
  refine zaa (.bool false) rfl (zaf (.inl rfl) rfl) ?_
  refine zaa (.bool true) rfl (zax rfl rfl rfl) ?_;simp only [aP,lA,lZ,lS]
  refine zaa (.bool true) rfl (zaf (.inl rfl) rfl) ?_
  refine zau rfl ?_;simp only [aP,lA,lZ,lS]
  refine zau rfl ?_
  refine zaa (.bool true) rfl (zat rfl rfl rfl) ?_;simp only [aP,lA,lZ,lS]
  refine zaa (.bool true) rfl (zaf (.inl rfl) rfl) ?_
  refine zau rfl ?_;simp only [aP,lA,lZ,lS]
  refine zau rfl ?_
  refine zaa (.bool true) rfl (zat rfl rfl rfl) ?_;simp only [aP,lA,lZ,lS]
  refine zaa (.bool true) rfl (zaf (.inl rfl) rfl) ?_
  refine zau rfl ?_;simp only [aP,lA,lZ,lS]
  refine zau rfl ?_
  refine zaa (.bool true) rfl (zat rfl rfl rfl) ?_;simp only [aP,lA,lZ,lS]
  exact zaj
 refine zak rfl ?_
 intro w5 hE
 replace hx:=hx.trans hE
 clear hE
 go_upto_region 5 with (fail)
 refine' zan (m:=1) (A:=_) (by kernel_rfl) ?h5a ?h5b
 case h5a =>
  refine zaa (.bool false) rfl (zaf (.inr rfl) rfl) ?_;simp only [aP,lA,lZ,lS]
  exact zaj
 refine zak rfl ?_
 intro w6 hE
 replace hx:=hx.trans hE
 clear hE
 go_wp2
 go_ret
 exact ⟨rfl,hx⟩
theorem ver_farq_tt {X Y R S : Nat} (hX : X < top) (hY : Y < top) (hR : R < top) (hS : S < top) (hon : onB X Y true = true) (hr : mayB R = true) (hs : mayB S = true) (y : Nat → Nat) {w : World} :
  Calls Tryz.prog 12 #[qv X Y true,dgv y,gv R S] w fun e w' => e = .returned (.bool false) ∧ Ext w w':=by
 have kX:=veil hX
 have kY:=veil hY
 have kR:=veil hR
 have kS:=veil hS
 have kon:=veil hon
 have kr:=veil hr
 have ks:=veil hs
 clear hs hr hon hS hR hY hX
 unfold qv qc gv gc dgv dgc
 go_enter Tryz.func12,Tryz.ntmps12
 go_upto_region 1 with (fail)
 obtain ⟨hx,b0,b1,b2⟩:=blocks3 w (.cells #[.int .u64 (wd X 0),.int .u64 (wd X 1),.int .u64 (wd X 2),.int .u64 (wd X 3),.int .u64 (wd Y 0),.int .u64 (wd Y 1),.int .u64 (wd Y 2),.int .u64 (wd Y 3),.bool (true)] 29) (.cells (arrOf 32 fun i => .int .u8 (y i : Nat)) 26) (.cells #[.int .u64 (wd R 0),.int .u64 (wd R 1),.int .u64 (wd R 2),.int .u64 (wd R 3),.int .u64 (wd S 0),.int .u64 (wd S 1),.int .u64 (wd S 2),.int .u64 (wd S 3)] 35)
 generalize ((w.alloc (.cells #[.int .u64 (wd X 0),.int .u64 (wd X 1),.int .u64 (wd X 2),.int .u64 (wd X 3),.int .u64 (wd Y 0),.int .u64 (wd Y 1),.int .u64 (wd Y 2),.int .u64 (wd Y 3),.bool (true)] 29)).alloc (.cells (arrOf 32 fun i => .int .u8 (y i : Nat)) 26)).alloc (.cells #[.int .u64 (wd R 0),.int .u64 (wd R 1),.int .u64 (wd R 2),.int .u64 (wd R 3),.int .u64 (wd S 0),.int .u64 (wd S 1),.int .u64 (wd S 2),.int .u64 (wd S 3)] 35) = w1 at *
 have b0 : w1.heap[w.heap.size]? = some (.cells (qc X Y true) 29 (0,0)):=b0
 have b1 : w1.heap[w.heap.size + 1]? = some (.cells (dgc y) 26 (0,0)):=b1
 have b2 : w1.heap[w.heap.size + 1 + 1]? = some (.cells (gc R S) 35 (0,0)):=b2
 refine' zan (m:=3) (A:=_) (by kernel_rfl) ?h1 ?h2
 case h1 =>
  refine zaa (qv X Y true) rfl (zac rfl rfl b0 rfl Tryz.underlying29 rfl (iT _ _ _)) ?_
  refine zaa (.bool true) rfl (zah (args:=[qv X Y true]) rfl rfl (fun W => zab Tryz.func38 rfl rfl _ W) (fun W hW => zeh kon.out kX.out kY.out W)) ?_;simp only [aP,lA,lZ,lS]
  refine zaa (.bool true) rfl (zaf (.inr rfl) rfl) ?_;simp only [aP,lA,lZ,lS]
  exact zaj
 refine zak rfl ?_
 intro w2 hE
 replace b0:=hE.block b0
 replace b2:=hE.block b2
 replace hx:=hx.trans hE
 clear hE
 go_upto_region 2 with (fail)
 refine' zan (m:=4) (A:=_) (by kernel_rfl) ?h2a ?h2b
 case h2a =>
  refine zaa (ptrTo (w.heap.size + 1 + 1)) rfl (zae rfl rfl (fldG0 _ ·)) ?_
  refine zaa (nv R) rfl (zac rfl rfl b2 rfl uN rfl (iN _)) ?_;simp only [aP,lA,lZ,lS]
  refine zaa (.bool true) rfl (zah (args:=[nv R]) rfl rfl (fun W => zab Tryz.func8 rfl rfl _ W) (fun W hW => zbv kr.out kR.out W)) ?_
  refine zaa (.bool true) rfl (zaf (.inr rfl) rfl) ?_;simp only [aP,lA,lZ,lS]
  exact zaj
 refine zak rfl ?_
 intro w3 hE
 replace b0:=hE.block b0
 replace b2:=hE.block b2
 replace hx:=hx.trans hE
 clear hE
 go_upto_region 3 with (fail)
 refine' zan (m:=4) (A:=_) (by kernel_rfl) ?h3a ?h3b
 case h3a =>
  refine zaa (.pointer (some ⟨w.heap.size + 1 + 1,4,none⟩)) rfl (zae rfl rfl (fldG1 _ ·)) ?_
  refine zaa (nv S) rfl (zac rfl rfl b2 rfl uN rfl (iN _)) ?_;simp only [aP,lA,lZ,lS]
  refine zaa (.bool true) rfl (zah (args:=[nv S]) rfl rfl (fun W => zab Tryz.func8 rfl rfl _ W) (fun W hW => zbv ks.out kS.out W)) ?_
  refine zaa (.bool true) rfl (zaf (.inr rfl) rfl) ?_;simp only [aP,lA,lZ,lS]
  exact zaj
 refine zak rfl ?_
 intro w4 hE
 replace b0:=hE.block b0
 replace hx:=hx.trans hE
 clear hE
 go_upto_region 4 with (fail)
 refine' zbm (m:=14) (A:=_) ?h4a ?h4b
 case h4a =>
  refine zaa (.bool true) rfl (zaf (.inl rfl) rfl) ?_
  refine zaa (.bool false) rfl (zax rfl rfl rfl) ?_;simp only [aP,lA,lZ,lS]
  refine zaa (.bool false) rfl (zaf (.inl rfl) rfl) ?_
  refine zam (.pointer (some ⟨w.heap.size,8,none⟩)) rfl (zae rfl rfl (fldT2 _ ·)) ?_;simp only [aP,lA,lZ,lS]
  refine zam (.bool true) rfl (zap rfl rfl b0 rfl (zbg ·)) ?_
  refine zaa (.bool true) rfl (zat rfl rfl rfl) ?_;simp only [aP,lA,lZ,lS]
  refine zaa (.bool true) rfl (zaf (.inl rfl) rfl) ?_
  refine zau rfl ?_;simp only [aP,lA,lZ,lS]
  refine zau rfl ?_
  refine zaa (.bool true) rfl (zat rfl rfl rfl) ?_;simp only [aP,lA,lZ,lS]
  refine zaa (.bool true) rfl (zaf (.inl rfl) rfl) ?_
  refine zau rfl ?_;simp only [aP,lA,lZ,lS]
  refine zau rfl ?_
  refine zaa (.bool true) rfl (zat rfl rfl rfl) ?_;simp only [aP,lA,lZ,lS]
  exact zaj
 refine zak rfl ?_
 intro w5 hE
 replace hx:=hx.trans hE
 clear hE
 go_upto_region 5 with (fail)
 refine' zan (m:=1) (A:=_) (by kernel_rfl) ?h5a ?h5b
 case h5a =>
  refine zaa (.bool false) rfl (zaf (.inr rfl) rfl) ?_;simp only [aP,lA,lZ,lS]
  exact zaj
 refine zak rfl ?_
 intro w6 hE
 replace hx:=hx.trans hE
 clear hE
 go_wp2
 go_ret
 exact ⟨rfl,hx⟩
theorem ver_farq_tf {X Y R S : Nat} (hX : X < top) (hY : Y < top) (hR : R < top) (hS : S < top) (hon : onB X Y true = true) (hr : mayB R = true) (hs : mayB S = false) (y : Nat → Nat) {w : World} :
  Calls Tryz.prog 12 #[qv X Y true,dgv y,gv R S] w fun e w' => e = .returned (.bool false) ∧ Ext w w':=by
 have kX:=veil hX
 have kY:=veil hY
 have kR:=veil hR
 have kS:=veil hS
 have kon:=veil hon
 have kr:=veil hr
 have ks:=veil hs
 clear hs hr hon hS hR hY hX
 unfold qv qc gv gc dgv dgc
 go_enter Tryz.func12,Tryz.ntmps12
 go_upto_region 1 with (fail)
 obtain ⟨hx,b0,b1,b2⟩:=blocks3 w (.cells #[.int .u64 (wd X 0),.int .u64 (wd X 1),.int .u64 (wd X 2),.int .u64 (wd X 3),.int .u64 (wd Y 0),.int .u64 (wd Y 1),.int .u64 (wd Y 2),.int .u64 (wd Y 3),.bool (true)] 29) (.cells (arrOf 32 fun i => .int .u8 (y i : Nat)) 26) (.cells #[.int .u64 (wd R 0),.int .u64 (wd R 1),.int .u64 (wd R 2),.int .u64 (wd R 3),.int .u64 (wd S 0),.int .u64 (wd S 1),.int .u64 (wd S 2),.int .u64 (wd S 3)] 35)
 generalize ((w.alloc (.cells #[.int .u64 (wd X 0),.int .u64 (wd X 1),.int .u64 (wd X 2),.int .u64 (wd X 3),.int .u64 (wd Y 0),.int .u64 (wd Y 1),.int .u64 (wd Y 2),.int .u64 (wd Y 3),.bool (true)] 29)).alloc (.cells (arrOf 32 fun i => .int .u8 (y i : Nat)) 26)).alloc (.cells #[.int .u64 (wd R 0),.int .u64 (wd R 1),.int .u64 (wd R 2),.int .u64 (wd R 3),.int .u64 (wd S 0),.int .u64 (wd S 1),.int .u64 (wd S 2),.int .u64 (wd S 3)] 35) = w1 at *
 have b0 : w1.heap[w.heap.size]? = some (.cells (qc X Y true) 29 (0,0)):=b0
 have b1 : w1.heap[w.heap.size + 1]? = some (.cells (dgc y) 26 (0,0)):=b1
 have b2 : w1.heap[w.heap.size + 1 + 1]? = some (.cells (gc R S) 35 (0,0)):=b2
 refine' zan (m:=3) (A:=_) (by kernel_rfl) ?h1 ?h2
 case h1 =>
  refine zaa (qv X Y true) rfl (zac rfl rfl b0 rfl Tryz.underlying29 rfl (iT _ _ _)) ?_
  refine zaa (.bool true) rfl (zah (args:=[qv X Y true]) rfl rfl (fun W => zab Tryz.func38 rfl rfl _ W) (fun W hW => zeh kon.out kX.out kY.out W)) ?_;simp only [aP,lA,lZ,lS]
  refine zaa (.bool true) rfl (zaf (.inr rfl) rfl) ?_;simp only [aP,lA,lZ,lS]
  exact zaj
 refine zak rfl ?_
 intro w2 hE
 replace b0:=hE.block b0
 replace b2:=hE.block b2
 replace hx:=hx.trans hE
 clear hE
 go_upto_region 2 with (fail)
 refine' zan (m:=4) (A:=_) (by kernel_rfl) ?h2a ?h2b
 case h2a =>
  refine zaa (ptrTo (w.heap.size + 1 + 1)) rfl (zae rfl rfl (fldG0 _ ·)) ?_
  refine zaa (nv R) rfl (zac rfl rfl b2 rfl uN rfl (iN _)) ?_;simp only [aP,lA,lZ,lS]
  refine zaa (.bool true) rfl (zah (args:=[nv R]) rfl rfl (fun W => zab Tryz.func8 rfl rfl _ W) (fun W hW => zbv kr.out kR.out W)) ?_
  refine zaa (.bool true) rfl (zaf (.inr rfl) rfl) ?_;simp only [aP,lA,lZ,lS]
  exact zaj
 refine zak rfl ?_
 intro w3 hE
 replace b0:=hE.block b0
 replace b2:=hE.block b2
 replace hx:=hx.trans hE
 clear hE
 go_upto_region 3 with (fail)
 refine' zan (m:=4) (A:=_) (by kernel_rfl) ?h3a ?h3b
 case h3a =>
  refine zaa (.pointer (some ⟨w.heap.size + 1 + 1,4,none⟩)) rfl (zae rfl rfl (fldG1 _ ·)) ?_
  refine zaa (nv S) rfl (zac rfl rfl b2 rfl uN rfl (iN _)) ?_;simp only [aP,lA,lZ,lS]
  refine zaa (.bool false) rfl (zah (args:=[nv S]) rfl rfl (fun W => zab Tryz.func8 rfl rfl _ W) (fun W hW => zbv ks.out kS.out W)) ?_
  refine zaa (.bool false) rfl (zaf (.inr rfl) rfl) ?_;simp only [aP,lA,lZ,lS]
  exact zaj
 refine zak rfl ?_
 intro w4 hE
 replace b0:=hE.block b0
 replace hx:=hx.trans hE
 clear hE
 go_upto_region 4 with (fail)
 refine' zbm (m:=14) (A:=_) ?h4a ?h4b
 case h4a =>
  refine zaa (.bool true) rfl (zaf (.inl rfl) rfl) ?_
  refine zaa (.bool false) rfl (zax rfl rfl rfl) ?_;simp only [aP,lA,lZ,lS]
  refine zaa (.bool false) rfl (zaf (.inl rfl) rfl) ?_
  refine zam (.pointer (some ⟨w.heap.size,8,none⟩)) rfl (zae rfl rfl (fldT2 _ ·)) ?_;simp only [aP,lA,lZ,lS]
  refine zam (.bool true) rfl (zap rfl rfl b0 rfl (zbg ·)) ?_
  refine zaa (.bool true) rfl (zat rfl rfl rfl) ?_;simp only [aP,lA,lZ,lS]
  refine zaa (.bool true) rfl (zaf (.inl rfl) rfl) ?_
  refine zau rfl ?_;simp only [aP,lA,lZ,lS]
  refine zau rfl ?_
  refine zaa (.bool true) rfl (zat rfl rfl rfl) ?_;simp only [aP,lA,lZ,lS]
  refine zaa (.bool true) rfl (zaf (.inl rfl) rfl) ?_
  refine zau rfl ?_;simp only [aP,lA,lZ,lS]
  refine zau rfl ?_
  refine zaa (.bool true) rfl (zat rfl rfl rfl) ?_;simp only [aP,lA,lZ,lS]
  exact zaj
 refine zak rfl ?_
 intro w5 hE
 replace hx:=hx.trans hE
 clear hE
 go_upto_region 5 with (fail)
 refine' zan (m:=1) (A:=_) (by kernel_rfl) ?h5a ?h5b
 case h5a =>
  refine zaa (.bool false) rfl (zaf (.inr rfl) rfl) ?_;simp only [aP,lA,lZ,lS]
  exact zaj
 refine zak rfl ?_
 intro w6 hE
 replace hx:=hx.trans hE
 clear hE
 go_wp2
 go_ret
 exact ⟨rfl,hx⟩
theorem ver_farq_ft {X Y R S : Nat} (hX : X < top) (hY : Y < top) (hR : R < top) (hS : S < top) (hon : onB X Y true = true) (hr : mayB R = false) (hs : mayB S = true) (y : Nat → Nat) {w : World} :
  Calls Tryz.prog 12 #[qv X Y true,dgv y,gv R S] w fun e w' => e = .returned (.bool false) ∧ Ext w w':=by
 have kX:=veil hX
 have kY:=veil hY
 have kR:=veil hR
 have kS:=veil hS
 have kon:=veil hon
 have kr:=veil hr
 have ks:=veil hs
 clear hs hr hon hS hR hY hX
 unfold qv qc gv gc dgv dgc
 go_enter Tryz.func12,Tryz.ntmps12
 go_upto_region 1 with (fail)
 obtain ⟨hx,b0,b1,b2⟩:=blocks3 w (.cells #[.int .u64 (wd X 0),.int .u64 (wd X 1),.int .u64 (wd X 2),.int .u64 (wd X 3),.int .u64 (wd Y 0),.int .u64 (wd Y 1),.int .u64 (wd Y 2),.int .u64 (wd Y 3),.bool (true)] 29) (.cells (arrOf 32 fun i => .int .u8 (y i : Nat)) 26) (.cells #[.int .u64 (wd R 0),.int .u64 (wd R 1),.int .u64 (wd R 2),.int .u64 (wd R 3),.int .u64 (wd S 0),.int .u64 (wd S 1),.int .u64 (wd S 2),.int .u64 (wd S 3)] 35)
 generalize ((w.alloc (.cells #[.int .u64 (wd X 0),.int .u64 (wd X 1),.int .u64 (wd X 2),.int .u64 (wd X 3),.int .u64 (wd Y 0),.int .u64 (wd Y 1),.int .u64 (wd Y 2),.int .u64 (wd Y 3),.bool (true)] 29)).alloc (.cells (arrOf 32 fun i => .int .u8 (y i : Nat)) 26)).alloc (.cells #[.int .u64 (wd R 0),.int .u64 (wd R 1),.int .u64 (wd R 2),.int .u64 (wd R 3),.int .u64 (wd S 0),.int .u64 (wd S 1),.int .u64 (wd S 2),.int .u64 (wd S 3)] 35) = w1 at *
 have b0 : w1.heap[w.heap.size]? = some (.cells (qc X Y true) 29 (0,0)):=b0
 have b1 : w1.heap[w.heap.size + 1]? = some (.cells (dgc y) 26 (0,0)):=b1
 have b2 : w1.heap[w.heap.size + 1 + 1]? = some (.cells (gc R S) 35 (0,0)):=b2
 refine' zan (m:=3) (A:=_) (by kernel_rfl) ?h1 ?h2
 case h1 =>
  refine zaa (qv X Y true) rfl (zac rfl rfl b0 rfl Tryz.underlying29 rfl (iT _ _ _)) ?_
  refine zaa (.bool true) rfl (zah (args:=[qv X Y true]) rfl rfl (fun W => zab Tryz.func38 rfl rfl _ W) (fun W hW => zeh kon.out kX.out kY.out W)) ?_;simp only [aP,lA,lZ,lS]
  refine zaa (.bool true) rfl (zaf (.inr rfl) rfl) ?_;simp only [aP,lA,lZ,lS]
  exact zaj
 refine zak rfl ?_
 intro w2 hE
 replace b0:=hE.block b0
 replace b2:=hE.block b2
 replace hx:=hx.trans hE
 clear hE
 go_upto_region 2 with (fail)
 refine' zan (m:=4) (A:=_) (by kernel_rfl) ?h2a ?h2b
 case h2a =>
  refine zaa (ptrTo (w.heap.size + 1 + 1)) rfl (zae rfl rfl (fldG0 _ ·)) ?_
  refine zaa (nv R) rfl (zac rfl rfl b2 rfl uN rfl (iN _)) ?_;simp only [aP,lA,lZ,lS]
  refine zaa (.bool false) rfl (zah (args:=[nv R]) rfl rfl (fun W => zab Tryz.func8 rfl rfl _ W) (fun W hW => zbv kr.out kR.out W)) ?_
  refine zaa (.bool false) rfl (zaf (.inr rfl) rfl) ?_;simp only [aP,lA,lZ,lS]
  exact zaj
 refine zak rfl ?_
 intro w3 hE
 replace b0:=hE.block b0
 replace b2:=hE.block b2
 replace hx:=hx.trans hE
 clear hE
 go_upto_region 3 with (fail)
 refine' zan (m:=4) (A:=_) (by kernel_rfl) ?h3a ?h3b
 case h3a =>
  refine zaa (.pointer (some ⟨w.heap.size + 1 + 1,4,none⟩)) rfl (zae rfl rfl (fldG1 _ ·)) ?_
  refine zaa (nv S) rfl (zac rfl rfl b2 rfl uN rfl (iN _)) ?_;simp only [aP,lA,lZ,lS]
  refine zaa (.bool true) rfl (zah (args:=[nv S]) rfl rfl (fun W => zab Tryz.func8 rfl rfl _ W) (fun W hW => zbv ks.out kS.out W)) ?_
  refine zaa (.bool true) rfl (zaf (.inr rfl) rfl) ?_;simp only [aP,lA,lZ,lS]
  exact zaj
 refine zak rfl ?_
 intro w4 hE
 replace b0:=hE.block b0
 replace hx:=hx.trans hE
 clear hE
 go_upto_region 4 with (fail)
 refine' zbm (m:=14) (A:=_) ?h4a ?h4b
 case h4a =>
  refine zaa (.bool true) rfl (zaf (.inl rfl) rfl) ?_
  refine zaa (.bool false) rfl (zax rfl rfl rfl) ?_;simp only [aP,lA,lZ,lS]
  refine zaa (.bool false) rfl (zaf (.inl rfl) rfl) ?_
  refine zam (.pointer (some ⟨w.heap.size,8,none⟩)) rfl (zae rfl rfl (fldT2 _ ·)) ?_;simp only [aP,lA,lZ,lS]
  refine zam (.bool true) rfl (zap rfl rfl b0 rfl (zbg ·)) ?_
  refine zaa (.bool true) rfl (zat rfl rfl rfl) ?_;simp only [aP,lA,lZ,lS]
  refine zaa (.bool true) rfl (zaf (.inl rfl) rfl) ?_
  refine zau rfl ?_;simp only [aP,lA,lZ,lS]
  refine zau rfl ?_
  refine zaa (.bool true) rfl (zat rfl rfl rfl) ?_;simp only [aP,lA,lZ,lS]
  refine zaa (.bool true) rfl (zaf (.inl rfl) rfl) ?_
  refine zau rfl ?_;simp only [aP,lA,lZ,lS]
  refine zau rfl ?_
  refine zaa (.bool true) rfl (zat rfl rfl rfl) ?_;simp only [aP,lA,lZ,lS]
  exact zaj
 refine zak rfl ?_
 intro w5 hE
 replace hx:=hx.trans hE
 clear hE
 go_upto_region 5 with (fail)
 refine' zan (m:=1) (A:=_) (by kernel_rfl) ?h5a ?h5b
 case h5a =>
  refine zaa (.bool false) rfl (zaf (.inr rfl) rfl) ?_;simp only [aP,lA,lZ,lS]
  exact zaj
 refine zak rfl ?_
 intro w6 hE
 replace hx:=hx.trans hE
 clear hE
 go_wp2
 go_ret
 exact ⟨rfl,hx⟩
theorem ver_farq_ff {X Y R S : Nat} (hX : X < top) (hY : Y < top) (hR : R < top) (hS : S < top) (hon : onB X Y true = true) (hr : mayB R = false) (hs : mayB S = false) (y : Nat → Nat) {w : World} :
  Calls Tryz.prog 12 #[qv X Y true,dgv y,gv R S] w fun e w' => e = .returned (.bool false) ∧ Ext w w':=by
 have kX:=veil hX
 have kY:=veil hY
 have kR:=veil hR
 have kS:=veil hS
 have kon:=veil hon
 have kr:=veil hr
 have ks:=veil hs
 clear hs hr hon hS hR hY hX
 unfold qv qc gv gc dgv dgc
 go_enter Tryz.func12,Tryz.ntmps12
 go_upto_region 1 with (fail)
 obtain ⟨hx,b0,b1,b2⟩:=blocks3 w (.cells #[.int .u64 (wd X 0),.int .u64 (wd X 1),.int .u64 (wd X 2),.int .u64 (wd X 3),.int .u64 (wd Y 0),.int .u64 (wd Y 1),.int .u64 (wd Y 2),.int .u64 (wd Y 3),.bool (true)] 29) (.cells (arrOf 32 fun i => .int .u8 (y i : Nat)) 26) (.cells #[.int .u64 (wd R 0),.int .u64 (wd R 1),.int .u64 (wd R 2),.int .u64 (wd R 3),.int .u64 (wd S 0),.int .u64 (wd S 1),.int .u64 (wd S 2),.int .u64 (wd S 3)] 35)
 generalize ((w.alloc (.cells #[.int .u64 (wd X 0),.int .u64 (wd X 1),.int .u64 (wd X 2),.int .u64 (wd X 3),.int .u64 (wd Y 0),.int .u64 (wd Y 1),.int .u64 (wd Y 2),.int .u64 (wd Y 3),.bool (true)] 29)).alloc (.cells (arrOf 32 fun i => .int .u8 (y i : Nat)) 26)).alloc (.cells #[.int .u64 (wd R 0),.int .u64 (wd R 1),.int .u64 (wd R 2),.int .u64 (wd R 3),.int .u64 (wd S 0),.int .u64 (wd S 1),.int .u64 (wd S 2),.int .u64 (wd S 3)] 35) = w1 at *
 have b0 : w1.heap[w.heap.size]? = some (.cells (qc X Y true) 29 (0,0)):=b0
 have b1 : w1.heap[w.heap.size + 1]? = some (.cells (dgc y) 26 (0,0)):=b1
 have b2 : w1.heap[w.heap.size + 1 + 1]? = some (.cells (gc R S) 35 (0,0)):=b2
 refine' zan (m:=3) (A:=_) (by kernel_rfl) ?h1 ?h2
 case h1 =>
  refine zaa (qv X Y true) rfl (zac rfl rfl b0 rfl Tryz.underlying29 rfl (iT _ _ _)) ?_
  refine zaa (.bool true) rfl (zah (args:=[qv X Y true]) rfl rfl (fun W => zab Tryz.func38 rfl rfl _ W) (fun W hW => zeh kon.out kX.out kY.out W)) ?_;simp only [aP,lA,lZ,lS]
  refine zaa (.bool true) rfl (zaf (.inr rfl) rfl) ?_;simp only [aP,lA,lZ,lS]
  exact zaj
 refine zak rfl ?_
 intro w2 hE
 replace b0:=hE.block b0
 replace b2:=hE.block b2
 replace hx:=hx.trans hE
 clear hE
 go_upto_region 2 with (fail)
 refine' zan (m:=4) (A:=_) (by kernel_rfl) ?h2a ?h2b
 case h2a =>
  refine zaa (ptrTo (w.heap.size + 1 + 1)) rfl (zae rfl rfl (fldG0 _ ·)) ?_
  refine zaa (nv R) rfl (zac rfl rfl b2 rfl uN rfl (iN _)) ?_;simp only [aP,lA,lZ,lS]
  refine zaa (.bool false) rfl (zah (args:=[nv R]) rfl rfl (fun W => zab Tryz.func8 rfl rfl _ W) (fun W hW => zbv kr.out kR.out W)) ?_
  refine zaa (.bool false) rfl (zaf (.inr rfl) rfl) ?_;simp only [aP,lA,lZ,lS]
  exact zaj
 refine zak rfl ?_
 intro w3 hE
 replace b0:=hE.block b0
 replace b2:=hE.block b2
 replace hx:=hx.trans hE
 clear hE
 go_upto_region 3 with (fail)
 refine' zan (m:=4) (A:=_) (by kernel_rfl) ?h3a ?h3b
 case h3a =>
  refine zaa (.pointer (some ⟨w.heap.size + 1 + 1,4,none⟩)) rfl (zae rfl rfl (fldG1 _ ·)) ?_
  refine zaa (nv S) rfl (zac rfl rfl b2 rfl uN rfl (iN _)) ?_;simp only [aP,lA,lZ,lS]
  refine zaa (.bool false) rfl (zah (args:=[nv S]) rfl rfl (fun W => zab Tryz.func8 rfl rfl _ W) (fun W hW => zbv ks.out kS.out W)) ?_
  refine zaa (.bool false) rfl (zaf (.inr rfl) rfl) ?_;simp only [aP,lA,lZ,lS]
  exact zaj
 refine zak rfl ?_
 intro w4 hE
 replace b0:=hE.block b0
 replace hx:=hx.trans hE
 clear hE
 go_upto_region 4 with (fail)
 refine' zbm (m:=14) (A:=_) ?h4a ?h4b
 case h4a =>
  refine zaa (.bool true) rfl (zaf (.inl rfl) rfl) ?_
  refine zaa (.bool false) rfl (zax rfl rfl rfl) ?_;simp only [aP,lA,lZ,lS]
  refine zaa (.bool false) rfl (zaf (.inl rfl) rfl) ?_
  refine zam (.pointer (some ⟨w.heap.size,8,none⟩)) rfl (zae rfl rfl (fldT2 _ ·)) ?_;simp only [aP,lA,lZ,lS]
  refine zam (.bool true) rfl (zap rfl rfl b0 rfl (zbg ·)) ?_
  refine zaa (.bool true) rfl (zat rfl rfl rfl) ?_;simp only [aP,lA,lZ,lS]
  refine zaa (.bool true) rfl (zaf (.inl rfl) rfl) ?_
  refine zau rfl ?_;simp only [aP,lA,lZ,lS]
  refine zau rfl ?_
  refine zaa (.bool true) rfl (zat rfl rfl rfl) ?_;simp only [aP,lA,lZ,lS]
  refine zaa (.bool true) rfl (zaf (.inl rfl) rfl) ?_
  refine zau rfl ?_;simp only [aP,lA,lZ,lS]
  refine zau rfl ?_
  refine zaa (.bool true) rfl (zat rfl rfl rfl) ?_;simp only [aP,lA,lZ,lS]
  exact zaj
 refine zak rfl ?_
 intro w5 hE
 replace hx:=hx.trans hE
 clear hE
 go_upto_region 5 with (fail)
 refine' zan (m:=1) (A:=_) (by kernel_rfl) ?h5a ?h5b
 case h5a =>
  refine zaa (.bool false) rfl (zaf (.inr rfl) rfl) ?_;simp only [aP,lA,lZ,lS]
  exact zaj
 refine zak rfl ?_
 intro w6 hE
 replace hx:=hx.trans hE
 clear hE
 go_wp2
 go_ret
 exact ⟨rfl,hx⟩
theorem ver_near_ft {X Y R S : Nat} (hX : X < top) (hY : Y < top) (hR : R < top) (hS : S < top) (hon : onB X Y false = true) (hr : mayB R = false) (hs : mayB S = true) (y : Nat → Nat) {w : World} :
  Calls Tryz.prog 12 #[qv X Y false,dgv y,gv R S] w fun e w' => e = .returned (.bool false) ∧ Ext w w':=by
 have kX:=veil hX
 have kY:=veil hY
 have kR:=veil hR
 have kS:=veil hS
 have kon:=veil hon
 have kr:=veil hr
 have ks:=veil hs
 clear hs hr hon hS hR hY hX
 unfold qv qc gv gc dgv dgc
 go_enter Tryz.func12,Tryz.ntmps12
 go_upto_region 1 with (fail)
 obtain ⟨hx,b0,b1,b2⟩:=blocks3 w (.cells #[.int .u64 (wd X 0),.int .u64 (wd X 1),.int .u64 (wd X 2),.int .u64 (wd X 3),.int .u64 (wd Y 0),.int .u64 (wd Y 1),.int .u64 (wd Y 2),.int .u64 (wd Y 3),.bool (false)] 29) (.cells (arrOf 32 fun i => .int .u8 (y i : Nat)) 26) (.cells #[.int .u64 (wd R 0),.int .u64 (wd R 1),.int .u64 (wd R 2),.int .u64 (wd R 3),.int .u64 (wd S 0),.int .u64 (wd S 1),.int .u64 (wd S 2),.int .u64 (wd S 3)] 35)
 generalize ((w.alloc (.cells #[.int .u64 (wd X 0),.int .u64 (wd X 1),.int .u64 (wd X 2),.int .u64 (wd X 3),.int .u64 (wd Y 0),.int .u64 (wd Y 1),.int .u64 (wd Y 2),.int .u64 (wd Y 3),.bool (false)] 29)).alloc (.cells (arrOf 32 fun i => .int .u8 (y i : Nat)) 26)).alloc (.cells #[.int .u64 (wd R 0),.int .u64 (wd R 1),.int .u64 (wd R 2),.int .u64 (wd R 3),.int .u64 (wd S 0),.int .u64 (wd S 1),.int .u64 (wd S 2),.int .u64 (wd S 3)] 35) = w1 at *
 have b0 : w1.heap[w.heap.size]? = some (.cells (qc X Y false) 29 (0,0)):=b0
 have b1 : w1.heap[w.heap.size + 1]? = some (.cells (dgc y) 26 (0,0)):=b1
 have b2 : w1.heap[w.heap.size + 1 + 1]? = some (.cells (gc R S) 35 (0,0)):=b2
 refine' zan (m:=3) (A:=_) (by kernel_rfl) ?h1 ?h2
 case h1 =>
  refine zaa (qv X Y false) rfl (zac rfl rfl b0 rfl Tryz.underlying29 rfl (iT _ _ _)) ?_
  refine zaa (.bool true) rfl (zah (args:=[qv X Y false]) rfl rfl (fun W => zab Tryz.func38 rfl rfl _ W) (fun W hW => zeh kon.out kX.out kY.out W)) ?_;simp only [aP,lA,lZ,lS]
  refine zaa (.bool true) rfl (zaf (.inr rfl) rfl) ?_;simp only [aP,lA,lZ,lS]
  exact zaj
 refine zak rfl ?_
 intro w2 hE
 replace b0:=hE.block b0
 replace b2:=hE.block b2
 replace hx:=hx.trans hE
 clear hE
 go_upto_region 2 with (fail)
 refine' zan (m:=4) (A:=_) (by kernel_rfl) ?h2a ?h2b
 case h2a =>
  refine zaa (ptrTo (w.heap.size + 1 + 1)) rfl (zae rfl rfl (fldG0 _ ·)) ?_
  refine zaa (nv R) rfl (zac rfl rfl b2 rfl uN rfl (iN _)) ?_;simp only [aP,lA,lZ,lS]
  refine zaa (.bool false) rfl (zah (args:=[nv R]) rfl rfl (fun W => zab Tryz.func8 rfl rfl _ W) (fun W hW => zbv kr.out kR.out W)) ?_
  refine zaa (.bool false) rfl (zaf (.inr rfl) rfl) ?_;simp only [aP,lA,lZ,lS]
  exact zaj
 refine zak rfl ?_
 intro w3 hE
 replace b0:=hE.block b0
 replace b2:=hE.block b2
 replace hx:=hx.trans hE
 clear hE
 go_upto_region 3 with (fail)
 refine' zan (m:=4) (A:=_) (by kernel_rfl) ?h3a ?h3b
 case h3a =>
  refine zaa (.pointer (some ⟨w.heap.size + 1 + 1,4,none⟩)) rfl (zae rfl rfl (fldG1 _ ·)) ?_
  refine zaa (nv S) rfl (zac rfl rfl b2 rfl uN rfl (iN _)) ?_;simp only [aP,lA,lZ,lS]
  refine zaa (.bool true) rfl (zah (args:=[nv S]) rfl rfl (fun W => zab Tryz.func8 rfl rfl _ W) (fun W hW => zbv ks.out kS.out W)) ?_
  refine zaa (.bool true) rfl (zaf (.inr rfl) rfl) ?_;simp only [aP,lA,lZ,lS]
  exact zaj
 refine zak rfl ?_
 intro w4 hE
 replace b0:=hE.block b0
 replace hx:=hx.trans hE
 clear hE
 go_upto_region 4 with (fail)
 refine' zbm (m:=14) (A:=_) ?h4a ?h4b
 case h4a =>
  refine zaa (.bool true) rfl (zaf (.inl rfl) rfl) ?_
  refine zaa (.bool false) rfl (zax rfl rfl rfl) ?_;simp only [aP,lA,lZ,lS]
  refine zaa (.bool false) rfl (zaf (.inl rfl) rfl) ?_
  refine zam (.pointer (some ⟨w.heap.size,8,none⟩)) rfl (zae rfl rfl (fldT2 _ ·)) ?_;simp only [aP,lA,lZ,lS]
  refine zam (.bool false) rfl (zap rfl rfl b0 rfl (zbg ·)) ?_
  refine zaa (.bool false) rfl (zat rfl rfl rfl) ?_;simp only [aP,lA,lZ,lS]
  refine zaa (.bool false) rfl (zaf (.inl rfl) rfl) ?_
  refine zam (.bool false) rfl (zaf (.inl rfl) rfl) ?_;simp only [aP,lA,lZ,lS]
  refine zam (.bool true) rfl (zax rfl rfl rfl) ?_
  refine zaa (.bool true) rfl (zat rfl rfl rfl) ?_;simp only [aP,lA,lZ,lS]
  refine zaa (.bool true) rfl (zaf (.inl rfl) rfl) ?_
  refine zau rfl ?_;simp only [aP,lA,lZ,lS]
  refine zau rfl ?_
  refine zaa (.bool true) rfl (zat rfl rfl rfl) ?_;simp only [aP,lA,lZ,lS]
  exact zaj
 refine zak rfl ?_
 intro w5 hE
 replace hx:=hx.trans hE
 clear hE
 go_upto_region 5 with (fail)
 refine' zan (m:=1) (A:=_) (by kernel_rfl) ?h5a ?h5b
 case h5a =>
  refine zaa (.bool false) rfl (zaf (.inr rfl) rfl) ?_;simp only [aP,lA,lZ,lS]
  exact zaj
 refine zak rfl ?_
 intro w6 hE
 replace hx:=hx.trans hE
 clear hE
 go_wp2
 go_ret
 exact ⟨rfl,hx⟩
theorem ver_near_ff {X Y R S : Nat} (hX : X < top) (hY : Y < top) (hR : R < top) (hS : S < top) (hon : onB X Y false = true) (hr : mayB R = false) (hs : mayB S = false) (y : Nat → Nat) {w : World} :
  Calls Tryz.prog 12 #[qv X Y false,dgv y,gv R S] w fun e w' => e = .returned (.bool false) ∧ Ext w w':=by
 have kX:=veil hX
 have kY:=veil hY
 have kR:=veil hR
 have kS:=veil hS
 have kon:=veil hon
 have kr:=veil hr
 have ks:=veil hs
 clear hs hr hon hS hR hY hX
 unfold qv qc gv gc dgv dgc
 go_enter Tryz.func12,Tryz.ntmps12
 go_upto_region 1 with (fail)
 obtain ⟨hx,b0,b1,b2⟩:=blocks3 w (.cells #[.int .u64 (wd X 0),.int .u64 (wd X 1),.int .u64 (wd X 2),.int .u64 (wd X 3),.int .u64 (wd Y 0),.int .u64 (wd Y 1),.int .u64 (wd Y 2),.int .u64 (wd Y 3),.bool (false)] 29) (.cells (arrOf 32 fun i => .int .u8 (y i : Nat)) 26) (.cells #[.int .u64 (wd R 0),.int .u64 (wd R 1),.int .u64 (wd R 2),.int .u64 (wd R 3),.int .u64 (wd S 0),.int .u64 (wd S 1),.int .u64 (wd S 2),.int .u64 (wd S 3)] 35)
 generalize ((w.alloc (.cells #[.int .u64 (wd X 0),.int .u64 (wd X 1),.int .u64 (wd X 2),.int .u64 (wd X 3),.int .u64 (wd Y 0),.int .u64 (wd Y 1),.int .u64 (wd Y 2),.int .u64 (wd Y 3),.bool (false)] 29)).alloc (.cells (arrOf 32 fun i => .int .u8 (y i : Nat)) 26)).alloc (.cells #[.int .u64 (wd R 0),.int .u64 (wd R 1),.int .u64 (wd R 2),.int .u64 (wd R 3),.int .u64 (wd S 0),.int .u64 (wd S 1),.int .u64 (wd S 2),.int .u64 (wd S 3)] 35) = w1 at *
 have b0 : w1.heap[w.heap.size]? = some (.cells (qc X Y false) 29 (0,0)):=b0
 have b1 : w1.heap[w.heap.size + 1]? = some (.cells (dgc y) 26 (0,0)):=b1
 have b2 : w1.heap[w.heap.size + 1 + 1]? = some (.cells (gc R S) 35 (0,0)):=b2
 refine' zan (m:=3) (A:=_) (by kernel_rfl) ?h1 ?h2
 case h1 =>
  refine zaa (qv X Y false) rfl (zac rfl rfl b0 rfl Tryz.underlying29 rfl (iT _ _ _)) ?_
  refine zaa (.bool true) rfl (zah (args:=[qv X Y false]) rfl rfl (fun W => zab Tryz.func38 rfl rfl _ W) (fun W hW => zeh kon.out kX.out kY.out W)) ?_;simp only [aP,lA,lZ,lS]
  refine zaa (.bool true) rfl (zaf (.inr rfl) rfl) ?_;simp only [aP,lA,lZ,lS]
  exact zaj
 refine zak rfl ?_
 intro w2 hE
 replace b0:=hE.block b0
 replace b2:=hE.block b2
 replace hx:=hx.trans hE
 clear hE
 go_upto_region 2 with (fail)
 refine' zan (m:=4) (A:=_) (by kernel_rfl) ?h2a ?h2b
 case h2a =>
  refine zaa (ptrTo (w.heap.size + 1 + 1)) rfl (zae rfl rfl (fldG0 _ ·)) ?_
  refine zaa (nv R) rfl (zac rfl rfl b2 rfl uN rfl (iN _)) ?_;simp only [aP,lA,lZ,lS]
  refine zaa (.bool false) rfl (zah (args:=[nv R]) rfl rfl (fun W => zab Tryz.func8 rfl rfl _ W) (fun W hW => zbv kr.out kR.out W)) ?_
  refine zaa (.bool false) rfl (zaf (.inr rfl) rfl) ?_;simp only [aP,lA,lZ,lS]
  exact zaj
 refine zak rfl ?_
 intro w3 hE
 replace b0:=hE.block b0
 replace b2:=hE.block b2
 replace hx:=hx.trans hE
 clear hE
 go_upto_region 3 with (fail)
 refine' zan (m:=4) (A:=_) (by kernel_rfl) ?h3a ?h3b
 case h3a =>
  refine zaa (.pointer (some ⟨w.heap.size + 1 + 1,4,none⟩)) rfl (zae rfl rfl (fldG1 _ ·)) ?_
  refine zaa (nv S) rfl (zac rfl rfl b2 rfl uN rfl (iN _)) ?_;simp only [aP,lA,lZ,lS]
  refine zaa (.bool false) rfl (zah (args:=[nv S]) rfl rfl (fun W => zab Tryz.func8 rfl rfl _ W) (fun W hW => zbv ks.out kS.out W)) ?_
  refine zaa (.bool false) rfl (zaf (.inr rfl) rfl) ?_;simp only [aP,lA,lZ,lS]
  exact zaj
 refine zak rfl ?_
 intro w4 hE
 replace b0:=hE.block b0
 replace hx:=hx.trans hE
 clear hE
 go_upto_region 4 with (fail)
 refine' zbm (m:=14) (A:=_) ?h4a ?h4b
 case h4a =>
  refine zaa (.bool true) rfl (zaf (.inl rfl) rfl) ?_
  refine zaa (.bool false) rfl (zax rfl rfl rfl) ?_;simp only [aP,lA,lZ,lS]
  refine zaa (.bool false) rfl (zaf (.inl rfl) rfl) ?_
  refine zam (.pointer (some ⟨w.heap.size,8,none⟩)) rfl (zae rfl rfl (fldT2 _ ·)) ?_;simp only [aP,lA,lZ,lS]
  refine zam (.bool false) rfl (zap rfl rfl b0 rfl (zbg ·)) ?_
  refine zaa (.bool false) rfl (zat rfl rfl rfl) ?_;simp only [aP,lA,lZ,lS]
  refine zaa (.bool false) rfl (zaf (.inl rfl) rfl) ?_
  refine zam (.bool false) rfl (zaf (.inl rfl) rfl) ?_;simp only [aP,lA,lZ,lS]
  refine zam (.bool true) rfl (zax rfl rfl rfl) ?_
  refine zaa (.bool true) rfl (zat rfl rfl rfl) ?_;simp only [aP,lA,lZ,lS]
  refine zaa (.bool true) rfl (zaf (.inl rfl) rfl) ?_
  refine zau rfl ?_;simp only [aP,lA,lZ,lS]
  refine zau rfl ?_
  refine zaa (.bool true) rfl (zat rfl rfl rfl) ?_;simp only [aP,lA,lZ,lS]
  exact zaj
 refine zak rfl ?_
 intro w5 hE
 replace hx:=hx.trans hE
 clear hE
 go_upto_region 5 with (fail)
 refine' zan (m:=1) (A:=_) (by kernel_rfl) ?h5a ?h5b
 case h5a =>
  refine zaa (.bool false) rfl (zaf (.inr rfl) rfl) ?_;simp only [aP,lA,lZ,lS]
  exact zaj
 refine zak rfl ?_
 intro w6 hE
 replace hx:=hx.trans hE
 clear hE
 go_wp2
 go_ret
 exact ⟨rfl,hx⟩
theorem ver_near_tf {X Y R S : Nat} (hX : X < top) (hY : Y < top) (hR : R < top) (hS : S < top) (hon : onB X Y false = true) (hr : mayB R = true) (hs : mayB S = false) (y : Nat → Nat) {w : World} :
  Calls Tryz.prog 12 #[qv X Y false,dgv y,gv R S] w fun e w' => e = .returned (.bool false) ∧ Ext w w':=by
 have kX:=veil hX
 have kY:=veil hY
 have kR:=veil hR
 have kS:=veil hS
 have kon:=veil hon
 have kr:=veil hr
 have ks:=veil hs
 clear hs hr hon hS hR hY hX
 unfold qv qc gv gc dgv dgc
 go_enter Tryz.func12,Tryz.ntmps12
 go_upto_region 1 with (fail)
 obtain ⟨hx,b0,b1,b2⟩:=blocks3 w (.cells #[.int .u64 (wd X 0),.int .u64 (wd X 1),.int .u64 (wd X 2),.int .u64 (wd X 3),.int .u64 (wd Y 0),.int .u64 (wd Y 1),.int .u64 (wd Y 2),.int .u64 (wd Y 3),.bool (false)] 29) (.cells (arrOf 32 fun i => .int .u8 (y i : Nat)) 26) (.cells #[.int .u64 (wd R 0),.int .u64 (wd R 1),.int .u64 (wd R 2),.int .u64 (wd R 3),.int .u64 (wd S 0),.int .u64 (wd S 1),.int .u64 (wd S 2),.int .u64 (wd S 3)] 35)
 generalize ((w.alloc (.cells #[.int .u64 (wd X 0),.int .u64 (wd X 1),.int .u64 (wd X 2),.int .u64 (wd X 3),.int .u64 (wd Y 0),.int .u64 (wd Y 1),.int .u64 (wd Y 2),.int .u64 (wd Y 3),.bool (false)] 29)).alloc (.cells (arrOf 32 fun i => .int .u8 (y i : Nat)) 26)).alloc (.cells #[.int .u64 (wd R 0),.int .u64 (wd R 1),.int .u64 (wd R 2),.int .u64 (wd R 3),.int .u64 (wd S 0),.int .u64 (wd S 1),.int .u64 (wd S 2),.int .u64 (wd S 3)] 35) = w1 at *
 have b0 : w1.heap[w.heap.size]? = some (.cells (qc X Y false) 29 (0,0)):=b0
 have b1 : w1.heap[w.heap.size + 1]? = some (.cells (dgc y) 26 (0,0)):=b1
 have b2 : w1.heap[w.heap.size + 1 + 1]? = some (.cells (gc R S) 35 (0,0)):=b2
 refine' zan (m:=3) (A:=_) (by kernel_rfl) ?h1 ?h2
 case h1 =>
  refine zaa (qv X Y false) rfl (zac rfl rfl b0 rfl Tryz.underlying29 rfl (iT _ _ _)) ?_
  refine zaa (.bool true) rfl (zah (args:=[qv X Y false]) rfl rfl (fun W => zab Tryz.func38 rfl rfl _ W) (fun W hW => zeh kon.out kX.out kY.out W)) ?_;simp only [aP,lA,lZ,lS]
  refine zaa (.bool true) rfl (zaf (.inr rfl) rfl) ?_;simp only [aP,lA,lZ,lS]
  exact zaj
 refine zak rfl ?_
 intro w2 hE
 replace b0:=hE.block b0
 replace b2:=hE.block b2
 replace hx:=hx.trans hE
 clear hE
 go_upto_region 2 with (fail)
 refine' zan (m:=4) (A:=_) (by kernel_rfl) ?h2a ?h2b
 case h2a =>
  refine zaa (ptrTo (w.heap.size + 1 + 1)) rfl (zae rfl rfl (fldG0 _ ·)) ?_
  refine zaa (nv R) rfl (zac rfl rfl b2 rfl uN rfl (iN _)) ?_;simp only [aP,lA,lZ,lS]
  refine zaa (.bool true) rfl (zah (args:=[nv R]) rfl rfl (fun W => zab Tryz.func8 rfl rfl _ W) (fun W hW => zbv kr.out kR.out W)) ?_
  refine zaa (.bool true) rfl (zaf (.inr rfl) rfl) ?_;simp only [aP,lA,lZ,lS]
  exact zaj
 refine zak rfl ?_
 intro w3 hE
 replace b0:=hE.block b0
 replace b2:=hE.block b2
 replace hx:=hx.trans hE
 clear hE
 go_upto_region 3 with (fail)
 refine' zan (m:=4) (A:=_) (by kernel_rfl) ?h3a ?h3b
 case h3a =>
  refine zaa (.pointer (some ⟨w.heap.size + 1 + 1,4,none⟩)) rfl (zae rfl rfl (fldG1 _ ·)) ?_
  refine zaa (nv S) rfl (zac rfl rfl b2 rfl uN rfl (iN _)) ?_;simp only [aP,lA,lZ,lS]
  refine zaa (.bool false) rfl (zah (args:=[nv S]) rfl rfl (fun W => zab Tryz.func8 rfl rfl _ W) (fun W hW => zbv ks.out kS.out W)) ?_
  refine zaa (.bool false) rfl (zaf (.inr rfl) rfl) ?_;simp only [aP,lA,lZ,lS]
  exact zaj
 refine zak rfl ?_
 intro w4 hE
 replace b0:=hE.block b0
 replace hx:=hx.trans hE
 clear hE
 go_upto_region 4 with (fail)
 refine' zbm (m:=14) (A:=_) ?h4a ?h4b
 case h4a =>
  refine zaa (.bool true) rfl (zaf (.inl rfl) rfl) ?_
  refine zaa (.bool false) rfl (zax rfl rfl rfl) ?_;simp only [aP,lA,lZ,lS]
  refine zaa (.bool false) rfl (zaf (.inl rfl) rfl) ?_
  refine zam (.pointer (some ⟨w.heap.size,8,none⟩)) rfl (zae rfl rfl (fldT2 _ ·)) ?_;simp only [aP,lA,lZ,lS]
  refine zam (.bool false) rfl (zap rfl rfl b0 rfl (zbg ·)) ?_
  refine zaa (.bool false) rfl (zat rfl rfl rfl) ?_;simp only [aP,lA,lZ,lS]
  refine zaa (.bool false) rfl (zaf (.inl rfl) rfl) ?_
  refine zam (.bool true) rfl (zaf (.inl rfl) rfl) ?_;simp only [aP,lA,lZ,lS]
  refine zam (.bool false) rfl (zax rfl rfl rfl) ?_
  refine zaa (.bool false) rfl (zat rfl rfl rfl) ?_;simp only [aP,lA,lZ,lS]
  refine zaa (.bool false) rfl (zaf (.inl rfl) rfl) ?_
  refine zam (.bool false) rfl (zaf (.inl rfl) rfl) ?_;simp only [aP,lA,lZ,lS]
  refine zam (.bool true) rfl (zax rfl rfl rfl) ?_
  refine zaa (.bool true) rfl (zat rfl rfl rfl) ?_;simp only [aP,lA,lZ,lS]
  exact zaj
 refine zak rfl ?_
 intro w5 hE
 replace hx:=hx.trans hE
 clear hE
 go_upto_region 5 with (fail)
 refine' zan (m:=1) (A:=_) (by kernel_rfl) ?h5a ?h5b
 case h5a =>
  refine zaa (.bool false) rfl (zaf (.inr rfl) rfl) ?_;simp only [aP,lA,lZ,lS]
  exact zaj
 refine zak rfl ?_
 intro w6 hE
 replace hx:=hx.trans hE
 clear hE
 go_wp2
 go_ret
 exact ⟨rfl,hx⟩
theorem ver_all_t (y : Nat → Nat) {p a b c : Pt.Q} {X Y R S t M u v m : Nat} (hX : X < top) (hY : Y < top) (hR : R < top) (hS : S < top) (hon : onB X Y false = true) (hr : mayB R = true) (hs : mayB S = true) (hp : X = Pt.pX p.1 ∧ Y = Pt.pY p.1 ∧ false = Pt.pFar p.1) (hy : ∀ j,y j < 256) (hM : M = num32 y % Pt.nn) (ht : t = Pt.iG Pt.nn S) (hu : u = M * t % Pt.nn) (hv : v = R * t % Pt.nn) (ha : a = Pt.grp.mul u Pt.base) (hb : b = Pt.grp.mul v p) (hc : c = Pt.grp.op a b) (hfar : Pt.pFar c.1 = true) (hm : m = Pt.pX c.1 % Pt.nn) {w : World} :
  Calls Tryz.prog 12 #[qv X Y false,dgv y,gv R S] w fun e w' => e = .returned (.bool (false)) ∧ Ext w w':=by
 obtain ⟨x,hx0⟩ : ∃ x,x = Pt.pX c.1:=⟨_,rfl⟩
 obtain ⟨z,hz0⟩ : ∃ z,z = Pt.pY c.1:=⟨_,rfl⟩
 have kadd:=veil (fun W => radd_at (x:=x) (z:=z) hc hx0 hz0 hfar W)
 have km:=veil (show m = x % Pt.nn ∧ x < top from ⟨by rw [hx0]; exact hm,by rw [hx0]; exact (p_top _).1⟩)
 have kX:=veil hX
 have kY:=veil hY
 have kR:=veil hR
 have kS:=veil hS
 have kon:=veil hon
 have kr:=veil hr
 have ks:=veil hs
 have kp:=veil hp
 have ky:=veil hy
 have kM:=veil hM
 have kt:=veil ht
 have ku:=veil hu
 have kv:=veil hv
 have ka:=veil ha
 have kb:=veil hb
 clear hb ha hv hu ht hM hy hp hs hr hon hS hR hY hX
 clear hc hfar hm hx0 hz0
 unfold qv qc gv gc dgv dgc
 go_enter Tryz.func12,Tryz.ntmps12
 go_upto_region 1 with (fail)
 obtain ⟨hx,b0,b1,b2⟩:=blocks3 w (.cells #[.int .u64 (wd X 0),.int .u64 (wd X 1),.int .u64 (wd X 2),.int .u64 (wd X 3),.int .u64 (wd Y 0),.int .u64 (wd Y 1),.int .u64 (wd Y 2),.int .u64 (wd Y 3),.bool (false)] 29) (.cells (arrOf 32 fun i => .int .u8 (y i : Nat)) 26) (.cells #[.int .u64 (wd R 0),.int .u64 (wd R 1),.int .u64 (wd R 2),.int .u64 (wd R 3),.int .u64 (wd S 0),.int .u64 (wd S 1),.int .u64 (wd S 2),.int .u64 (wd S 3)] 35)
 generalize ((w.alloc (.cells #[.int .u64 (wd X 0),.int .u64 (wd X 1),.int .u64 (wd X 2),.int .u64 (wd X 3),.int .u64 (wd Y 0),.int .u64 (wd Y 1),.int .u64 (wd Y 2),.int .u64 (wd Y 3),.bool (false)] 29)).alloc (.cells (arrOf 32 fun i => .int .u8 (y i : Nat)) 26)).alloc (.cells #[.int .u64 (wd R 0),.int .u64 (wd R 1),.int .u64 (wd R 2),.int .u64 (wd R 3),.int .u64 (wd S 0),.int .u64 (wd S 1),.int .u64 (wd S 2),.int .u64 (wd S 3)] 35) = w1 at *
 have b0 : w1.heap[w.heap.size]? = some (.cells (qc X Y false) 29 (0,0)):=b0
 have b1 : w1.heap[w.heap.size + 1]? = some (.cells (dgc y) 26 (0,0)):=b1
 have b2 : w1.heap[w.heap.size + 1 + 1]? = some (.cells (gc R S) 35 (0,0)):=b2
 refine' zan (m:=3) (A:=_) (by kernel_rfl) ?h1 ?h2
 case h1 =>
  refine zaa (qv X Y false) rfl (zac rfl rfl b0 rfl Tryz.underlying29 rfl (iT _ _ _)) ?_
  refine zaa (.bool true) rfl (zah (args:=[qv X Y false]) rfl rfl (fun W => zab Tryz.func38 rfl rfl _ W) (fun W hW => zeh kon.out kX.out kY.out W)) ?_;simp only [aP,lA,lZ,lS]
  refine zaa (.bool true) rfl (zaf (.inr rfl) rfl) ?_;simp only [aP,lA,lZ,lS]
  exact zaj
 refine zak rfl ?_
 intro w2 hE
 replace b0:=hE.block b0
 replace b1:=hE.block b1
 replace b2:=hE.block b2
 replace hx:=hx.trans hE
 clear hE
 go_upto_region 2 with (fail)
 refine' zan (m:=4) (A:=_) (by kernel_rfl) ?h2a ?h2b
 case h2a =>
  refine zaa (ptrTo (w.heap.size + 1 + 1)) rfl (zae rfl rfl (fldG0 _ ·)) ?_
  refine zaa (nv R) rfl (zac rfl rfl b2 rfl uN rfl (iN _)) ?_;simp only [aP,lA,lZ,lS]
  refine zaa (.bool true) rfl (zah (args:=[nv R]) rfl rfl (fun W => zab Tryz.func8 rfl rfl _ W) (fun W hW => zbv kr.out kR.out W)) ?_
  refine zaa (.bool true) rfl (zaf (.inr rfl) rfl) ?_;simp only [aP,lA,lZ,lS]
  exact zaj
 refine zak rfl ?_
 intro w3 hE
 replace b0:=hE.block b0
 replace b1:=hE.block b1
 replace b2:=hE.block b2
 replace hx:=hx.trans hE
 clear hE
 go_upto_region 3 with (fail)
 refine' zan (m:=4) (A:=_) (by kernel_rfl) ?h3a ?h3b
 case h3a =>
  refine zaa (.pointer (some ⟨w.heap.size + 1 + 1,4,none⟩)) rfl (zae rfl rfl (fldG1 _ ·)) ?_
  refine zaa (nv S) rfl (zac rfl rfl b2 rfl uN rfl (iN _)) ?_;simp only [aP,lA,lZ,lS]
  refine zaa (.bool true) rfl (zah (args:=[nv S]) rfl rfl (fun W => zab Tryz.func8 rfl rfl _ W) (fun W hW => zbv ks.out kS.out W)) ?_
  refine zaa (.bool true) rfl (zaf (.inr rfl) rfl) ?_;simp only [aP,lA,lZ,lS]
  exact zaj
 refine zak rfl ?_
 intro w4 hE
 replace b0:=hE.block b0
 replace b1:=hE.block b1
 replace b2:=hE.block b2
 replace hx:=hx.trans hE
 clear hE
 go_upto_region 4 with (fail)
 refine' zbm (m:=14) (A:=_) ?h4a ?h4b
 case h4a =>
  refine zaa (.bool true) rfl (zaf (.inl rfl) rfl) ?_
  refine zaa (.bool false) rfl (zax rfl rfl rfl) ?_;simp only [aP,lA,lZ,lS]
  refine zaa (.bool false) rfl (zaf (.inl rfl) rfl) ?_
  refine zam (.pointer (some ⟨w.heap.size,8,none⟩)) rfl (zae rfl rfl (fldT2 _ ·)) ?_;simp only [aP,lA,lZ,lS]
  refine zam (.bool false) rfl (zap rfl rfl b0 rfl (zbg ·)) ?_
  refine zaa (.bool false) rfl (zat rfl rfl rfl) ?_;simp only [aP,lA,lZ,lS]
  refine zaa (.bool false) rfl (zaf (.inl rfl) rfl) ?_
  refine zam (.bool true) rfl (zaf (.inl rfl) rfl) ?_;simp only [aP,lA,lZ,lS]
  refine zam (.bool false) rfl (zax rfl rfl rfl) ?_
  refine zaa (.bool false) rfl (zat rfl rfl rfl) ?_;simp only [aP,lA,lZ,lS]
  refine zaa (.bool false) rfl (zaf (.inl rfl) rfl) ?_
  refine zam (.bool true) rfl (zaf (.inl rfl) rfl) ?_;simp only [aP,lA,lZ,lS]
  refine zam (.bool false) rfl (zax rfl rfl rfl) ?_
  refine zaa (.bool false) rfl (zat rfl rfl rfl) ?_;simp only [aP,lA,lZ,lS]
  exact zaj
 refine zak rfl ?_
 intro w5 hE
 replace b0:=hE.block b0
 replace b1:=hE.block b1
 replace b2:=hE.block b2
 replace hx:=hx.trans hE
 clear hE
 go_upto_region 6 with (fail)
 refine' zbn (m:=6) (A:=_) 8 (by kernel_rfl) (by kernel_rfl) (by kernel_rfl) ?h5a ?h5b
 case h5a =>
  refine zaa (.pointer (some ⟨w.heap.size + 1 + 1,4,none⟩)) rfl (zae rfl rfl (fldG1 _ ·)) ?_
  refine zaa (nv S) rfl (zac rfl rfl b2 rfl uN rfl (iN _)) ?_;simp only [aP,lA,lZ,lS]
  refine zaa (nv Pt.nn) rfl (zah (args:=[]) rfl rfl (fun W => zab Tryz.func22 rfl rfl _ W) (fun W hW => nn_is W)) ?_
  refine zaa (.tuple #[nv t,.bool true]) rfl (zah (args:=[nv S,nv Pt.nn]) rfl rfl (fun W => zab Tryz.func27 rfl rfl _ W) (fun W hW => rinvn_is (may_ne ks.out) (zgp ks.out) kt.out W)) ?_;simp only [aP,lA,lZ,lS]
  refine zaa (.tuple #[nv t,.bool true]) rfl (zaf (.inl rfl) rfl) ?_
  refine zaa (nv t) rfl (zbb rfl rfl rfl) ?_;simp only [aP,lA,lZ,lS]
  exact zaj
 refine zei (v:=.bool true) (vx:=.bool true) _ _ _ _ rfl rfl rfl rfl rfl rfl rfl rfl rfl rfl rfl rfl rfl rfl rfl rfl (by decide) (by kernel_rfl) (by kernel_rfl) (by kernel_rfl) (by kernel_rfl) (by kernel_rfl) (by kernel_rfl) (by kernel_rfl) rfl rfl rfl rfl rfl rfl (hzN ·) (zce rfl rfl rfl) (fun _ => zce rfl rfl rfl) (fun _ => rfl) (fun _ => rfl) (fun _ => rfl) (fun _ => rfl) (fun _ => rfl) (iN _) rfl (zbf _) ?_
 intro gt w6 hgt bt hE
 refine NoPanic.normal ?_
 replace b0:=hE.block b0
 replace b1:=hE.block b1
 replace b2:=hE.block b2
 replace hx:=hx.trans hE
 clear hE
 simp only [aP,lA,lZ,lS]
 clear hgt
 go_upto_region 7 with (fail)
 refine' zbn (m:=6) (A:=_) 7 (by kernel_rfl) (by kernel_rfl) (by kernel_rfl) ?h6a ?h6b
 case h6a =>
  refine zaa (dgv y) rfl (zac rfl rfl b1 rfl Tryz.underlying26 rfl (iDg _)) ?_
  refine zaa (nv M) rfl (zah (args:=[dgv y]) rfl rfl (fun W => zab Tryz.func30 rfl rfl _ W) (fun W hW => vnum_calls y ky.out rfl kM.out W)) ?_;simp only [aP,lA,lZ,lS]
  refine zaa (nv t) rfl (zac rfl rfl bt rfl uN rfl (iN _)) ?_
  refine zaa (nv u) rfl (zah (args:=[nv M,nv t]) rfl rfl (fun W => zab Tryz.func28 rfl rfl _ W) (fun W hW => zgi ku.out (mod_nn kM.out) (zez kt.out) W)) ?_;simp only [aP,lA,lZ,lS]
  refine zaa (qv Pt.gx Pt.gy false) rfl (zah (args:=[]) rfl rfl (fun W => zab Tryz.func25 rfl rfl _ W) (fun W hW => rbase_is W)) ?_
  refine zaa (qv (Pt.pX a.1) (Pt.pY a.1) (Pt.pFar a.1)) rfl (zah (args:=[nv u,qv Pt.gx Pt.gy false]) rfl rfl (fun W => zab Tryz.func24 rfl rfl _ W) (fun W hW => rmulb_is (mul_top ku.out) ka.out W)) ?_;simp only [aP,lA,lZ,lS]
  exact zaj
 refine zcb _ _ rfl rfl rfl rfl rfl rfl rfl rfl rfl (by kernel_rfl) (by kernel_rfl) (by kernel_rfl) rfl rfl (hzT ·) (fun _ => rfl) (fun _ => rfl) (iT _ _ _) rfl (zdh _ _ _) ?_
 intro ga w7 hga ba hE
 refine NoPanic.normal ?_
 replace b0:=hE.block b0
 replace b2:=hE.block b2
 replace bt:=hE.block bt
 replace hx:=hx.trans hE
 clear hE
 simp only [aP,lA,lZ,lS]
 clear hga
 go_upto_region 8 with (fail)
 refine' zbn (m:=6) (A:=_) 7 (by kernel_rfl) (by kernel_rfl) (by kernel_rfl) ?h7a ?h7b
 case h7a =>
  refine zaa (ptrTo (w.heap.size + 1 + 1)) rfl (zae rfl rfl (fldG0 _ ·)) ?_
  refine zaa (nv R) rfl (zac rfl rfl b2 rfl uN rfl (iN _)) ?_;simp only [aP,lA,lZ,lS]
  refine zaa (nv t) rfl (zac rfl rfl bt rfl uN rfl (iN _)) ?_
  refine zaa (nv v) rfl (zah (args:=[nv R,nv t]) rfl rfl (fun W => zab Tryz.func28 rfl rfl _ W) (fun W hW => zgi kv.out (zgp kr.out) (zez kt.out) W)) ?_;simp only [aP,lA,lZ,lS]
  refine zaa (qv X Y false) rfl (zac rfl rfl b0 rfl Tryz.underlying29 rfl (iT _ _ _)) ?_
  refine zaa (qv (Pt.pX b.1) (Pt.pY b.1) (Pt.pFar b.1)) rfl (zah (args:=[nv v,qv X Y false]) rfl rfl (fun W => zab Tryz.func24 rfl rfl _ W) (fun W hW => rmulp_is (mul_top kv.out) kp.out kb.out W)) ?_;simp only [aP,lA,lZ,lS]
  exact zaj
 refine zcb _ _ rfl rfl rfl rfl rfl rfl rfl rfl rfl (by kernel_rfl) (by kernel_rfl) (by kernel_rfl) rfl rfl (hzT ·) (fun _ => rfl) (fun _ => rfl) (iT _ _ _) rfl (zdh _ _ _) ?_
 intro gb w8 hgb bb hE
 refine NoPanic.normal ?_
 replace ba:=hE.block ba
 replace hx:=hx.trans hE
 clear hE
 simp only [aP,lA,lZ,lS]
 clear hgb
 go_upto_region 9 with (fail)
 refine' zan (m:=3) (A:=_) (by kernel_rfl) ?h8a ?h8b
 case h8a =>
  refine zaa (qv (Pt.pX a.1) (Pt.pY a.1) (Pt.pFar a.1)) rfl (zac rfl rfl ba rfl Tryz.underlying29 rfl (iT _ _ _)) ?_
  refine zaa (qv (Pt.pX b.1) (Pt.pY b.1) (Pt.pFar b.1)) rfl (zac rfl rfl bb rfl Tryz.underlying29 rfl (iT _ _ _)) ?_;simp only [aP,lA,lZ,lS]
  refine zaa (qv x z true) rfl (zah (args:=[qv (Pt.pX a.1) (Pt.pY a.1) (Pt.pFar a.1),qv (Pt.pX b.1) (Pt.pY b.1) (Pt.pFar b.1)]) rfl rfl (fun W => zab Tryz.func39 rfl rfl _ W) (fun W hW => kadd.out W)) ?_;simp only [aP,lA,lZ,lS]
  exact zaj
 refine zci _ _ rfl rfl rfl rfl rfl rfl rfl (hzT ·) (fun _ => rfl) (fun _ => rfl) (iT _ _ _) rfl (zdh _ _ _) ?_
 intro gc w9 hgc bc hE
 replace hx:=hx.trans hE
 clear hE
 simp only [aP,lA,lZ,lS]
 clear hgc
 go_upto_region 10 with (fail)
 refine' zcf (m:=13) (A:=_) 13 (by kernel_rfl) (by kernel_rfl) ?h9a ?h9b
 case h9a =>
  refine zaa (.pointer (some ⟨gc,8,none⟩)) rfl (zae rfl rfl (fldT2 _ ·)) ?_
  refine zaa (.bool true) rfl (zap rfl rfl bc rfl (zbg ·)) ?_;simp only [aP,lA,lZ,lS]
  refine zaa (.bool false) rfl (zax rfl rfl rfl) ?_
  refine zaa (.bool false) rfl (zaf (.inl rfl) rfl) ?_;simp only [aP,lA,lZ,lS]
  refine zau rfl ?_
  refine zau rfl ?_;simp only [aP,lA,lZ,lS]
  refine zau rfl ?_
  refine zau rfl ?_;simp only [aP,lA,lZ,lS]
  refine zau rfl ?_
  refine zau rfl ?_;simp only [aP,lA,lZ,lS]
  refine zau rfl ?_
  refine zaa (.bool false) rfl (zat rfl rfl rfl) ?_;simp only [aP,lA,lZ,lS]
  refine zaa (.bool false) rfl (zaf (.inr rfl) rfl) ?_;simp only [aP,lA,lZ,lS]
  exact zaj
 refine zbt rfl (by kernel_rfl) ?_
 intro w10 hE
 refine NoPanic.normal ?_
 replace hx:=hx.trans hE
 clear hE
 go_wp2
 go_ret
 exact ⟨rfl,hx⟩
theorem ver_all_f (y : Nat → Nat) {p a b c : Pt.Q} {X Y R S t M u v m : Nat} (hX : X < top) (hY : Y < top) (hR : R < top) (hS : S < top) (hon : onB X Y false = true) (hr : mayB R = true) (hs : mayB S = true) (hp : X = Pt.pX p.1 ∧ Y = Pt.pY p.1 ∧ false = Pt.pFar p.1) (hy : ∀ j,y j < 256) (hM : M = num32 y % Pt.nn) (ht : t = Pt.iG Pt.nn S) (hu : u = M * t % Pt.nn) (hv : v = R * t % Pt.nn) (ha : a = Pt.grp.mul u Pt.base) (hb : b = Pt.grp.mul v p) (hc : c = Pt.grp.op a b) (hfar : Pt.pFar c.1 = false) (hm : m = Pt.pX c.1 % Pt.nn) {w : World} :
  Calls Tryz.prog 12 #[qv X Y false,dgv y,gv R S] w fun e w' => e = .returned (.bool (decide (m = R))) ∧ Ext w w':=by
 obtain ⟨x,hx0⟩ : ∃ x,x = Pt.pX c.1:=⟨_,rfl⟩
 obtain ⟨z,hz0⟩ : ∃ z,z = Pt.pY c.1:=⟨_,rfl⟩
 have kadd:=veil (fun W => radd_at (x:=x) (z:=z) hc hx0 hz0 hfar W)
 have km:=veil (show m = x % Pt.nn ∧ x < top from ⟨by rw [hx0]; exact hm,by rw [hx0]; exact (p_top _).1⟩)
 have kX:=veil hX
 have kY:=veil hY
 have kR:=veil hR
 have kS:=veil hS
 have kon:=veil hon
 have kr:=veil hr
 have ks:=veil hs
 have kp:=veil hp
 have ky:=veil hy
 have kM:=veil hM
 have kt:=veil ht
 have ku:=veil hu
 have kv:=veil hv
 have ka:=veil ha
 have kb:=veil hb
 clear hb ha hv hu ht hM hy hp hs hr hon hS hR hY hX
 clear hc hfar hm hx0 hz0
 unfold qv qc gv gc dgv dgc
 go_enter Tryz.func12,Tryz.ntmps12
 go_upto_region 1 with (fail)
 obtain ⟨hx,b0,b1,b2⟩:=blocks3 w (.cells #[.int .u64 (wd X 0),.int .u64 (wd X 1),.int .u64 (wd X 2),.int .u64 (wd X 3),.int .u64 (wd Y 0),.int .u64 (wd Y 1),.int .u64 (wd Y 2),.int .u64 (wd Y 3),.bool (false)] 29) (.cells (arrOf 32 fun i => .int .u8 (y i : Nat)) 26) (.cells #[.int .u64 (wd R 0),.int .u64 (wd R 1),.int .u64 (wd R 2),.int .u64 (wd R 3),.int .u64 (wd S 0),.int .u64 (wd S 1),.int .u64 (wd S 2),.int .u64 (wd S 3)] 35)
 generalize ((w.alloc (.cells #[.int .u64 (wd X 0),.int .u64 (wd X 1),.int .u64 (wd X 2),.int .u64 (wd X 3),.int .u64 (wd Y 0),.int .u64 (wd Y 1),.int .u64 (wd Y 2),.int .u64 (wd Y 3),.bool (false)] 29)).alloc (.cells (arrOf 32 fun i => .int .u8 (y i : Nat)) 26)).alloc (.cells #[.int .u64 (wd R 0),.int .u64 (wd R 1),.int .u64 (wd R 2),.int .u64 (wd R 3),.int .u64 (wd S 0),.int .u64 (wd S 1),.int .u64 (wd S 2),.int .u64 (wd S 3)] 35) = w1 at *
 have b0 : w1.heap[w.heap.size]? = some (.cells (qc X Y false) 29 (0,0)):=b0
 have b1 : w1.heap[w.heap.size + 1]? = some (.cells (dgc y) 26 (0,0)):=b1
 have b2 : w1.heap[w.heap.size + 1 + 1]? = some (.cells (gc R S) 35 (0,0)):=b2
 refine' zan (m:=3) (A:=_) (by kernel_rfl) ?h1 ?h2
 case h1 =>
  refine zaa (qv X Y false) rfl (zac rfl rfl b0 rfl Tryz.underlying29 rfl (iT _ _ _)) ?_
  refine zaa (.bool true) rfl (zah (args:=[qv X Y false]) rfl rfl (fun W => zab Tryz.func38 rfl rfl _ W) (fun W hW => zeh kon.out kX.out kY.out W)) ?_;simp only [aP,lA,lZ,lS]
  refine zaa (.bool true) rfl (zaf (.inr rfl) rfl) ?_;simp only [aP,lA,lZ,lS]
  exact zaj
 refine zak rfl ?_
 intro w2 hE
 replace b0:=hE.block b0
 replace b1:=hE.block b1
 replace b2:=hE.block b2
 replace hx:=hx.trans hE
 clear hE
 go_upto_region 2 with (fail)
 refine' zan (m:=4) (A:=_) (by kernel_rfl) ?h2a ?h2b
 case h2a =>
  refine zaa (ptrTo (w.heap.size + 1 + 1)) rfl (zae rfl rfl (fldG0 _ ·)) ?_
  refine zaa (nv R) rfl (zac rfl rfl b2 rfl uN rfl (iN _)) ?_;simp only [aP,lA,lZ,lS]
  refine zaa (.bool true) rfl (zah (args:=[nv R]) rfl rfl (fun W => zab Tryz.func8 rfl rfl _ W) (fun W hW => zbv kr.out kR.out W)) ?_
  refine zaa (.bool true) rfl (zaf (.inr rfl) rfl) ?_;simp only [aP,lA,lZ,lS]
  exact zaj
 refine zak rfl ?_
 intro w3 hE
 replace b0:=hE.block b0
 replace b1:=hE.block b1
 replace b2:=hE.block b2
 replace hx:=hx.trans hE
 clear hE
 go_upto_region 3 with (fail)
 refine' zan (m:=4) (A:=_) (by kernel_rfl) ?h3a ?h3b
 case h3a =>
  refine zaa (.pointer (some ⟨w.heap.size + 1 + 1,4,none⟩)) rfl (zae rfl rfl (fldG1 _ ·)) ?_
  refine zaa (nv S) rfl (zac rfl rfl b2 rfl uN rfl (iN _)) ?_;simp only [aP,lA,lZ,lS]
  refine zaa (.bool true) rfl (zah (args:=[nv S]) rfl rfl (fun W => zab Tryz.func8 rfl rfl _ W) (fun W hW => zbv ks.out kS.out W)) ?_
  refine zaa (.bool true) rfl (zaf (.inr rfl) rfl) ?_;simp only [aP,lA,lZ,lS]
  exact zaj
 refine zak rfl ?_
 intro w4 hE
 replace b0:=hE.block b0
 replace b1:=hE.block b1
 replace b2:=hE.block b2
 replace hx:=hx.trans hE
 clear hE
 go_upto_region 4 with (fail)
 refine' zbm (m:=14) (A:=_) ?h4a ?h4b
 case h4a =>
  refine zaa (.bool true) rfl (zaf (.inl rfl) rfl) ?_
  refine zaa (.bool false) rfl (zax rfl rfl rfl) ?_;simp only [aP,lA,lZ,lS]
  refine zaa (.bool false) rfl (zaf (.inl rfl) rfl) ?_
  refine zam (.pointer (some ⟨w.heap.size,8,none⟩)) rfl (zae rfl rfl (fldT2 _ ·)) ?_;simp only [aP,lA,lZ,lS]
  refine zam (.bool false) rfl (zap rfl rfl b0 rfl (zbg ·)) ?_
  refine zaa (.bool false) rfl (zat rfl rfl rfl) ?_;simp only [aP,lA,lZ,lS]
  refine zaa (.bool false) rfl (zaf (.inl rfl) rfl) ?_
  refine zam (.bool true) rfl (zaf (.inl rfl) rfl) ?_;simp only [aP,lA,lZ,lS]
  refine zam (.bool false) rfl (zax rfl rfl rfl) ?_
  refine zaa (.bool false) rfl (zat rfl rfl rfl) ?_;simp only [aP,lA,lZ,lS]
  refine zaa (.bool false) rfl (zaf (.inl rfl) rfl) ?_
  refine zam (.bool true) rfl (zaf (.inl rfl) rfl) ?_;simp only [aP,lA,lZ,lS]
  refine zam (.bool false) rfl (zax rfl rfl rfl) ?_
  refine zaa (.bool false) rfl (zat rfl rfl rfl) ?_;simp only [aP,lA,lZ,lS]
  exact zaj
 refine zak rfl ?_
 intro w5 hE
 replace b0:=hE.block b0
 replace b1:=hE.block b1
 replace b2:=hE.block b2
 replace hx:=hx.trans hE
 clear hE
 go_upto_region 6 with (fail)
 refine' zbn (m:=6) (A:=_) 8 (by kernel_rfl) (by kernel_rfl) (by kernel_rfl) ?h5a ?h5b
 case h5a =>
  refine zaa (.pointer (some ⟨w.heap.size + 1 + 1,4,none⟩)) rfl (zae rfl rfl (fldG1 _ ·)) ?_
  refine zaa (nv S) rfl (zac rfl rfl b2 rfl uN rfl (iN _)) ?_;simp only [aP,lA,lZ,lS]
  refine zaa (nv Pt.nn) rfl (zah (args:=[]) rfl rfl (fun W => zab Tryz.func22 rfl rfl _ W) (fun W hW => nn_is W)) ?_
  refine zaa (.tuple #[nv t,.bool true]) rfl (zah (args:=[nv S,nv Pt.nn]) rfl rfl (fun W => zab Tryz.func27 rfl rfl _ W) (fun W hW => rinvn_is (may_ne ks.out) (zgp ks.out) kt.out W)) ?_;simp only [aP,lA,lZ,lS]
  refine zaa (.tuple #[nv t,.bool true]) rfl (zaf (.inl rfl) rfl) ?_
  refine zaa (nv t) rfl (zbb rfl rfl rfl) ?_;simp only [aP,lA,lZ,lS]
  exact zaj
 refine zei (v:=.bool true) (vx:=.bool true) _ _ _ _ rfl rfl rfl rfl rfl rfl rfl rfl rfl rfl rfl rfl rfl rfl rfl rfl (by decide) (by kernel_rfl) (by kernel_rfl) (by kernel_rfl) (by kernel_rfl) (by kernel_rfl) (by kernel_rfl) (by kernel_rfl) rfl rfl rfl rfl rfl rfl (hzN ·) (zce rfl rfl rfl) (fun _ => zce rfl rfl rfl) (fun _ => rfl) (fun _ => rfl) (fun _ => rfl) (fun _ => rfl) (fun _ => rfl) (iN _) rfl (zbf _) ?_
 intro gt w6 hgt bt hE
 refine NoPanic.normal ?_
 replace b0:=hE.block b0
 replace b1:=hE.block b1
 replace b2:=hE.block b2
 replace hx:=hx.trans hE
 clear hE
 simp only [aP,lA,lZ,lS]
 clear hgt
 go_upto_region 7 with (fail)
 refine' zbn (m:=6) (A:=_) 7 (by kernel_rfl) (by kernel_rfl) (by kernel_rfl) ?h6a ?h6b
 case h6a =>
  refine zaa (dgv y) rfl (zac rfl rfl b1 rfl Tryz.underlying26 rfl (iDg _)) ?_
  refine zaa (nv M) rfl (zah (args:=[dgv y]) rfl rfl (fun W => zab Tryz.func30 rfl rfl _ W) (fun W hW => vnum_calls y ky.out rfl kM.out W)) ?_;simp only [aP,lA,lZ,lS]
  refine zaa (nv t) rfl (zac rfl rfl bt rfl uN rfl (iN _)) ?_
  refine zaa (nv u) rfl (zah (args:=[nv M,nv t]) rfl rfl (fun W => zab Tryz.func28 rfl rfl _ W) (fun W hW => zgi ku.out (mod_nn kM.out) (zez kt.out) W)) ?_;simp only [aP,lA,lZ,lS]
  refine zaa (qv Pt.gx Pt.gy false) rfl (zah (args:=[]) rfl rfl (fun W => zab Tryz.func25 rfl rfl _ W) (fun W hW => rbase_is W)) ?_
  refine zaa (qv (Pt.pX a.1) (Pt.pY a.1) (Pt.pFar a.1)) rfl (zah (args:=[nv u,qv Pt.gx Pt.gy false]) rfl rfl (fun W => zab Tryz.func24 rfl rfl _ W) (fun W hW => rmulb_is (mul_top ku.out) ka.out W)) ?_;simp only [aP,lA,lZ,lS]
  exact zaj
 refine zcb _ _ rfl rfl rfl rfl rfl rfl rfl rfl rfl (by kernel_rfl) (by kernel_rfl) (by kernel_rfl) rfl rfl (hzT ·) (fun _ => rfl) (fun _ => rfl) (iT _ _ _) rfl (zdh _ _ _) ?_
 intro ga w7 hga ba hE
 refine NoPanic.normal ?_
 replace b0:=hE.block b0
 replace b2:=hE.block b2
 replace bt:=hE.block bt
 replace hx:=hx.trans hE
 clear hE
 simp only [aP,lA,lZ,lS]
 clear hga
 go_upto_region 8 with (fail)
 refine' zbn (m:=6) (A:=_) 7 (by kernel_rfl) (by kernel_rfl) (by kernel_rfl) ?h7a ?h7b
 case h7a =>
  refine zaa (ptrTo (w.heap.size + 1 + 1)) rfl (zae rfl rfl (fldG0 _ ·)) ?_
  refine zaa (nv R) rfl (zac rfl rfl b2 rfl uN rfl (iN _)) ?_;simp only [aP,lA,lZ,lS]
  refine zaa (nv t) rfl (zac rfl rfl bt rfl uN rfl (iN _)) ?_
  refine zaa (nv v) rfl (zah (args:=[nv R,nv t]) rfl rfl (fun W => zab Tryz.func28 rfl rfl _ W) (fun W hW => zgi kv.out (zgp kr.out) (zez kt.out) W)) ?_;simp only [aP,lA,lZ,lS]
  refine zaa (qv X Y false) rfl (zac rfl rfl b0 rfl Tryz.underlying29 rfl (iT _ _ _)) ?_
  refine zaa (qv (Pt.pX b.1) (Pt.pY b.1) (Pt.pFar b.1)) rfl (zah (args:=[nv v,qv X Y false]) rfl rfl (fun W => zab Tryz.func24 rfl rfl _ W) (fun W hW => rmulp_is (mul_top kv.out) kp.out kb.out W)) ?_;simp only [aP,lA,lZ,lS]
  exact zaj
 refine zcb _ _ rfl rfl rfl rfl rfl rfl rfl rfl rfl (by kernel_rfl) (by kernel_rfl) (by kernel_rfl) rfl rfl (hzT ·) (fun _ => rfl) (fun _ => rfl) (iT _ _ _) rfl (zdh _ _ _) ?_
 intro gb w8 hgb bb hE
 refine NoPanic.normal ?_
 replace b2:=hE.block b2
 replace ba:=hE.block ba
 replace hx:=hx.trans hE
 clear hE
 simp only [aP,lA,lZ,lS]
 clear hgb
 go_upto_region 9 with (fail)
 refine' zan (m:=3) (A:=_) (by kernel_rfl) ?h8a ?h8b
 case h8a =>
  refine zaa (qv (Pt.pX a.1) (Pt.pY a.1) (Pt.pFar a.1)) rfl (zac rfl rfl ba rfl Tryz.underlying29 rfl (iT _ _ _)) ?_
  refine zaa (qv (Pt.pX b.1) (Pt.pY b.1) (Pt.pFar b.1)) rfl (zac rfl rfl bb rfl Tryz.underlying29 rfl (iT _ _ _)) ?_;simp only [aP,lA,lZ,lS]
  refine zaa (qv x z false) rfl (zah (args:=[qv (Pt.pX a.1) (Pt.pY a.1) (Pt.pFar a.1),qv (Pt.pX b.1) (Pt.pY b.1) (Pt.pFar b.1)]) rfl rfl (fun W => zab Tryz.func39 rfl rfl _ W) (fun W hW => kadd.out W)) ?_;simp only [aP,lA,lZ,lS]
  exact zaj
 refine zci _ _ rfl rfl rfl rfl rfl rfl rfl (hzT ·) (fun _ => rfl) (fun _ => rfl) (iT _ _ _) rfl (zdh _ _ _) ?_
 intro gc w9 hgc bc hE
 replace b2:=hE.block b2
 replace hx:=hx.trans hE
 clear hE
 simp only [aP,lA,lZ,lS]
 clear hgc
 go_upto_region 10 with (fail)
 refine' zcf (m:=13) (A:=_) 13 (by kernel_rfl) (by kernel_rfl) ?h9a ?h9b
 case h9a =>
  refine zaa (.pointer (some ⟨gc,8,none⟩)) rfl (zae rfl rfl (fldT2 _ ·)) ?_
  refine zaa (.bool false) rfl (zap rfl rfl bc rfl (zbg ·)) ?_;simp only [aP,lA,lZ,lS]
  refine zaa (.bool true) rfl (zax rfl rfl rfl) ?_
  refine zaa (.bool true) rfl (zaf (.inl rfl) rfl) ?_;simp only [aP,lA,lZ,lS]
  refine zam (ptrTo gc) rfl (zae rfl rfl (fldT0 _ ·)) ?_
  refine zam (nv x) rfl (zac rfl rfl bc rfl uN rfl (iN _)) ?_;simp only [aP,lA,lZ,lS]
  refine zam (nv Pt.nn) rfl (zah (args:=[]) rfl rfl (fun W => zab Tryz.func22 rfl rfl _ W) (fun W hW => nn_is W)) ?_
  refine zam (nv m) rfl (zah (args:=[nv x,nv Pt.nn]) rfl rfl (fun W => zab Tryz.func26 rfl rfl _ W) (fun W hW => rinn_is km.out.1 km.out.2 W)) ?_;simp only [aP,lA,lZ,lS]
  refine zam (ptrTo (w.heap.size + 1 + 1)) rfl (zae rfl rfl (fldG0 _ ·)) ?_
  refine zam (nv R) rfl (zac rfl rfl b2 rfl uN rfl (iN _)) ?_;simp only [aP,lA,lZ,lS]
  refine zam (.bool (decide (m = R))) rfl (made_eqn rfl rfl rfl (zec km.out.1) kR.out) ?_
  refine zaa (.bool (decide (m = R))) rfl (zat rfl rfl rfl) ?_;simp only [aP,lA,lZ,lS]
  refine zaa (.bool (decide (m = R))) rfl (zaf (.inr rfl) rfl) ?_;simp only [aP,lA,lZ,lS]
  exact zaj
 refine zbt rfl (by kernel_rfl) ?_
 intro w10 hE
 refine NoPanic.normal ?_
 replace hx:=hx.trans hE
 clear hE
 go_wp2
 go_ret
 exact ⟨rfl,hx⟩
end Go.Proofs.YtmfjigcdhijkjaaGreatDoor
