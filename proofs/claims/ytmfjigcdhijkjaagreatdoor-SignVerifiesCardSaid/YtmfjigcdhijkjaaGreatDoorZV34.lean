/-
  Of Y5 Y6.
-/
import Derived.Test.YtmfjigcdhijkjaaGreatDoorZV30
import Derived.Test.YtmfjigcdhijkjaaGreatDoorZV33
set_option maxRecDepth 1000000
set_option maxHeartbeats 20000000
namespace Go.Proofs.YtmfjigcdhijkjaaGreatDoor
open Go.RowKit
open Go.Act renaming put → aP
open List renaming setIfInBounds_toArray → lA, set_cons_zero → lZ, set_cons_succ → lS
theorem sver_far {X Y R S : Nat} (hX : X < top) (hY : Y < top) (hR : R < top) (hS : S < top) (y : Nat → Nat) (w : World) :
  Calls Tryz.prog 11 #[qv X Y true,dgv y,gv R S] w fun e w' => e = .returned (.bool false) ∧ Ext w w':=by
 have kX:=veil hX
 have kY:=veil hY
 have kR:=veil hR
 have kS:=veil hS
 clear hS hR hY hX
 unfold qv qc gv gc dgv dgc
 go_enter Tryz.func11,Tryz.ntmps11
 go_upto_region 1 with (fail)
 obtain ⟨hx,b0,b1,b2⟩:=blocks3 w (.cells #[.int .u64 (wd X 0),.int .u64 (wd X 1),.int .u64 (wd X 2),.int .u64 (wd X 3),.int .u64 (wd Y 0),.int .u64 (wd Y 1),.int .u64 (wd Y 2),.int .u64 (wd Y 3),.bool (true)] 29) (.cells (arrOf 32 fun i => .int .u8 (y i : Nat)) 26) (.cells #[.int .u64 (wd R 0),.int .u64 (wd R 1),.int .u64 (wd R 2),.int .u64 (wd R 3),.int .u64 (wd S 0),.int .u64 (wd S 1),.int .u64 (wd S 2),.int .u64 (wd S 3)] 35)
 generalize ((w.alloc (.cells #[.int .u64 (wd X 0),.int .u64 (wd X 1),.int .u64 (wd X 2),.int .u64 (wd X 3),.int .u64 (wd Y 0),.int .u64 (wd Y 1),.int .u64 (wd Y 2),.int .u64 (wd Y 3),.bool (true)] 29)).alloc (.cells (arrOf 32 fun i => .int .u8 (y i : Nat)) 26)).alloc (.cells #[.int .u64 (wd R 0),.int .u64 (wd R 1),.int .u64 (wd R 2),.int .u64 (wd R 3),.int .u64 (wd S 0),.int .u64 (wd S 1),.int .u64 (wd S 2),.int .u64 (wd S 3)] 35) = w1 at *
 have b0 : w1.heap[w.heap.size]? = some (.cells (qc X Y true) 29 (0,0)):=b0
 have b1 : w1.heap[w.heap.size + 1]? = some (.cells (dgc y) 26 (0,0)):=b1
 have b2 : w1.heap[w.heap.size + 1 + 1]? = some (.cells (gc R S) 35 (0,0)):=b2
 refine' zbm (m:=19) (A:=_) ?h1 ?h2
 case h1 =>
  refine zaa (.pointer (some ⟨w.heap.size,8,none⟩)) rfl (zae rfl rfl (fldT2 _ ·)) ?_
  refine zaa (.bool true) rfl (zap rfl rfl b0 rfl (zbg ·)) ?_;simp only [aP,lA,lZ,lS]
  refine zaa (.bool true) rfl (zaf (.inl rfl) rfl) ?_
  refine zau rfl ?_;simp only [aP,lA,lZ,lS]
  refine zau rfl ?_
  refine zau rfl ?_;simp only [aP,lA,lZ,lS]
  refine zaa (.bool true) rfl (zat rfl rfl rfl) ?_
  refine zaa (.bool true) rfl (zaf (.inl rfl) rfl) ?_;simp only [aP,lA,lZ,lS]
  refine zau rfl ?_
  refine zau rfl ?_;simp only [aP,lA,lZ,lS]
  refine zau rfl ?_
  refine zau rfl ?_;simp only [aP,lA,lZ,lS]
  refine zaa (.bool true) rfl (zat rfl rfl rfl) ?_
  refine zaa (.bool true) rfl (zaf (.inl rfl) rfl) ?_;simp only [aP,lA,lZ,lS]
  refine zau rfl ?_
  refine zau rfl ?_;simp only [aP,lA,lZ,lS]
  refine zau rfl ?_
  refine zau rfl ?_;simp only [aP,lA,lZ,lS]
  refine zaa (.bool true) rfl (zat rfl rfl rfl) ?_;simp only [aP,lA,lZ,lS]
  exact zaj
 refine zak rfl ?_
 intro w2 hE
 replace hx:=hx.trans hE
 clear hE
 go_upto_region 2 with (fail)
 go_wp2
 go_ret
 exact ⟨rfl,hx⟩
theorem sver_off {X Y R S : Nat} (hX : X < top) (hY : Y < top) (hR : R < top) (hS : S < top) (hon : onB X Y false = false) (y : Nat → Nat) (w : World) :
  Calls Tryz.prog 11 #[qv X Y false,dgv y,gv R S] w fun e w' => e = .returned (.bool false) ∧ Ext w w':=by
 have kX:=veil hX
 have kY:=veil hY
 have kR:=veil hR
 have kS:=veil hS
 have kon:=veil hon
 clear hon hS hR hY hX
 unfold qv qc gv gc dgv dgc
 go_enter Tryz.func11,Tryz.ntmps11
 go_upto_region 1 with (fail)
 obtain ⟨hx,b0,b1,b2⟩:=blocks3 w (.cells #[.int .u64 (wd X 0),.int .u64 (wd X 1),.int .u64 (wd X 2),.int .u64 (wd X 3),.int .u64 (wd Y 0),.int .u64 (wd Y 1),.int .u64 (wd Y 2),.int .u64 (wd Y 3),.bool (false)] 29) (.cells (arrOf 32 fun i => .int .u8 (y i : Nat)) 26) (.cells #[.int .u64 (wd R 0),.int .u64 (wd R 1),.int .u64 (wd R 2),.int .u64 (wd R 3),.int .u64 (wd S 0),.int .u64 (wd S 1),.int .u64 (wd S 2),.int .u64 (wd S 3)] 35)
 generalize ((w.alloc (.cells #[.int .u64 (wd X 0),.int .u64 (wd X 1),.int .u64 (wd X 2),.int .u64 (wd X 3),.int .u64 (wd Y 0),.int .u64 (wd Y 1),.int .u64 (wd Y 2),.int .u64 (wd Y 3),.bool (false)] 29)).alloc (.cells (arrOf 32 fun i => .int .u8 (y i : Nat)) 26)).alloc (.cells #[.int .u64 (wd R 0),.int .u64 (wd R 1),.int .u64 (wd R 2),.int .u64 (wd R 3),.int .u64 (wd S 0),.int .u64 (wd S 1),.int .u64 (wd S 2),.int .u64 (wd S 3)] 35) = w1 at *
 have b0 : w1.heap[w.heap.size]? = some (.cells (qc X Y false) 29 (0,0)):=b0
 have b1 : w1.heap[w.heap.size + 1]? = some (.cells (dgc y) 26 (0,0)):=b1
 have b2 : w1.heap[w.heap.size + 1 + 1]? = some (.cells (gc R S) 35 (0,0)):=b2
 refine' zbm (m:=19) (A:=_) ?h1 ?h2
 case h1 =>
  refine zaa (.pointer (some ⟨w.heap.size,8,none⟩)) rfl (zae rfl rfl (fldT2 _ ·)) ?_
  refine zaa (.bool false) rfl (zap rfl rfl b0 rfl (zbg ·)) ?_;simp only [aP,lA,lZ,lS]
  refine zaa (.bool false) rfl (zaf (.inl rfl) rfl) ?_
  refine zam (qv X Y false) rfl (zac rfl rfl b0 rfl Tryz.underlying29 rfl (iT _ _ _)) ?_;simp only [aP,lA,lZ,lS]
  refine zam (.bool false) rfl (zah (args:=[qv X Y false]) rfl rfl (fun W => zab Tryz.func31 rfl rfl _ W) (fun W hW => onp_is kon.out kX.out kY.out W)) ?_
  refine zam (.bool true) rfl (zax rfl rfl rfl) ?_;simp only [aP,lA,lZ,lS]
  refine zaa (.bool true) rfl (zat rfl rfl rfl) ?_
  refine zaa (.bool true) rfl (zaf (.inl rfl) rfl) ?_;simp only [aP,lA,lZ,lS]
  refine zau rfl ?_
  refine zau rfl ?_;simp only [aP,lA,lZ,lS]
  refine zau rfl ?_
  refine zau rfl ?_;simp only [aP,lA,lZ,lS]
  refine zaa (.bool true) rfl (zat rfl rfl rfl) ?_
  refine zaa (.bool true) rfl (zaf (.inl rfl) rfl) ?_;simp only [aP,lA,lZ,lS]
  refine zau rfl ?_
  refine zau rfl ?_;simp only [aP,lA,lZ,lS]
  refine zau rfl ?_
  refine zau rfl ?_;simp only [aP,lA,lZ,lS]
  refine zaa (.bool true) rfl (zat rfl rfl rfl) ?_;simp only [aP,lA,lZ,lS]
  exact zaj
 refine zak rfl ?_
 intro w2 hE
 replace hx:=hx.trans hE
 clear hE
 go_upto_region 2 with (fail)
 go_wp2
 go_ret
 exact ⟨rfl,hx⟩
theorem sver_r {X Y R S : Nat} (hX : X < top) (hY : Y < top) (hR : R < top) (hS : S < top) (hon : onB X Y false = true) (hr : mayB R = false) (y : Nat → Nat) (w : World) :
  Calls Tryz.prog 11 #[qv X Y false,dgv y,gv R S] w fun e w' => e = .returned (.bool false) ∧ Ext w w':=by
 have kX:=veil hX
 have kY:=veil hY
 have kR:=veil hR
 have kS:=veil hS
 have kon:=veil hon
 have kr:=veil hr
 clear hr hon hS hR hY hX
 unfold qv qc gv gc dgv dgc
 go_enter Tryz.func11,Tryz.ntmps11
 go_upto_region 1 with (fail)
 obtain ⟨hx,b0,b1,b2⟩:=blocks3 w (.cells #[.int .u64 (wd X 0),.int .u64 (wd X 1),.int .u64 (wd X 2),.int .u64 (wd X 3),.int .u64 (wd Y 0),.int .u64 (wd Y 1),.int .u64 (wd Y 2),.int .u64 (wd Y 3),.bool (false)] 29) (.cells (arrOf 32 fun i => .int .u8 (y i : Nat)) 26) (.cells #[.int .u64 (wd R 0),.int .u64 (wd R 1),.int .u64 (wd R 2),.int .u64 (wd R 3),.int .u64 (wd S 0),.int .u64 (wd S 1),.int .u64 (wd S 2),.int .u64 (wd S 3)] 35)
 generalize ((w.alloc (.cells #[.int .u64 (wd X 0),.int .u64 (wd X 1),.int .u64 (wd X 2),.int .u64 (wd X 3),.int .u64 (wd Y 0),.int .u64 (wd Y 1),.int .u64 (wd Y 2),.int .u64 (wd Y 3),.bool (false)] 29)).alloc (.cells (arrOf 32 fun i => .int .u8 (y i : Nat)) 26)).alloc (.cells #[.int .u64 (wd R 0),.int .u64 (wd R 1),.int .u64 (wd R 2),.int .u64 (wd R 3),.int .u64 (wd S 0),.int .u64 (wd S 1),.int .u64 (wd S 2),.int .u64 (wd S 3)] 35) = w1 at *
 have b0 : w1.heap[w.heap.size]? = some (.cells (qc X Y false) 29 (0,0)):=b0
 have b1 : w1.heap[w.heap.size + 1]? = some (.cells (dgc y) 26 (0,0)):=b1
 have b2 : w1.heap[w.heap.size + 1 + 1]? = some (.cells (gc R S) 35 (0,0)):=b2
 refine' zbm (m:=19) (A:=_) ?h1 ?h2
 case h1 =>
  refine zaa (.pointer (some ⟨w.heap.size,8,none⟩)) rfl (zae rfl rfl (fldT2 _ ·)) ?_
  refine zaa (.bool false) rfl (zap rfl rfl b0 rfl (zbg ·)) ?_;simp only [aP,lA,lZ,lS]
  refine zaa (.bool false) rfl (zaf (.inl rfl) rfl) ?_
  refine zam (qv X Y false) rfl (zac rfl rfl b0 rfl Tryz.underlying29 rfl (iT _ _ _)) ?_;simp only [aP,lA,lZ,lS]
  refine zam (.bool true) rfl (zah (args:=[qv X Y false]) rfl rfl (fun W => zab Tryz.func31 rfl rfl _ W) (fun W hW => onp_is kon.out kX.out kY.out W)) ?_
  refine zam (.bool false) rfl (zax rfl rfl rfl) ?_;simp only [aP,lA,lZ,lS]
  refine zaa (.bool false) rfl (zat rfl rfl rfl) ?_
  refine zaa (.bool false) rfl (zaf (.inl rfl) rfl) ?_;simp only [aP,lA,lZ,lS]
  refine zam (ptrTo (w.heap.size + 1 + 1)) rfl (zae rfl rfl (fldG0 _ ·)) ?_
  refine zam (nv R) rfl (zac rfl rfl b2 rfl uN rfl (iN _)) ?_;simp only [aP,lA,lZ,lS]
  refine zam (.bool false) rfl (zah (args:=[nv R]) rfl rfl (fun W => zab Tryz.func15 rfl rfl _ W) (fun W hW => zgv kr.out kR.out W)) ?_
  refine zam (.bool true) rfl (zax rfl rfl rfl) ?_;simp only [aP,lA,lZ,lS]
  refine zaa (.bool true) rfl (zat rfl rfl rfl) ?_
  refine zaa (.bool true) rfl (zaf (.inl rfl) rfl) ?_;simp only [aP,lA,lZ,lS]
  refine zau rfl ?_
  refine zau rfl ?_;simp only [aP,lA,lZ,lS]
  refine zau rfl ?_
  refine zau rfl ?_;simp only [aP,lA,lZ,lS]
  refine zaa (.bool true) rfl (zat rfl rfl rfl) ?_;simp only [aP,lA,lZ,lS]
  exact zaj
 refine zak rfl ?_
 intro w2 hE
 replace hx:=hx.trans hE
 clear hE
 go_upto_region 2 with (fail)
 go_wp2
 go_ret
 exact ⟨rfl,hx⟩
theorem sver_s {X Y R S : Nat} (hX : X < top) (hY : Y < top) (hR : R < top) (hS : S < top) (hon : onB X Y false = true) (hr : mayB R = true) (hs : mayB S = false) (y : Nat → Nat) (w : World) :
  Calls Tryz.prog 11 #[qv X Y false,dgv y,gv R S] w fun e w' => e = .returned (.bool false) ∧ Ext w w':=by
 have kX:=veil hX
 have kY:=veil hY
 have kR:=veil hR
 have kS:=veil hS
 have kon:=veil hon
 have kr:=veil hr
 have ks:=veil hs
 clear hs hr hon hS hR hY hX
 unfold qv qc gv gc dgv dgc
 go_enter Tryz.func11,Tryz.ntmps11
 go_upto_region 1 with (fail)
 obtain ⟨hx,b0,b1,b2⟩:=blocks3 w (.cells #[.int .u64 (wd X 0),.int .u64 (wd X 1),.int .u64 (wd X 2),.int .u64 (wd X 3),.int .u64 (wd Y 0),.int .u64 (wd Y 1),.int .u64 (wd Y 2),.int .u64 (wd Y 3),.bool (false)] 29) (.cells (arrOf 32 fun i => .int .u8 (y i : Nat)) 26) (.cells #[.int .u64 (wd R 0),.int .u64 (wd R 1),.int .u64 (wd R 2),.int .u64 (wd R 3),.int .u64 (wd S 0),.int .u64 (wd S 1),.int .u64 (wd S 2),.int .u64 (wd S 3)] 35)
 generalize ((w.alloc (.cells #[.int .u64 (wd X 0),.int .u64 (wd X 1),.int .u64 (wd X 2),.int .u64 (wd X 3),.int .u64 (wd Y 0),.int .u64 (wd Y 1),.int .u64 (wd Y 2),.int .u64 (wd Y 3),.bool (false)] 29)).alloc (.cells (arrOf 32 fun i => .int .u8 (y i : Nat)) 26)).alloc (.cells #[.int .u64 (wd R 0),.int .u64 (wd R 1),.int .u64 (wd R 2),.int .u64 (wd R 3),.int .u64 (wd S 0),.int .u64 (wd S 1),.int .u64 (wd S 2),.int .u64 (wd S 3)] 35) = w1 at *
 have b0 : w1.heap[w.heap.size]? = some (.cells (qc X Y false) 29 (0,0)):=b0
 have b1 : w1.heap[w.heap.size + 1]? = some (.cells (dgc y) 26 (0,0)):=b1
 have b2 : w1.heap[w.heap.size + 1 + 1]? = some (.cells (gc R S) 35 (0,0)):=b2
 refine' zbm (m:=19) (A:=_) ?h1 ?h2
 case h1 =>
  refine zaa (.pointer (some ⟨w.heap.size,8,none⟩)) rfl (zae rfl rfl (fldT2 _ ·)) ?_
  refine zaa (.bool false) rfl (zap rfl rfl b0 rfl (zbg ·)) ?_;simp only [aP,lA,lZ,lS]
  refine zaa (.bool false) rfl (zaf (.inl rfl) rfl) ?_
  refine zam (qv X Y false) rfl (zac rfl rfl b0 rfl Tryz.underlying29 rfl (iT _ _ _)) ?_;simp only [aP,lA,lZ,lS]
  refine zam (.bool true) rfl (zah (args:=[qv X Y false]) rfl rfl (fun W => zab Tryz.func31 rfl rfl _ W) (fun W hW => onp_is kon.out kX.out kY.out W)) ?_
  refine zam (.bool false) rfl (zax rfl rfl rfl) ?_;simp only [aP,lA,lZ,lS]
  refine zaa (.bool false) rfl (zat rfl rfl rfl) ?_
  refine zaa (.bool false) rfl (zaf (.inl rfl) rfl) ?_;simp only [aP,lA,lZ,lS]
  refine zam (ptrTo (w.heap.size + 1 + 1)) rfl (zae rfl rfl (fldG0 _ ·)) ?_
  refine zam (nv R) rfl (zac rfl rfl b2 rfl uN rfl (iN _)) ?_;simp only [aP,lA,lZ,lS]
  refine zam (.bool true) rfl (zah (args:=[nv R]) rfl rfl (fun W => zab Tryz.func15 rfl rfl _ W) (fun W hW => zgv kr.out kR.out W)) ?_
  refine zam (.bool false) rfl (zax rfl rfl rfl) ?_;simp only [aP,lA,lZ,lS]
  refine zaa (.bool false) rfl (zat rfl rfl rfl) ?_
  refine zaa (.bool false) rfl (zaf (.inl rfl) rfl) ?_;simp only [aP,lA,lZ,lS]
  refine zam (.pointer (some ⟨w.heap.size + 1 + 1,4,none⟩)) rfl (zae rfl rfl (fldG1 _ ·)) ?_
  refine zam (nv S) rfl (zac rfl rfl b2 rfl uN rfl (iN _)) ?_;simp only [aP,lA,lZ,lS]
  refine zam (.bool false) rfl (zah (args:=[nv S]) rfl rfl (fun W => zab Tryz.func15 rfl rfl _ W) (fun W hW => zgv ks.out kS.out W)) ?_
  refine zam (.bool true) rfl (zax rfl rfl rfl) ?_;simp only [aP,lA,lZ,lS]
  refine zaa (.bool true) rfl (zat rfl rfl rfl) ?_;simp only [aP,lA,lZ,lS]
  exact zaj
 refine zak rfl ?_
 intro w2 hE
 replace hx:=hx.trans hE
 clear hE
 go_upto_region 2 with (fail)
 go_wp2
 go_ret
 exact ⟨rfl,hx⟩
theorem sver_all_t (y : Nat → Nat) {p a b c : Pt.Q} {X Y R S t E u v m : Nat} (hX : X < top) (hY : Y < top) (hR : R < top) (hS : S < top) (hon : onB X Y false = true) (hr : mayB R = true) (hs : mayB S = true) (hp : X = Pt.pX p.1 ∧ Y = Pt.pY p.1 ∧ false = Pt.pFar p.1) (hy : ∀ j,y j < 256) (hE : E = num32 y) (ht : t = Pt.iG Pt.nn S) (hu : u = E * t % Pt.nn) (hv : v = R * t % Pt.nn) (ha : a = Pt.grp.mul u Pt.base) (hb : b = Pt.grp.mul v p) (hc : c = Pt.grp.op a b) (hfar : Pt.pFar c.1 = true) (hm : m = Pt.pX c.1 % Pt.nn) (w : World) :
  Calls Tryz.prog 11 #[qv X Y false,dgv y,gv R S] w fun e w' => e = .returned (.bool (false)) ∧ Ext w w':=by
 obtain ⟨x,hx0⟩ : ∃ x,x = Pt.pX c.1:=⟨_,rfl⟩
 obtain ⟨z,hz0⟩ : ∃ z,z = Pt.pY c.1:=⟨_,rfl⟩
 have kEt:=veil (show E < top from by rw [hE]; exact zga hy)
 have ksum:=fun W => sumof_calls (w:=W) (mul_top hu) (mul_top hv) hp ha hb hc
 rw [← hx0,← hz0,hfar] at ksum
 have KS:=veil ksum
 have km:=veil (show m = x % Pt.nn ∧ x < top from ⟨by rw [hx0]; exact hm,by rw [hx0]; exact (p_top _).1⟩)
 have kX:=veil hX
 have kY:=veil hY
 have kR:=veil hR
 have kS:=veil hS
 have kon:=veil hon
 have kr:=veil hr
 have ks:=veil hs
 have ky:=veil hy
 have kE:=veil hE
 have kt:=veil ht
 have ku:=veil hu
 have kv:=veil hv
 clear hv hu ht hE hy hs hr hon hS hR hY hX
 clear ksum hp ha hb hc hfar hm hx0 hz0
 unfold qv qc gv gc dgv dgc
 go_enter Tryz.func11,Tryz.ntmps11
 go_upto_region 1 with (fail)
 obtain ⟨hx,b0,b1,b2⟩:=blocks3 w (.cells #[.int .u64 (wd X 0),.int .u64 (wd X 1),.int .u64 (wd X 2),.int .u64 (wd X 3),.int .u64 (wd Y 0),.int .u64 (wd Y 1),.int .u64 (wd Y 2),.int .u64 (wd Y 3),.bool (false)] 29) (.cells (arrOf 32 fun i => .int .u8 (y i : Nat)) 26) (.cells #[.int .u64 (wd R 0),.int .u64 (wd R 1),.int .u64 (wd R 2),.int .u64 (wd R 3),.int .u64 (wd S 0),.int .u64 (wd S 1),.int .u64 (wd S 2),.int .u64 (wd S 3)] 35)
 generalize ((w.alloc (.cells #[.int .u64 (wd X 0),.int .u64 (wd X 1),.int .u64 (wd X 2),.int .u64 (wd X 3),.int .u64 (wd Y 0),.int .u64 (wd Y 1),.int .u64 (wd Y 2),.int .u64 (wd Y 3),.bool (false)] 29)).alloc (.cells (arrOf 32 fun i => .int .u8 (y i : Nat)) 26)).alloc (.cells #[.int .u64 (wd R 0),.int .u64 (wd R 1),.int .u64 (wd R 2),.int .u64 (wd R 3),.int .u64 (wd S 0),.int .u64 (wd S 1),.int .u64 (wd S 2),.int .u64 (wd S 3)] 35) = w1 at *
 have b0 : w1.heap[w.heap.size]? = some (.cells (qc X Y false) 29 (0,0)):=b0
 have b1 : w1.heap[w.heap.size + 1]? = some (.cells (dgc y) 26 (0,0)):=b1
 have b2 : w1.heap[w.heap.size + 1 + 1]? = some (.cells (gc R S) 35 (0,0)):=b2
 refine' zbm (m:=19) (A:=_) ?h1 ?h2
 case h1 =>
  refine zaa (.pointer (some ⟨w.heap.size,8,none⟩)) rfl (zae rfl rfl (fldT2 _ ·)) ?_
  refine zaa (.bool false) rfl (zap rfl rfl b0 rfl (zbg ·)) ?_;simp only [aP,lA,lZ,lS]
  refine zaa (.bool false) rfl (zaf (.inl rfl) rfl) ?_
  refine zam (qv X Y false) rfl (zac rfl rfl b0 rfl Tryz.underlying29 rfl (iT _ _ _)) ?_;simp only [aP,lA,lZ,lS]
  refine zam (.bool true) rfl (zah (args:=[qv X Y false]) rfl rfl (fun W => zab Tryz.func31 rfl rfl _ W) (fun W hW => onp_is kon.out kX.out kY.out W)) ?_
  refine zam (.bool false) rfl (zax rfl rfl rfl) ?_;simp only [aP,lA,lZ,lS]
  refine zaa (.bool false) rfl (zat rfl rfl rfl) ?_
  refine zaa (.bool false) rfl (zaf (.inl rfl) rfl) ?_;simp only [aP,lA,lZ,lS]
  refine zam (ptrTo (w.heap.size + 1 + 1)) rfl (zae rfl rfl (fldG0 _ ·)) ?_
  refine zam (nv R) rfl (zac rfl rfl b2 rfl uN rfl (iN _)) ?_;simp only [aP,lA,lZ,lS]
  refine zam (.bool true) rfl (zah (args:=[nv R]) rfl rfl (fun W => zab Tryz.func15 rfl rfl _ W) (fun W hW => zgv kr.out kR.out W)) ?_
  refine zam (.bool false) rfl (zax rfl rfl rfl) ?_;simp only [aP,lA,lZ,lS]
  refine zaa (.bool false) rfl (zat rfl rfl rfl) ?_
  refine zaa (.bool false) rfl (zaf (.inl rfl) rfl) ?_;simp only [aP,lA,lZ,lS]
  refine zam (.pointer (some ⟨w.heap.size + 1 + 1,4,none⟩)) rfl (zae rfl rfl (fldG1 _ ·)) ?_
  refine zam (nv S) rfl (zac rfl rfl b2 rfl uN rfl (iN _)) ?_;simp only [aP,lA,lZ,lS]
  refine zam (.bool true) rfl (zah (args:=[nv S]) rfl rfl (fun W => zab Tryz.func15 rfl rfl _ W) (fun W hW => zgv ks.out kS.out W)) ?_
  refine zam (.bool false) rfl (zax rfl rfl rfl) ?_;simp only [aP,lA,lZ,lS]
  refine zaa (.bool false) rfl (zat rfl rfl rfl) ?_;simp only [aP,lA,lZ,lS]
  exact zaj
 refine zak rfl ?_
 intro w2 hE
 replace b0:=hE.block b0
 replace b1:=hE.block b1
 replace b2:=hE.block b2
 replace hx:=hx.trans hE
 clear hE
 go_upto_region 3 with (fail)
 refine wp_region_lit ?_
 refine zgg (R:=fun t W' => ∃ b,t = ptrTo b ∧ Fn W' b ∧ Ext w2 W') (args:=[]) rfl rfl rfl (fun W => zab Tryz.func32 rfl rfl _ W) ((zgn w2).mono fun e W' ⟨⟨b,he,_,hF⟩,hE⟩ => ⟨_,he,b,rfl,hF,hE⟩) ?_
 rintro t0 w3 ⟨gf,rfl,hf,hE⟩
 replace b0:=hE.block b0
 replace b1:=hE.block b1
 replace b2:=hE.block b2
 replace hx:=hx.trans hE
 clear hE
 simp only [aP,lA,lZ,lS]
 go_upto_region 4 with (fail)
 refine' zan (m:=7) (A:=_) (by kernel_rfl) ?h2a ?h2b
 case h2a =>
  refine zaa (ptrTo gf) rfl (zaf (.inl rfl) rfl) ?_
  refine zaa (.pointer (some ⟨w.heap.size + 1 + 1,4,none⟩)) rfl (zae rfl rfl (fldG1 _ ·)) ?_;simp only [aP,lA,lZ,lS]
  refine zaa (nv S) rfl (zac rfl rfl b2 rfl uN rfl (iN _)) ?_
  refine zaa (.tuple #[nv t,.nilIface]) rfl (zah (args:=[ptrTo gf,nv S]) rfl rfl (fun W => zab Tryz.func33 rfl rfl _ W) (fun W hW => ninv_p (may_ne ks.out) (zgp ks.out) kt.out (hf.ext hW))) ?_;simp only [aP,lA,lZ,lS]
  refine zaa (.tuple #[nv t,.nilIface]) rfl (zaf (.inl rfl) rfl) ?_
  refine zaa (nv t) rfl (zbb rfl rfl rfl) ?_;simp only [aP,lA,lZ,lS]
  refine zaa (.nilIface) rfl (zbb rfl rfl rfl) ?_;simp only [aP,lA,lZ,lS]
  exact zaj
 refine zcw _ _ rfl rfl rfl rfl rfl rfl rfl (hzN ·) (fun _ => rfl) (fun _ => rfl) (iN _) rfl (zbf _) ?_
 intro gt w4 hgt bt hE
 replace b0:=hE.block b0
 replace b1:=hE.block b1
 replace b2:=hE.block b2
 replace hf:=hf.ext hE
 replace hx:=hx.trans hE
 clear hE
 simp only [aP,lA,lZ,lS]
 clear hgt
 go_upto_region 5 with (fail)
 refine' zbn (m:=12) (A:=_) 13 (by kernel_rfl) (by kernel_rfl) (by kernel_rfl) ?h3a ?h3b
 case h3a =>
  refine zaa (ptrTo gf) rfl (zaf (.inl rfl) rfl) ?_
  refine zaa (dgv y) rfl (zac rfl rfl b1 rfl Tryz.underlying26 rfl (iDg _)) ?_;simp only [aP,lA,lZ,lS]
  refine zaa (nv E) rfl (zah (args:=[dgv y]) rfl rfl (fun W => zab Tryz.func36 rfl rfl _ W) (fun W hW => zgz ky.out kE.out W)) ?_
  refine zaa (nv t) rfl (zac rfl rfl bt rfl uN rfl (iN _)) ?_;simp only [aP,lA,lZ,lS]
  refine zaa (nv u) rfl (zah (args:=[ptrTo gf,nv E,nv t]) rfl rfl (fun W => zab Tryz.func35 rfl rfl _ W) (fun W hW => nmul_p ku.out kEt.out (zez kt.out) (hf.ext hW))) ?_
  refine zaa (ptrTo gf) rfl (zaf (.inl rfl) rfl) ?_;simp only [aP,lA,lZ,lS]
  refine zaa (ptrTo (w.heap.size + 1 + 1)) rfl (zae rfl rfl (fldG0 _ ·)) ?_
  refine zaa (nv R) rfl (zac rfl rfl b2 rfl uN rfl (iN _)) ?_;simp only [aP,lA,lZ,lS]
  refine zaa (nv t) rfl (zac rfl rfl bt rfl uN rfl (iN _)) ?_
  refine zaa (nv v) rfl (zah (args:=[ptrTo gf,nv R,nv t]) rfl rfl (fun W => zab Tryz.func35 rfl rfl _ W) (fun W hW => nmul_p kv.out kR.out (zez kt.out) (hf.ext hW))) ?_;simp only [aP,lA,lZ,lS]
  refine zaa (qv X Y false) rfl (zac rfl rfl b0 rfl Tryz.underlying29 rfl (iT _ _ _)) ?_
  refine zaa (qv x z true) rfl (zah (args:=[nv u,nv v,qv X Y false]) rfl rfl (fun W => zab Tryz.func34 rfl rfl _ W) (fun W hW => KS.out W)) ?_;simp only [aP,lA,lZ,lS]
  exact zaj
 refine zcb _ _ rfl rfl rfl rfl rfl rfl rfl rfl rfl (by kernel_rfl) (by kernel_rfl) (by kernel_rfl) rfl rfl (hzT ·) (fun _ => rfl) (fun _ => rfl) (iT _ _ _) rfl (zdh _ _ _) ?_
 intro gc w5 hgc bc hE
 refine NoPanic.normal ?_
 replace hf:=hf.ext hE
 replace hx:=hx.trans hE
 clear hE
 simp only [aP,lA,lZ,lS]
 clear hgc
 go_upto_region 6 with (fail)
 refine' zcf (m:=13) (A:=_) 13 (by kernel_rfl) (by kernel_rfl) ?h4a ?h4b
 case h4a =>
  refine zaa (.pointer (some ⟨gc,8,none⟩)) rfl (zae rfl rfl (fldT2 _ ·)) ?_
  refine zaa (.bool true) rfl (zap rfl rfl bc rfl (zbg ·)) ?_;simp only [aP,lA,lZ,lS]
  refine zaa (.bool false) rfl (zax rfl rfl rfl) ?_
  refine zaa (.bool false) rfl (zaf (.inl rfl) rfl) ?_;simp only [aP,lA,lZ,lS]
  refine zau rfl ?_
  refine zau rfl ?_;simp only [aP,lA,lZ,lS]
  refine zau rfl ?_
  refine zau rfl ?_;simp only [aP,lA,lZ,lS]
  refine zau rfl ?_
  refine zau rfl ?_;simp only [aP,lA,lZ,lS]
  refine zau rfl ?_
  refine zaa (.bool false) rfl (zat rfl rfl rfl) ?_;simp only [aP,lA,lZ,lS]
  refine zaa (.bool false) rfl (zaf (.inr rfl) rfl) ?_;simp only [aP,lA,lZ,lS]
  exact zaj
 refine zbt rfl (by kernel_rfl) ?_
 intro w6 hE
 refine NoPanic.normal ?_
 replace hf:=hf.ext hE
 replace hx:=hx.trans hE
 clear hE
 go_wp2
 go_ret
 exact ⟨rfl,hx⟩
theorem sver_all_f (y : Nat → Nat) {p a b c : Pt.Q} {X Y R S t E u v m : Nat} (hX : X < top) (hY : Y < top) (hR : R < top) (hS : S < top) (hon : onB X Y false = true) (hr : mayB R = true) (hs : mayB S = true) (hp : X = Pt.pX p.1 ∧ Y = Pt.pY p.1 ∧ false = Pt.pFar p.1) (hy : ∀ j,y j < 256) (hE : E = num32 y) (ht : t = Pt.iG Pt.nn S) (hu : u = E * t % Pt.nn) (hv : v = R * t % Pt.nn) (ha : a = Pt.grp.mul u Pt.base) (hb : b = Pt.grp.mul v p) (hc : c = Pt.grp.op a b) (hfar : Pt.pFar c.1 = false) (hm : m = Pt.pX c.1 % Pt.nn) (w : World) :
  Calls Tryz.prog 11 #[qv X Y false,dgv y,gv R S] w fun e w' => e = .returned (.bool (decide (m = R))) ∧ Ext w w':=by
 obtain ⟨x,hx0⟩ : ∃ x,x = Pt.pX c.1:=⟨_,rfl⟩
 obtain ⟨z,hz0⟩ : ∃ z,z = Pt.pY c.1:=⟨_,rfl⟩
 have kEt:=veil (show E < top from by rw [hE]; exact zga hy)
 have ksum:=fun W => sumof_calls (w:=W) (mul_top hu) (mul_top hv) hp ha hb hc
 rw [← hx0,← hz0,hfar] at ksum
 have KS:=veil ksum
 have km:=veil (show m = x % Pt.nn ∧ x < top from ⟨by rw [hx0]; exact hm,by rw [hx0]; exact (p_top _).1⟩)
 have kX:=veil hX
 have kY:=veil hY
 have kR:=veil hR
 have kS:=veil hS
 have kon:=veil hon
 have kr:=veil hr
 have ks:=veil hs
 have ky:=veil hy
 have kE:=veil hE
 have kt:=veil ht
 have ku:=veil hu
 have kv:=veil hv
 clear hv hu ht hE hy hs hr hon hS hR hY hX
 clear ksum hp ha hb hc hfar hm hx0 hz0
 unfold qv qc gv gc dgv dgc
 go_enter Tryz.func11,Tryz.ntmps11
 go_upto_region 1 with (fail)
 obtain ⟨hx,b0,b1,b2⟩:=blocks3 w (.cells #[.int .u64 (wd X 0),.int .u64 (wd X 1),.int .u64 (wd X 2),.int .u64 (wd X 3),.int .u64 (wd Y 0),.int .u64 (wd Y 1),.int .u64 (wd Y 2),.int .u64 (wd Y 3),.bool (false)] 29) (.cells (arrOf 32 fun i => .int .u8 (y i : Nat)) 26) (.cells #[.int .u64 (wd R 0),.int .u64 (wd R 1),.int .u64 (wd R 2),.int .u64 (wd R 3),.int .u64 (wd S 0),.int .u64 (wd S 1),.int .u64 (wd S 2),.int .u64 (wd S 3)] 35)
 generalize ((w.alloc (.cells #[.int .u64 (wd X 0),.int .u64 (wd X 1),.int .u64 (wd X 2),.int .u64 (wd X 3),.int .u64 (wd Y 0),.int .u64 (wd Y 1),.int .u64 (wd Y 2),.int .u64 (wd Y 3),.bool (false)] 29)).alloc (.cells (arrOf 32 fun i => .int .u8 (y i : Nat)) 26)).alloc (.cells #[.int .u64 (wd R 0),.int .u64 (wd R 1),.int .u64 (wd R 2),.int .u64 (wd R 3),.int .u64 (wd S 0),.int .u64 (wd S 1),.int .u64 (wd S 2),.int .u64 (wd S 3)] 35) = w1 at *
 have b0 : w1.heap[w.heap.size]? = some (.cells (qc X Y false) 29 (0,0)):=b0
 have b1 : w1.heap[w.heap.size + 1]? = some (.cells (dgc y) 26 (0,0)):=b1
 have b2 : w1.heap[w.heap.size + 1 + 1]? = some (.cells (gc R S) 35 (0,0)):=b2
 refine' zbm (m:=19) (A:=_) ?h1 ?h2
 case h1 =>
  refine zaa (.pointer (some ⟨w.heap.size,8,none⟩)) rfl (zae rfl rfl (fldT2 _ ·)) ?_
  refine zaa (.bool false) rfl (zap rfl rfl b0 rfl (zbg ·)) ?_;simp only [aP,lA,lZ,lS]
  refine zaa (.bool false) rfl (zaf (.inl rfl) rfl) ?_
  refine zam (qv X Y false) rfl (zac rfl rfl b0 rfl Tryz.underlying29 rfl (iT _ _ _)) ?_;simp only [aP,lA,lZ,lS]
  refine zam (.bool true) rfl (zah (args:=[qv X Y false]) rfl rfl (fun W => zab Tryz.func31 rfl rfl _ W) (fun W hW => onp_is kon.out kX.out kY.out W)) ?_
  refine zam (.bool false) rfl (zax rfl rfl rfl) ?_;simp only [aP,lA,lZ,lS]
  refine zaa (.bool false) rfl (zat rfl rfl rfl) ?_
  refine zaa (.bool false) rfl (zaf (.inl rfl) rfl) ?_;simp only [aP,lA,lZ,lS]
  refine zam (ptrTo (w.heap.size + 1 + 1)) rfl (zae rfl rfl (fldG0 _ ·)) ?_
  refine zam (nv R) rfl (zac rfl rfl b2 rfl uN rfl (iN _)) ?_;simp only [aP,lA,lZ,lS]
  refine zam (.bool true) rfl (zah (args:=[nv R]) rfl rfl (fun W => zab Tryz.func15 rfl rfl _ W) (fun W hW => zgv kr.out kR.out W)) ?_
  refine zam (.bool false) rfl (zax rfl rfl rfl) ?_;simp only [aP,lA,lZ,lS]
  refine zaa (.bool false) rfl (zat rfl rfl rfl) ?_
  refine zaa (.bool false) rfl (zaf (.inl rfl) rfl) ?_;simp only [aP,lA,lZ,lS]
  refine zam (.pointer (some ⟨w.heap.size + 1 + 1,4,none⟩)) rfl (zae rfl rfl (fldG1 _ ·)) ?_
  refine zam (nv S) rfl (zac rfl rfl b2 rfl uN rfl (iN _)) ?_;simp only [aP,lA,lZ,lS]
  refine zam (.bool true) rfl (zah (args:=[nv S]) rfl rfl (fun W => zab Tryz.func15 rfl rfl _ W) (fun W hW => zgv ks.out kS.out W)) ?_
  refine zam (.bool false) rfl (zax rfl rfl rfl) ?_;simp only [aP,lA,lZ,lS]
  refine zaa (.bool false) rfl (zat rfl rfl rfl) ?_;simp only [aP,lA,lZ,lS]
  exact zaj
 refine zak rfl ?_
 intro w2 hE
 replace b0:=hE.block b0
 replace b1:=hE.block b1
 replace b2:=hE.block b2
 replace hx:=hx.trans hE
 clear hE
 go_upto_region 3 with (fail)
 refine wp_region_lit ?_
 refine zgg (R:=fun t W' => ∃ b,t = ptrTo b ∧ Fn W' b ∧ Ext w2 W') (args:=[]) rfl rfl rfl (fun W => zab Tryz.func32 rfl rfl _ W) ((zgn w2).mono fun e W' ⟨⟨b,he,_,hF⟩,hE⟩ => ⟨_,he,b,rfl,hF,hE⟩) ?_
 rintro t0 w3 ⟨gf,rfl,hf,hE⟩
 replace b0:=hE.block b0
 replace b1:=hE.block b1
 replace b2:=hE.block b2
 replace hx:=hx.trans hE
 clear hE
 simp only [aP,lA,lZ,lS]
 go_upto_region 4 with (fail)
 refine' zan (m:=7) (A:=_) (by kernel_rfl) ?h2a ?h2b
 case h2a =>
  refine zaa (ptrTo gf) rfl (zaf (.inl rfl) rfl) ?_
  refine zaa (.pointer (some ⟨w.heap.size + 1 + 1,4,none⟩)) rfl (zae rfl rfl (fldG1 _ ·)) ?_;simp only [aP,lA,lZ,lS]
  refine zaa (nv S) rfl (zac rfl rfl b2 rfl uN rfl (iN _)) ?_
  refine zaa (.tuple #[nv t,.nilIface]) rfl (zah (args:=[ptrTo gf,nv S]) rfl rfl (fun W => zab Tryz.func33 rfl rfl _ W) (fun W hW => ninv_p (may_ne ks.out) (zgp ks.out) kt.out (hf.ext hW))) ?_;simp only [aP,lA,lZ,lS]
  refine zaa (.tuple #[nv t,.nilIface]) rfl (zaf (.inl rfl) rfl) ?_
  refine zaa (nv t) rfl (zbb rfl rfl rfl) ?_;simp only [aP,lA,lZ,lS]
  refine zaa (.nilIface) rfl (zbb rfl rfl rfl) ?_;simp only [aP,lA,lZ,lS]
  exact zaj
 refine zcw _ _ rfl rfl rfl rfl rfl rfl rfl (hzN ·) (fun _ => rfl) (fun _ => rfl) (iN _) rfl (zbf _) ?_
 intro gt w4 hgt bt hE
 replace b0:=hE.block b0
 replace b1:=hE.block b1
 replace b2:=hE.block b2
 replace hf:=hf.ext hE
 replace hx:=hx.trans hE
 clear hE
 simp only [aP,lA,lZ,lS]
 clear hgt
 go_upto_region 5 with (fail)
 refine' zbn (m:=12) (A:=_) 13 (by kernel_rfl) (by kernel_rfl) (by kernel_rfl) ?h3a ?h3b
 case h3a =>
  refine zaa (ptrTo gf) rfl (zaf (.inl rfl) rfl) ?_
  refine zaa (dgv y) rfl (zac rfl rfl b1 rfl Tryz.underlying26 rfl (iDg _)) ?_;simp only [aP,lA,lZ,lS]
  refine zaa (nv E) rfl (zah (args:=[dgv y]) rfl rfl (fun W => zab Tryz.func36 rfl rfl _ W) (fun W hW => zgz ky.out kE.out W)) ?_
  refine zaa (nv t) rfl (zac rfl rfl bt rfl uN rfl (iN _)) ?_;simp only [aP,lA,lZ,lS]
  refine zaa (nv u) rfl (zah (args:=[ptrTo gf,nv E,nv t]) rfl rfl (fun W => zab Tryz.func35 rfl rfl _ W) (fun W hW => nmul_p ku.out kEt.out (zez kt.out) (hf.ext hW))) ?_
  refine zaa (ptrTo gf) rfl (zaf (.inl rfl) rfl) ?_;simp only [aP,lA,lZ,lS]
  refine zaa (ptrTo (w.heap.size + 1 + 1)) rfl (zae rfl rfl (fldG0 _ ·)) ?_
  refine zaa (nv R) rfl (zac rfl rfl b2 rfl uN rfl (iN _)) ?_;simp only [aP,lA,lZ,lS]
  refine zaa (nv t) rfl (zac rfl rfl bt rfl uN rfl (iN _)) ?_
  refine zaa (nv v) rfl (zah (args:=[ptrTo gf,nv R,nv t]) rfl rfl (fun W => zab Tryz.func35 rfl rfl _ W) (fun W hW => nmul_p kv.out kR.out (zez kt.out) (hf.ext hW))) ?_;simp only [aP,lA,lZ,lS]
  refine zaa (qv X Y false) rfl (zac rfl rfl b0 rfl Tryz.underlying29 rfl (iT _ _ _)) ?_
  refine zaa (qv x z false) rfl (zah (args:=[nv u,nv v,qv X Y false]) rfl rfl (fun W => zab Tryz.func34 rfl rfl _ W) (fun W hW => KS.out W)) ?_;simp only [aP,lA,lZ,lS]
  exact zaj
 refine zcb _ _ rfl rfl rfl rfl rfl rfl rfl rfl rfl (by kernel_rfl) (by kernel_rfl) (by kernel_rfl) rfl rfl (hzT ·) (fun _ => rfl) (fun _ => rfl) (iT _ _ _) rfl (zdh _ _ _) ?_
 intro gc w5 hgc bc hE
 refine NoPanic.normal ?_
 replace b2:=hE.block b2
 replace hf:=hf.ext hE
 replace hx:=hx.trans hE
 clear hE
 simp only [aP,lA,lZ,lS]
 clear hgc
 go_upto_region 6 with (fail)
 refine' zcf (m:=13) (A:=_) 13 (by kernel_rfl) (by kernel_rfl) ?h4a ?h4b
 case h4a =>
  refine zaa (.pointer (some ⟨gc,8,none⟩)) rfl (zae rfl rfl (fldT2 _ ·)) ?_
  refine zaa (.bool false) rfl (zap rfl rfl bc rfl (zbg ·)) ?_;simp only [aP,lA,lZ,lS]
  refine zaa (.bool true) rfl (zax rfl rfl rfl) ?_
  refine zaa (.bool true) rfl (zaf (.inl rfl) rfl) ?_;simp only [aP,lA,lZ,lS]
  refine zam (ptrTo gf) rfl (zaf (.inl rfl) rfl) ?_
  refine zam (ptrTo gc) rfl (zae rfl rfl (fldT0 _ ·)) ?_;simp only [aP,lA,lZ,lS]
  refine zam (nv x) rfl (zac rfl rfl bc rfl uN rfl (iN _)) ?_
  refine zam (nv m) rfl (zah (args:=[ptrTo gf,nv x]) rfl rfl (fun W => zab Tryz.func37 rfl rfl _ W) (fun W hW => scut_calls km.out.1 km.out.2 (hf.ext hW))) ?_;simp only [aP,lA,lZ,lS]
  refine zam (ptrTo (w.heap.size + 1 + 1)) rfl (zae rfl rfl (fldG0 _ ·)) ?_
  refine zam (nv R) rfl (zac rfl rfl b2 rfl uN rfl (iN _)) ?_;simp only [aP,lA,lZ,lS]
  refine zam (.bool (decide (m = R))) rfl (made_eqn rfl rfl rfl (zec km.out.1) kR.out) ?_
  refine zaa (.bool (decide (m = R))) rfl (zat rfl rfl rfl) ?_;simp only [aP,lA,lZ,lS]
  refine zaa (.bool (decide (m = R))) rfl (zaf (.inr rfl) rfl) ?_;simp only [aP,lA,lZ,lS]
  exact zaj
 refine zbt rfl (by kernel_rfl) ?_
 intro w6 hE
 refine NoPanic.normal ?_
 replace hf:=hf.ext hE
 replace hx:=hx.trans hE
 clear hE
 go_wp2
 go_ret
 exact ⟨rfl,hx⟩
theorem sver_no {X Y R S : Nat} {f : Bool} (hX : X < top) (hY : Y < top) (hR : R < top) (hS : S < top) (h : onB X Y f = false) (y : Nat → Nat) (w : World) :
  Calls Tryz.prog 11 #[qv X Y f,dgv y,gv R S] w fun e w' => e = .returned (.bool false) ∧ Ext w w':=by
 cases f with
 | true => exact sver_far hX hY hR hS y w
 | false => exact sver_off hX hY hR hS h y w
theorem mod_mul_l (E t : Nat) : E * t % Pt.nn = E % Pt.nn * t % Pt.nn:=by
 have h1:=Nat.mul_mod E t Pt.nn
 have h2:=Nat.mul_mod (E % Pt.nn) t Pt.nn
 rw [Nat.mod_mod] at h2
 rw [h1,h2]
theorem sver_yes (p : Pt.Q) {R S : Nat} (hR : R < top) (hS : S < top) (y : Nat → Nat) (hy : ∀ j,y j < 256) (w : World) :
  Calls Tryz.prog 11 #[pv p,dgv y,gv R S] w fun e w' => e = .returned (.bool (Pt.verB p (num32 y) R S)) ∧ Ext w w':=by
 have hon:=onB_of p
 have hX:=(p_top p.1).1
 have hY:=(p_top p.1).2
 have hsum : Pt.sumOf p (num32 y) R S = Pt.grp.op (Pt.grp.mul (num32 y * Pt.iG Pt.nn S % Pt.nn) Pt.base) (Pt.grp.mul (R * Pt.iG Pt.nn S % Pt.nn) p):=by
  unfold Pt.sumOf
  rw [← mod_mul_l]
 unfold pv Pt.verB
 rw [inR_may,inR_may]
 cases hf : Pt.pFar p.1 with
 | true => exact sver_far hX hY hR hS y w
 | false =>
  rw [hf] at hon
  cases hr : mayB R with
  | false => exact sver_r hX hY hR hS hon hr y w
  | true =>
   cases hs : mayB S with
   | false => exact sver_s hX hY hR hS hon hr hs y w
   | true =>
    cases hc : Pt.pFar (Pt.sumOf p (num32 y) R S).1 with
    | true => exact sver_all_t (p:=p) y hX hY hR hS hon hr hs ⟨rfl,rfl,hf.symm⟩ hy rfl rfl rfl rfl rfl rfl hsum hc rfl w
    | false =>
     refine (sver_all_f (p:=p) (m:=Pt.pX (Pt.sumOf p (num32 y) R S).1 % Pt.nn) y hX hY hR hS hon hr hs ⟨rfl,rfl,hf.symm⟩ hy rfl rfl rfl rfl rfl rfl hsum hc rfl w).mono ?_
     rintro e w' ⟨rfl,hE⟩
     exact ⟨by simp only [Bool.not_false,Bool.true_and],hE⟩
theorem bsv_one (X : Nat) : ∀ j,(bsv X j).oneCell' = true:=fun j => by simp [bsv,Value.oneCell']
theorem sbytes_calls (R S : Nat) (w : World) :
  Calls Tryz.prog 14 #[gv R S] w fun e w' => (∃ v,e = .returned v ∧ Own w' w.heap.size 5 v 64 (ptB R S)) ∧ Ext w w':=by
 have kb:=fun X W => bytes_calls X W
 have KB:=veil kb
 clear kb
 unfold gv gc
 go_enter Tryz.func14,Tryz.ntmps14
 go_upto_region 1 with (fail)
 obtain ⟨hx,b0⟩:=blocks1 w (.cells #[.int .u64 (wd R 0),.int .u64 (wd R 1),.int .u64 (wd R 2),.int .u64 (wd R 3),.int .u64 (wd S 0),.int .u64 (wd S 1),.int .u64 (wd S 2),.int .u64 (wd S 3)] 35)
 generalize w.alloc (.cells #[.int .u64 (wd R 0),.int .u64 (wd R 1),.int .u64 (wd R 2),.int .u64 (wd R 3),.int .u64 (wd S 0),.int .u64 (wd S 1),.int .u64 (wd S 2),.int .u64 (wd S 3)] 35) = w1 at *
 have b0 : w1.heap[w.heap.size]? = some (.cells (gc R S) 35 (0,0)):=b0
 refine wp_region_noPanic ?_
 refine wp_region_held_drew (S:=fun W => Ext w1 W) (by kernel_rfl) (Ext.drew _) (fun hH => ?_)
 have hS : ∀ W,Ext w1 W → W.rangeAt w.heap.size 0 (nc R).toList:=fun W hW j v hv => by
  rw [cell_of_row W _ _ (gc R S) 35 (0,0) (hW.block b0),Nat.zero_add]
  have hj : j < 4:=(List.getElem?_eq_some_iff.1 hv).1
  rw [← hv]
  match j,hj with
  | 0,_ => rfl
  | 1,_ => rfl
  | 2,_ => rfl
  | 3,_ => rfl
 have hS4 : ∀ W,Ext w1 W → W.rangeAt w.heap.size 4 (nc S).toList:=fun W hW j v hv => by
  rw [cell_of_row W _ _ (gc R S) 35 (0,0) (hW.block b0)]
  have hj : j < 4:=(List.getElem?_eq_some_iff.1 hv).1
  rw [← hv]
  match j,hj with
  | 0,_ => rfl
  | 1,_ => rfl
  | 2,_ => rfl
  | 3,_ => rfl
 refine wpAnyH_take (i:=0) (v:=ptrTo w.heap.size) rfl (by kernel_rfl) (by kernel_rfl) (by decide +kernel) (fun _ _ _ h => h) (Or.inl ⟨by rfl,fun W hSw => (by dsimp only at hSw; go_simp)⟩) hH ?_
 refine wpAnyH_take (i:=1) (v:=nv R) rfl (by kernel_rfl) (by kernel_rfl) (by decide +kernel) (fun _ _ _ h => h) (yieldsIf_load_mid (by rfl) _ _ rfl _ _ rfl (nc R).toList _ hS uN rfl (iN R)) hH ?_
 refine wpAnyH_take (i:=3) (v:=.pointer (some ⟨w.heap.size,4,none⟩)) rfl (by kernel_rfl) (by kernel_rfl) (by decide +kernel) (fun _ _ _ h => h) (Or.inl ⟨by rfl,fun W hSw => (by dsimp only at hSw; go_simp)⟩) hH ?_
 refine wpAnyH_take (i:=4) (v:=nv S) rfl (by kernel_rfl) (by kernel_rfl) (by decide +kernel) (fun _ _ _ h => h) (yieldsIf_load_mid (by rfl) _ _ rfl _ _ rfl (nc S).toList _ hS4 uN rfl (iN S)) hH ?_
 refine wpAnyH_ready (rs:=[2]) (by decide +kernel) (by simp) ?_
 refine AllReadyH.cons rfl (fun K hK => ?_) AllReadyH.nil
 go_simp
 refine (KB.out R _).mono ?_
 rintro e w3 ⟨g1,rfl,hg1,r1,hE1⟩
 have hE1 : Ext _ w3:=hE1
 refine hK.out _ _ (hH.trans hE1) (fun hH => ?_)
 clear hK K hE1
 refine wpAnyH_ready (rs:=[5]) (by decide +kernel) (by simp) ?_
 refine AllReadyH.cons rfl (fun K hK => ?_) AllReadyH.nil
 go_simp
 refine (KB.out S _).mono ?_
 rintro e w4 ⟨g2,rfl,hg2,r2,hE2⟩
 have hE2 : Ext w3 w4:=hE2
 have r1:=Ext.row r1 hE2
 refine hK.out _ _ (hH.trans hE2) (fun hH => ?_)
 clear hK K hE2
 refine wpAnyH_ready (rs:=[6]) (by decide +kernel) (by simp) ?_
 refine AllReadyH.cons rfl (fun K hK => ?_) AllReadyH.nil
 go_simp
 have hb4:=zbx w4 (.cells #[.slice (some ⟨g1,0,none⟩) 32 32,.slice (some ⟨g2,0,none⟩) 32 32] 46)
 have r1:=r1.alloc (.cells #[.slice (some ⟨g1,0,none⟩) 32 32,.slice (some ⟨g2,0,none⟩) 32 32] 46)
 have r2:=r2.alloc (.cells #[.slice (some ⟨g1,0,none⟩) 32 32,.slice (some ⟨g2,0,none⟩) 32 32] 46)
 refine hK.out _ _ (hH.trans (Ext.alloc _ _)) (fun hH => ?_)
 clear hK K
 refine wpAnyH_ready (rs:=[7]) (by decide +kernel) (by simp) ?_
 refine AllReadyH.cons rfl (fun K hK => ?_) AllReadyH.nil
 go_simp
 refine (concat_calls w4.heap.size g1 g2 32 32 (bsv R) (bsv S) (bsv_one R) (bsv_one S) _ hb4 r1 r2).mono ?_
 rintro e w5 ⟨⟨v,rfl,ho⟩,hE5⟩
 have ho : Own w5 w.heap.size 5 v 64 (ptB R S):=ho.base_le (Nat.le_trans (Below.size hx) (Below.size hH))
 refine hK.out _ _ (hH.trans hE5) (fun hH => ?_)
 clear hK K hE5
 refine wpAnyH_ready (rs:=[8]) (by decide +kernel) (by simp) ?_
 refine AllReadyH.cons rfl (fun K hK => ?_) AllReadyH.nil
 go_simp
 refine hK.out _ _ hH (fun hH => ?_)
 clear hK K
 refine wpAnyH_done (by decide +kernel) ?_ _
 refine NoPanic.normal ?_
 go_wp2
 go_ret
 exact ⟨⟨_,rfl,ho⟩,hx.trans hH⟩
end Go.Proofs.YtmfjigcdhijkjaaGreatDoor
