/-
  Of Y5.
-/
import Derived.Test.YtmfjigcdhijkjaaDoorZB37
set_option maxRecDepth 1000000
set_option maxHeartbeats 20000000
namespace Go.Proofs.YtmfjigcdhijkjaaDoor
open Go.RowKit
open Go.Act renaming put → aP
open List renaming setIfInBounds_toArray → lA, set_cons_zero → lZ, set_cons_succ → lS
theorem sver_far {X Y R S : Nat} (hX : X < top) (hY : Y < top) (hR : R < top) (hS : S < top) (y : Nat → Nat) (w : World) :
  Calls Tryd.prog 13 #[qv X Y true,dgv y,gv R S] w fun e w' => e = .returned (.bool false) ∧ Ext w w':=by
 have kX:=veil hX
 have kY:=veil hY
 have kR:=veil hR
 have kS:=veil hS
 clear hS hR hY hX
 unfold qv qc gv gc dgv dgc
 go_enter Tryd.func13,Tryd.ntmps13
 go_upto_region 1 with (fail)
 obtain ⟨hx,b0,b1,b2⟩:=blocks3 w (.cells #[.int .u64 (wd X 0),.int .u64 (wd X 1),.int .u64 (wd X 2),.int .u64 (wd X 3),.int .u64 (wd Y 0),.int .u64 (wd Y 1),.int .u64 (wd Y 2),.int .u64 (wd Y 3),.bool (true)] 40) (.cells (arrOf 32 fun i => .int .u8 (y i : Nat)) 38) (.cells #[.int .u64 (wd R 0),.int .u64 (wd R 1),.int .u64 (wd R 2),.int .u64 (wd R 3),.int .u64 (wd S 0),.int .u64 (wd S 1),.int .u64 (wd S 2),.int .u64 (wd S 3)] 26)
 generalize ((w.alloc (.cells #[.int .u64 (wd X 0),.int .u64 (wd X 1),.int .u64 (wd X 2),.int .u64 (wd X 3),.int .u64 (wd Y 0),.int .u64 (wd Y 1),.int .u64 (wd Y 2),.int .u64 (wd Y 3),.bool (true)] 40)).alloc (.cells (arrOf 32 fun i => .int .u8 (y i : Nat)) 38)).alloc (.cells #[.int .u64 (wd R 0),.int .u64 (wd R 1),.int .u64 (wd R 2),.int .u64 (wd R 3),.int .u64 (wd S 0),.int .u64 (wd S 1),.int .u64 (wd S 2),.int .u64 (wd S 3)] 26) = w1 at *
 have b0 : w1.heap[w.heap.size]? = some (.cells (qc X Y true) 40 (0,0)):=b0
 have b1 : w1.heap[w.heap.size + 1]? = some (.cells (dgc y) 38 (0,0)):=b1
 have b2 : w1.heap[w.heap.size + 1 + 1]? = some (.cells (gc R S) 26 (0,0)):=b2
 refine' zbp (m:=19) (A:=_) ?h1 ?h2
 case h1 =>
  refine zaa (.pointer (some ⟨w.heap.size,8,none⟩)) rfl (zad rfl rfl (fldT2 _ ·)) ?_;simp only [aP,lA,lZ,lS]
  refine zaa (.bool true) rfl (zai rfl rfl b0 rfl (zbr ·)) ?_;simp only [aP,lA,lZ,lS]
  refine zaa (.bool true) rfl (zae (.inl rfl) rfl) ?_;simp only [aP,lA,lZ,lS]
  refine zaw rfl ?_;simp only [aP,lA,lZ,lS]
  refine zaw rfl ?_;simp only [aP,lA,lZ,lS]
  refine zaw rfl ?_;simp only [aP,lA,lZ,lS]
  refine zaa (.bool true) rfl (zaq rfl rfl rfl) ?_;simp only [aP,lA,lZ,lS]
  refine zaa (.bool true) rfl (zae (.inl rfl) rfl) ?_;simp only [aP,lA,lZ,lS]
  refine zaw rfl ?_;simp only [aP,lA,lZ,lS]
  refine zaw rfl ?_;simp only [aP,lA,lZ,lS]
  refine zaw rfl ?_;simp only [aP,lA,lZ,lS]
  refine zaw rfl ?_;simp only [aP,lA,lZ,lS]
  refine zaa (.bool true) rfl (zaq rfl rfl rfl) ?_;simp only [aP,lA,lZ,lS]
  refine zaa (.bool true) rfl (zae (.inl rfl) rfl) ?_;simp only [aP,lA,lZ,lS]
  refine zaw rfl ?_;simp only [aP,lA,lZ,lS]
  refine zaw rfl ?_;simp only [aP,lA,lZ,lS]
  refine zaw rfl ?_;simp only [aP,lA,lZ,lS]
  refine zaw rfl ?_;simp only [aP,lA,lZ,lS]
  refine zaa (.bool true) rfl (zaq rfl rfl rfl) ?_;simp only [aP,lA,lZ,lS]
  exact zah
 refine zam rfl ?_
 intro w2 hE
 replace hx:=hx.trans hE
 clear hE
 go_upto_region 2 with (fail)
 go_wp2
 go_ret
 exact ⟨rfl,hx⟩
theorem sver_off {X Y R S : Nat} (hX : X < top) (hY : Y < top) (hR : R < top) (hS : S < top) (hon : onB X Y false = false) (y : Nat → Nat) (w : World) :
  Calls Tryd.prog 13 #[qv X Y false,dgv y,gv R S] w fun e w' => e = .returned (.bool false) ∧ Ext w w':=by
 have kX:=veil hX
 have kY:=veil hY
 have kR:=veil hR
 have kS:=veil hS
 have kon:=veil hon
 clear hon hS hR hY hX
 unfold qv qc gv gc dgv dgc
 go_enter Tryd.func13,Tryd.ntmps13
 go_upto_region 1 with (fail)
 obtain ⟨hx,b0,b1,b2⟩:=blocks3 w (.cells #[.int .u64 (wd X 0),.int .u64 (wd X 1),.int .u64 (wd X 2),.int .u64 (wd X 3),.int .u64 (wd Y 0),.int .u64 (wd Y 1),.int .u64 (wd Y 2),.int .u64 (wd Y 3),.bool (false)] 40) (.cells (arrOf 32 fun i => .int .u8 (y i : Nat)) 38) (.cells #[.int .u64 (wd R 0),.int .u64 (wd R 1),.int .u64 (wd R 2),.int .u64 (wd R 3),.int .u64 (wd S 0),.int .u64 (wd S 1),.int .u64 (wd S 2),.int .u64 (wd S 3)] 26)
 generalize ((w.alloc (.cells #[.int .u64 (wd X 0),.int .u64 (wd X 1),.int .u64 (wd X 2),.int .u64 (wd X 3),.int .u64 (wd Y 0),.int .u64 (wd Y 1),.int .u64 (wd Y 2),.int .u64 (wd Y 3),.bool (false)] 40)).alloc (.cells (arrOf 32 fun i => .int .u8 (y i : Nat)) 38)).alloc (.cells #[.int .u64 (wd R 0),.int .u64 (wd R 1),.int .u64 (wd R 2),.int .u64 (wd R 3),.int .u64 (wd S 0),.int .u64 (wd S 1),.int .u64 (wd S 2),.int .u64 (wd S 3)] 26) = w1 at *
 have b0 : w1.heap[w.heap.size]? = some (.cells (qc X Y false) 40 (0,0)):=b0
 have b1 : w1.heap[w.heap.size + 1]? = some (.cells (dgc y) 38 (0,0)):=b1
 have b2 : w1.heap[w.heap.size + 1 + 1]? = some (.cells (gc R S) 26 (0,0)):=b2
 refine' zbp (m:=19) (A:=_) ?h1 ?h2
 case h1 =>
  refine zaa (.pointer (some ⟨w.heap.size,8,none⟩)) rfl (zad rfl rfl (fldT2 _ ·)) ?_;simp only [aP,lA,lZ,lS]
  refine zaa (.bool false) rfl (zai rfl rfl b0 rfl (zbr ·)) ?_;simp only [aP,lA,lZ,lS]
  refine zaa (.bool false) rfl (zae (.inl rfl) rfl) ?_;simp only [aP,lA,lZ,lS]
  refine zag (qv X Y false) rfl (zac rfl rfl b0 rfl Tryd.underlying40 rfl (iT _ _ _)) ?_;simp only [aP,lA,lZ,lS]
  refine zag (.bool false) rfl (zaf (args:=[qv X Y false]) rfl rfl (fun W => zab Tryd.func14 rfl rfl _ W) (fun W hW => onp_is kon.out kX.out kY.out W)) ?_;simp only [aP,lA,lZ,lS]
  refine zag (.bool true) rfl (zaz rfl rfl rfl) ?_;simp only [aP,lA,lZ,lS]
  refine zaa (.bool true) rfl (zaq rfl rfl rfl) ?_;simp only [aP,lA,lZ,lS]
  refine zaa (.bool true) rfl (zae (.inl rfl) rfl) ?_;simp only [aP,lA,lZ,lS]
  refine zaw rfl ?_;simp only [aP,lA,lZ,lS]
  refine zaw rfl ?_;simp only [aP,lA,lZ,lS]
  refine zaw rfl ?_;simp only [aP,lA,lZ,lS]
  refine zaw rfl ?_;simp only [aP,lA,lZ,lS]
  refine zaa (.bool true) rfl (zaq rfl rfl rfl) ?_;simp only [aP,lA,lZ,lS]
  refine zaa (.bool true) rfl (zae (.inl rfl) rfl) ?_;simp only [aP,lA,lZ,lS]
  refine zaw rfl ?_;simp only [aP,lA,lZ,lS]
  refine zaw rfl ?_;simp only [aP,lA,lZ,lS]
  refine zaw rfl ?_;simp only [aP,lA,lZ,lS]
  refine zaw rfl ?_;simp only [aP,lA,lZ,lS]
  refine zaa (.bool true) rfl (zaq rfl rfl rfl) ?_;simp only [aP,lA,lZ,lS]
  exact zah
 refine zam rfl ?_
 intro w2 hE
 replace hx:=hx.trans hE
 clear hE
 go_upto_region 2 with (fail)
 go_wp2
 go_ret
 exact ⟨rfl,hx⟩
theorem sver_r {X Y R S : Nat} (hX : X < top) (hY : Y < top) (hR : R < top) (hS : S < top) (hon : onB X Y false = true) (hr : mayB R = false) (y : Nat → Nat) (w : World) :
  Calls Tryd.prog 13 #[qv X Y false,dgv y,gv R S] w fun e w' => e = .returned (.bool false) ∧ Ext w w':=by
 have kX:=veil hX
 have kY:=veil hY
 have kR:=veil hR
 have kS:=veil hS
 have kon:=veil hon
 have kr:=veil hr
 clear hr hon hS hR hY hX
 unfold qv qc gv gc dgv dgc
 go_enter Tryd.func13,Tryd.ntmps13
 go_upto_region 1 with (fail)
 obtain ⟨hx,b0,b1,b2⟩:=blocks3 w (.cells #[.int .u64 (wd X 0),.int .u64 (wd X 1),.int .u64 (wd X 2),.int .u64 (wd X 3),.int .u64 (wd Y 0),.int .u64 (wd Y 1),.int .u64 (wd Y 2),.int .u64 (wd Y 3),.bool (false)] 40) (.cells (arrOf 32 fun i => .int .u8 (y i : Nat)) 38) (.cells #[.int .u64 (wd R 0),.int .u64 (wd R 1),.int .u64 (wd R 2),.int .u64 (wd R 3),.int .u64 (wd S 0),.int .u64 (wd S 1),.int .u64 (wd S 2),.int .u64 (wd S 3)] 26)
 generalize ((w.alloc (.cells #[.int .u64 (wd X 0),.int .u64 (wd X 1),.int .u64 (wd X 2),.int .u64 (wd X 3),.int .u64 (wd Y 0),.int .u64 (wd Y 1),.int .u64 (wd Y 2),.int .u64 (wd Y 3),.bool (false)] 40)).alloc (.cells (arrOf 32 fun i => .int .u8 (y i : Nat)) 38)).alloc (.cells #[.int .u64 (wd R 0),.int .u64 (wd R 1),.int .u64 (wd R 2),.int .u64 (wd R 3),.int .u64 (wd S 0),.int .u64 (wd S 1),.int .u64 (wd S 2),.int .u64 (wd S 3)] 26) = w1 at *
 have b0 : w1.heap[w.heap.size]? = some (.cells (qc X Y false) 40 (0,0)):=b0
 have b1 : w1.heap[w.heap.size + 1]? = some (.cells (dgc y) 38 (0,0)):=b1
 have b2 : w1.heap[w.heap.size + 1 + 1]? = some (.cells (gc R S) 26 (0,0)):=b2
 refine' zbp (m:=19) (A:=_) ?h1 ?h2
 case h1 =>
  refine zaa (.pointer (some ⟨w.heap.size,8,none⟩)) rfl (zad rfl rfl (fldT2 _ ·)) ?_;simp only [aP,lA,lZ,lS]
  refine zaa (.bool false) rfl (zai rfl rfl b0 rfl (zbr ·)) ?_;simp only [aP,lA,lZ,lS]
  refine zaa (.bool false) rfl (zae (.inl rfl) rfl) ?_;simp only [aP,lA,lZ,lS]
  refine zag (qv X Y false) rfl (zac rfl rfl b0 rfl Tryd.underlying40 rfl (iT _ _ _)) ?_;simp only [aP,lA,lZ,lS]
  refine zag (.bool true) rfl (zaf (args:=[qv X Y false]) rfl rfl (fun W => zab Tryd.func14 rfl rfl _ W) (fun W hW => onp_is kon.out kX.out kY.out W)) ?_;simp only [aP,lA,lZ,lS]
  refine zag (.bool false) rfl (zaz rfl rfl rfl) ?_;simp only [aP,lA,lZ,lS]
  refine zaa (.bool false) rfl (zaq rfl rfl rfl) ?_;simp only [aP,lA,lZ,lS]
  refine zaa (.bool false) rfl (zae (.inl rfl) rfl) ?_;simp only [aP,lA,lZ,lS]
  refine zag (ptrTo (w.heap.size + 1 + 1)) rfl (zad rfl rfl (fldG0 _ ·)) ?_;simp only [aP,lA,lZ,lS]
  refine zag (nv R) rfl (zac rfl rfl b2 rfl uN rfl (iN _)) ?_;simp only [aP,lA,lZ,lS]
  refine zag (.bool false) rfl (zaf (args:=[nv R]) rfl rfl (fun W => zab Tryd.func24 rfl rfl _ W) (fun W hW => zep kr.out kR.out W)) ?_;simp only [aP,lA,lZ,lS]
  refine zag (.bool true) rfl (zaz rfl rfl rfl) ?_;simp only [aP,lA,lZ,lS]
  refine zaa (.bool true) rfl (zaq rfl rfl rfl) ?_;simp only [aP,lA,lZ,lS]
  refine zaa (.bool true) rfl (zae (.inl rfl) rfl) ?_;simp only [aP,lA,lZ,lS]
  refine zaw rfl ?_;simp only [aP,lA,lZ,lS]
  refine zaw rfl ?_;simp only [aP,lA,lZ,lS]
  refine zaw rfl ?_;simp only [aP,lA,lZ,lS]
  refine zaw rfl ?_;simp only [aP,lA,lZ,lS]
  refine zaa (.bool true) rfl (zaq rfl rfl rfl) ?_;simp only [aP,lA,lZ,lS]
  exact zah
 refine zam rfl ?_
 intro w2 hE
 replace hx:=hx.trans hE
 clear hE
 go_upto_region 2 with (fail)
 go_wp2
 go_ret
 exact ⟨rfl,hx⟩
theorem sver_s {X Y R S : Nat} (hX : X < top) (hY : Y < top) (hR : R < top) (hS : S < top) (hon : onB X Y false = true) (hr : mayB R = true) (hs : mayB S = false) (y : Nat → Nat) (w : World) :
  Calls Tryd.prog 13 #[qv X Y false,dgv y,gv R S] w fun e w' => e = .returned (.bool false) ∧ Ext w w':=by
 have kX:=veil hX
 have kY:=veil hY
 have kR:=veil hR
 have kS:=veil hS
 have kon:=veil hon
 have kr:=veil hr
 have ks:=veil hs
 clear hs hr hon hS hR hY hX
 unfold qv qc gv gc dgv dgc
 go_enter Tryd.func13,Tryd.ntmps13
 go_upto_region 1 with (fail)
 obtain ⟨hx,b0,b1,b2⟩:=blocks3 w (.cells #[.int .u64 (wd X 0),.int .u64 (wd X 1),.int .u64 (wd X 2),.int .u64 (wd X 3),.int .u64 (wd Y 0),.int .u64 (wd Y 1),.int .u64 (wd Y 2),.int .u64 (wd Y 3),.bool (false)] 40) (.cells (arrOf 32 fun i => .int .u8 (y i : Nat)) 38) (.cells #[.int .u64 (wd R 0),.int .u64 (wd R 1),.int .u64 (wd R 2),.int .u64 (wd R 3),.int .u64 (wd S 0),.int .u64 (wd S 1),.int .u64 (wd S 2),.int .u64 (wd S 3)] 26)
 generalize ((w.alloc (.cells #[.int .u64 (wd X 0),.int .u64 (wd X 1),.int .u64 (wd X 2),.int .u64 (wd X 3),.int .u64 (wd Y 0),.int .u64 (wd Y 1),.int .u64 (wd Y 2),.int .u64 (wd Y 3),.bool (false)] 40)).alloc (.cells (arrOf 32 fun i => .int .u8 (y i : Nat)) 38)).alloc (.cells #[.int .u64 (wd R 0),.int .u64 (wd R 1),.int .u64 (wd R 2),.int .u64 (wd R 3),.int .u64 (wd S 0),.int .u64 (wd S 1),.int .u64 (wd S 2),.int .u64 (wd S 3)] 26) = w1 at *
 have b0 : w1.heap[w.heap.size]? = some (.cells (qc X Y false) 40 (0,0)):=b0
 have b1 : w1.heap[w.heap.size + 1]? = some (.cells (dgc y) 38 (0,0)):=b1
 have b2 : w1.heap[w.heap.size + 1 + 1]? = some (.cells (gc R S) 26 (0,0)):=b2
 refine' zbp (m:=19) (A:=_) ?h1 ?h2
 case h1 =>
  refine zaa (.pointer (some ⟨w.heap.size,8,none⟩)) rfl (zad rfl rfl (fldT2 _ ·)) ?_;simp only [aP,lA,lZ,lS]
  refine zaa (.bool false) rfl (zai rfl rfl b0 rfl (zbr ·)) ?_;simp only [aP,lA,lZ,lS]
  refine zaa (.bool false) rfl (zae (.inl rfl) rfl) ?_;simp only [aP,lA,lZ,lS]
  refine zag (qv X Y false) rfl (zac rfl rfl b0 rfl Tryd.underlying40 rfl (iT _ _ _)) ?_;simp only [aP,lA,lZ,lS]
  refine zag (.bool true) rfl (zaf (args:=[qv X Y false]) rfl rfl (fun W => zab Tryd.func14 rfl rfl _ W) (fun W hW => onp_is kon.out kX.out kY.out W)) ?_;simp only [aP,lA,lZ,lS]
  refine zag (.bool false) rfl (zaz rfl rfl rfl) ?_;simp only [aP,lA,lZ,lS]
  refine zaa (.bool false) rfl (zaq rfl rfl rfl) ?_;simp only [aP,lA,lZ,lS]
  refine zaa (.bool false) rfl (zae (.inl rfl) rfl) ?_;simp only [aP,lA,lZ,lS]
  refine zag (ptrTo (w.heap.size + 1 + 1)) rfl (zad rfl rfl (fldG0 _ ·)) ?_;simp only [aP,lA,lZ,lS]
  refine zag (nv R) rfl (zac rfl rfl b2 rfl uN rfl (iN _)) ?_;simp only [aP,lA,lZ,lS]
  refine zag (.bool true) rfl (zaf (args:=[nv R]) rfl rfl (fun W => zab Tryd.func24 rfl rfl _ W) (fun W hW => zep kr.out kR.out W)) ?_;simp only [aP,lA,lZ,lS]
  refine zag (.bool false) rfl (zaz rfl rfl rfl) ?_;simp only [aP,lA,lZ,lS]
  refine zaa (.bool false) rfl (zaq rfl rfl rfl) ?_;simp only [aP,lA,lZ,lS]
  refine zaa (.bool false) rfl (zae (.inl rfl) rfl) ?_;simp only [aP,lA,lZ,lS]
  refine zag (.pointer (some ⟨w.heap.size + 1 + 1,4,none⟩)) rfl (zad rfl rfl (fldG1 _ ·)) ?_;simp only [aP,lA,lZ,lS]
  refine zag (nv S) rfl (zac rfl rfl b2 rfl uN rfl (iN _)) ?_;simp only [aP,lA,lZ,lS]
  refine zag (.bool false) rfl (zaf (args:=[nv S]) rfl rfl (fun W => zab Tryd.func24 rfl rfl _ W) (fun W hW => zep ks.out kS.out W)) ?_;simp only [aP,lA,lZ,lS]
  refine zag (.bool true) rfl (zaz rfl rfl rfl) ?_;simp only [aP,lA,lZ,lS]
  refine zaa (.bool true) rfl (zaq rfl rfl rfl) ?_;simp only [aP,lA,lZ,lS]
  exact zah
 refine zam rfl ?_
 intro w2 hE
 replace hx:=hx.trans hE
 clear hE
 go_upto_region 2 with (fail)
 go_wp2
 go_ret
 exact ⟨rfl,hx⟩
theorem sver_all_t (y : Nat → Nat) {p a b c : Pt.Q} {X Y R S t E u v m : Nat} (hX : X < top) (hY : Y < top) (hR : R < top) (hS : S < top) (hon : onB X Y false = true) (hr : mayB R = true) (hs : mayB S = true) (hp : X = Pt.pX p.1 ∧ Y = Pt.pY p.1 ∧ false = Pt.pFar p.1) (hy : ∀ j,y j < 256) (hE : E = num32 y) (ht : t = Pt.iG Pt.nn S) (hu : u = E * t % Pt.nn) (hv : v = R * t % Pt.nn) (ha : a = Pt.grp.mul u Pt.base) (hb : b = Pt.grp.mul v p) (hc : c = Pt.grp.op a b) (hfar : Pt.pFar c.1 = true) (hm : m = Pt.pX c.1 % Pt.nn) (w : World) :
  Calls Tryd.prog 13 #[qv X Y false,dgv y,gv R S] w fun e w' => e = .returned (.bool (false)) ∧ Ext w w':=by
 obtain ⟨x,hx0⟩ : ∃ x,x = Pt.pX c.1:=⟨_,rfl⟩
 obtain ⟨z,hz0⟩ : ∃ z,z = Pt.pY c.1:=⟨_,rfl⟩
 have kEt:=veil (show E < top from by rw [hE]; exact zfv hy)
 have ksum:=fun W => sumof_calls (w:=W) (mul_top hu) (mul_top hv) hp ha hb hc
 rw [← hx0,← hz0,hfar] at ksum
 have KS:=veil ksum
 have km:=veil (show m = x % Pt.nn ∧ x < top from ⟨by rw [hx0]; exact hm,by rw [hx0]; exact (p_top _).1⟩)
 have kX:=veil hX
 have kY:=veil hY
 have kR:=veil hR
 have kS:=veil hS
 have kon:=veil hon
 have kr:=veil hr
 have ks:=veil hs
 have ky:=veil hy
 have kE:=veil hE
 have kt:=veil ht
 have ku:=veil hu
 have kv:=veil hv
 clear hv hu ht hE hy hs hr hon hS hR hY hX
 clear ksum hp ha hb hc hfar hm hx0 hz0
 unfold qv qc gv gc dgv dgc
 go_enter Tryd.func13,Tryd.ntmps13
 go_upto_region 1 with (fail)
 obtain ⟨hx,b0,b1,b2⟩:=blocks3 w (.cells #[.int .u64 (wd X 0),.int .u64 (wd X 1),.int .u64 (wd X 2),.int .u64 (wd X 3),.int .u64 (wd Y 0),.int .u64 (wd Y 1),.int .u64 (wd Y 2),.int .u64 (wd Y 3),.bool (false)] 40) (.cells (arrOf 32 fun i => .int .u8 (y i : Nat)) 38) (.cells #[.int .u64 (wd R 0),.int .u64 (wd R 1),.int .u64 (wd R 2),.int .u64 (wd R 3),.int .u64 (wd S 0),.int .u64 (wd S 1),.int .u64 (wd S 2),.int .u64 (wd S 3)] 26)
 generalize ((w.alloc (.cells #[.int .u64 (wd X 0),.int .u64 (wd X 1),.int .u64 (wd X 2),.int .u64 (wd X 3),.int .u64 (wd Y 0),.int .u64 (wd Y 1),.int .u64 (wd Y 2),.int .u64 (wd Y 3),.bool (false)] 40)).alloc (.cells (arrOf 32 fun i => .int .u8 (y i : Nat)) 38)).alloc (.cells #[.int .u64 (wd R 0),.int .u64 (wd R 1),.int .u64 (wd R 2),.int .u64 (wd R 3),.int .u64 (wd S 0),.int .u64 (wd S 1),.int .u64 (wd S 2),.int .u64 (wd S 3)] 26) = w1 at *
 have b0 : w1.heap[w.heap.size]? = some (.cells (qc X Y false) 40 (0,0)):=b0
 have b1 : w1.heap[w.heap.size + 1]? = some (.cells (dgc y) 38 (0,0)):=b1
 have b2 : w1.heap[w.heap.size + 1 + 1]? = some (.cells (gc R S) 26 (0,0)):=b2
 refine' zbp (m:=19) (A:=_) ?h1 ?h2
 case h1 =>
  refine zaa (.pointer (some ⟨w.heap.size,8,none⟩)) rfl (zad rfl rfl (fldT2 _ ·)) ?_;simp only [aP,lA,lZ,lS]
  refine zaa (.bool false) rfl (zai rfl rfl b0 rfl (zbr ·)) ?_;simp only [aP,lA,lZ,lS]
  refine zaa (.bool false) rfl (zae (.inl rfl) rfl) ?_;simp only [aP,lA,lZ,lS]
  refine zag (qv X Y false) rfl (zac rfl rfl b0 rfl Tryd.underlying40 rfl (iT _ _ _)) ?_;simp only [aP,lA,lZ,lS]
  refine zag (.bool true) rfl (zaf (args:=[qv X Y false]) rfl rfl (fun W => zab Tryd.func14 rfl rfl _ W) (fun W hW => onp_is kon.out kX.out kY.out W)) ?_;simp only [aP,lA,lZ,lS]
  refine zag (.bool false) rfl (zaz rfl rfl rfl) ?_;simp only [aP,lA,lZ,lS]
  refine zaa (.bool false) rfl (zaq rfl rfl rfl) ?_;simp only [aP,lA,lZ,lS]
  refine zaa (.bool false) rfl (zae (.inl rfl) rfl) ?_;simp only [aP,lA,lZ,lS]
  refine zag (ptrTo (w.heap.size + 1 + 1)) rfl (zad rfl rfl (fldG0 _ ·)) ?_;simp only [aP,lA,lZ,lS]
  refine zag (nv R) rfl (zac rfl rfl b2 rfl uN rfl (iN _)) ?_;simp only [aP,lA,lZ,lS]
  refine zag (.bool true) rfl (zaf (args:=[nv R]) rfl rfl (fun W => zab Tryd.func24 rfl rfl _ W) (fun W hW => zep kr.out kR.out W)) ?_;simp only [aP,lA,lZ,lS]
  refine zag (.bool false) rfl (zaz rfl rfl rfl) ?_;simp only [aP,lA,lZ,lS]
  refine zaa (.bool false) rfl (zaq rfl rfl rfl) ?_;simp only [aP,lA,lZ,lS]
  refine zaa (.bool false) rfl (zae (.inl rfl) rfl) ?_;simp only [aP,lA,lZ,lS]
  refine zag (.pointer (some ⟨w.heap.size + 1 + 1,4,none⟩)) rfl (zad rfl rfl (fldG1 _ ·)) ?_;simp only [aP,lA,lZ,lS]
  refine zag (nv S) rfl (zac rfl rfl b2 rfl uN rfl (iN _)) ?_;simp only [aP,lA,lZ,lS]
  refine zag (.bool true) rfl (zaf (args:=[nv S]) rfl rfl (fun W => zab Tryd.func24 rfl rfl _ W) (fun W hW => zep ks.out kS.out W)) ?_;simp only [aP,lA,lZ,lS]
  refine zag (.bool false) rfl (zaz rfl rfl rfl) ?_;simp only [aP,lA,lZ,lS]
  refine zaa (.bool false) rfl (zaq rfl rfl rfl) ?_;simp only [aP,lA,lZ,lS]
  exact zah
 refine zam rfl ?_
 intro w2 hE
 replace b0:=hE.block b0
 replace b1:=hE.block b1
 replace b2:=hE.block b2
 replace hx:=hx.trans hE
 clear hE
 go_upto_region 3 with (fail)
 refine wp_region_lit ?_
 refine zef (R:=fun t W' => ∃ b,t = ptrTo b ∧ Fn W' b ∧ Ext w2 W') (args:=[]) rfl rfl rfl (fun W => zab Tryd.func30 rfl rfl _ W) ((zfk w2).mono fun e W' ⟨⟨b,he,_,hF⟩,hE⟩ => ⟨_,he,b,rfl,hF,hE⟩) ?_
 rintro t0 w3 ⟨gf,rfl,hf,hE⟩
 replace b0:=hE.block b0
 replace b1:=hE.block b1
 replace b2:=hE.block b2
 replace hx:=hx.trans hE
 clear hE
 simp only [aP,lA,lZ,lS]
 go_upto_region 4 with (fail)
 refine' zaj (m:=7) (A:=_) (by kernel_rfl) ?h2a ?h2b
 case h2a =>
  refine zaa (ptrTo gf) rfl (zae (.inl rfl) rfl) ?_;simp only [aP,lA,lZ,lS]
  refine zaa (.pointer (some ⟨w.heap.size + 1 + 1,4,none⟩)) rfl (zad rfl rfl (fldG1 _ ·)) ?_;simp only [aP,lA,lZ,lS]
  refine zaa (nv S) rfl (zac rfl rfl b2 rfl uN rfl (iN _)) ?_;simp only [aP,lA,lZ,lS]
  refine zaa (.tuple #[nv t,.nilIface]) rfl (zaf (args:=[ptrTo gf,nv S]) rfl rfl (fun W => zab Tryd.func31 rfl rfl _ W) (fun W hW => ninv_p (may_ne ks.out) (zfx ks.out) kt.out (hf.ext hW))) ?_;simp only [aP,lA,lZ,lS]
  refine zaa (.tuple #[nv t,.nilIface]) rfl (zae (.inl rfl) rfl) ?_;simp only [aP,lA,lZ,lS]
  refine zaa (nv t) rfl (zar rfl rfl rfl) ?_;simp only [aP,lA,lZ,lS]
  refine zaa (.nilIface) rfl (zar rfl rfl rfl) ?_;simp only [aP,lA,lZ,lS]
  exact zah
 refine zbf _ _ rfl rfl rfl rfl rfl rfl rfl (hzN ·) (fun _ => rfl) (fun _ => rfl) (iN _) rfl (zbe _) ?_
 intro gt w4 hgt bt hE
 replace b0:=hE.block b0
 replace b1:=hE.block b1
 replace b2:=hE.block b2
 replace hf:=hf.ext hE
 replace hx:=hx.trans hE
 clear hE
 simp only [aP,lA,lZ,lS]
 clear hgt
 go_upto_region 5 with (fail)
 refine' zbn (m:=12) (A:=_) 13 (by kernel_rfl) (by kernel_rfl) (by kernel_rfl) ?h3a ?h3b
 case h3a =>
  refine zaa (ptrTo gf) rfl (zae (.inl rfl) rfl) ?_;simp only [aP,lA,lZ,lS]
  refine zaa (dgv y) rfl (zac rfl rfl b1 rfl Tryd.underlying38 rfl (iDg _)) ?_;simp only [aP,lA,lZ,lS]
  refine zaa (nv E) rfl (zaf (args:=[dgv y]) rfl rfl (fun W => zab Tryd.func34 rfl rfl _ W) (fun W hW => zfu ky.out kE.out W)) ?_;simp only [aP,lA,lZ,lS]
  refine zaa (nv t) rfl (zac rfl rfl bt rfl uN rfl (iN _)) ?_;simp only [aP,lA,lZ,lS]
  refine zaa (nv u) rfl (zaf (args:=[ptrTo gf,nv E,nv t]) rfl rfl (fun W => zab Tryd.func33 rfl rfl _ W) (fun W hW => nmul_p ku.out kEt.out (zhg kt.out) (hf.ext hW))) ?_;simp only [aP,lA,lZ,lS]
  refine zaa (ptrTo gf) rfl (zae (.inl rfl) rfl) ?_;simp only [aP,lA,lZ,lS]
  refine zaa (ptrTo (w.heap.size + 1 + 1)) rfl (zad rfl rfl (fldG0 _ ·)) ?_;simp only [aP,lA,lZ,lS]
  refine zaa (nv R) rfl (zac rfl rfl b2 rfl uN rfl (iN _)) ?_;simp only [aP,lA,lZ,lS]
  refine zaa (nv t) rfl (zac rfl rfl bt rfl uN rfl (iN _)) ?_;simp only [aP,lA,lZ,lS]
  refine zaa (nv v) rfl (zaf (args:=[ptrTo gf,nv R,nv t]) rfl rfl (fun W => zab Tryd.func33 rfl rfl _ W) (fun W hW => nmul_p kv.out kR.out (zhg kt.out) (hf.ext hW))) ?_;simp only [aP,lA,lZ,lS]
  refine zaa (qv X Y false) rfl (zac rfl rfl b0 rfl Tryd.underlying40 rfl (iT _ _ _)) ?_;simp only [aP,lA,lZ,lS]
  refine zaa (qv x z true) rfl (zaf (args:=[nv u,nv v,qv X Y false]) rfl rfl (fun W => zab Tryd.func32 rfl rfl _ W) (fun W hW => KS.out W)) ?_;simp only [aP,lA,lZ,lS]
  exact zah
 refine zcn _ _ rfl rfl rfl rfl rfl rfl rfl rfl rfl (by kernel_rfl) (by kernel_rfl) (by kernel_rfl) rfl rfl (hzT ·) (fun _ => rfl) (fun _ => rfl) (iT _ _ _) rfl (zdd _ _ _) ?_
 intro gc w5 hgc bc hE
 refine NoPanic.normal ?_
 replace hf:=hf.ext hE
 replace hx:=hx.trans hE
 clear hE
 simp only [aP,lA,lZ,lS]
 clear hgc
 go_upto_region 6 with (fail)
 refine' zcc (m:=13) (A:=_) 13 (by kernel_rfl) (by kernel_rfl) ?h4a ?h4b
 case h4a =>
  refine zaa (.pointer (some ⟨gc,8,none⟩)) rfl (zad rfl rfl (fldT2 _ ·)) ?_;simp only [aP,lA,lZ,lS]
  refine zaa (.bool true) rfl (zai rfl rfl bc rfl (zbr ·)) ?_;simp only [aP,lA,lZ,lS]
  refine zaa (.bool false) rfl (zaz rfl rfl rfl) ?_;simp only [aP,lA,lZ,lS]
  refine zaa (.bool false) rfl (zae (.inl rfl) rfl) ?_;simp only [aP,lA,lZ,lS]
  refine zaw rfl ?_;simp only [aP,lA,lZ,lS]
  refine zaw rfl ?_;simp only [aP,lA,lZ,lS]
  refine zaw rfl ?_;simp only [aP,lA,lZ,lS]
  refine zaw rfl ?_;simp only [aP,lA,lZ,lS]
  refine zaw rfl ?_;simp only [aP,lA,lZ,lS]
  refine zaw rfl ?_;simp only [aP,lA,lZ,lS]
  refine zaw rfl ?_;simp only [aP,lA,lZ,lS]
  refine zaa (.bool false) rfl (zaq rfl rfl rfl) ?_;simp only [aP,lA,lZ,lS]
  refine zaa (.bool false) rfl (zae (.inr rfl) rfl) ?_;simp only [aP,lA,lZ,lS]
  exact zah
 refine zbq rfl (by kernel_rfl) ?_
 intro w6 hE
 refine NoPanic.normal ?_
 replace hf:=hf.ext hE
 replace hx:=hx.trans hE
 clear hE
 go_wp2
 go_ret
 exact ⟨rfl,hx⟩
theorem sver_all_f (y : Nat → Nat) {p a b c : Pt.Q} {X Y R S t E u v m : Nat} (hX : X < top) (hY : Y < top) (hR : R < top) (hS : S < top) (hon : onB X Y false = true) (hr : mayB R = true) (hs : mayB S = true) (hp : X = Pt.pX p.1 ∧ Y = Pt.pY p.1 ∧ false = Pt.pFar p.1) (hy : ∀ j,y j < 256) (hE : E = num32 y) (ht : t = Pt.iG Pt.nn S) (hu : u = E * t % Pt.nn) (hv : v = R * t % Pt.nn) (ha : a = Pt.grp.mul u Pt.base) (hb : b = Pt.grp.mul v p) (hc : c = Pt.grp.op a b) (hfar : Pt.pFar c.1 = false) (hm : m = Pt.pX c.1 % Pt.nn) (w : World) :
  Calls Tryd.prog 13 #[qv X Y false,dgv y,gv R S] w fun e w' => e = .returned (.bool (decide (m = R))) ∧ Ext w w':=by
 obtain ⟨x,hx0⟩ : ∃ x,x = Pt.pX c.1:=⟨_,rfl⟩
 obtain ⟨z,hz0⟩ : ∃ z,z = Pt.pY c.1:=⟨_,rfl⟩
 have kEt:=veil (show E < top from by rw [hE]; exact zfv hy)
 have ksum:=fun W => sumof_calls (w:=W) (mul_top hu) (mul_top hv) hp ha hb hc
 rw [← hx0,← hz0,hfar] at ksum
 have KS:=veil ksum
 have km:=veil (show m = x % Pt.nn ∧ x < top from ⟨by rw [hx0]; exact hm,by rw [hx0]; exact (p_top _).1⟩)
 have kX:=veil hX
 have kY:=veil hY
 have kR:=veil hR
 have kS:=veil hS
 have kon:=veil hon
 have kr:=veil hr
 have ks:=veil hs
 have ky:=veil hy
 have kE:=veil hE
 have kt:=veil ht
 have ku:=veil hu
 have kv:=veil hv
 clear hv hu ht hE hy hs hr hon hS hR hY hX
 clear ksum hp ha hb hc hfar hm hx0 hz0
 unfold qv qc gv gc dgv dgc
 go_enter Tryd.func13,Tryd.ntmps13
 go_upto_region 1 with (fail)
 obtain ⟨hx,b0,b1,b2⟩:=blocks3 w (.cells #[.int .u64 (wd X 0),.int .u64 (wd X 1),.int .u64 (wd X 2),.int .u64 (wd X 3),.int .u64 (wd Y 0),.int .u64 (wd Y 1),.int .u64 (wd Y 2),.int .u64 (wd Y 3),.bool (false)] 40) (.cells (arrOf 32 fun i => .int .u8 (y i : Nat)) 38) (.cells #[.int .u64 (wd R 0),.int .u64 (wd R 1),.int .u64 (wd R 2),.int .u64 (wd R 3),.int .u64 (wd S 0),.int .u64 (wd S 1),.int .u64 (wd S 2),.int .u64 (wd S 3)] 26)
 generalize ((w.alloc (.cells #[.int .u64 (wd X 0),.int .u64 (wd X 1),.int .u64 (wd X 2),.int .u64 (wd X 3),.int .u64 (wd Y 0),.int .u64 (wd Y 1),.int .u64 (wd Y 2),.int .u64 (wd Y 3),.bool (false)] 40)).alloc (.cells (arrOf 32 fun i => .int .u8 (y i : Nat)) 38)).alloc (.cells #[.int .u64 (wd R 0),.int .u64 (wd R 1),.int .u64 (wd R 2),.int .u64 (wd R 3),.int .u64 (wd S 0),.int .u64 (wd S 1),.int .u64 (wd S 2),.int .u64 (wd S 3)] 26) = w1 at *
 have b0 : w1.heap[w.heap.size]? = some (.cells (qc X Y false) 40 (0,0)):=b0
 have b1 : w1.heap[w.heap.size + 1]? = some (.cells (dgc y) 38 (0,0)):=b1
 have b2 : w1.heap[w.heap.size + 1 + 1]? = some (.cells (gc R S) 26 (0,0)):=b2
 refine' zbp (m:=19) (A:=_) ?h1 ?h2
 case h1 =>
  refine zaa (.pointer (some ⟨w.heap.size,8,none⟩)) rfl (zad rfl rfl (fldT2 _ ·)) ?_;simp only [aP,lA,lZ,lS]
  refine zaa (.bool false) rfl (zai rfl rfl b0 rfl (zbr ·)) ?_;simp only [aP,lA,lZ,lS]
  refine zaa (.bool false) rfl (zae (.inl rfl) rfl) ?_;simp only [aP,lA,lZ,lS]
  refine zag (qv X Y false) rfl (zac rfl rfl b0 rfl Tryd.underlying40 rfl (iT _ _ _)) ?_;simp only [aP,lA,lZ,lS]
  refine zag (.bool true) rfl (zaf (args:=[qv X Y false]) rfl rfl (fun W => zab Tryd.func14 rfl rfl _ W) (fun W hW => onp_is kon.out kX.out kY.out W)) ?_;simp only [aP,lA,lZ,lS]
  refine zag (.bool false) rfl (zaz rfl rfl rfl) ?_;simp only [aP,lA,lZ,lS]
  refine zaa (.bool false) rfl (zaq rfl rfl rfl) ?_;simp only [aP,lA,lZ,lS]
  refine zaa (.bool false) rfl (zae (.inl rfl) rfl) ?_;simp only [aP,lA,lZ,lS]
  refine zag (ptrTo (w.heap.size + 1 + 1)) rfl (zad rfl rfl (fldG0 _ ·)) ?_;simp only [aP,lA,lZ,lS]
  refine zag (nv R) rfl (zac rfl rfl b2 rfl uN rfl (iN _)) ?_;simp only [aP,lA,lZ,lS]
  refine zag (.bool true) rfl (zaf (args:=[nv R]) rfl rfl (fun W => zab Tryd.func24 rfl rfl _ W) (fun W hW => zep kr.out kR.out W)) ?_;simp only [aP,lA,lZ,lS]
  refine zag (.bool false) rfl (zaz rfl rfl rfl) ?_;simp only [aP,lA,lZ,lS]
  refine zaa (.bool false) rfl (zaq rfl rfl rfl) ?_;simp only [aP,lA,lZ,lS]
  refine zaa (.bool false) rfl (zae (.inl rfl) rfl) ?_;simp only [aP,lA,lZ,lS]
  refine zag (.pointer (some ⟨w.heap.size + 1 + 1,4,none⟩)) rfl (zad rfl rfl (fldG1 _ ·)) ?_;simp only [aP,lA,lZ,lS]
  refine zag (nv S) rfl (zac rfl rfl b2 rfl uN rfl (iN _)) ?_;simp only [aP,lA,lZ,lS]
  refine zag (.bool true) rfl (zaf (args:=[nv S]) rfl rfl (fun W => zab Tryd.func24 rfl rfl _ W) (fun W hW => zep ks.out kS.out W)) ?_;simp only [aP,lA,lZ,lS]
  refine zag (.bool false) rfl (zaz rfl rfl rfl) ?_;simp only [aP,lA,lZ,lS]
  refine zaa (.bool false) rfl (zaq rfl rfl rfl) ?_;simp only [aP,lA,lZ,lS]
  exact zah
 refine zam rfl ?_
 intro w2 hE
 replace b0:=hE.block b0
 replace b1:=hE.block b1
 replace b2:=hE.block b2
 replace hx:=hx.trans hE
 clear hE
 go_upto_region 3 with (fail)
 refine wp_region_lit ?_
 refine zef (R:=fun t W' => ∃ b,t = ptrTo b ∧ Fn W' b ∧ Ext w2 W') (args:=[]) rfl rfl rfl (fun W => zab Tryd.func30 rfl rfl _ W) ((zfk w2).mono fun e W' ⟨⟨b,he,_,hF⟩,hE⟩ => ⟨_,he,b,rfl,hF,hE⟩) ?_
 rintro t0 w3 ⟨gf,rfl,hf,hE⟩
 replace b0:=hE.block b0
 replace b1:=hE.block b1
 replace b2:=hE.block b2
 replace hx:=hx.trans hE
 clear hE
 simp only [aP,lA,lZ,lS]
 go_upto_region 4 with (fail)
 refine' zaj (m:=7) (A:=_) (by kernel_rfl) ?h2a ?h2b
 case h2a =>
  refine zaa (ptrTo gf) rfl (zae (.inl rfl) rfl) ?_;simp only [aP,lA,lZ,lS]
  refine zaa (.pointer (some ⟨w.heap.size + 1 + 1,4,none⟩)) rfl (zad rfl rfl (fldG1 _ ·)) ?_;simp only [aP,lA,lZ,lS]
  refine zaa (nv S) rfl (zac rfl rfl b2 rfl uN rfl (iN _)) ?_;simp only [aP,lA,lZ,lS]
  refine zaa (.tuple #[nv t,.nilIface]) rfl (zaf (args:=[ptrTo gf,nv S]) rfl rfl (fun W => zab Tryd.func31 rfl rfl _ W) (fun W hW => ninv_p (may_ne ks.out) (zfx ks.out) kt.out (hf.ext hW))) ?_;simp only [aP,lA,lZ,lS]
  refine zaa (.tuple #[nv t,.nilIface]) rfl (zae (.inl rfl) rfl) ?_;simp only [aP,lA,lZ,lS]
  refine zaa (nv t) rfl (zar rfl rfl rfl) ?_;simp only [aP,lA,lZ,lS]
  refine zaa (.nilIface) rfl (zar rfl rfl rfl) ?_;simp only [aP,lA,lZ,lS]
  exact zah
 refine zbf _ _ rfl rfl rfl rfl rfl rfl rfl (hzN ·) (fun _ => rfl) (fun _ => rfl) (iN _) rfl (zbe _) ?_
 intro gt w4 hgt bt hE
 replace b0:=hE.block b0
 replace b1:=hE.block b1
 replace b2:=hE.block b2
 replace hf:=hf.ext hE
 replace hx:=hx.trans hE
 clear hE
 simp only [aP,lA,lZ,lS]
 clear hgt
 go_upto_region 5 with (fail)
 refine' zbn (m:=12) (A:=_) 13 (by kernel_rfl) (by kernel_rfl) (by kernel_rfl) ?h3a ?h3b
 case h3a =>
  refine zaa (ptrTo gf) rfl (zae (.inl rfl) rfl) ?_;simp only [aP,lA,lZ,lS]
  refine zaa (dgv y) rfl (zac rfl rfl b1 rfl Tryd.underlying38 rfl (iDg _)) ?_;simp only [aP,lA,lZ,lS]
  refine zaa (nv E) rfl (zaf (args:=[dgv y]) rfl rfl (fun W => zab Tryd.func34 rfl rfl _ W) (fun W hW => zfu ky.out kE.out W)) ?_;simp only [aP,lA,lZ,lS]
  refine zaa (nv t) rfl (zac rfl rfl bt rfl uN rfl (iN _)) ?_;simp only [aP,lA,lZ,lS]
  refine zaa (nv u) rfl (zaf (args:=[ptrTo gf,nv E,nv t]) rfl rfl (fun W => zab Tryd.func33 rfl rfl _ W) (fun W hW => nmul_p ku.out kEt.out (zhg kt.out) (hf.ext hW))) ?_;simp only [aP,lA,lZ,lS]
  refine zaa (ptrTo gf) rfl (zae (.inl rfl) rfl) ?_;simp only [aP,lA,lZ,lS]
  refine zaa (ptrTo (w.heap.size + 1 + 1)) rfl (zad rfl rfl (fldG0 _ ·)) ?_;simp only [aP,lA,lZ,lS]
  refine zaa (nv R) rfl (zac rfl rfl b2 rfl uN rfl (iN _)) ?_;simp only [aP,lA,lZ,lS]
  refine zaa (nv t) rfl (zac rfl rfl bt rfl uN rfl (iN _)) ?_;simp only [aP,lA,lZ,lS]
  refine zaa (nv v) rfl (zaf (args:=[ptrTo gf,nv R,nv t]) rfl rfl (fun W => zab Tryd.func33 rfl rfl _ W) (fun W hW => nmul_p kv.out kR.out (zhg kt.out) (hf.ext hW))) ?_;simp only [aP,lA,lZ,lS]
  refine zaa (qv X Y false) rfl (zac rfl rfl b0 rfl Tryd.underlying40 rfl (iT _ _ _)) ?_;simp only [aP,lA,lZ,lS]
  refine zaa (qv x z false) rfl (zaf (args:=[nv u,nv v,qv X Y false]) rfl rfl (fun W => zab Tryd.func32 rfl rfl _ W) (fun W hW => KS.out W)) ?_;simp only [aP,lA,lZ,lS]
  exact zah
 refine zcn _ _ rfl rfl rfl rfl rfl rfl rfl rfl rfl (by kernel_rfl) (by kernel_rfl) (by kernel_rfl) rfl rfl (hzT ·) (fun _ => rfl) (fun _ => rfl) (iT _ _ _) rfl (zdd _ _ _) ?_
 intro gc w5 hgc bc hE
 refine NoPanic.normal ?_
 replace b2:=hE.block b2
 replace hf:=hf.ext hE
 replace hx:=hx.trans hE
 clear hE
 simp only [aP,lA,lZ,lS]
 clear hgc
 go_upto_region 6 with (fail)
 refine' zcc (m:=13) (A:=_) 13 (by kernel_rfl) (by kernel_rfl) ?h4a ?h4b
 case h4a =>
  refine zaa (.pointer (some ⟨gc,8,none⟩)) rfl (zad rfl rfl (fldT2 _ ·)) ?_;simp only [aP,lA,lZ,lS]
  refine zaa (.bool false) rfl (zai rfl rfl bc rfl (zbr ·)) ?_;simp only [aP,lA,lZ,lS]
  refine zaa (.bool true) rfl (zaz rfl rfl rfl) ?_;simp only [aP,lA,lZ,lS]
  refine zaa (.bool true) rfl (zae (.inl rfl) rfl) ?_;simp only [aP,lA,lZ,lS]
  refine zag (ptrTo gf) rfl (zae (.inl rfl) rfl) ?_;simp only [aP,lA,lZ,lS]
  refine zag (ptrTo gc) rfl (zad rfl rfl (fldT0 _ ·)) ?_;simp only [aP,lA,lZ,lS]
  refine zag (nv x) rfl (zac rfl rfl bc rfl uN rfl (iN _)) ?_;simp only [aP,lA,lZ,lS]
  refine zag (nv m) rfl (zaf (args:=[ptrTo gf,nv x]) rfl rfl (fun W => zab Tryd.func35 rfl rfl _ W) (fun W hW => scut_calls km.out.1 km.out.2 (hf.ext hW))) ?_;simp only [aP,lA,lZ,lS]
  refine zag (ptrTo (w.heap.size + 1 + 1)) rfl (zad rfl rfl (fldG0 _ ·)) ?_;simp only [aP,lA,lZ,lS]
  refine zag (nv R) rfl (zac rfl rfl b2 rfl uN rfl (iN _)) ?_;simp only [aP,lA,lZ,lS]
  refine zag (.bool (decide (m = R))) rfl (made_eqn rfl rfl rfl (zdy km.out.1) kR.out) ?_;simp only [aP,lA,lZ,lS]
  refine zaa (.bool (decide (m = R))) rfl (zaq rfl rfl rfl) ?_;simp only [aP,lA,lZ,lS]
  refine zaa (.bool (decide (m = R))) rfl (zae (.inr rfl) rfl) ?_;simp only [aP,lA,lZ,lS]
  exact zah
 refine zbq rfl (by kernel_rfl) ?_
 intro w6 hE
 refine NoPanic.normal ?_
 replace hf:=hf.ext hE
 replace hx:=hx.trans hE
 clear hE
 go_wp2
 go_ret
 exact ⟨rfl,hx⟩
theorem sver_no {X Y R S : Nat} {f : Bool} (hX : X < top) (hY : Y < top) (hR : R < top) (hS : S < top) (h : onB X Y f = false) (y : Nat → Nat) (w : World) :
  Calls Tryd.prog 13 #[qv X Y f,dgv y,gv R S] w fun e w' => e = .returned (.bool false) ∧ Ext w w':=by
 cases f with
 | true => exact sver_far hX hY hR hS y w
 | false => exact sver_off hX hY hR hS h y w
theorem mod_mul_l (E t : Nat) : E * t % Pt.nn = E % Pt.nn * t % Pt.nn:=by
 have h1:=Nat.mul_mod E t Pt.nn
 have h2:=Nat.mul_mod (E % Pt.nn) t Pt.nn
 rw [Nat.mod_mod] at h2
 rw [h1,h2]
theorem sver_yes (p : Pt.Q) {R S : Nat} (hR : R < top) (hS : S < top) (y : Nat → Nat) (hy : ∀ j,y j < 256) (w : World) :
  Calls Tryd.prog 13 #[pv p,dgv y,gv R S] w fun e w' => e = .returned (.bool (Pt.verB p (num32 y) R S)) ∧ Ext w w':=by
 have hon:=onB_of p
 have hX:=(p_top p.1).1
 have hY:=(p_top p.1).2
 have hsum : Pt.sumOf p (num32 y) R S = Pt.grp.op (Pt.grp.mul (num32 y * Pt.iG Pt.nn S % Pt.nn) Pt.base) (Pt.grp.mul (R * Pt.iG Pt.nn S % Pt.nn) p):=by
  unfold Pt.sumOf
  rw [← mod_mul_l]
 unfold pv Pt.verB
 rw [inR_may,inR_may]
 cases hf : Pt.pFar p.1 with
 | true => exact sver_far hX hY hR hS y w
 | false =>
  rw [hf] at hon
  cases hr : mayB R with
  | false => exact sver_r hX hY hR hS hon hr y w
  | true =>
   cases hs : mayB S with
   | false => exact sver_s hX hY hR hS hon hr hs y w
   | true =>
    cases hc : Pt.pFar (Pt.sumOf p (num32 y) R S).1 with
    | true => exact sver_all_t (p:=p) y hX hY hR hS hon hr hs ⟨rfl,rfl,hf.symm⟩ hy rfl rfl rfl rfl rfl rfl hsum hc rfl w
    | false =>
     refine (sver_all_f (p:=p) (m:=Pt.pX (Pt.sumOf p (num32 y) R S).1 % Pt.nn) y hX hY hR hS hon hr hs ⟨rfl,rfl,hf.symm⟩ hy rfl rfl rfl rfl rfl rfl hsum hc rfl w).mono ?_
     rintro e w' ⟨rfl,hE⟩
     exact ⟨by simp only [Bool.not_false,Bool.true_and],hE⟩
end Go.Proofs.YtmfjigcdhijkjaaDoor
