/-
  Of C8 CM CR CD D4 UB UD D2 D3 E1.
-/
import Derived.Test.YthlbemnbmbmjhaaGreatDoorZM15
import Derived.Test.YthlbemnbmbmjhaaGreatDoorZM5
import Derived.Test.YthlbemnbmbmjhaaGreatDoorZM6
import Derived.Test.YthlbemnbmbmjhaaGreatDoorZM12
import Derived.Test.YthlbemnbmbmjhaaGreatDoorZM9
import Derived.Test.YthlbemnbmbmjhaaGreatDoorZM11
import Derived.Test.YthlbemnbmbmjhaaGreatDoorZM16
set_option maxRecDepth 1000000
set_option maxHeartbeats 20000000
namespace Go.Proofs.YthlbemnbmbmjhaaGreatDoor
open Go.RowKit
open Go.Value renaming int → vI
open Go.IntKind renaming u64 → vU
open Go.Act renaming put → aP
open List renaming setIfInBounds_toArray → lA, set_cons_zero → lZ, set_cons_succ → lS
theorem on_far0 {b : Nat} (Y : Nat) (hY : Y < top) {w : World} (hF : Fp w b) :
  Calls Tryz.prog 78 #[cv b,qv 0 Y true] w fun e w' => e = .returned (.bool (decide (Y = 0))) ∧ Ext w w':=by
 have kY:=veil hY
 clear hY
 obtain ⟨q,hq⟩ : ∃ q,q = decide (Y = 0):=⟨_,rfl⟩
 rw [← hq]
 have kq:=veil hq
 clear hq
 unfold cv qv cc fv qc
 go_enter Tryz.func78,Tryz.ntmps78
 go_upto_region 1 with (fail)
 refine zfy fun w1 hx b0 b1 => ?_
 have b0 : w1.heap[w.heap.size]? = some (.cells (cc b) 126 (0,0)):=b0
 have b1 : w1.heap[w.heap.size + 1]? = some (.cells (qc 0 Y true) 29 (0,0)):=b1
 have hf:=hF.ext hx
 clear hF
 refine' zau (m:=2) (A:=_) (by kernel_rfl) ?h1 ?h2
 case h1 =>
  refine zaa (.pointer (some ⟨w.heap.size + 1,8,none⟩)) rfl (zak rfl rfl (fldT2 _ ·)) ?_
  refine zaa (.bool true) rfl (zba rfl rfl b1 rfl (zbq ·)) ?_;simp only [aP,lA,lZ,lS]
  exact zar
 refine zay rfl ?_
 intro w2 hE
 replace b1:=hE.block b1
 replace hf:=hf.ext hE
 replace hx:=hx.trans hE
 clear hE
 go_upto_region 2 with (fail)
 refine' zby (m:=9) (A:=_) ?h2a ?h2b
 case h2a =>
  refine zaa (ptrTo (w.heap.size + 1)) rfl (zak rfl rfl (fldT0 _ ·)) ?_
  refine zaa (nv 0) rfl (zac rfl rfl b1 rfl uN rfl (iN _)) ?_;simp only [aP,lA,lZ,lS]
  refine zaa (.bool true) rfl (zag (args:=[nv 0]) rfl rfl (fun W => zab Tryz.func112 rfl rfl _ W) (fun W hW => zjc rfl W)) ?_
  refine zaa (.bool true) rfl (zae (.inl rfl) rfl) ?_;simp only [aP,lA,lZ,lS]
  refine zah (.pointer (some ⟨w.heap.size + 1,4,none⟩)) rfl (zak rfl rfl (fldT1 _ ·)) ?_
  refine zah (nv Y) rfl (zac rfl rfl b1 rfl uN rfl (iN _)) ?_;simp only [aP,lA,lZ,lS]
  refine zah (.bool q) rfl (zag (args:=[nv Y]) rfl rfl (fun W => zab Tryz.func112 rfl rfl _ W) (fun W hW => by rw [kq.out]; exact isz_calls Y kY.out W)) ?_
  refine zaa (.bool q) rfl (zav rfl rfl rfl) ?_;simp only [aP,lA,lZ,lS]
  refine zaa (.bool q) rfl (zae (.inr rfl) rfl) ?_;simp only [aP,lA,lZ,lS]
  exact zar
 refine zay rfl ?_
 intro w3 hE
 replace hf:=hf.ext hE
 replace hx:=hx.trans hE
 clear hE
 go_wp2
 go_ret
 exact ⟨rfl,hx⟩
theorem on_far1 {b : Nat} (X Y : Nat) (hX : X < top) (h0 : X ≠ 0) {w : World} (hF : Fp w b) :
  Calls Tryz.prog 78 #[cv b,qv X Y true] w fun e w' => e = .returned (.bool false) ∧ Ext w w':=by
 have kX:=veil hX
 have k0:=veil h0
 clear hX h0
 unfold cv qv cc fv qc
 go_enter Tryz.func78,Tryz.ntmps78
 go_upto_region 1 with (fail)
 refine zfy fun w1 hx b0 b1 => ?_
 have b0 : w1.heap[w.heap.size]? = some (.cells (cc b) 126 (0,0)):=b0
 have b1 : w1.heap[w.heap.size + 1]? = some (.cells (qc X Y true) 29 (0,0)):=b1
 have hf:=hF.ext hx
 clear hF
 refine' zau (m:=2) (A:=_) (by kernel_rfl) ?h1 ?h2
 case h1 =>
  refine zaa (.pointer (some ⟨w.heap.size + 1,8,none⟩)) rfl (zak rfl rfl (fldT2 _ ·)) ?_
  refine zaa (.bool true) rfl (zba rfl rfl b1 rfl (zbq ·)) ?_;simp only [aP,lA,lZ,lS]
  exact zar
 refine zay rfl ?_
 intro w2 hE
 replace b1:=hE.block b1
 replace hf:=hf.ext hE
 replace hx:=hx.trans hE
 clear hE
 go_upto_region 2 with (fail)
 refine' zby (m:=9) (A:=_) ?h2a ?h2b
 case h2a =>
  refine zaa (ptrTo (w.heap.size + 1)) rfl (zak rfl rfl (fldT0 _ ·)) ?_
  refine zaa (nv X) rfl (zac rfl rfl b1 rfl uN rfl (iN _)) ?_;simp only [aP,lA,lZ,lS]
  refine zaa (.bool false) rfl (zag (args:=[nv X]) rfl rfl (fun W => zab Tryz.func112 rfl rfl _ W) (fun W hW => isz_no k0.out kX.out W)) ?_
  refine zaa (.bool false) rfl (zae (.inl rfl) rfl) ?_;simp only [aP,lA,lZ,lS]
  refine zaw rfl ?_
  refine zaw rfl ?_;simp only [aP,lA,lZ,lS]
  refine zaw rfl ?_
  refine zaa (.bool false) rfl (zav rfl rfl rfl) ?_;simp only [aP,lA,lZ,lS]
  refine zaa (.bool false) rfl (zae (.inr rfl) rfl) ?_;simp only [aP,lA,lZ,lS]
  exact zar
 refine zay rfl ?_
 intro w3 hE
 replace hf:=hf.ext hE
 replace hx:=hx.trans hE
 clear hE
 go_wp2
 go_ret
 exact ⟨rfl,hx⟩
theorem on_out {b : Nat} (X Y : Nat) (hX : X < top) (h0 : ¬ X < Pt.pp) {w : World} (hF : Fp w b) :
  Calls Tryz.prog 78 #[cv b,qv X Y false] w fun e w' => e = .returned (.bool false) ∧ Ext w w':=by
 have kX:=veil hX
 have k0:=veil h0
 clear hX h0
 unfold cv qv cc fv qc
 go_enter Tryz.func78,Tryz.ntmps78
 go_upto_region 1 with (fail)
 refine zfy fun w1 hx b0 b1 => ?_
 have b0 : w1.heap[w.heap.size]? = some (.cells (cc b) 126 (0,0)):=b0
 have b1 : w1.heap[w.heap.size + 1]? = some (.cells (qc X Y false) 29 (0,0)):=b1
 have hf:=hF.ext hx
 clear hF
 refine' zau (m:=2) (A:=_) (by kernel_rfl) ?h1 ?h2
 case h1 =>
  refine zaa (.pointer (some ⟨w.heap.size + 1,8,none⟩)) rfl (zak rfl rfl (fldT2 _ ·)) ?_
  refine zaa (.bool false) rfl (zba rfl rfl b1 rfl (zbq ·)) ?_;simp only [aP,lA,lZ,lS]
  exact zar
 refine zay rfl ?_
 intro w2 hE
 replace b1:=hE.block b1
 replace hf:=hf.ext hE
 replace hx:=hx.trans hE
 clear hE
 go_upto_region 3 with (fail)
 refine' zdx (m:=12) (A:=_) 12 (by kernel_rfl) (by kernel_rfl) ?h2a ?h2b
 case h2a =>
  refine zaa (ptrTo (w.heap.size + 1)) rfl (zak rfl rfl (fldT0 _ ·)) ?_
  refine zaa (nv X) rfl (zac rfl rfl b1 rfl uN rfl (iN _)) ?_;simp only [aP,lA,lZ,lS]
  refine zaa (nv Pt.pp) rfl (zag (args:=[]) rfl rfl (fun W => zab Tryz.func109 rfl rfl _ W) (fun W hW => pP_is W)) ?_
  refine zaa (.int .i64 (cmpN X Pt.pp)) rfl (zag (args:=[nv X,nv Pt.pp]) rfl rfl (fun W => zab Tryz.func113 rfl rfl _ W) (fun W hW => cmp_no kX.out W)) ?_;simp only [aP,lA,lZ,lS]
  refine zaa (.bool true) rfl (zgs rfl rfl (cmp_no_ge k0.out)) ?_
  refine zaa (.bool true) rfl (zae (.inl rfl) rfl) ?_;simp only [aP,lA,lZ,lS]
  refine zaw rfl ?_
  refine zaw rfl ?_;simp only [aP,lA,lZ,lS]
  refine zaw rfl ?_
  refine zaw rfl ?_;simp only [aP,lA,lZ,lS]
  refine zaw rfl ?_
  refine zaa (.bool true) rfl (zav rfl rfl rfl) ?_;simp only [aP,lA,lZ,lS]
  exact zar
 refine zcu rfl (by kernel_rfl) ?_
 intro w3 hE
 refine NoPanic.normal ?_
 replace hf:=hf.ext hE
 replace hx:=hx.trans hE
 clear hE
 go_wp2
 go_ret
 exact ⟨rfl,hx⟩
theorem on_high {b : Nat} (X Y : Nat) (hX : X < Pt.pp) (hY : Y < top) (h0 : ¬ Y < Pt.pp) {w : World} (hF : Fp w b) :
  Calls Tryz.prog 78 #[cv b,qv X Y false] w fun e w' => e = .returned (.bool false) ∧ Ext w w':=by
 have kX:=veil hX
 have kY:=veil hY
 have k0:=veil h0
 clear hX hY h0
 unfold cv qv cc fv qc
 go_enter Tryz.func78,Tryz.ntmps78
 go_upto_region 1 with (fail)
 refine zfy fun w1 hx b0 b1 => ?_
 have b0 : w1.heap[w.heap.size]? = some (.cells (cc b) 126 (0,0)):=b0
 have b1 : w1.heap[w.heap.size + 1]? = some (.cells (qc X Y false) 29 (0,0)):=b1
 have hf:=hF.ext hx
 clear hF
 refine' zau (m:=2) (A:=_) (by kernel_rfl) ?h1 ?h2
 case h1 =>
  refine zaa (.pointer (some ⟨w.heap.size + 1,8,none⟩)) rfl (zak rfl rfl (fldT2 _ ·)) ?_
  refine zaa (.bool false) rfl (zba rfl rfl b1 rfl (zbq ·)) ?_;simp only [aP,lA,lZ,lS]
  exact zar
 refine zay rfl ?_
 intro w2 hE
 replace b1:=hE.block b1
 replace hf:=hf.ext hE
 replace hx:=hx.trans hE
 clear hE
 go_upto_region 3 with (fail)
 refine' zdx (m:=12) (A:=_) 12 (by kernel_rfl) (by kernel_rfl) ?h2a ?h2b
 case h2a =>
  refine zaa (ptrTo (w.heap.size + 1)) rfl (zak rfl rfl (fldT0 _ ·)) ?_
  refine zaa (nv X) rfl (zac rfl rfl b1 rfl uN rfl (iN _)) ?_;simp only [aP,lA,lZ,lS]
  refine zaa (nv Pt.pp) rfl (zag (args:=[]) rfl rfl (fun W => zab Tryz.func109 rfl rfl _ W) (fun W hW => pP_is W)) ?_
  refine zaa (.int .i64 (-1)) rfl (zag (args:=[nv X,nv Pt.pp]) rfl rfl (fun W => zab Tryz.func113 rfl rfl _ W) (fun W hW => cmp_in kX.out W)) ?_;simp only [aP,lA,lZ,lS]
  refine zaa (.bool false) rfl (zgs rfl rfl (by decide)) ?_
  refine zaa (.bool false) rfl (zae (.inl rfl) rfl) ?_;simp only [aP,lA,lZ,lS]
  refine zah (.pointer (some ⟨w.heap.size + 1,4,none⟩)) rfl (zak rfl rfl (fldT1 _ ·)) ?_
  refine zah (nv Y) rfl (zac rfl rfl b1 rfl uN rfl (iN _)) ?_;simp only [aP,lA,lZ,lS]
  refine zah (nv Pt.pp) rfl (zag (args:=[]) rfl rfl (fun W => zab Tryz.func109 rfl rfl _ W) (fun W hW => pP_is W)) ?_
  refine zah (.int .i64 (cmpN Y Pt.pp)) rfl (zag (args:=[nv Y,nv Pt.pp]) rfl rfl (fun W => zab Tryz.func113 rfl rfl _ W) (fun W hW => cmp_no kY.out W)) ?_;simp only [aP,lA,lZ,lS]
  refine zah (.bool true) rfl (zgs rfl rfl (cmp_no_ge k0.out)) ?_
  refine zaa (.bool true) rfl (zav rfl rfl rfl) ?_;simp only [aP,lA,lZ,lS]
  exact zar
 refine zcu rfl (by kernel_rfl) ?_
 intro w3 hE
 refine NoPanic.normal ?_
 replace hf:=hf.ext hE
 replace hx:=hx.trans hE
 clear hE
 go_wp2
 go_ret
 exact ⟨rfl,hx⟩
theorem on_near {b : Nat} (x y : Fe) {w : World} (hF : Fp w b) :
  Calls Tryz.prog 78 #[cv b,qv x.val y.val false] w fun e w' => e = .returned (.bool (decide ((y * y).val = (x * x * x - (x + x + x) + Pt.F Pt.bb).val))) ∧ Ext w w':=by
 obtain ⟨sq,hsq⟩ : ∃ t : Fe,t = x * x:=⟨_,rfl⟩
 obtain ⟨cube,hcube⟩ : ∃ t : Fe,t = sq * x:=⟨_,rfl⟩
 obtain ⟨lhs,hlhs⟩ : ∃ t : Fe,t = y * y:=⟨_,rfl⟩
 obtain ⟨tr,htr⟩ : ∃ t : Fe,t = x + x + x:=⟨_,rfl⟩
 obtain ⟨d,hd⟩ : ∃ t : Fe,t = cube - tr:=⟨_,rfl⟩
 obtain ⟨r,hr⟩ : ∃ t : Fe,t = d + Pt.F Pt.bb:=⟨_,rfl⟩
 have hfin : x * x * x - (x + x + x) + Pt.F Pt.bb = r:=by
  subst hr hd htr hlhs hcube hsq
  rfl
 rw [hfin,← hlhs]
 clear hfin
 have ksq:=veil hsq
 have kcube:=veil hcube
 have klhs:=veil hlhs
 have ktr:=veil htr
 have kd:=veil hd
 have kr:=veil hr
 clear hr hd htr hlhs hcube hsq
 have kx:=veil x.isLt
 have ky:=veil y.isLt
 unfold cv qv cc fv qc
 go_enter Tryz.func78,Tryz.ntmps78
 go_upto_region 1 with (fail)
 refine zfy fun w1 hx b0 b1 => ?_
 have b0 : w1.heap[w.heap.size]? = some (.cells (cc b) 126 (0,0)):=b0
 have b1 : w1.heap[w.heap.size + 1]? = some (.cells (qc x.val y.val false) 29 (0,0)):=b1
 have hf:=hF.ext hx
 clear hF
 refine' zau (m:=2) (A:=_) (by kernel_rfl) ?h1 ?h2
 case h1 =>
  refine zaa (.pointer (some ⟨w.heap.size + 1,8,none⟩)) rfl (zak rfl rfl (fldT2 _ ·)) ?_
  refine zaa (.bool false) rfl (zba rfl rfl b1 rfl (zbq ·)) ?_;simp only [aP,lA,lZ,lS]
  exact zar
 refine zay rfl ?_
 intro w2 hE
 replace b0:=hE.block b0
 replace b1:=hE.block b1
 replace hf:=hf.ext hE
 replace hx:=hx.trans hE
 clear hE
 go_upto_region 3 with (fail)
 refine' zdx (m:=12) (A:=_) 12 (by kernel_rfl) (by kernel_rfl) ?h2a ?h2b
 case h2a =>
  refine zaa (ptrTo (w.heap.size + 1)) rfl (zak rfl rfl (fldT0 _ ·)) ?_
  refine zaa (nv x.val) rfl (zac rfl rfl b1 rfl uN rfl (iN _)) ?_;simp only [aP,lA,lZ,lS]
  refine zaa (nv Pt.pp) rfl (zag (args:=[]) rfl rfl (fun W => zab Tryz.func109 rfl rfl _ W) (fun W hW => pP_is W)) ?_
  refine zaa (.int .i64 (-1)) rfl (zag (args:=[nv x.val,nv Pt.pp]) rfl rfl (fun W => zab Tryz.func113 rfl rfl _ W) (fun W hW => cmp_in kx.out W)) ?_;simp only [aP,lA,lZ,lS]
  refine zaa (.bool false) rfl (zgs rfl rfl (by decide)) ?_
  refine zaa (.bool false) rfl (zae (.inl rfl) rfl) ?_;simp only [aP,lA,lZ,lS]
  refine zah (.pointer (some ⟨w.heap.size + 1,4,none⟩)) rfl (zak rfl rfl (fldT1 _ ·)) ?_
  refine zah (nv y.val) rfl (zac rfl rfl b1 rfl uN rfl (iN _)) ?_;simp only [aP,lA,lZ,lS]
  refine zah (nv Pt.pp) rfl (zag (args:=[]) rfl rfl (fun W => zab Tryz.func109 rfl rfl _ W) (fun W hW => pP_is W)) ?_
  refine zah (.int .i64 (-1)) rfl (zag (args:=[nv y.val,nv Pt.pp]) rfl rfl (fun W => zab Tryz.func113 rfl rfl _ W) (fun W hW => cmp_in ky.out W)) ?_;simp only [aP,lA,lZ,lS]
  refine zah (.bool false) rfl (zgs rfl rfl (by decide)) ?_
  refine zaa (.bool false) rfl (zav rfl rfl rfl) ?_;simp only [aP,lA,lZ,lS]
  exact zar
 refine zcu rfl (by kernel_rfl) ?_
 intro w3 hE
 refine NoPanic.normal ?_
 replace b0:=hE.block b0
 replace b1:=hE.block b1
 replace hf:=hf.ext hE
 replace hx:=hx.trans hE
 clear hE
 go_upto_region 5 with (fail)
 refine' zhb (m:=12) (A:=_) 13 (by kernel_rfl) (by kernel_rfl) (by kernel_rfl) ?h3a ?h3b
 case h3a =>
  refine zaa (.pointer (some ⟨w.heap.size,2,none⟩)) rfl (zak rfl rfl (fldK2 _ ·)) ?_
  refine zaa (fv 89 b) rfl (zba rfl rfl b0 rfl (zgu ·)) ?_;simp only [aP,lA,lZ,lS]
  refine zaa (.pointer (some ⟨w.heap.size,2,none⟩)) rfl (zak rfl rfl (fldK2 _ ·)) ?_
  refine zaa (fv 89 b) rfl (zba rfl rfl b0 rfl (zgu ·)) ?_;simp only [aP,lA,lZ,lS]
  refine zaa (ptrTo (w.heap.size + 1)) rfl (zak rfl rfl (fldT0 _ ·)) ?_
  refine zaa (nv x.val) rfl (zac rfl rfl b1 rfl uN rfl (iN _)) ?_;simp only [aP,lA,lZ,lS]
  refine zaa (ptrTo (w.heap.size + 1)) rfl (zak rfl rfl (fldT0 _ ·)) ?_
  refine zaa (nv x.val) rfl (zac rfl rfl b1 rfl uN rfl (iN _)) ?_;simp only [aP,lA,lZ,lS]
  refine zaa (nv sq.val) rfl (ziw (args:=[nv x.val,nv x.val]) rfl rfl rfl (he_kMul _ ·) (fun W hW => zbg ksq.out (hf.ext hW))) ?_
  refine zaa (ptrTo (w.heap.size + 1)) rfl (zak rfl rfl (fldT0 _ ·)) ?_;simp only [aP,lA,lZ,lS]
  refine zaa (nv x.val) rfl (zac rfl rfl b1 rfl uN rfl (iN _)) ?_
  refine zaa (nv cube.val) rfl (ziw (args:=[nv sq.val,nv x.val]) rfl rfl rfl (he_kMul _ ·) (fun W hW => zbg kcube.out (hf.ext hW))) ?_;simp only [aP,lA,lZ,lS]
  exact zar
 refine rest_var _ _ rfl rfl rfl rfl rfl rfl rfl rfl rfl (by kernel_rfl) (by kernel_rfl) (by kernel_rfl) rfl rfl (hzN ·) (fun _ => rfl) (fun _ => rfl) (iN _) rfl (zed _) ?_
 intro gcube w4 hgcube bcube hE
 refine NoPanic.normal ?_
 replace b0:=hE.block b0
 replace b1:=hE.block b1
 replace hf:=hf.ext hE
 replace hx:=hx.trans hE
 clear hE
 simp only [aP,lA,lZ,lS]
 clear hgcube
 go_upto_region 6 with (fail)
 refine' zhb (m:=21) (A:=_) 21 (by kernel_rfl) (by kernel_rfl) (by kernel_rfl) ?h4a ?h4b
 case h4a =>
  refine zaa (.pointer (some ⟨w.heap.size,2,none⟩)) rfl (zak rfl rfl (fldK2 _ ·)) ?_
  refine zaa (fv 89 b) rfl (zba rfl rfl b0 rfl (zgu ·)) ?_;simp only [aP,lA,lZ,lS]
  refine zaa (.pointer (some ⟨w.heap.size + 1,4,none⟩)) rfl (zak rfl rfl (fldT1 _ ·)) ?_
  refine zaa (nv y.val) rfl (zac rfl rfl b1 rfl uN rfl (iN _)) ?_;simp only [aP,lA,lZ,lS]
  refine zaa (.pointer (some ⟨w.heap.size + 1,4,none⟩)) rfl (zak rfl rfl (fldT1 _ ·)) ?_
  refine zaa (nv y.val) rfl (zac rfl rfl b1 rfl uN rfl (iN _)) ?_;simp only [aP,lA,lZ,lS]
  refine zaa (nv lhs.val) rfl (ziw (args:=[nv y.val,nv y.val]) rfl rfl rfl (he_kMul _ ·) (fun W hW => zbg klhs.out (hf.ext hW))) ?_
  refine zaa (ptrTo w.heap.size) rfl (zak rfl rfl (fldK0 _ ·)) ?_;simp only [aP,lA,lZ,lS]
  refine zaa (fv 110 b) rfl (zba rfl rfl b0 rfl (zgu ·)) ?_
  refine zaa (.pointer (some ⟨w.heap.size,1,none⟩)) rfl (zak rfl rfl (fldK1 _ ·)) ?_;simp only [aP,lA,lZ,lS]
  refine zaa (fv 111 b) rfl (zba rfl rfl b0 rfl (zgu ·)) ?_
  refine zaa (nv cube.val) rfl (zac rfl rfl bcube rfl uN rfl (iN _)) ?_;simp only [aP,lA,lZ,lS]
  refine zaa (cv b) rfl (zac rfl rfl b0 rfl Tryz.underlying126 rfl (iK _)) ?_
  refine zaa (ptrTo (w.heap.size + 1)) rfl (zak rfl rfl (fldT0 _ ·)) ?_;simp only [aP,lA,lZ,lS]
  refine zaa (nv x.val) rfl (zac rfl rfl b1 rfl uN rfl (iN _)) ?_
  refine zaa (nv tr.val) rfl (zag (args:=[cv b,nv x.val]) rfl rfl (fun W => zab Tryz.func114 rfl rfl _ W) (fun W hW => trp_calls ktr.out (hf.ext hW))) ?_;simp only [aP,lA,lZ,lS]
  refine zaa (nv d.val) rfl (ziw (args:=[nv cube.val,nv tr.val]) rfl rfl rfl (he_kSub _ ·) (fun W hW => zdc kd.out (hf.ext hW))) ?_
  refine zaa (nv ((Pt.F Pt.bb : Fe).val)) rfl (zag (args:=[]) rfl rfl (fun W => zab Tryz.func115 rfl rfl _ W) (fun W hW => bb_is W)) ?_;simp only [aP,lA,lZ,lS]
  refine zaa (nv r.val) rfl (ziw (args:=[nv d.val,nv ((Pt.F Pt.bb : Fe).val)]) rfl rfl rfl (he_kAdd _ ·) (fun W hW => kadd_p kr.out (hf.ext hW))) ?_
  refine zaa (.bool (decide (lhs.val = r.val))) rfl (made_eqn rfl rfl rfl (zdk _) (zdk _)) ?_;simp only [aP,lA,lZ,lS]
  refine zaa (.bool (decide (lhs.val = r.val))) rfl (zae (.inr rfl) rfl) ?_;simp only [aP,lA,lZ,lS]
  exact zar
 refine zcu rfl (by kernel_rfl) ?_
 intro w5 hE
 refine NoPanic.normal ?_
 replace hf:=hf.ext hE
 replace hx:=hx.trans hE
 clear hE
 go_wp2
 go_ret
 exact ⟨rfl,hx⟩
def Rep (x y z : Fe) : Pt.P Pt.pp → Prop
 | none => z = 0
 | some (X,Y) => z ≠ 0 ∧ x = X * (z * z) ∧ y = Y * (z * z * z)
section
variable {n : Nat} [NeZero n]
theorem rt_m {X Y z l x Z s u : Fin n} (hl : l * (Y + Y) = 3 * (X * X - 1)) (hx : x = X * (z * z)) (hZ : Z = Y * (z * z * z) * z + Y * (z * z * z) * z) (hs : s = x - z * z) (hu : u = x + z * z) : s * u + s * u + s * u = l * Z:=by
 subst hs hu hx hZ
 have h : l * (Y * (z * z * z) * z + Y * (z * z * z) * z) = l * (Y + Y) * (z * z * z * z):=by grobner
 rw [h,hl]
 grobner
theorem rt_c {X Y z x y Z : Fin n} (hx : x = X * (z * z)) (hy : y = Y * (z * z * z)) (hZ : Z = y * z + y * z) : (x * (y * y) + x * (y * y)) + (x * (y * y) + x * (y * y)) = X * (Z * Z):=by
 subst hZ hy hx
 grobner
theorem rt_x {m l Z c X : Fin n} (hm : m = l * Z) (hc : c = X * (Z * Z)) : m * m - (c + c) = (l * l - X - X) * (Z * Z):=by
 subst hm hc
 grobner
theorem rt_t {Y z y Z : Fin n} (hy : y = Y * (z * z * z)) (hZ : Z = y * z + y * z) : ((y * y * (y * y) + y * y * (y * y)) + (y * y * (y * y) + y * y * (y * y))) + ((y * y * (y * y) + y * y * (y * y)) + (y * y * (y * y) + y * y * (y * y))) = Y * (Z * Z * Z):=by
 subst hZ hy
 grobner
theorem rt_y {m l Z c X x3 X3 t Y : Fin n} (hm : m = l * Z) (hc : c = X * (Z * Z)) (hx : x3 = X3 * (Z * Z)) (ht : t = Y * (Z * Z * Z)) : m * (c - x3) - t = (l * (X - X3) - Y) * (Z * Z * Z):=by
 subst hm hc hx ht
 grobner
theorem rp_run {X1 X2 z x : Fin n} (hx : x = X1 * (z * z)) : X2 * (z * z) - x = (X2 - X1) * (z * z):=by subst hx; grobner
theorem rp_rise {Y1 Y2 z y : Fin n} (hy : y = Y1 * (z * z * z)) : Y2 * (z * z * z) - y = (Y2 - Y1) * (z * z * z):=by subst hy; grobner
theorem rp_l {X1 X2 Y1 Y2 z l run Z : Fin n} (hl : l * (X2 - X1) = Y2 - Y1) (hr : run = (X2 - X1) * (z * z)) (hZ : Z = z * run) : (Y2 - Y1) * (z * z * z) = l * Z:=by
 subst hZ hr
 rw [← hl]
 grobner
theorem rp_x {X1 X2 z l run Z rise x : Fin n} (hx : x = X1 * (z * z)) (hr : run = (X2 - X1) * (z * z)) (hZ : Z = z * run) (hs : rise = l * Z) :
  rise * rise - run * run * run - (x * (run * run) + x * (run * run)) = (l * l - X1 - X2) * (Z * Z):=by
 subst hs hZ hr hx
 grobner
theorem rp_y {X1 Y1 X2 z l run Z rise x y x3 X3 : Fin n} (hx : x = X1 * (z * z)) (hy : y = Y1 * (z * z * z)) (hr : run = (X2 - X1) * (z * z)) (hZ : Z = z * run) (hs : rise = l * Z) (h3 : x3 = X3 * (Z * Z)) :
  rise * (x * (run * run) - x3) - y * (run * run * run) = (l * (X1 - X3) - Y1) * (Z * Z * Z):=by
 subst h3 hs hZ hr hx hy
 grobner
theorem rf_x {X x z t : Fin n} (hx : x = X * (z * z)) (ht : z * t = 1) : x * (t * t) = X:=by
 subst hx
 have h : X * (z * z) * (t * t) = X * (z * t) * (z * t):=by grobner
 rw [h,ht]
 grobner
theorem rf_y {Y y z t : Fin n} (hy : y = Y * (z * z * z)) (ht : z * t = 1) : y * (t * t * t) = Y:=by
 subst hy
 have h : Y * (z * z * z) * (t * t * t) = Y * (z * t) * (z * t) * (z * t):=by grobner
 rw [h,ht]
 grobner
theorem three_x (x : Fin n) : x + x + x = 3 * x:=by grobner
theorem opp_of {y1 y2 : Fin n} (h : (y1 - y2) * (y1 - (0 - y2)) = 0) (hz : ∀ x y : Fin n,x * y = 0 → x = 0 ∨ y = 0) (hn : y1 ≠ y2) : y1 = 0 - y2:=by
 rcases hz _ _ h with h | h
 ·
  exact absurd (Pt.eq_of_sub h) hn
 ·
  exact Pt.eq_of_sub h
theorem opp_sq {y1 y2 : Fin n} (h : y1 * y1 = y2 * y2) : (y1 - y2) * (y1 - (0 - y2)) = 0:=by grobner
end
theorem fe_ne {x : Fe} (h : x ≠ 0) : x.val ≠ 0:=fun e => h (Fin.ext (by rw [e,zgi]))
theorem fe_z {x : Fe} (h : x = 0) : x.val = 0:=by rw [h,zgi]
theorem noz {x y : Fe} (hx : x ≠ 0) (hy : y ≠ 0) : x * y ≠ 0:=fun e => by
 rcases Pt.good.hz _ _ e with h | h
 ·
  exact hx h
 ·
  exact hy h
section
variable {n : Nat} [NeZero n]
theorem r0 (y : Fin n) : y * 0 + y * 0 = 0:=by grobner
theorem r1 (Y z : Fin n) : Y * (z * z * z) * z + Y * (z * z * z) * z = (Y + Y) * (z * z * (z * z)):=by grobner
theorem r2 (u i d : Fin n) (h : d * i = 1) : u * i * d = u:=by
 have e : u * i * d = u * (d * i):=by grobner
 rw [e,h]
 grobner
theorem r3 (X : Fin n) : X = X * (1 * 1):=by grobner
theorem r4 (X : Fin n) : X = X * (1 * 1 * 1):=by grobner
theorem r5 (X z : Fin n) : (X - X) * z = 0:=by grobner
end
theorem rep_twice {x y z : Fe} {p : Pt.P Pt.pp} (hp : Pt.E256.on p) (h : Rep x y z p) : Rep (twice3 x y z).1 (twice3 x y z).2.1 (twice3 x y z).2.2 (Pt.E256.add p p):=by
 rcases p with _ | ⟨X,Y⟩
 ·
  have hz : z = 0:=h
  subst hz
  exact r0 y
 ·
  obtain ⟨hz,hx,hy⟩:=h
  have hd:=Pt.down_same hp
  have hn : ¬ (X = X ∧ Y = 0 - Y):=fun e => hd ((Pt.ring_neg _ _).1 e.2)
  rw [Pt.add_near hn,Pt.lam_same]
  have hl:=r2 (3 * (X * X - 1)) _ _ (Pt.good.hinv (Y + Y) hd)
  generalize 3 * (X * X - 1) * Pt.E256.inv (Y + Y) = l at hl ⊢
  have hZ : y * z + y * z = Y * (z * z * z) * z + Y * (z * z * z) * z:=by rw [hy]
  have hm:=rt_m hl hx hZ rfl rfl
  have hc:=rt_c hx hy rfl
  have h3:=rt_x hm hc
  refine ⟨?_,h3,rt_y hm hc h3 (rt_t hy rfl)⟩
  show y * z + y * z ≠ 0
  rw [hZ,r1]
  exact noz hd (noz (noz hz hz) (noz hz hz))
def qvP (p : Pt.P Pt.pp) : Value:=qv (Pt.pX p) (Pt.pY p) (Pt.pFar p)
theorem twice_rep {x y z : Fe} {p : Pt.P Pt.pp} (hp : Pt.E256.on p) (h : Rep x y z p) : ∃ x' y' z' : Fe,Rep x' y' z' (Pt.E256.add p p) ∧
  ∀ (b : Nat) (w : World),Fp w b → Calls Tryz.prog 146 #[cv b,sv x.val y.val z.val] w fun e w' => e = .returned (sv x'.val y'.val z'.val) ∧ Ext w w' :=
 ⟨_,_,_,rep_twice hp h,fun _ _ hF => twice_calls x y z hF⟩
theorem plus_rep {x y z : Fe} {p q : Pt.P Pt.pp} (hp : Pt.E256.on p) (hq : Pt.E256.on q) (h : Rep x y z p) : ∃ x' y' z' : Fe,Rep x' y' z' (Pt.E256.add p q) ∧
  ∀ (b : Nat) (w : World),Fp w b → Calls Tryz.prog 147 #[cv b,sv x.val y.val z.val,qvP q] w fun e w' => e = .returned (sv x'.val y'.val z'.val) ∧ Ext w w':=by
 rcases q with _ | ⟨X2,Y2⟩
 ·
  rw [Pt.add_none]
  exact ⟨_,_,_,h,fun _ _ hF => plus_far x.val y.val z.val 0 0 hF⟩
 rcases p with _ | ⟨X1,Y1⟩
 ·
  have hz : z = 0:=h
  subst hz
  rw [Pt.none_add,zgi]
  refine ⟨X2,Y2,1,⟨?_,r3 X2,r4 Y2⟩,fun b w hF => ?_⟩
  ·
   intro e
   have:=congrArg Fin.val e
   rw [v_one,zgi] at this
   exact absurd this (by decide)
  ·
   rw [v_one]
   exact plus_lift x.val y.val X2.val Y2.val hF
 ·
  obtain ⟨hz,hx,hy⟩:=h
  have hz3 : z * z * z ≠ 0:=noz (noz hz hz) hz
  have hrun : runOf x z X2 = (X2 - X1) * (z * z):=rp_run hx
  have hrise : riseOf y z Y2 = (Y2 - Y1) * (z * z * z):=rp_rise hy
  by_cases hX : X1 = X2
  ·
   subst hX
   have h0 : (runOf x z X1).val = 0:=fe_z (by rw [hrun]; exact r5 _ _)
   by_cases hY : Y1 = Y2
   ·
    subst hY
    have h1 : (riseOf y z Y1).val = 0:=fe_z (by rw [hrise]; exact r5 _ _)
    exact ⟨_,_,_,rep_twice hp ⟨hz,hx,hy⟩,fun _ _ hF => plus_same x y z X1 Y1 (fe_ne hz) h0 h1 hF⟩
   ·
    have h1 : (riseOf y z Y2).val ≠ 0:=fe_ne (by rw [hrise]; exact noz (fun e => hY (Pt.eq_of_sub e).symm) hz3)
    have he : Y1 * Y1 = Y2 * Y2:=by
     have e1 : Y1 * Y1 = _:=(Pt.on_iff X1 Y1).1 hp
     have e2 : Y2 * Y2 = _:=(Pt.on_iff X1 Y2).1 hq
     rw [e1,e2]
    have ho:=opp_of (opp_sq he) Pt.good.hz hY
    rw [Pt.add_far ⟨rfl,ho⟩]
    refine ⟨0,0,0,rfl,fun b w hF => ?_⟩
    rw [zgi]
    exact plus_opp x y z X1 Y2 (fe_ne hz) h0 h1 hF
  ·
   have hd : X2 - X1 ≠ 0:=fun e => hX (Pt.eq_of_sub e).symm
   have h0 : runOf x z X2 ≠ 0:=by rw [hrun]; exact noz hd (noz hz hz)
   rw [Pt.add_near (fun e => hX e.1),Pt.lam_else (fun e => hX e.1)]
   have hl:=r2 (Y2 - Y1) _ _ (Pt.good.hinv (X2 - X1) hd)
   generalize (Y2 - Y1) * Pt.E256.inv (X2 - X1) = l at hl ⊢
   have hs : riseOf y z Y2 = l * (z * runOf x z X2):=by rw [hrise]; exact rp_l hl hrun rfl
   have h3:=rp_x (X2:=X2) hx hrun rfl hs
   exact ⟨_,_,_,⟨noz hz h0,h3,rp_y (X2:=X2) hx hy hrun rfl hs h3⟩,fun _ _ hF => plus_else x y z X2 Y2 (fe_ne hz) (fe_ne h0) hF⟩
theorem lift_rep (p : Pt.P Pt.pp) : ∃ x y z : Fe,Rep x y z p ∧ ∀ w,Calls Tryz.prog 144 #[qvP p] w fun e w' => e = .returned (sv x.val y.val z.val) ∧ Ext w w':=by
 rcases p with _ | ⟨X,Y⟩
 ·
  refine ⟨0,0,0,rfl,fun w => ?_⟩
  rw [zgi]
  exact lift_far 0 0 w
 ·
  refine ⟨X,Y,1,⟨?_,r3 X,r4 Y⟩,fun w => ?_⟩
  ·
   intro e
   have:=congrArg Fin.val e
   rw [v_one,zgi] at this
   exact absurd this (by decide)
  ·
   rw [v_one]
   exact lift_near X.val Y.val w
theorem flat_rep {b : Nat} {x y z : Fe} {p : Pt.P Pt.pp} (h : Rep x y z p) {w : World} (hF : Fp w b) :
  Calls Tryz.prog 148 #[cv b,sv x.val y.val z.val] w fun e w' => e = .returned (qvP p) ∧ Ext w w':=by
 rcases p with _ | ⟨X,Y⟩
 ·
  have hz : z = 0:=h
  subst hz
  rw [zgi]
  exact flat_far x.val y.val hF
 ·
  obtain ⟨hz,hx,hy⟩:=h
  have ht:=Pt.good.hinv z hz
  refine (flat_near x y z hz hF).mono fun _ _ ⟨he,hw⟩ => ⟨?_,hw⟩
  rw [he]
  have e1 : (flat2 x y z).1 = X:=rf_x hx ht
  have e2 : (flat2 x y z).2 = Y:=rf_y hy ht
  rw [e1,e2]
  rfl
theorem on_calls {b : Nat} (X Y : Nat) (f : Bool) (hX : X < top) (hY : Y < top) {w : World} (hF : Fp w b) :
  Calls Tryz.prog 78 #[cv b,qv X Y f] w fun e w' => e = .returned (.bool (onB X Y f)) ∧ Ext w w':=by
 unfold onB
 cases f with
 | true =>
  by_cases h0 : X = 0
  ·
   subst h0
   simp only [if_true,decide_true,Bool.true_and]
   exact on_far0 Y hY hF
  ·
   simp only [if_true,h0,decide_false,Bool.false_and]
   exact on_far1 X Y hX h0 hF
 | false =>
  by_cases hx : X < Pt.pp
  ·
   by_cases hy : Y < Pt.pp
   ·
    simp only [Bool.false_eq_true,if_false,hx,hy,decide_true,Bool.true_and]
    have k:=on_near (b:=b) ⟨X,hx⟩ ⟨Y,hy⟩ hF
    rw [three_x,← right_val,← Pt.v_mul] at k
    exact k
   ·
    simp only [Bool.false_eq_true,if_false,hx,hy,decide_true,decide_false,Bool.true_and,Bool.false_and]
    exact on_high X Y hx hY hy hF
  ·
   simp only [Bool.false_eq_true,if_false,hx,decide_false,Bool.false_and]
   exact on_out X Y hX hx hF
theorem on_yes {b : Nat} (q : Pt.Q) {w : World} (hF : Fp w b) : Calls Tryz.prog 78 #[cv b,qvP q.1] w fun e w' => e = .returned (.bool true) ∧ Ext w w':=by
 have k:=on_calls (Pt.pX q.1) (Pt.pY q.1) (Pt.pFar q.1) (p_top q.1).1 (p_top q.1).2 hF
 rw [onB_of] at k
 exact k
theorem Fp.but {w W : World} {b r : Nat} (h : Fp w b) (hB : But r w W) (hne : b ≠ r) : Fp W b:=by
 obtain ⟨N,Q,h1,h2⟩:=h
 exact ⟨N,Q,h1,h2.of_block (hB.block b h2.lt (by intro e; simp at e; exact hne e))⟩
theorem on_is (X Y : Nat) (f : Bool) (hX : X < top) (hY : Y < top) (w : World) :
  Calls Tryz.prog 47 #[qv X Y f] w fun e w' => e = .returned (.bool (onB X Y f)) ∧ Ext w w':=by
 have KO:=veil (fun (b : Nat) (w : World) (hF : Fp w b) => on_calls X Y f hX hY hF)
 obtain ⟨r,hr⟩ : ∃ r,r = onB X Y f:=⟨_,rfl⟩
 rw [← hr] at KO ⊢
 clear hX hY hr
 unfold qv qc
 go_enter Tryz.func47,Tryz.ntmps47
 go_upto_region 1 with (fail)
 refine zck fun w1 hx b0 => ?_
 have b0 : w1.heap[w.heap.size]? = some (.cells (qc X Y f) 29 (0,0)):=b0
 refine wp_region_noPanic ?_
 refine wp_region_held_drew (S:=fun W => Ext w1 W) (by kernel_rfl) (Ext.drew _) (fun hH => ?_)
 refine wpAnyH_take (i:=1) (v:=qv X Y f) rfl (by kernel_rfl) (by kernel_rfl) (by decide +kernel) (fun _ _ _ h => h) (yieldsIf_load_mid (by rfl) _ _ rfl _ _ rfl (qc X Y f).toList _ (fun W hW j v hv => by rw [cell_of_row W _ _ (qc X Y f) 29 (0,0) (hW.block b0),Nat.zero_add]; simpa using hv) Tryz.underlying29 rfl (iT X Y f)) hH ?_
 refine wpAnyH_ready (rs:=[0]) (by decide +kernel) (by simp) ?_
 refine AllReadyH.cons rfl (fun K hK => ?_) AllReadyH.nil
 go_simp
 refine (zgy _).mono ?_
 rintro e w2 ⟨b,rfl,hF,hE⟩
 refine hK.out _ _ (hH.trans hE) (fun hH => ?_)
 clear hK K hE
 refine wpAnyH_ready (rs:=[2]) (by decide +kernel) (by simp) ?_
 refine AllReadyH.cons rfl (fun K hK => ?_) AllReadyH.nil
 go_simp
 refine (KO.out _ _ hF).mono ?_
 rintro e w3 ⟨rfl,hE⟩
 refine hK.out _ _ (hH.trans hE) (fun hH => ?_)
 clear hK K hE
 refine wpAnyH_take (i:=3) (v:=.bool r) rfl (by kernel_rfl) (by kernel_rfl) (by decide +kernel) (fun _ _ _ h => h) (Or.inl ⟨by rfl,fun W hSw => (by dsimp only at hSw; go_simp)⟩) hH ?_
 refine wpAnyH_done (by decide +kernel) ?_ _
 refine NoPanic.normal ?_
 go_wp2
 go_ret
 exact ⟨rfl,hx.trans hH⟩
def prevI (l : List Ky) (j : Nat) : Int:=if j = 0 then 0 else (l.getD (j - 1) ky0).i
def okO (l : List Ky) (j : Nat) : Prop:=prevI l j < (l.getD j ky0).i ∧ (l.getD j ky0).i ≤ 2147483647 ∧ 0 ≤ (l.getD j ky0).a ∧ (l.getD j ky0).a ≤ (l.getD j ky0).b ∧ (l.getD j ky0).b ≤ 1073741824
instance (l : List Ky) (j : Nat) : Decidable (okO l j):=by unfold okO; exact inferInstance
def ordK (l : List Ky) : Bool:=decide (l.length ≤ 32 ∧ ∀ j,j < l.length → okO l j)
def offK (k : Ky) : Bool:=k.f || !onB k.x k.y k.f
theorem ordK_false {l : List Ky} {j : Nat} (hj : j < l.length) (h : ¬ okO l j) : ordK l = false:=decide_eq_false fun hh => h (hh.2 j hj)
theorem okO_pos {l : List Ky} : ∀ j,(∀ q,q ≤ j → okO l q) → 1 ≤ (l.getD j ky0).i
 | 0,h => by
  have h1:=(h 0 (Nat.le_refl _)).1
  unfold prevI at h1
  rw [if_pos rfl] at h1
  omega
 | j + 1,h => by
  have h1:=(h (j + 1) (Nat.le_refl _)).1
  have h2:=okO_pos j fun q hq => h q (by omega)
  unfold prevI at h1
  rw [if_neg (by omega),show j + 1 - 1 = j by omega] at h1
  omega
theorem any_off {l : List Ky} (h : l.any offK = false) {j : Nat} (hj : j < l.length) : offK (l.getD j ky0) = false:=by
 rw [List.any_eq_false] at h
 have:=h (l.getD j ky0) (List.mem_of_getElem? (zee hj))
 simpa using this
theorem zgr (l : List Ky) : mayK l = (ordK l && !l.any offK):=by
 rw [Bool.eq_iff_iff,Bool.and_eq_true,Bool.not_eq_true']
 constructor
 ·
  intro h
  refine ⟨decide_eq_true ⟨mayK_32 h,fun j hj => ?_⟩,?_⟩
  ·
   obtain ⟨h1,h2,_,_,h5,h6,h7,h8⟩:=mayK_ok h hj
   refine ⟨?_,h2,h5,h6,h7⟩
   unfold prevI
   by_cases e : j = 0
   ·
    rw [if_pos e]; omega
   ·
    rw [if_neg e]; exact h8 (by omega)
  ·
   rw [List.any_eq_false]
   intro k hk
   obtain ⟨_,_,h3,h4,_⟩:=mayK_each h k hk
   unfold offK
   rw [h4,h3]
   decide
 ·
  rintro ⟨h,ha⟩
  have h:=of_decide_eq_true h
  refine decide_eq_true ⟨h.1,fun j hj => ?_⟩
  obtain ⟨h1,h2,h3,h4,h5⟩:=h.2 j hj
  have hp:=okO_pos j fun q hq => h.2 q (by omega)
  have ho:=any_off ha hj
  unfold offK at ho
  rw [Bool.or_eq_false_iff,Bool.not_eq_false'] at ho
  refine ⟨hp,h2,ho.2,ho.1,h3,h4,h5,fun h0 => ?_⟩
  unfold prevI at h1
  rwa [if_neg (by omega)] at h1
theorem zfm (v : Value) (l : List Ky) (w : World) (hF : Ks w v l) (hL : l.length ≤ 1000000000) :
  Calls Tryz.prog 23 #[v] w fun e w' => e = .returned (.bool (ordK l)) ∧ Ext w w':=by
 obtain ⟨AL,c,rfl,hc,hx⟩:=hF
 obtain ⟨R,hR⟩ : ∃ R,R = ordK l:=⟨_,rfl⟩
 rw [← hR]
 obtain ⟨n,hn⟩ : ∃ n,n = l.length:=⟨_,rfl⟩
 rw [← hn] at hx hc hL ⊢
 have HR:=veil (And.intro hR hn)
 have HX:=veil hx
 clear hR hx hn
 by_cases h32 : (32 : Int) < (n : Int)
 ·
  have hd : decide ((32 : Int) < (n : Int)) = true:=decide_eq_true h32
  have e : R = false:=by
   rw [HR.out.1]
   exact decide_eq_false fun hh => by have:=hh.1; have:=HR.out.2; omega
  subst e
  go_enter Tryz.func23,Tryz.ntmps23
  go_wp2
  go_ret
  exact ⟨rfl,Ext.refl _⟩
 ·
  have hd : decide ((32 : Int) < (n : Int)) = false:=decide_eq_false h32
  have hn32 : n ≤ 32:=by omega
  clear hL h32
  go_enter Tryz.func23,Tryz.ntmps23
  go_wp2
  go_loopw [3,11] (fun s v wr => ∃ (i : Nat) (P : Int),i ≤ n ∧ s = .int .i64 P ∧ v = .int .i64 (i : Int) ∧ (∀ j,j < i → okO l j) ∧ P = prevI l i ∧ Ext w wr)
   (fun _ v _ => n - (intOf v).toNat)
  case atStart => exact ⟨0,0,by omega,rfl,rfl,fun j hj => by omega,rfl,Ext.refl _⟩
  case round =>
   obtain ⟨i,P,hi,rfl,rfl,hall,hP,hE⟩:=hrel
   by_cases hlt : i < n
   ·
    have hd1 : decide ((i : Int) < (n : Int)) = true:=by simp; omega
    have hii : (i : Int) < (n : Int):=by omega
    obtain ⟨b,o,hAL,hb,hcl⟩:=HX.out.resolve_left (by omega)
    have hil : i < l.length:=by have:=HR.out.2; omega
    have HRG:=veil (zcf hE hb (hcl i _ (zee hil)))
    obtain ⟨k,hk⟩ : ∃ k,k = l.getD i ky0:=⟨_,rfl⟩
    rw [← hk] at HRG
    have hfalse : ¬ (P < k.i ∧ k.i ≤ 2147483647 ∧ 0 ≤ k.a ∧ k.a ≤ k.b ∧ k.b ≤ 1073741824) → R = false:=fun h => HR.out.1.trans (ordK_false hil (by unfold okO; rw [← hk,← hP]; exact h))
    have htrue : (P < k.i ∧ k.i ≤ 2147483647 ∧ 0 ≤ k.a ∧ k.a ≤ k.b ∧ k.b ≤ 1073741824) → ∀ j,j < i + 1 → okO l j:=fun h j hj => by
     by_cases e : j = i
     ·
      subst e
      unfold okO
      rw [← hk,← hP]
      exact h
     ·
      exact hall j (by omega)
    have hnx : k.i = prevI l (i + 1):=by
     unfold prevI
     rw [if_neg (by omega),show i + 1 - 1 = i by omega,hk]
    have HF:=veil (And.intro hfalse (And.intro htrue hnx))
    clear hfalse htrue hnx hall hP hk hcl hil
    subst hAL
    go_upto_region 7 with (first
     | ((with_reducible refine zam 14 ?_); refine wpList_load_mid rfl 55 _ rfl b _ rfl (kyC k) _ HRG.out Tryz.underlying55 rfl (iKy k) ?_)
     | ((with_reducible refine zam 5 ?_); refine zda _ _ rfl rfl rfl rfl rfl rfl hzKy (fun _ => rfl) (fun _ => rfl) (iKyA k) (ziy k) (ziz k) ?_; intro g W hg hW hEW))
    have hEE:=hE.trans hEW
    have c0:=ky_i (zef hW)
    have c10:=ky_a (zef hW)
    have c11:=ky_b (zef hW)
    simp only [Nat.zero_add] at c0 c10 c11
    clear hW hEW hE hb HRG
    by_cases g1 : k.i ≤ P
    ·
     obtain rfl : R = false:=HF.out.1 fun h => by omega
     have hd2 : decide (k.i ≤ P) = true:=decide_eq_true g1
     go_wp2
     go_ret
     exact ⟨rfl,hEE⟩
    ·
     have hd2 : decide (k.i ≤ P) = false:=decide_eq_false g1
     by_cases g2 : 2147483647 < k.i
     ·
      obtain rfl : R = false:=HF.out.1 fun h => by omega
      have hd3 : decide (2147483647 < k.i) = true:=decide_eq_true g2
      go_wp2
      go_ret
      exact ⟨rfl,hEE⟩
     ·
      have hd3 : decide (2147483647 < k.i) = false:=decide_eq_false g2
      by_cases g3 : k.a < 0
      ·
       obtain rfl : R = false:=HF.out.1 fun h => by omega
       have hd4 : decide (k.a < 0) = true:=decide_eq_true g3
       go_wp2
       go_ret
       exact ⟨rfl,hEE⟩
      ·
       have hd4 : decide (k.a < 0) = false:=decide_eq_false g3
       by_cases g4 : k.b < k.a
       ·
        obtain rfl : R = false:=HF.out.1 fun h => by omega
        have hd5 : decide (k.b < k.a) = true:=decide_eq_true g4
        go_wp2
        go_ret
        exact ⟨rfl,hEE⟩
       ·
        have hd5 : decide (k.b < k.a) = false:=decide_eq_false g4
        by_cases g5 : 1073741824 < k.b
        ·
         obtain rfl : R = false:=HF.out.1 fun h => by omega
         have hd6 : decide (1073741824 < k.b) = true:=decide_eq_true g5
         go_wp2
         go_ret
         exact ⟨rfl,hEE⟩
        ·
         have hd6 : decide (1073741824 < k.b) = false:=decide_eq_false g5
         go_wp2
         go_roundw
         case rel => exact ⟨i + 1,k.i,by omega,rfl,by go_num,HF.out.2.1 (by omega),HF.out.2.2,hEE⟩
         case measure => simp [intOf]; omega
   ·
    obtain rfl : i = n:=by omega
    have hd1 : decide ((i : Int) < (i : Int)) = false:=by simp
    have e : R = true:=by
     rw [HR.out.1]
     exact decide_eq_true ⟨by have:=HR.out.2; omega,fun j hj => hall j (by have:=HR.out.2; omega)⟩
    subst e
    clear hall hP
    go_wp2
    go_ret
    exact ⟨rfl,hE⟩
theorem wpl_midG {P : Program} {ops : Array Oper} {rest : List Oper} {op : Oper} {a : Act} {w : World} {Q : Exit → Act → World → Prop} (hgd : Region.wanted op (yielded ops a.tmps) = true) (ty : TypeId) (x : Operand) (ho : op.op = .load ty x)
  (b o : Nat) (hx : a.eval x = .pointer (some ⟨b,o,none⟩)) (cs : List Value) (d : TypeDesc) (hc : w.rangeAt b o cs)
  (hu : P.underlying ty = some d) (hd : d.isRow = true) (hi : (P.info? ty).map (·.size) = some cs.length)
  (h : wpList P ops Q rest (a.put op.dst (.agg cs.toArray)) w) : wpList P ops Q (op :: rest) a w :=
 wpList_step fun K hK => by
  rw [if_pos hgd]
  exact wp_load_mid ty x ho b o hx cs d hc hu hd hi (hK _ _ h)
theorem isOff_calls (k : Ky) (hx : k.x < top) (hy : k.y < top) (w : World) :
  Calls Tryz.prog 25 #[.agg (kyC k).toArray] w fun e w' => e = .returned (.bool (offK k)) ∧ Ext w w':=by
 have KO:=veil (fun W => on_is k.x k.y k.f hx hy W)
 obtain ⟨R,hR⟩ : ∃ R,R = offK k:=⟨_,rfl⟩
 rw [← hR]
 have HR:=veil hR
 clear hx hy hR
 obtain ⟨C,hC⟩ : ∃ C,C = (kyC k).toArray:=⟨_,rfl⟩
 rw [← hC]
 have HC:=veil hC
 clear hC
 go_enter Tryz.func25,Tryz.ntmps25
 go_upto_region 1 with (fail)
 obtain ⟨g,hg⟩ : ∃ g,g = w.heap.size:=⟨_,rfl⟩
 have h0:=zaj w (.cells C 55)
 have hE0:=Ext.alloc w (.cells C 55)
 generalize w.alloc (.cells C 55) = w0 at *
 rw [← hg] at h0 ⊢
 rw [HC.out] at h0
 have c9:=ky_f (zef h0)
 have HQ:=veil (ky_q (zef h0))
 simp only [Nat.zero_add] at c9 HQ
 have HE:=veil hE0
 clear h0 hE0 hg
 cases hf : k.f with
 | true =>
  rw [hf] at c9
  obtain rfl : R = true:=by rw [HR.out]; unfold offK; rw [hf]; rfl
  clear hf KO HQ HR
  go_wp2
  go_ret
  exact ⟨rfl,HE.out⟩
 | false =>
  rw [hf] at c9
  have e : R = !onB k.x k.y k.f:=by rw [HR.out]; unfold offK; rw [hf]; rfl
  obtain ⟨r,hr⟩ : ∃ r,r = onB k.x k.y k.f:=⟨_,rfl⟩
  rw [← hr] at KO e
  clear hr hf HR
  cases r with
  | true =>
   obtain rfl : R = false:=e
   go_wp2_with (first
    | ((with_reducible refine zam 8 ?_); refine wpl_midG rfl 29 _ rfl g 1 rfl _ _ HQ.out Tryz.underlying29 rfl (iT k.x k.y k.f) ?_)
    | (go_at_call 47; refine (KO.out _).mono ?_; rintro e w1 ⟨rfl,hE1⟩))
   go_ret
   exact ⟨rfl,HE.out.trans hE1⟩
  | false =>
   obtain rfl : R = true:=e
   go_wp2_with (first
    | ((with_reducible refine zam 8 ?_); refine wpl_midG rfl 29 _ rfl g 1 rfl _ _ HQ.out Tryz.underlying29 rfl (iT k.x k.y k.f) ?_)
    | (go_at_call 47; refine (KO.out _).mono ?_; rintro e w1 ⟨rfl,hE1⟩))
   go_ret
   exact ⟨rfl,HE.out.trans hE1⟩
theorem index_calls (v : Value) (l : List Ky) (w : World) (hF : Ks w v l) (hT : TopK l) (hL : l.length ≤ 1000000000) :
  Calls Tryz.prog 46 #[v,.func (.func 25) #[] #[]] w fun e w' => ∃ z : Int,e = .returned (.int .i64 z) ∧ decide (0 ≤ z) = l.any offK ∧ Ext w w':=by
 obtain ⟨AL,c,rfl,hc,hx⟩:=hF
 obtain ⟨n,hn⟩ : ∃ n,n = l.length:=⟨_,rfl⟩
 rw [← hn] at hx hc hL ⊢
 obtain ⟨R,hR⟩ : ∃ R,R = l.any offK:=⟨_,rfl⟩
 rw [← hR]
 have HR:=veil (And.intro hR (And.intro hn hT))
 have HX:=veil hx
 clear hR hx hn hT
 go_enter Tryz.func46,Tryz.ntmps46
 go_wp2
 go_loopw [5,8] (fun _ v wr => ∃ i : Nat,i ≤ n ∧ v = .int .i64 (i : Int) ∧ (∀ j,j < i → offK (l.getD j ky0) = false) ∧ Ext w wr)
  (fun _ v _ => n - (intOf v).toNat)
 case atStart => exact ⟨0,by omega,rfl,fun j hj => by omega,Ext.refl _⟩
 case round =>
  obtain ⟨i,hi,rfl,hall,hE⟩:=hrel
  by_cases hlt : i < n
  ·
   have hd1 : decide ((i : Int) < (n : Int)) = true:=by simp; omega
   have hii : (i : Int) < (n : Int):=by omega
   obtain ⟨b,o,hAL,hb,hcl⟩:=HX.out.resolve_left (by omega)
   have hil : i < l.length:=by have:=HR.out.2.1; omega
   have HRG:=veil (zcf hE hb (hcl i _ (zee hil)))
   have hkt:=HR.out.2.2 (l.getD i ky0) (List.mem_of_getElem? (zee hil))
   have hmem : l.getD i ky0 ∈ l:=List.mem_of_getElem? (zee hil)
   obtain ⟨k,hk⟩ : ∃ k,k = l.getD i ky0:=⟨_,rfl⟩
   rw [← hk] at HRG hkt hmem
   have KO:=veil (fun W => isOff_calls k hkt.1 hkt.2 W)
   cases ho : offK k with
   | true =>
    rw [ho] at KO
    have e : R = true:=by
     rw [HR.out.1,List.any_eq_true]
     exact ⟨k,hmem,ho⟩
    subst e
    clear hmem hkt ho hk hil hcl hall
    subst hAL
    go_wp2_with (first
     | ((with_reducible refine zam 15 ?_); refine wpList_load_mid rfl 55 _ rfl b _ rfl (kyC k) _ HRG.out Tryz.underlying55 rfl (iKy k) ?_)
     | (go_at_call 25; refine (KO.out _).mono ?_; rintro e w1 ⟨rfl,hE1⟩))
    go_ret
    exact ⟨(i : Int),rfl,by simp,hE.trans hE1⟩
   | false =>
    rw [ho] at KO
    have hnext : ∀ j,j < i + 1 → offK (l.getD j ky0) = false:=fun j hj => by
     by_cases e : j = i
     ·
      subst e
      rw [← hk]
      exact ho
     ·
      exact hall j (by omega)
    have HN:=veil hnext
    clear hmem hkt ho hk hil hcl hall hnext
    subst hAL
    go_wp2_with (first
     | ((with_reducible refine zam 15 ?_); refine wpList_load_mid rfl 55 _ rfl b _ rfl (kyC k) _ HRG.out Tryz.underlying55 rfl (iKy k) ?_)
     | (go_at_call 25; refine (KO.out _).mono ?_; rintro e w1 ⟨rfl,hE1⟩))
    go_roundw
    case rel => exact ⟨i + 1,by omega,by go_num,HN.out,hE.trans hE1⟩
    case measure => simp [intOf]; omega
  ·
   obtain rfl : i = n:=by omega
   have hd1 : decide ((i : Int) < (i : Int)) = false:=by simp
   have e : R = false:=by
    rw [HR.out.1,List.any_eq_false]
    intro k hk
    obtain ⟨j,hj,rfl⟩:=List.mem_iff_getElem.1 hk
    have:=hall j (by have:=HR.out.2.1; omega)
    rw [List.getD_eq_getElem?_getD,List.getElem?_eq_getElem hj] at this
    simpa using this
   subst e
   clear hall
   go_wp2
   go_ret
   exact ⟨-1,rfl,by decide,hE⟩
theorem contains_calls (v : Value) (l : List Ky) (w : World) (hF : Ks w v l) (hT : TopK l) (hL : l.length ≤ 1000000000) :
  Calls Tryz.prog 24 #[v,.func (.func 25) #[] #[]] w fun e w' => e = .returned (.bool (l.any offK)) ∧ Ext w w':=by
 have KI:=veil (index_calls v l w hF hT hL)
 obtain ⟨R,hR⟩ : ∃ R,R = l.any offK:=⟨_,rfl⟩
 rw [← hR] at KI ⊢
 clear hF hT hL hR
 go_enter Tryz.func24,Tryz.ntmps24
 go_wp2_with (go_at_call 46; refine KI.out.mono ?_; rintro e w1 ⟨z,rfl,hz,hE1⟩)
 go_ret
 exact ⟨by first | rfl | rw [hz],hE1⟩
theorem zfh (v : Value) (l : List Ky) (w : World) (hF : Ks w v l) (hT : TopK l) (hL : l.length ≤ 1000000000) :
  Calls Tryz.prog 10 #[v] w fun e w' => e = .returned (.bool (mayK l)) ∧ Ext w w':=by
 have KO:=veil (fun W (hW : Ks W v l) => zfm v l W hW hL)
 have KC:=veil (fun W (hW : Ks W v l) => contains_calls v l W hW hT hL)
 rw [zgr]
 have HV:=veil hF
 clear hF hT hL
 generalize ordK l = r at *
 generalize l.any offK = s at *
 cases r with
 | false =>
  go_enter Tryz.func10,Tryz.ntmps10
  go_wp2_with (go_at_call 23; refine (KO.out _ HV.out).mono ?_; rintro e w1 ⟨rfl,hE1⟩)
  go_ret
  exact ⟨rfl,hE1⟩
 | true =>
  cases s with
  | false =>
   go_enter Tryz.func10,Tryz.ntmps10
   go_wp2_with (first
    | (go_at_call 23; refine (KO.out _ HV.out).mono ?_; rintro e w1 ⟨rfl,hE1⟩)
    | (go_at_call 24; refine (KC.out _ (HV.out.ext hE1)).mono ?_; rintro e w2 ⟨rfl,hE2⟩))
   go_ret
   exact ⟨rfl,hE1.trans hE2⟩
  | true =>
   go_enter Tryz.func10,Tryz.ntmps10
   go_wp2_with (first
    | (go_at_call 23; refine (KO.out _ HV.out).mono ?_; rintro e w1 ⟨rfl,hE1⟩)
    | (go_at_call 24; refine (KC.out _ (HV.out.ext hE1)).mono ?_; rintro e w2 ⟨rfl,hE2⟩))
   go_ret
   exact ⟨rfl,hE1.trans hE2⟩
theorem find_calls (v : Value) (l : List Ky) (id at_ : Int) (w : World) (hF : Ks w v l) (hL : l.length ≤ 1000000000) :
  Calls Tryz.prog 22 #[v,.int .i64 id,.int .i64 at_] w fun e w' => e = .returned (.tuple #[.agg (qO (findK l id at_)),.bool (findK l id at_).isSome]) ∧ Ext w w':=by
 obtain ⟨AL,c,rfl,hc,hx⟩:=hF
 obtain ⟨n,hn⟩ : ∃ n,n = l.length:=⟨_,rfl⟩
 rw [← hn] at hx hc hL ⊢
 have HX:=veil (And.intro hx hn)
 obtain ⟨R,hR⟩ : ∃ R,R = findK l id at_:=⟨_,rfl⟩
 rw [← hR]
 have HR:=veil hR
 clear hx hn hR
 go_enter Tryz.func22,Tryz.ntmps22
 go_upto_region 1 with (fail)
 obtain ⟨g,hg⟩ : ∃ g,g = w.heap.size:=⟨_,rfl⟩
 obtain ⟨w0,hw0⟩ : ∃ W,W = w.alloc (.cells PZ 29):=⟨_,rfl⟩
 have h0:=zaj w (.cells PZ 29)
 have hE0:=Ext.alloc w (.cells PZ 29)
 rw [← hw0] at hE0
 rw [← hw0,← hg] at h0
 have H0:=veil (And.intro hE0 (And.intro h0 (show w.heap.size ≤ g by omega)))
 unfold PZ at hw0
 rw [← hw0,← hg]
 clear hw0 hg h0 hE0
 go_wp2
 go_loopw [12] (fun v wr => ∃ i : Nat,i ≤ n ∧ v = .int .i64 (i : Int) ∧ (∀ j,j < i → cntK (l.getD j ky0) id at_ = false) ∧ Ext w0 wr)
  (fun v _ => n - (intOf v).toNat)
 case atStart => exact ⟨0,by omega,rfl,fun j hj => by omega,Ext.refl _⟩
 case round =>
  obtain ⟨i,hi,rfl,hall,hE⟩:=hrel
  by_cases hlt : i < n
  ·
   have hd1 : decide ((i : Int) < (n : Int)) = true:=by simp; omega
   have hii : (i : Int) < (n : Int):=by omega
   have hil : i < l.length:=by have:=HX.out.2; omega
   obtain ⟨b,o,hAL,hb,hcl⟩:=HX.out.1.resolve_left (by omega)
   have HRG:=veil (zcf (H0.out.1.trans hE) hb (hcl i _ (zee hil)))
   obtain ⟨k,hk⟩ : ∃ k,k = l.getD i ky0:=⟨_,rfl⟩
   rw [← hk] at HRG
   have HK:=veil (And.intro hk (And.intro hall (And.intro hE hil)))
   subst hAL
   clear hk hall hE hil hb hcl
   go_upto_region 4 with (first
    | ((with_reducible refine zam 15 ?_); refine wpList_load_mid rfl 55 _ rfl b _ rfl (kyC k) _ HRG.out Tryz.underlying55 rfl (iKy k) ?_)
    | ((with_reducible refine zam 9 ?_); refine zda _ _ rfl rfl rfl rfl rfl rfl hzKy (fun _ => rfl) (fun _ => rfl) (iKyA k) (ziy k) (ziz k) ?_; intro gk W hg hW hEW))
   have hEE:=HK.out.2.2.1.trans hEW
   have c0:=ky_i (zef hW)
   have c10:=ky_a (zef hW)
   have c11:=ky_b (zef hW)
   simp only [Nat.zero_add] at c0 c10 c11
   have HW:=veil (And.intro (ky_q (zef hW)) hEE)
   simp only [Nat.zero_add] at HW
   clear hW hEW hEE HRG
   by_cases gc : k.i = id ∧ k.a ≤ at_ ∧ at_ < k.b
   ·
    have hr : R = some k:=by
     rw [HR.out,HK.out.1]
     exact findK_at HK.out.2.2.2 HK.out.2.1 (by rw [← HK.out.1]; exact cntK_yes gc)
    have hd2 : decide (k.a ≤ at_) = true:=decide_eq_true gc.2.1
    have hd3 : decide (at_ < k.b) = true:=decide_eq_true gc.2.2
    have f1 : (k.i == id) = true:=by simp [gc.1]
    have HF:=veil (And.intro hr (HW.out.2.block H0.out.2.1))
    have g1:=gc.1
    rw [g1] at c0 f1
    clear hr gc g1
    go_wp2_with (first
     | ((with_reducible refine zam 33 ?_); refine wpList_load_mid rfl 29 _ rfl gk 1 rfl _ _ HW.out.1 Tryz.underlying29 rfl (iT k.x k.y k.f) ?_)
     | ((with_reducible refine zan ?_); refine wpList_store_row rfl 29 _ _ rfl g (qc k.x k.y k.f) rfl rfl 29 _ HF.out.2 (iT _ _ _) rfl (zcr _ _ _) ?_))
    refine bodyPost_ret (zax rfl _ _ g 29 (qc k.x k.y k.f) (0,0) _ rfl (setRow_heap W g _ (qc k.x k.y k.f) 29 (0,0) HF.out.2) Tryz.underlying29 rfl (iT _ _ _)) rfl ⟨by rw [HF.out.1]; rfl,zas (H0.out.1.trans HW.out.2) H0.out.2.2 _⟩
   ·
    have hno:=cntK_no gc
    have HN:=veil hno
    have go : ∀ j,j < i + 1 → cntK (l.getD j ky0) id at_ = false:=fun j hj => by
     by_cases e : j = i
     ·
      subst e
      rw [← HK.out.1]
      exact HN.out
     ·
      exact HK.out.2.1 j (by omega)
    have GO:=veil go
    clear hno go
    by_cases g1 : k.i = id
    ·
     have f1 : (k.i == id) = true:=by simp [g1]
     rw [g1] at c0 f1
     by_cases g2 : k.a ≤ at_
     ·
      have hd2 : decide (k.a ≤ at_) = true:=decide_eq_true g2
      have hd3 : decide (at_ < k.b) = false:=decide_eq_false fun h => gc ⟨g1,g2,h⟩
      clear gc g1 g2
      go_wp2
      go_roundw
      case rel => exact ⟨i + 1,by omega,by go_num,GO.out,HW.out.2⟩
      case measure => simp [intOf]; omega
     ·
      have hd2 : decide (k.a ≤ at_) = false:=decide_eq_false g2
      clear gc g1 g2
      go_wp2
      go_roundw
      case rel => exact ⟨i + 1,by omega,by go_num,GO.out,HW.out.2⟩
      case measure => simp [intOf]; omega
    ·
     have f1 : (k.i == id) = false:=by simp [g1]
     clear gc
     go_wp2
     go_roundw
     case rel => exact ⟨i + 1,by omega,by go_num,GO.out,HW.out.2⟩
     case measure => simp [intOf]; omega
  ·
   obtain rfl : i = n:=by omega
   have hd1 : decide ((i : Int) < (i : Int)) = false:=by simp
   have hr : R = none:=by
    rw [HR.out]
    exact findK_none_take (by rw [← HX.out.2]; exact hall)
   have HE:=veil (And.intro hr (And.intro hE (hE.block H0.out.2.1)))
   clear hall hr hE
   go_wp2_with ((with_reducible refine zan ?_); refine wpList_store_row rfl 29 _ _ rfl g PZ rfl rfl 29 _ HE.out.2.2 iPZ rfl pz_one ?_)
   refine bodyPost_ret (zax rfl _ _ g 29 PZ (0,0) _ rfl (setRow_heap wr g _ PZ 29 (0,0) HE.out.2.2) Tryz.underlying29 rfl iPZ) rfl ⟨by rw [HE.out.1,pz_qc]; rfl,zas (H0.out.1.trans HE.out.2.1) H0.out.2.2 _⟩
theorem find10_calls (v : Value) (l : List Ky) (id at_ : Int) (w : World) (hF : Ks w v l) (hT : TopK l) (hL : l.length ≤ 1000000000) :
  Calls Tryz.prog 9 #[v,.int .i64 id,.int .i64 at_] w fun e w' => e = .returned (.tuple #[.agg (qO (findC l id at_)),.bool (findC l id at_).isSome]) ∧ Ext w w':=by
 have KM:=veil (fun W (hW : Ks W v l) => zfh v l W hW hT hL)
 have KF:=veil (fun W (hW : Ks W v l) => find_calls v l id at_ W hW hL)
 have HV:=veil hF
 obtain ⟨F,hFc⟩ : ∃ F,F = findC l id at_:=⟨_,rfl⟩
 rw [← hFc]
 unfold findC at hFc
 clear hF hT hL
 go_enter Tryz.func9,Tryz.ntmps9
 go_upto_region 1 with (fail)
 obtain ⟨g,hg⟩ : ∃ g,g = w.heap.size:=⟨_,rfl⟩
 obtain ⟨w0,hw0⟩ : ∃ W,W = w.alloc (.cells PZ 29):=⟨_,rfl⟩
 have h0:=zaj w (.cells PZ 29)
 have hE0:=Ext.alloc w (.cells PZ 29)
 rw [← hw0] at hE0
 rw [← hw0,← hg] at h0
 have H0:=veil (And.intro hE0 (And.intro h0 (show w.heap.size ≤ g by omega)))
 unfold PZ at hw0
 rw [← hw0,← hg]
 clear hw0 hg h0 hE0
 generalize mayK l = r at *
 generalize findK l id at_ = R at *
 cases r with
 | false =>
  obtain rfl : F = none:=hFc
  go_upto_region 2 with (go_at_call 10; refine (KM.out _ (HV.out.ext H0.out.1)).mono ?_; rintro e w1 ⟨rfl,hE1⟩)
  have H1:=veil (And.intro hE1 (hE1.block H0.out.2.1))
  clear hE1
  go_wp2_with ((with_reducible refine zan ?_); refine wpList_store_row rfl 29 _ _ rfl g PZ rfl rfl 29 _ H1.out.2 iPZ rfl pz_one ?_)
  refine bodyPost_ret (zax rfl _ _ g 29 PZ (0,0) _ rfl (setRow_heap w1 g _ PZ 29 (0,0) H1.out.2) Tryz.underlying29 rfl iPZ) rfl ⟨by rw [pz_qc]; rfl,zas (H0.out.1.trans H1.out.1) H0.out.2.2 _⟩
 | true =>
  obtain rfl : F = R:=hFc
  go_upto_region 3 with (go_at_call 10; refine (KM.out _ (HV.out.ext H0.out.1)).mono ?_; rintro e w1 ⟨rfl,hE1⟩)
  have H1:=veil (H0.out.1.trans hE1)
  have H2:=veil hE1
  clear hE1
  have KF2:=veil (KF.out w1 (HV.out.ext H1.out))
  obtain ⟨C,hC⟩ : ∃ C,C = qO F:=⟨_,rfl⟩
  have HC:=veil (And.intro (show (Tryz.prog.info? 29).map (·.size) = some C.size by rw [hC]; exact qO_info F) (And.intro (show PZ.size = C.size by rw [hC]; exact zis F) (And.intro (show C.all (·.oneCell') = true by rw [hC]; exact qO_one F) hC)))
  rw [← hC] at KF2
  clear KF hC
  go_wp2_with (first
   | (go_at_call 22; refine KF2.out.mono ?_; rintro e w2 ⟨rfl,hE2⟩; have H3:=veil (H2.out.trans hE2); have H4:=veil (H3.out.block H0.out.2.1))
   | ((with_reducible refine zan ?_); refine wpList_store_row rfl 29 _ _ rfl g C rfl rfl 29 _ H4.out HC.out.1 HC.out.2.1 HC.out.2.2.1 ?_))
  refine bodyPost_ret (zax rfl _ _ g 29 C (0,0) _ rfl (setRow_heap w2 g _ C 29 (0,0) H4.out) Tryz.underlying29 rfl HC.out.1) rfl ⟨by rw [HC.out.2.2.2]; rfl,zas (H0.out.1.trans H3.out) H0.out.2.2 _⟩
theorem add_yes (q r : Pt.Q) (w : World) :
  Calls Tryz.prog 126 #[qvP q.1,qvP r.1] w fun e w' => e = .returned (.tuple #[qvP (Pt.grp.op q r).1,.nilIface]) ∧ Ext w w':=by
 obtain ⟨x1,y1,z1,h1,k1⟩:=lift_rep q.1
 obtain ⟨x2,y2,z2,h2,k2⟩:=plus_rep q.2 r.2 h1
 have k3:=fun (b : Nat) (w : World) (hF : Fp w b) => flat_rep h2 hF
 obtain ⟨t,ht⟩ : ∃ t : Pt.Q,t = Pt.grp.op q r:=⟨_,rfl⟩
 have ht2 : Pt.E256.add q.1 r.1 = t.1:=by rw [ht]; rfl
 rw [ht2] at k3
 rw [← ht]
 have K1:=veil k1
 have K2:=veil k2
 have K3:=veil k3
 clear k1 k2 k3 h1 h2 ht ht2
 unfold qvP qv qc
 go_enter Tryz.func126,Tryz.ntmps126
 go_upto_region 1 with (fail)
 refine zfd fun w1 hx b0 b1 b2 => ?_
 have b0 : w1.heap[w.heap.size]? = some (.cells (qc (Pt.pX q.1) (Pt.pY q.1) (Pt.pFar q.1)) 29 (0,0)):=b0
 have b1 : w1.heap[w.heap.size + 1]? = some (.cells (qc (Pt.pX r.1) (Pt.pY r.1) (Pt.pFar r.1)) 29 (0,0)):=b1
 refine wp_region_lit ?_
 refine zeg (R:=fun v W' => ∃ b,v = cv b ∧ Fp W' b ∧ Ext w1 W') rfl rfl rfl (fun W => zab Tryz.func77 rfl rfl _ W) ((zgy w1).mono fun e W' ⟨b,he,hF,hE⟩ => ⟨_,he,b,rfl,hF,hE⟩) ?_
 rintro v w2 ⟨b,rfl,hf,hE⟩
 simp only [aP,lA,lZ,lS]
 replace b0:=hE.block b0
 replace b1:=hE.block b1
 replace b2:=hE.block b2
 replace hx:=hx.trans hE
 clear hE
 refine zda _ _ rfl rfl rfl rfl rfl rfl (hzK ·) (fun _ => rfl) (fun _ => rfl) (iK _) rfl (cc_one _) ?_
 intro gc w3 hgc bc hE
 replace b0:=hE.block b0
 replace b1:=hE.block b1
 replace b2:=hE.block b2
 replace hf:=hf.ext hE
 replace hx:=hx.trans hE
 clear hE
 simp only [aP,lA,lZ,lS]
 clear hgc
 refine wpList_nil ?_
 go_upto_region 2 with (fail)
 refine' zby (m:=10) (A:=_) ?h1 ?h2
 case h1 =>
  refine zaa (cv b) rfl (zac rfl rfl bc rfl Tryz.underlying126 rfl (iK _)) ?_
  refine zaa (qv (Pt.pX q.1) (Pt.pY q.1) (Pt.pFar q.1)) rfl (zac rfl rfl b0 rfl Tryz.underlying29 rfl (iT _ _ _)) ?_;simp only [aP,lA,lZ,lS]
  refine zaa (.bool true) rfl (zag (args:=[cv b,qv (Pt.pX q.1) (Pt.pY q.1) (Pt.pFar q.1)]) rfl rfl (fun W => zab Tryz.func78 rfl rfl _ W) (fun W hW => on_yes q (hf.ext hW))) ?_
  refine zaa (.bool false) rfl (zbc rfl rfl rfl) ?_;simp only [aP,lA,lZ,lS]
  refine zaa (.bool false) rfl (zae (.inl rfl) rfl) ?_
  refine zah (cv b) rfl (zac rfl rfl bc rfl Tryz.underlying126 rfl (iK _)) ?_;simp only [aP,lA,lZ,lS]
  refine zah (qv (Pt.pX r.1) (Pt.pY r.1) (Pt.pFar r.1)) rfl (zac rfl rfl b1 rfl Tryz.underlying29 rfl (iT _ _ _)) ?_
  refine zah (.bool true) rfl (zag (args:=[cv b,qv (Pt.pX r.1) (Pt.pY r.1) (Pt.pFar r.1)]) rfl rfl (fun W => zab Tryz.func78 rfl rfl _ W) (fun W hW => on_yes r (hf.ext hW))) ?_;simp only [aP,lA,lZ,lS]
  refine zah (.bool false) rfl (zbc rfl rfl rfl) ?_
  refine zaa (.bool false) rfl (zav rfl rfl rfl) ?_;simp only [aP,lA,lZ,lS]
  exact zar
 refine zay rfl ?_
 intro w4 hE
 replace b0:=hE.block b0
 replace b1:=hE.block b1
 replace b2:=hE.block b2
 replace bc:=hE.block bc
 replace hf:=hf.ext hE
 replace hx:=hx.trans hE
 clear hE
 go_upto_region 4 with (fail)
 refine' zhb (m:=7) (A:=_) 7 (by kernel_rfl) (by kernel_rfl) (by kernel_rfl) ?h2a ?h2b
 case h2a =>
  refine zaa (cv b) rfl (zac rfl rfl bc rfl Tryz.underlying126 rfl (iK _)) ?_
  refine zaa (cv b) rfl (zac rfl rfl bc rfl Tryz.underlying126 rfl (iK _)) ?_;simp only [aP,lA,lZ,lS]
  refine zaa (qv (Pt.pX q.1) (Pt.pY q.1) (Pt.pFar q.1)) rfl (zac rfl rfl b0 rfl Tryz.underlying29 rfl (iT _ _ _)) ?_
  refine zaa (sv x1.val y1.val z1.val) rfl (zag (args:=[qv (Pt.pX q.1) (Pt.pY q.1) (Pt.pFar q.1)]) rfl rfl (fun W => zab Tryz.func144 rfl rfl _ W) (fun W hW => K1.out W)) ?_;simp only [aP,lA,lZ,lS]
  refine zaa (qv (Pt.pX r.1) (Pt.pY r.1) (Pt.pFar r.1)) rfl (zac rfl rfl b1 rfl Tryz.underlying29 rfl (iT _ _ _)) ?_
  refine zaa (sv x2.val y2.val z2.val) rfl (zag (args:=[cv b,sv x1.val y1.val z1.val,qv (Pt.pX r.1) (Pt.pY r.1) (Pt.pFar r.1)]) rfl rfl (fun W => zab Tryz.func147 rfl rfl _ W) (fun W hW => K2.out _ _ (hf.ext hW))) ?_;simp only [aP,lA,lZ,lS]
  refine zaa (qv (Pt.pX t.1) (Pt.pY t.1) (Pt.pFar t.1)) rfl (zag (args:=[cv b,sv x2.val y2.val z2.val]) rfl rfl (fun W => zab Tryz.func148 rfl rfl _ W) (fun W hW => K3.out _ _ (hf.ext hW))) ?_;simp only [aP,lA,lZ,lS]
  exact zar
 refine rest_store1 _ _ rfl rfl rfl rfl rfl rfl rfl rfl rfl (by kernel_rfl) (by kernel_rfl) (by kernel_rfl) rfl rfl rfl rfl rfl b2 (iT _ _ _) rfl (zcr _ _ _) ?_
 intro w5 hB hb
 refine NoPanic.normal ?_
 simp only [aP,lA,lZ,lS]
 go_wp2
 exact bodyPost_ret (zbm rfl _ _ (w.heap.size + 1 + 1) 29 (qc (Pt.pX t.1) (Pt.pY t.1) (Pt.pFar t.1)) (0,0) _ rfl hb Tryz.underlying29 rfl (iT _ _ _)) rfl ⟨rfl,hx.new hB (by omega)⟩
theorem mul_yes (K : Nat) (hK : K < top) (q : Pt.Q) (w : World) :
  Calls Tryz.prog 125 #[nv K,qvP q.1] w fun e w' => e = .returned (.tuple #[qvP (Pt.grp.mul K q).1,.nilIface]) ∧ Ext w w':=by
 have hL : bitLen K ≤ 256:=bl_le hK
 have hE0 : K / 2 ^ bitLen K = 0:=bl_div K
 have HT:=veil hK
 obtain ⟨x0,y0,z0,h0,k0⟩:=lift_rep none
 have K0:=veil k0
 clear hK k0
 unfold nv nc qvP qv qc
 go_enter Tryz.func125,Tryz.ntmps125
 go_upto_region 1 with (fail)
 refine zfd fun w1 hx b0 b1 b2 => ?_
 have b0 : w1.heap[w.heap.size]? = some (.cells (nc K) 27 (0,0)):=b0
 have b1 : w1.heap[w.heap.size + 1]? = some (.cells (qc (Pt.pX q.1) (Pt.pY q.1) (Pt.pFar q.1)) 29 (0,0)):=b1
 refine wp_region_lit ?_
 refine zeg (R:=fun v W' => ∃ b,v = cv b ∧ Fp W' b ∧ Ext w1 W') rfl rfl rfl (fun W => zab Tryz.func77 rfl rfl _ W) ((zgy w1).mono fun e W' ⟨b,he,hF,hE⟩ => ⟨_,he,b,rfl,hF,hE⟩) ?_
 rintro v w2 ⟨b,rfl,hf,hE⟩
 simp only [aP,lA,lZ,lS]
 replace b0:=hE.block b0
 replace b1:=hE.block b1
 replace b2:=hE.block b2
 replace hx:=hx.trans hE
 clear hE
 refine zda _ _ rfl rfl rfl rfl rfl rfl (hzK ·) (fun _ => rfl) (fun _ => rfl) (iK _) rfl (cc_one _) ?_
 intro gc w3 hgc bc hE
 replace b0:=hE.block b0
 replace b1:=hE.block b1
 replace b2:=hE.block b2
 replace hf:=hf.ext hE
 replace hx:=hx.trans hE
 clear hE
 simp only [aP,lA,lZ,lS]
 clear hgc
 refine wpList_nil ?_
 go_upto_region 2 with (fail)
 refine' zau (m:=4) (A:=_) (by kernel_rfl) ?h1 ?h2
 case h1 =>
  refine zaa (cv b) rfl (zac rfl rfl bc rfl Tryz.underlying126 rfl (iK _)) ?_
  refine zaa (qv (Pt.pX q.1) (Pt.pY q.1) (Pt.pFar q.1)) rfl (zac rfl rfl b1 rfl Tryz.underlying29 rfl (iT _ _ _)) ?_;simp only [aP,lA,lZ,lS]
  refine zaa (.bool true) rfl (zag (args:=[cv b,qv (Pt.pX q.1) (Pt.pY q.1) (Pt.pFar q.1)]) rfl rfl (fun W => zab Tryz.func78 rfl rfl _ W) (fun W hW => on_yes q (hf.ext hW))) ?_
  refine zaa (.bool false) rfl (zbc rfl rfl rfl) ?_;simp only [aP,lA,lZ,lS]
  exact zar
 refine zay rfl ?_
 intro w4 hE
 replace b0:=hE.block b0
 replace b1:=hE.block b1
 replace b2:=hE.block b2
 replace bc:=hE.block bc
 replace hf:=hf.ext hE
 replace hx:=hx.trans hE
 clear hE
 go_upto_region 4 with (fail)
 refine' zau (m:=2) (A:=_) (by kernel_rfl) ?h2a ?h2b
 case h2a =>
  refine zaa (qv 0 0 true) rfl (zbv rfl rfl (bldTF ·)) ?_
  refine zaa (sv x0.val y0.val z0.val) rfl (zag (args:=[qv 0 0 true]) rfl rfl (fun W => zab Tryz.func144 rfl rfl _ W) (fun W hW => K0.out W)) ?_;simp only [aP,lA,lZ,lS]
  exact zar
 refine prest_var _ _ rfl rfl rfl rfl rfl rfl rfl (hzS ·) (fun _ => rfl) (fun _ => rfl) (iS _ _ _) rfl (sc_one _ _ _) ?_
 intro gs w5 hgs bs hE
 have hls : w.heap.size ≤ gs:=Nat.le_trans (Below.size hx) hgs
 replace b0:=hE.block b0
 replace b1:=hE.block b1
 replace b2:=hE.block b2
 replace bc:=hE.block bc
 replace hf:=hf.ext hE
 replace hx:=hx.trans hE
 clear hE
 simp only [aP,lA,lZ,lS]
 clear hgs
 go_upto_region 5 with (fail)
 replace h0 : Rep x0 y0 z0 (Pt.grp.mul (K / 2 ^ bitLen K) q).1:=by rw [hE0]; exact h0
 obtain ⟨N,hN⟩ : ∃ N,N = bitLen K:=⟨_,rfl⟩
 have HN:=veil hN
 rw [← hN] at h0 hL
 clear hE0 hN
 have hNi : (0 : Int) ≤ (N : Int):=by omega
 refine wp_region_lit ?_
 refine wpl_load rfl rfl rfl b0 rfl uN rfl (iN K) ?_
 simp only [aP,lA,lZ,lS]
 refine zeg (R:=fun v W' => v = .int .i64 (N : Int) ∧ Ext w5 W') rfl rfl rfl (fun W => zab Tryz.func145 rfl rfl _ W) ((klen K N (by rw [HN.out]) HT.out w5).mono fun e W' ⟨he,hE⟩ => ⟨_,he,rfl,hE⟩) ?_
 rintro v w6 ⟨rfl,hE⟩
 replace b0:=hE.block b0
 replace b1:=hE.block b1
 replace b2:=hE.block b2
 replace bc:=hE.block bc
 replace bs:=hE.block bs
 replace hf:=hf.ext hE
 replace hx:=hx.trans hE
 clear hE
 simp only [aP,lA,lZ,lS]
 go_wp2
 clear HN hNi K0
 go_loopw [8] (fun v8 wr => ∃ j : Nat,j ≤ 256 ∧ v8 = .int .i64 ((j : Int) - 1) ∧ (∃ x y z : Fe,Rep x y z (Pt.grp.mul (K / 2 ^ j) q).1 ∧ wr.heap[gs]? = some (.cells (sc x.val y.val z.val) 177 (0,0))) ∧ wr.heap[w.heap.size]? = some (.cells (nc K) 27 (0,0)) ∧ wr.heap[w.heap.size + 1]? = some (.cells (qc (Pt.pX q.1) (Pt.pY q.1) (Pt.pFar q.1)) 29 (0,0)) ∧ (∃ c2,wr.heap[w.heap.size + 1 + 1]? = some (.cells c2 29 (0,0)) ∧ c2.size = 9) ∧ wr.heap[gc]? = some (.cells (cc b) 126 (0,0)) ∧ Fp wr b ∧ Ext w wr)
  (fun v8 _ => (intOf v8 + 1).toNat)
 case atStart => exact ⟨N,hL,by go_num,⟨x0,y0,z0,h0,bs⟩,b0,b1,⟨_,b2,rfl⟩,bc,hf,hx⟩
 case round =>
  clear b0 b1 b2 bc bs hf hx h0 hL
  obtain ⟨j,hj,hi,⟨x,y,z,hR,bs⟩,b0,b1,⟨c2,b2,hc2⟩,bc,hf,hx⟩:=hrel
  cases j with
  | zero =>
   obtain rfl : _ = Value.int .i64 (-1):=hi.trans (by congr 1)
   have e1 : Pt.grp.mul (K / 2 ^ 0) q = Pt.grp.mul K q:=by rw [Nat.pow_zero,Nat.div_one]
   rw [e1] at hR
   obtain ⟨t,ht⟩ : ∃ t : Pt.Q,t = Pt.grp.mul K q:=⟨_,rfl⟩
   rw [← ht] at hR
   have HTT:=veil ht
   have KF:=veil (fun (b : Nat) (w : World) (hF : Fp w b) => flat_rep hR hF)
   clear hi e1 ht
   go_upto_region 11 with (fail)
   refine' zau (m:=3) (A:=_) (by kernel_rfl) ?h3a ?h3b
   case h3a =>
    refine zaa (cv b) rfl (zac rfl rfl bc rfl Tryz.underlying126 rfl (iK _)) ?_
    refine zaa (sv x.val y.val z.val) rfl (zac rfl rfl bs rfl Tryz.underlying177 rfl (iS _ _ _)) ?_;simp only [aP,lA,lZ,lS]
    refine zaa (qv (Pt.pX t.1) (Pt.pY t.1) (Pt.pFar t.1)) rfl (zag (args:=[cv b,sv x.val y.val z.val]) rfl rfl (fun W => zab Tryz.func148 rfl rfl _ W) (fun W hW => KF.out _ _ (hf.ext hW))) ?_;simp only [aP,lA,lZ,lS]
    exact zar
   refine zcv _ rfl rfl rfl rfl rfl rfl b2 (iT _ _ _) hc2 (zcr _ _ _) ?_
   intro w7 hB hb
   go_wp2
   rw [← HTT.out]
   exact bodyPost_ret (zbm rfl _ _ (w.heap.size + 1 + 1) 29 (qc (Pt.pX t.1) (Pt.pY t.1) (Pt.pFar t.1)) (0,0) _ rfl hb Tryz.underlying29 rfl (iT _ _ _)) rfl ⟨rfl,hx.new hB (by omega)⟩
  | succ m =>
   obtain rfl : _ = Value.int .i64 (m : Int):=hi.trans (by congr 1; omega)
   have hm : m < 256:=by omega
   clear hi
   have hmi : (0 : Int) ≤ (m : Int):=by omega
   obtain ⟨R0,hR0⟩ : ∃ R,R = Pt.grp.mul (K / 2 ^ (m + 1)) q:=⟨_,rfl⟩
   rw [← hR0] at hR
   have HR0:=veil hR0
   clear hR0
   obtain ⟨x1,y1,z1,h1,k1⟩:=twice_rep R0.2 hR
   obtain ⟨R1,hR1⟩ : ∃ R,R = Pt.grp.op R0 R0:=⟨_,rfl⟩
   have HR1:=veil hR1
   replace h1 : Rep x1 y1 z1 R1.1:=by rw [hR1]; exact h1
   have K1:=veil k1
   clear hR1 k1 hR
   have hgs : gs < wr.heap.size:=(Array.getElem?_eq_some_iff.1 bs).1
   have hgs0 : gs ≠ w.heap.size:=fun e => (by rw [e,b0] at bs; injection bs with bs; injection bs with _ bs; exact absurd bs (by decide))
   have hgs1 : gs ≠ w.heap.size + 1:=fun e => (by rw [e,b1] at bs; injection bs with bs; injection bs with _ bs; exact absurd bs (by decide))
   have hgs2 : gs ≠ w.heap.size + 1 + 1:=fun e => (by rw [e,b2] at bs; injection bs with bs; injection bs with _ bs; exact absurd bs (by decide))
   have hgsc : gs ≠ gc:=fun e => (by rw [e,bc] at bs; injection bs with bs; injection bs with _ bs; exact absurd bs (by decide))
   have hgsb : b ≠ gs:=fun e => (by obtain ⟨_,_,_,h2⟩:=hf; have h3:=blkOf h2; rw [e,bs] at h3; injection h3 with h3; injection h3 with _ h3; exact absurd h3 (by decide))
   go_upto_region 8 with (fail)
   refine' zau (m:=3) (A:=_) (by kernel_rfl) ?h4a ?h4b
   case h4a =>
    refine zaa (cv b) rfl (zac rfl rfl bc rfl Tryz.underlying126 rfl (iK _)) ?_
    refine zaa (sv x.val y.val z.val) rfl (zac rfl rfl bs rfl Tryz.underlying177 rfl (iS _ _ _)) ?_;simp only [aP,lA,lZ,lS]
    refine zaa (sv x1.val y1.val z1.val) rfl (zag (args:=[cv b,sv x.val y.val z.val]) rfl rfl (fun W => zab Tryz.func146 rfl rfl _ W) (fun W hW => K1.out _ _ (hf.ext hW))) ?_;simp only [aP,lA,lZ,lS]
    exact zar
   refine zdd _ rfl rfl rfl rfl rfl rfl bs (iS _ _ _) rfl (sc_one _ _ _) ?_
   intro w8 hB hb
   replace b0:=zec hB b0 hgs0.symm
   replace b1:=zec hB b1 hgs1.symm
   replace b2:=zec hB b2 hgs2.symm
   replace bc:=zec hB bc hgsc.symm
   replace hf:=hf.but hB hgsb
   replace hx:=hx.new hB hls
   clear hB bs
   have bs:=hb
   clear hb
   go_upto_region 9 with (fail)
   by_cases hbit : bit K m = true
   ·
    have HBIT:=veil hbit
    obtain ⟨x2,y2,z2,h2,k2⟩:=plus_rep R1.2 q.2 h1
    obtain ⟨R2,hR2⟩ : ∃ R,R = Pt.grp.op R1 q:=⟨_,rfl⟩
    have HR2:=veil hR2
    replace h2 : Rep x2 y2 z2 R2.1:=by rw [hR2]; exact h2
    have K2:=veil k2
    clear hR2 k2 h1
    clear hbit
    refine' zau (m:=3) (A:=_) (by kernel_rfl) ?h5a ?h5b
    case h5a =>
     refine zaa (nv K) rfl (zac rfl rfl b0 rfl uN rfl (iN _)) ?_
     refine zaa (.int .i64 (m : Int)) rfl (zae (.inl rfl) rfl) ?_;simp only [aP,lA,lZ,lS]
     refine zaa (.bool true) rfl (zag (args:=[nv K,.int .i64 (m : Int)]) rfl rfl (fun W => zab Tryz.func120 rfl rfl _ W) (fun W hW => kbit K m true HBIT.out hm W)) ?_;simp only [aP,lA,lZ,lS]
     exact zar
    refine zay rfl ?_
    intro w9 hE
    replace b0:=hE.block b0
    replace b1:=hE.block b1
    replace b2:=hE.block b2
    replace bc:=hE.block bc
    replace bs:=hE.block bs
    replace hf:=hf.ext hE
    replace hx:=hx.trans hE
    clear hE
    go_upto_region 10 with (fail)
    refine' zau (m:=4) (A:=_) (by kernel_rfl) ?h6a ?h6b
    case h6a =>
     refine zaa (cv b) rfl (zac rfl rfl bc rfl Tryz.underlying126 rfl (iK _)) ?_
     refine zaa (sv x1.val y1.val z1.val) rfl (zac rfl rfl bs rfl Tryz.underlying177 rfl (iS _ _ _)) ?_;simp only [aP,lA,lZ,lS]
     refine zaa (qv (Pt.pX q.1) (Pt.pY q.1) (Pt.pFar q.1)) rfl (zac rfl rfl b1 rfl Tryz.underlying29 rfl (iT _ _ _)) ?_
     refine zaa (sv x2.val y2.val z2.val) rfl (zag (args:=[cv b,sv x1.val y1.val z1.val,qv (Pt.pX q.1) (Pt.pY q.1) (Pt.pFar q.1)]) rfl rfl (fun W => zab Tryz.func147 rfl rfl _ W) (fun W hW => K2.out _ _ (hf.ext hW))) ?_;simp only [aP,lA,lZ,lS]
     exact zar
    refine zdd _ rfl rfl rfl rfl rfl rfl bs (iS _ _ _) rfl (sc_one _ _ _) ?_
    intro w10 hB hb
    replace b0:=zec hB b0 hgs0.symm
    replace b1:=zec hB b1 hgs1.symm
    replace b2:=zec hB b2 hgs2.symm
    replace bc:=zec hB bc hgsc.symm
    replace hf:=hf.but hB hgsb
    replace hx:=hx.new hB hls
    clear hB bs
    have bs:=hb
    clear hb
    go_wp2
    go_roundw
    case rel => exact ⟨m,by omega,by go_num,⟨x2,y2,z2,by rw [times_step,if_pos HBIT.out,← HR0.out,← HR1.out,← HR2.out]; exact h2,bs⟩,b0,b1,⟨c2,b2,hc2⟩,bc,hf,hx⟩
    case measure => simp [intOf]
   ·
    have hbit : bit K m = false:=by simpa using hbit
    have HBIT:=veil hbit
    clear hbit
    refine' zau (m:=3) (A:=_) (by kernel_rfl) ?h7a ?h7b
    case h7a =>
     refine zaa (nv K) rfl (zac rfl rfl b0 rfl uN rfl (iN _)) ?_
     refine zaa (.int .i64 (m : Int)) rfl (zae (.inl rfl) rfl) ?_;simp only [aP,lA,lZ,lS]
     refine zaa (.bool false) rfl (zag (args:=[nv K,.int .i64 (m : Int)]) rfl rfl (fun W => zab Tryz.func120 rfl rfl _ W) (fun W hW => kbit K m false HBIT.out hm W)) ?_;simp only [aP,lA,lZ,lS]
     exact zar
    refine zay rfl ?_
    intro w9 hE
    replace b0:=hE.block b0
    replace b1:=hE.block b1
    replace b2:=hE.block b2
    replace bc:=hE.block bc
    replace bs:=hE.block bs
    replace hf:=hf.ext hE
    replace hx:=hx.trans hE
    clear hE
    go_wp2
    go_roundw
    case rel => exact ⟨m,by omega,by go_num,⟨x1,y1,z1,by rw [times_step,HBIT.out,if_neg (by decide),← HR0.out,← HR1.out]; exact h1,bs⟩,b0,b1,⟨c2,b2,hc2⟩,bc,hf,hx⟩
    case measure => simp [intOf]
section
variable {P : Program} {o : Oper} {a : Act} {w : World}
end
theorem hsT (X Y : Nat) (f : Bool) : (#[vI vU 0,vI vU 0,vI vU 0,vI vU 0,vI vU 0,vI vU 0,vI vU 0,vI vU 0,.bool false] : Array Value).size = (qc X Y f).size:=by simp [qc]
theorem pOn_yes (q : Pt.Q) (w : World) : Calls Tryz.prog 47 #[qvP q.1] w fun e w' => e = .returned (.bool true) ∧ Ext w w':=by
 have k:=on_is (Pt.pX q.1) (Pt.pY q.1) (Pt.pFar q.1) (p_top q.1).1 (p_top q.1).2 w
 rw [onB_of] at k
 exact k
theorem pOn_no {X Y : Nat} {f : Bool} (hX : X < top) (hY : Y < top) (h : onB X Y f = false) (w : World) : Calls Tryz.prog 47 #[qv X Y f] w fun e w' => e = .returned (.bool false) ∧ Ext w w':=by
 have k:=on_is X Y f hX hY w
 rw [h] at k
 exact k
end Go.Proofs.YthlbemnbmbmjhaaGreatDoor
