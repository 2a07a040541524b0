/-
  Of C7 C8 CM CR CD D2 D3 D4 Y0.
-/
import Derived.Deep.LoopGhost
import Derived.Deep.RegionWith
import Derived.Deep.Cut
import Derived.Deep.CutRange
import Derived.Deep.MidRow
import Derived.Laws.OwnMore
import Derived.Test.YtedehdbajiaaiaaGreatDoorZO27
import Derived.Test.YtedehdbajiaaiaaGreatDoorZO21
import Derived.Test.YtedehdbajiaaiaaGreatDoorZO6
import Derived.Test.YtedehdbajiaaiaaGreatDoorZO18
import Derived.Test.YtedehdbajiaaiaaGreatDoorZO14
import Derived.Test.YtedehdbajiaaiaaGreatDoorZO17
import Derived.Test.YtedehdbajiaaiaaGreatDoorZO20
import Derived.Test.YtedehdbajiaaiaaGreatDoorZO2
import Derived.Test.YtedehdbajiaaiaaGreatDoorZO4
import Derived.Test.YtedehdbajiaaiaaGreatDoorZO10
set_option maxRecDepth 1000000
set_option maxHeartbeats 20000000
namespace Go.Proofs.YtedehdbajiaaiaaGreatDoor
open Go.RowKit
open Go.Value renaming int → vI
open Go.IntKind renaming u64 → vU
open Go.Act renaming put → aP
open List renaming setIfInBounds_toArray → lA, set_cons_zero → lZ, set_cons_succ → lS
theorem flat_far {b : Nat} (x y : Nat) {w : World} (hF : Fp w b) :
  Calls Tryz.prog 101 #[cv b,sv x y 0] w fun e w' => e = .returned (qv 0 0 true) ∧ Ext w w':=by
 unfold cv sv cc fv sc
 go_enter Tryz.func101,Tryz.ntmps101
 go_upto_region 1 with (fail)
 refine zde fun w1 hx b0 b1 b2 => ?_
 have b0 : w1.heap[w.heap.size]? = some (.cells (cc b) 103 (0,0)):=b0
 have b1 : w1.heap[w.heap.size + 1]? = some (.cells (sc x y 0) 146 (0,0)):=b1
 have hf:=hF.ext hx
 clear hF
 refine' zar (m:=8) (A:=_) (by kernel_rfl) ?h1 ?h2
 case h1 =>
  refine zaa (.pointer (some ⟨w.heap.size,3,none⟩)) rfl (zaf rfl rfl (fldK3 _ ·)) ?_
  refine zaa (fv 87 b) rfl (zak rfl rfl b0 rfl (isn_inv ·)) ?_;simp only [aP,lA,lZ,lS]
  refine zaa (.pointer (some ⟨w.heap.size + 1,8,none⟩)) rfl (zaf rfl rfl (fldS2 _ ·)) ?_
  refine zaa (nv 0) rfl (zad rfl rfl b1 rfl uN rfl (iN _)) ?_;simp only [aP,lA,lZ,lS]
  refine zaa (.tuple #[nv 0,.iface 35 (.int .i64 4)]) rfl (zay (args:=[nv 0]) rfl rfl rfl (he_kInv _ ·) (fun W hW => kinv_z (hf.ext hW))) ?_
  refine zaa (.tuple #[nv 0,.iface 35 (.int .i64 4)]) rfl (zan (.inl rfl) rfl) ?_;simp only [aP,lA,lZ,lS]
  refine zaa (nv 0) rfl (zby rfl rfl rfl) ?_
  refine zaa (.iface 35 (.int .i64 4)) rfl (zby rfl rfl rfl) ?_;simp only [aP,lA,lZ,lS]
  exact zap
 refine zcy _ _ rfl rfl rfl rfl rfl rfl rfl (hzN ·) (fun _ => rfl) (fun _ => rfl) (iN _) rfl (zbp _) ?_
 intro gt w2 hgt bt hE
 replace b2:=hE.block b2
 replace hf:=hf.ext hE
 replace hx:=hx.trans hE
 clear hE
 simp only [aP,lA,lZ,lS]
 clear hgt
 go_upto_region 3 with (fail)
 refine' zar (m:=1) (A:=_) (by kernel_rfl) ?h2a ?h2b
 case h2a =>
  refine zaa (qv 0 0 true) rfl (zbh rfl rfl (bldTF ·)) ?_;simp only [aP,lA,lZ,lS]
  exact zap
 refine zbq _ rfl rfl rfl rfl rfl rfl b2 (iT _ _ _) rfl (zdr _ _ _) ?_
 intro w3 hB hb
 go_wp2
 exact bodyPost_ret (results_cell_row rfl _ _ (w.heap.size + 1 + 1) 48 (qc 0 0 true) (0,0) _ rfl hb Tryz.underlying48 rfl (by kernel_rfl)) rfl ⟨rfl,hx.new hB (by omega)⟩
def flat2 (x y z : Fe) : Fe × Fe:=(x * (Pt.E256.inv z * Pt.E256.inv z),y * (Pt.E256.inv z * Pt.E256.inv z * Pt.E256.inv z))
theorem flat_near {b : Nat} (x y z : Fe) (hz : z ≠ 0) {w : World} (hF : Fp w b) :
  Calls Tryz.prog 101 #[cv b,sv x.val y.val z.val] w fun e w' => e = .returned (qv (flat2 x y z).1.val (flat2 x y z).2.val false) ∧ Ext w w':=by
 obtain ⟨iv,hiv⟩ : ∃ t : Fe,t = Pt.E256.inv z:=⟨_,rfl⟩
 obtain ⟨sq,hsq⟩ : ∃ t : Fe,t = iv * iv:=⟨_,rfl⟩
 obtain ⟨X,hX⟩ : ∃ t : Fe,t = x * sq:=⟨_,rfl⟩
 obtain ⟨cb,hcb⟩ : ∃ t : Fe,t = sq * iv:=⟨_,rfl⟩
 obtain ⟨Y,hY⟩ : ∃ t : Fe,t = y * cb:=⟨_,rfl⟩
 have hfin : flat2 x y z = (X,Y):=by
  unfold flat2
  rw [hY,hcb,hX,hsq,hiv]
 rw [hfin]
 clear hfin
 have kiv:=veil hiv
 have ksq:=veil hsq
 have kX:=veil hX
 have kcb:=veil hcb
 have kY:=veil hY
 clear hY hcb hX hsq hiv
 have kz0:=veil hz
 clear hz
 show Calls Tryz.prog 101 #[cv b,sv x.val y.val z.val] w fun e w' => e = .returned (qv X.val Y.val false) ∧ Ext w w'
 unfold cv sv cc fv sc
 go_enter Tryz.func101,Tryz.ntmps101
 go_upto_region 1 with (fail)
 refine zde fun w1 hx b0 b1 b2 => ?_
 have b0 : w1.heap[w.heap.size]? = some (.cells (cc b) 103 (0,0)):=b0
 have b1 : w1.heap[w.heap.size + 1]? = some (.cells (sc x.val y.val z.val) 146 (0,0)):=b1
 have hf:=hF.ext hx
 clear hF
 refine' zar (m:=8) (A:=_) (by kernel_rfl) ?h1 ?h2
 case h1 =>
  refine zaa (.pointer (some ⟨w.heap.size,3,none⟩)) rfl (zaf rfl rfl (fldK3 _ ·)) ?_
  refine zaa (fv 87 b) rfl (zak rfl rfl b0 rfl (isn_inv ·)) ?_;simp only [aP,lA,lZ,lS]
  refine zaa (.pointer (some ⟨w.heap.size + 1,8,none⟩)) rfl (zaf rfl rfl (fldS2 _ ·)) ?_
  refine zaa (nv z.val) rfl (zad rfl rfl b1 rfl uN rfl (iN _)) ?_;simp only [aP,lA,lZ,lS]
  refine zaa (.tuple #[nv iv.val,.nilIface]) rfl (zay (args:=[nv z.val]) rfl rfl rfl (he_kInv _ ·) (fun W hW => kinv_p kz0.out kiv.out (hf.ext hW))) ?_
  refine zaa (.tuple #[nv iv.val,.nilIface]) rfl (zan (.inl rfl) rfl) ?_;simp only [aP,lA,lZ,lS]
  refine zaa (nv iv.val) rfl (zby rfl rfl rfl) ?_
  refine zaa (.nilIface) rfl (zby rfl rfl rfl) ?_;simp only [aP,lA,lZ,lS]
  exact zap
 refine zcy _ _ rfl rfl rfl rfl rfl rfl rfl (hzN ·) (fun _ => rfl) (fun _ => rfl) (iN _) rfl (zbp _) ?_
 intro gt w2 hgt bt hE
 replace b0:=hE.block b0
 replace b1:=hE.block b1
 replace b2:=hE.block b2
 replace hf:=hf.ext hE
 replace hx:=hx.trans hE
 clear hE
 simp only [aP,lA,lZ,lS]
 clear hgt
 go_upto_region 4 with (fail)
 refine' zar (m:=5) (A:=_) (by kernel_rfl) ?h2a ?h2b
 case h2a =>
  refine zaa (.pointer (some ⟨w.heap.size,2,none⟩)) rfl (zaf rfl rfl (fldK2 _ ·)) ?_
  refine zaa (fv 89 b) rfl (zak rfl rfl b0 rfl (zav ·)) ?_;simp only [aP,lA,lZ,lS]
  refine zaa (nv iv.val) rfl (zad rfl rfl bt rfl uN rfl (iN _)) ?_
  refine zaa (nv iv.val) rfl (zad rfl rfl bt rfl uN rfl (iN _)) ?_;simp only [aP,lA,lZ,lS]
  refine zaa (nv sq.val) rfl (zay (args:=[nv iv.val,nv iv.val]) rfl rfl rfl (zbi _ ·) (fun W hW => zbr ksq.out (hf.ext hW))) ?_;simp only [aP,lA,lZ,lS]
  exact zap
 refine zcs _ _ rfl rfl rfl rfl rfl rfl rfl (hzN ·) (fun _ => rfl) (fun _ => rfl) (iN _) rfl (zbp _) ?_
 intro gsq w3 hgsq bsq hE
 replace b0:=hE.block b0
 replace b1:=hE.block b1
 replace b2:=hE.block b2
 replace bt:=hE.block bt
 replace hf:=hf.ext hE
 replace hx:=hx.trans hE
 clear hE
 simp only [aP,lA,lZ,lS]
 clear hgsq
 go_upto_region 5 with (fail)
 refine' zbu (m:=17) (A:=_) 17 (by kernel_rfl) (by kernel_rfl) (by kernel_rfl) ?h3a ?h3b
 case h3a =>
  refine zaa (.pointer (some ⟨w.heap.size,2,none⟩)) rfl (zaf rfl rfl (fldK2 _ ·)) ?_
  refine zaa (fv 89 b) rfl (zak rfl rfl b0 rfl (zav ·)) ?_;simp only [aP,lA,lZ,lS]
  refine zaa (ptrTo (w.heap.size + 1)) rfl (zaf rfl rfl (fldS0 _ ·)) ?_
  refine zaa (nv x.val) rfl (zad rfl rfl b1 rfl uN rfl (iN _)) ?_;simp only [aP,lA,lZ,lS]
  refine zaa (nv sq.val) rfl (zad rfl rfl bsq rfl uN rfl (iN _)) ?_
  refine zaa (nv X.val) rfl (zay (args:=[nv x.val,nv sq.val]) rfl rfl rfl (zbi _ ·) (fun W hW => zbr kX.out (hf.ext hW))) ?_;simp only [aP,lA,lZ,lS]
  refine zaa (.pointer (some ⟨w.heap.size,2,none⟩)) rfl (zaf rfl rfl (fldK2 _ ·)) ?_
  refine zaa (fv 89 b) rfl (zak rfl rfl b0 rfl (zav ·)) ?_;simp only [aP,lA,lZ,lS]
  refine zaa (.pointer (some ⟨w.heap.size + 1,4,none⟩)) rfl (zaf rfl rfl (fldS1 _ ·)) ?_
  refine zaa (nv y.val) rfl (zad rfl rfl b1 rfl uN rfl (iN _)) ?_;simp only [aP,lA,lZ,lS]
  refine zaa (.pointer (some ⟨w.heap.size,2,none⟩)) rfl (zaf rfl rfl (fldK2 _ ·)) ?_
  refine zaa (fv 89 b) rfl (zak rfl rfl b0 rfl (zav ·)) ?_;simp only [aP,lA,lZ,lS]
  refine zaa (nv sq.val) rfl (zad rfl rfl bsq rfl uN rfl (iN _)) ?_
  refine zaa (nv iv.val) rfl (zad rfl rfl bt rfl uN rfl (iN _)) ?_;simp only [aP,lA,lZ,lS]
  refine zaa (nv cb.val) rfl (zay (args:=[nv sq.val,nv iv.val]) rfl rfl rfl (zbi _ ·) (fun W hW => zbr kcb.out (hf.ext hW))) ?_
  refine zaa (nv Y.val) rfl (zay (args:=[nv y.val,nv cb.val]) rfl rfl rfl (zbi _ ·) (fun W hW => zbr kY.out (hf.ext hW))) ?_;simp only [aP,lA,lZ,lS]
  refine zaa (qv X.val Y.val false) rfl (zbh (vs:=[(0,nv X.val),(1,nv Y.val)]) rfl rfl (fun W => bldT W _ _)) ?_;simp only [aP,lA,lZ,lS]
  exact zap
 refine zfx _ rfl rfl rfl rfl rfl (by kernel_rfl) (by kernel_rfl) rfl rfl rfl b2 (iT _ _ _) rfl (zdr _ _ _) ?_
 intro w4 hB hb
 refine NoPanic.normal ?_
 go_wp2
 exact bodyPost_ret (results_cell_row rfl _ _ (w.heap.size + 1 + 1) 48 (qc X.val Y.val false) (0,0) _ rfl hb Tryz.underlying48 rfl (by kernel_rfl)) rfl ⟨rfl,hx.new hB (by omega)⟩
theorem on_far0 {b : Nat} (Y : Nat) (hY : Y < top) {w : World} (hF : Fp w b) :
  Calls Tryz.prog 56 #[cv b,qv 0 Y true] w fun e w' => e = .returned (.bool (decide (Y = 0))) ∧ Ext w w':=by
 have kY:=veil hY
 clear hY
 obtain ⟨q,hq⟩ : ∃ q,q = decide (Y = 0):=⟨_,rfl⟩
 rw [← hq]
 have kq:=veil hq
 clear hq
 unfold cv qv cc fv qc
 go_enter Tryz.func56,Tryz.ntmps56
 go_upto_region 1 with (fail)
 refine zex fun w1 hx b0 b1 => ?_
 have b0 : w1.heap[w.heap.size]? = some (.cells (cc b) 103 (0,0)):=b0
 have b1 : w1.heap[w.heap.size + 1]? = some (.cells (qc 0 Y true) 48 (0,0)):=b1
 have hf:=hF.ext hx
 clear hF
 refine' zar (m:=2) (A:=_) (by kernel_rfl) ?h1 ?h2
 case h1 =>
  refine zaa (.pointer (some ⟨w.heap.size + 1,8,none⟩)) rfl (zaf rfl rfl (fldT2 _ ·)) ?_
  refine zaa (.bool true) rfl (zak rfl rfl b1 rfl (zbs ·)) ?_;simp only [aP,lA,lZ,lS]
  exact zap
 refine zax rfl ?_
 intro w2 hE
 replace b1:=hE.block b1
 replace hf:=hf.ext hE
 replace hx:=hx.trans hE
 clear hE
 go_upto_region 2 with (fail)
 refine' zdi (m:=9) (A:=_) ?h2a ?h2b
 case h2a =>
  refine zaa (ptrTo (w.heap.size + 1)) rfl (zaf rfl rfl (fldT0 _ ·)) ?_
  refine zaa (nv 0) rfl (zad rfl rfl b1 rfl uN rfl (iN _)) ?_;simp only [aP,lA,lZ,lS]
  refine zaa (.bool true) rfl (zai (args:=[nv 0]) rfl rfl (fun W => zac Tryz.func106 rfl rfl _ W) (fun W hW => zkf rfl W)) ?_
  refine zaa (.bool true) rfl (zan (.inl rfl) rfl) ?_;simp only [aP,lA,lZ,lS]
  refine zaq (.pointer (some ⟨w.heap.size + 1,4,none⟩)) rfl (zaf rfl rfl (fldT1 _ ·)) ?_
  refine zaq (nv Y) rfl (zad rfl rfl b1 rfl uN rfl (iN _)) ?_;simp only [aP,lA,lZ,lS]
  refine zaq (.bool q) rfl (zai (args:=[nv Y]) rfl rfl (fun W => zac Tryz.func106 rfl rfl _ W) (fun W hW => by rw [kq.out]; exact isz_calls Y kY.out W)) ?_
  refine zaa (.bool q) rfl (zbb rfl rfl rfl) ?_;simp only [aP,lA,lZ,lS]
  refine zaa (.bool q) rfl (zan (.inr rfl) rfl) ?_;simp only [aP,lA,lZ,lS]
  exact zap
 refine zax rfl ?_
 intro w3 hE
 replace hf:=hf.ext hE
 replace hx:=hx.trans hE
 clear hE
 go_wp2
 go_ret
 exact ⟨rfl,hx⟩
theorem on_far1 {b : Nat} (X Y : Nat) (hX : X < top) (h0 : X ≠ 0) {w : World} (hF : Fp w b) :
  Calls Tryz.prog 56 #[cv b,qv X Y true] w fun e w' => e = .returned (.bool false) ∧ Ext w w':=by
 have kX:=veil hX
 have k0:=veil h0
 clear hX h0
 unfold cv qv cc fv qc
 go_enter Tryz.func56,Tryz.ntmps56
 go_upto_region 1 with (fail)
 refine zex fun w1 hx b0 b1 => ?_
 have b0 : w1.heap[w.heap.size]? = some (.cells (cc b) 103 (0,0)):=b0
 have b1 : w1.heap[w.heap.size + 1]? = some (.cells (qc X Y true) 48 (0,0)):=b1
 have hf:=hF.ext hx
 clear hF
 refine' zar (m:=2) (A:=_) (by kernel_rfl) ?h1 ?h2
 case h1 =>
  refine zaa (.pointer (some ⟨w.heap.size + 1,8,none⟩)) rfl (zaf rfl rfl (fldT2 _ ·)) ?_
  refine zaa (.bool true) rfl (zak rfl rfl b1 rfl (zbs ·)) ?_;simp only [aP,lA,lZ,lS]
  exact zap
 refine zax rfl ?_
 intro w2 hE
 replace b1:=hE.block b1
 replace hf:=hf.ext hE
 replace hx:=hx.trans hE
 clear hE
 go_upto_region 2 with (fail)
 refine' zdi (m:=9) (A:=_) ?h2a ?h2b
 case h2a =>
  refine zaa (ptrTo (w.heap.size + 1)) rfl (zaf rfl rfl (fldT0 _ ·)) ?_
  refine zaa (nv X) rfl (zad rfl rfl b1 rfl uN rfl (iN _)) ?_;simp only [aP,lA,lZ,lS]
  refine zaa (.bool false) rfl (zai (args:=[nv X]) rfl rfl (fun W => zac Tryz.func106 rfl rfl _ W) (fun W hW => isz_no k0.out kX.out W)) ?_
  refine zaa (.bool false) rfl (zan (.inl rfl) rfl) ?_;simp only [aP,lA,lZ,lS]
  refine zba rfl ?_
  refine zba rfl ?_;simp only [aP,lA,lZ,lS]
  refine zba rfl ?_
  refine zaa (.bool false) rfl (zbb rfl rfl rfl) ?_;simp only [aP,lA,lZ,lS]
  refine zaa (.bool false) rfl (zan (.inr rfl) rfl) ?_;simp only [aP,lA,lZ,lS]
  exact zap
 refine zax rfl ?_
 intro w3 hE
 replace hf:=hf.ext hE
 replace hx:=hx.trans hE
 clear hE
 go_wp2
 go_ret
 exact ⟨rfl,hx⟩
theorem on_out {b : Nat} (X Y : Nat) (hX : X < top) (h0 : ¬ X < Pt.pp) {w : World} (hF : Fp w b) :
  Calls Tryz.prog 56 #[cv b,qv X Y false] w fun e w' => e = .returned (.bool false) ∧ Ext w w':=by
 have kX:=veil hX
 have k0:=veil h0
 clear hX h0
 unfold cv qv cc fv qc
 go_enter Tryz.func56,Tryz.ntmps56
 go_upto_region 1 with (fail)
 refine zex fun w1 hx b0 b1 => ?_
 have b0 : w1.heap[w.heap.size]? = some (.cells (cc b) 103 (0,0)):=b0
 have b1 : w1.heap[w.heap.size + 1]? = some (.cells (qc X Y false) 48 (0,0)):=b1
 have hf:=hF.ext hx
 clear hF
 refine' zar (m:=2) (A:=_) (by kernel_rfl) ?h1 ?h2
 case h1 =>
  refine zaa (.pointer (some ⟨w.heap.size + 1,8,none⟩)) rfl (zaf rfl rfl (fldT2 _ ·)) ?_
  refine zaa (.bool false) rfl (zak rfl rfl b1 rfl (zbs ·)) ?_;simp only [aP,lA,lZ,lS]
  exact zap
 refine zax rfl ?_
 intro w2 hE
 replace b1:=hE.block b1
 replace hf:=hf.ext hE
 replace hx:=hx.trans hE
 clear hE
 go_upto_region 3 with (fail)
 refine' zcr (m:=12) (A:=_) 12 (by kernel_rfl) (by kernel_rfl) ?h2a ?h2b
 case h2a =>
  refine zaa (ptrTo (w.heap.size + 1)) rfl (zaf rfl rfl (fldT0 _ ·)) ?_
  refine zaa (nv X) rfl (zad rfl rfl b1 rfl uN rfl (iN _)) ?_;simp only [aP,lA,lZ,lS]
  refine zaa (nv Pt.pp) rfl (zai (args:=[]) rfl rfl (fun W => zac Tryz.func103 rfl rfl _ W) (fun W hW => pP_is W)) ?_
  refine zaa (.int .i64 (cmpN X Pt.pp)) rfl (zai (args:=[nv X,nv Pt.pp]) rfl rfl (fun W => zac Tryz.func94 rfl rfl _ W) (fun W hW => cmp_no kX.out W)) ?_;simp only [aP,lA,lZ,lS]
  refine zaa (.bool true) rfl (zhv rfl rfl (cmp_no_ge k0.out)) ?_
  refine zaa (.bool true) rfl (zan (.inl rfl) rfl) ?_;simp only [aP,lA,lZ,lS]
  refine zba rfl ?_
  refine zba rfl ?_;simp only [aP,lA,lZ,lS]
  refine zba rfl ?_
  refine zba rfl ?_;simp only [aP,lA,lZ,lS]
  refine zba rfl ?_
  refine zaa (.bool true) rfl (zbb rfl rfl rfl) ?_;simp only [aP,lA,lZ,lS]
  exact zap
 refine zch rfl (by kernel_rfl) ?_
 intro w3 hE
 refine NoPanic.normal ?_
 replace hf:=hf.ext hE
 replace hx:=hx.trans hE
 clear hE
 go_wp2
 go_ret
 exact ⟨rfl,hx⟩
theorem on_high {b : Nat} (X Y : Nat) (hX : X < Pt.pp) (hY : Y < top) (h0 : ¬ Y < Pt.pp) {w : World} (hF : Fp w b) :
  Calls Tryz.prog 56 #[cv b,qv X Y false] w fun e w' => e = .returned (.bool false) ∧ Ext w w':=by
 have kX:=veil hX
 have kY:=veil hY
 have k0:=veil h0
 clear hX hY h0
 unfold cv qv cc fv qc
 go_enter Tryz.func56,Tryz.ntmps56
 go_upto_region 1 with (fail)
 refine zex fun w1 hx b0 b1 => ?_
 have b0 : w1.heap[w.heap.size]? = some (.cells (cc b) 103 (0,0)):=b0
 have b1 : w1.heap[w.heap.size + 1]? = some (.cells (qc X Y false) 48 (0,0)):=b1
 have hf:=hF.ext hx
 clear hF
 refine' zar (m:=2) (A:=_) (by kernel_rfl) ?h1 ?h2
 case h1 =>
  refine zaa (.pointer (some ⟨w.heap.size + 1,8,none⟩)) rfl (zaf rfl rfl (fldT2 _ ·)) ?_
  refine zaa (.bool false) rfl (zak rfl rfl b1 rfl (zbs ·)) ?_;simp only [aP,lA,lZ,lS]
  exact zap
 refine zax rfl ?_
 intro w2 hE
 replace b1:=hE.block b1
 replace hf:=hf.ext hE
 replace hx:=hx.trans hE
 clear hE
 go_upto_region 3 with (fail)
 refine' zcr (m:=12) (A:=_) 12 (by kernel_rfl) (by kernel_rfl) ?h2a ?h2b
 case h2a =>
  refine zaa (ptrTo (w.heap.size + 1)) rfl (zaf rfl rfl (fldT0 _ ·)) ?_
  refine zaa (nv X) rfl (zad rfl rfl b1 rfl uN rfl (iN _)) ?_;simp only [aP,lA,lZ,lS]
  refine zaa (nv Pt.pp) rfl (zai (args:=[]) rfl rfl (fun W => zac Tryz.func103 rfl rfl _ W) (fun W hW => pP_is W)) ?_
  refine zaa (.int .i64 (-1)) rfl (zai (args:=[nv X,nv Pt.pp]) rfl rfl (fun W => zac Tryz.func94 rfl rfl _ W) (fun W hW => cmp_in kX.out W)) ?_;simp only [aP,lA,lZ,lS]
  refine zaa (.bool false) rfl (zhv rfl rfl (by decide)) ?_
  refine zaa (.bool false) rfl (zan (.inl rfl) rfl) ?_;simp only [aP,lA,lZ,lS]
  refine zaq (.pointer (some ⟨w.heap.size + 1,4,none⟩)) rfl (zaf rfl rfl (fldT1 _ ·)) ?_
  refine zaq (nv Y) rfl (zad rfl rfl b1 rfl uN rfl (iN _)) ?_;simp only [aP,lA,lZ,lS]
  refine zaq (nv Pt.pp) rfl (zai (args:=[]) rfl rfl (fun W => zac Tryz.func103 rfl rfl _ W) (fun W hW => pP_is W)) ?_
  refine zaq (.int .i64 (cmpN Y Pt.pp)) rfl (zai (args:=[nv Y,nv Pt.pp]) rfl rfl (fun W => zac Tryz.func94 rfl rfl _ W) (fun W hW => cmp_no kY.out W)) ?_;simp only [aP,lA,lZ,lS]
  refine zaq (.bool true) rfl (zhv rfl rfl (cmp_no_ge k0.out)) ?_
  refine zaa (.bool true) rfl (zbb rfl rfl rfl) ?_;simp only [aP,lA,lZ,lS]
  exact zap
 refine zch rfl (by kernel_rfl) ?_
 intro w3 hE
 refine NoPanic.normal ?_
 replace hf:=hf.ext hE
 replace hx:=hx.trans hE
 clear hE
 go_wp2
 go_ret
 exact ⟨rfl,hx⟩
theorem on_near {b : Nat} (x y : Fe) {w : World} (hF : Fp w b) :
  Calls Tryz.prog 56 #[cv b,qv x.val y.val false] w fun e w' => e = .returned (.bool (decide ((y * y).val = (x * x * x - (x + x + x) + Pt.F Pt.bb).val))) ∧ Ext w w':=by
 obtain ⟨sq,hsq⟩ : ∃ t : Fe,t = x * x:=⟨_,rfl⟩
 obtain ⟨cube,hcube⟩ : ∃ t : Fe,t = sq * x:=⟨_,rfl⟩
 obtain ⟨lhs,hlhs⟩ : ∃ t : Fe,t = y * y:=⟨_,rfl⟩
 obtain ⟨tr,htr⟩ : ∃ t : Fe,t = x + x + x:=⟨_,rfl⟩
 obtain ⟨d,hd⟩ : ∃ t : Fe,t = cube - tr:=⟨_,rfl⟩
 obtain ⟨r,hr⟩ : ∃ t : Fe,t = d + Pt.F Pt.bb:=⟨_,rfl⟩
 have hfin : x * x * x - (x + x + x) + Pt.F Pt.bb = r:=by
  subst hr hd htr hlhs hcube hsq
  rfl
 rw [hfin,← hlhs]
 clear hfin
 have ksq:=veil hsq
 have kcube:=veil hcube
 have klhs:=veil hlhs
 have ktr:=veil htr
 have kd:=veil hd
 have kr:=veil hr
 clear hr hd htr hlhs hcube hsq
 have kx:=veil x.isLt
 have ky:=veil y.isLt
 unfold cv qv cc fv qc
 go_enter Tryz.func56,Tryz.ntmps56
 go_upto_region 1 with (fail)
 refine zex fun w1 hx b0 b1 => ?_
 have b0 : w1.heap[w.heap.size]? = some (.cells (cc b) 103 (0,0)):=b0
 have b1 : w1.heap[w.heap.size + 1]? = some (.cells (qc x.val y.val false) 48 (0,0)):=b1
 have hf:=hF.ext hx
 clear hF
 refine' zar (m:=2) (A:=_) (by kernel_rfl) ?h1 ?h2
 case h1 =>
  refine zaa (.pointer (some ⟨w.heap.size + 1,8,none⟩)) rfl (zaf rfl rfl (fldT2 _ ·)) ?_
  refine zaa (.bool false) rfl (zak rfl rfl b1 rfl (zbs ·)) ?_;simp only [aP,lA,lZ,lS]
  exact zap
 refine zax rfl ?_
 intro w2 hE
 replace b0:=hE.block b0
 replace b1:=hE.block b1
 replace hf:=hf.ext hE
 replace hx:=hx.trans hE
 clear hE
 go_upto_region 3 with (fail)
 refine' zcr (m:=12) (A:=_) 12 (by kernel_rfl) (by kernel_rfl) ?h2a ?h2b
 case h2a =>
  refine zaa (ptrTo (w.heap.size + 1)) rfl (zaf rfl rfl (fldT0 _ ·)) ?_
  refine zaa (nv x.val) rfl (zad rfl rfl b1 rfl uN rfl (iN _)) ?_;simp only [aP,lA,lZ,lS]
  refine zaa (nv Pt.pp) rfl (zai (args:=[]) rfl rfl (fun W => zac Tryz.func103 rfl rfl _ W) (fun W hW => pP_is W)) ?_
  refine zaa (.int .i64 (-1)) rfl (zai (args:=[nv x.val,nv Pt.pp]) rfl rfl (fun W => zac Tryz.func94 rfl rfl _ W) (fun W hW => cmp_in kx.out W)) ?_;simp only [aP,lA,lZ,lS]
  refine zaa (.bool false) rfl (zhv rfl rfl (by decide)) ?_
  refine zaa (.bool false) rfl (zan (.inl rfl) rfl) ?_;simp only [aP,lA,lZ,lS]
  refine zaq (.pointer (some ⟨w.heap.size + 1,4,none⟩)) rfl (zaf rfl rfl (fldT1 _ ·)) ?_
  refine zaq (nv y.val) rfl (zad rfl rfl b1 rfl uN rfl (iN _)) ?_;simp only [aP,lA,lZ,lS]
  refine zaq (nv Pt.pp) rfl (zai (args:=[]) rfl rfl (fun W => zac Tryz.func103 rfl rfl _ W) (fun W hW => pP_is W)) ?_
  refine zaq (.int .i64 (-1)) rfl (zai (args:=[nv y.val,nv Pt.pp]) rfl rfl (fun W => zac Tryz.func94 rfl rfl _ W) (fun W hW => cmp_in ky.out W)) ?_;simp only [aP,lA,lZ,lS]
  refine zaq (.bool false) rfl (zhv rfl rfl (by decide)) ?_
  refine zaa (.bool false) rfl (zbb rfl rfl rfl) ?_;simp only [aP,lA,lZ,lS]
  exact zap
 refine zch rfl (by kernel_rfl) ?_
 intro w3 hE
 refine NoPanic.normal ?_
 replace b0:=hE.block b0
 replace b1:=hE.block b1
 replace hf:=hf.ext hE
 replace hx:=hx.trans hE
 clear hE
 go_upto_region 5 with (fail)
 refine' zbu (m:=12) (A:=_) 13 (by kernel_rfl) (by kernel_rfl) (by kernel_rfl) ?h3a ?h3b
 case h3a =>
  refine zaa (.pointer (some ⟨w.heap.size,2,none⟩)) rfl (zaf rfl rfl (fldK2 _ ·)) ?_
  refine zaa (fv 89 b) rfl (zak rfl rfl b0 rfl (zav ·)) ?_;simp only [aP,lA,lZ,lS]
  refine zaa (.pointer (some ⟨w.heap.size,2,none⟩)) rfl (zaf rfl rfl (fldK2 _ ·)) ?_
  refine zaa (fv 89 b) rfl (zak rfl rfl b0 rfl (zav ·)) ?_;simp only [aP,lA,lZ,lS]
  refine zaa (ptrTo (w.heap.size + 1)) rfl (zaf rfl rfl (fldT0 _ ·)) ?_
  refine zaa (nv x.val) rfl (zad rfl rfl b1 rfl uN rfl (iN _)) ?_;simp only [aP,lA,lZ,lS]
  refine zaa (ptrTo (w.heap.size + 1)) rfl (zaf rfl rfl (fldT0 _ ·)) ?_
  refine zaa (nv x.val) rfl (zad rfl rfl b1 rfl uN rfl (iN _)) ?_;simp only [aP,lA,lZ,lS]
  refine zaa (nv sq.val) rfl (zay (args:=[nv x.val,nv x.val]) rfl rfl rfl (zbi _ ·) (fun W hW => zbr ksq.out (hf.ext hW))) ?_
  refine zaa (ptrTo (w.heap.size + 1)) rfl (zaf rfl rfl (fldT0 _ ·)) ?_;simp only [aP,lA,lZ,lS]
  refine zaa (nv x.val) rfl (zad rfl rfl b1 rfl uN rfl (iN _)) ?_
  refine zaa (nv cube.val) rfl (zay (args:=[nv sq.val,nv x.val]) rfl rfl rfl (zbi _ ·) (fun W hW => zbr kcube.out (hf.ext hW))) ?_;simp only [aP,lA,lZ,lS]
  exact zap
 refine zci _ _ rfl rfl rfl rfl rfl rfl rfl rfl rfl (by kernel_rfl) (by kernel_rfl) (by kernel_rfl) rfl rfl (hzN ·) (fun _ => rfl) (fun _ => rfl) (iN _) rfl (zbp _) ?_
 intro gcube w4 hgcube bcube hE
 refine NoPanic.normal ?_
 replace b0:=hE.block b0
 replace b1:=hE.block b1
 replace hf:=hf.ext hE
 replace hx:=hx.trans hE
 clear hE
 simp only [aP,lA,lZ,lS]
 clear hgcube
 go_upto_region 6 with (fail)
 refine' zbu (m:=21) (A:=_) 21 (by kernel_rfl) (by kernel_rfl) (by kernel_rfl) ?h4a ?h4b
 case h4a =>
  refine zaa (.pointer (some ⟨w.heap.size,2,none⟩)) rfl (zaf rfl rfl (fldK2 _ ·)) ?_
  refine zaa (fv 89 b) rfl (zak rfl rfl b0 rfl (zav ·)) ?_;simp only [aP,lA,lZ,lS]
  refine zaa (.pointer (some ⟨w.heap.size + 1,4,none⟩)) rfl (zaf rfl rfl (fldT1 _ ·)) ?_
  refine zaa (nv y.val) rfl (zad rfl rfl b1 rfl uN rfl (iN _)) ?_;simp only [aP,lA,lZ,lS]
  refine zaa (.pointer (some ⟨w.heap.size + 1,4,none⟩)) rfl (zaf rfl rfl (fldT1 _ ·)) ?_
  refine zaa (nv y.val) rfl (zad rfl rfl b1 rfl uN rfl (iN _)) ?_;simp only [aP,lA,lZ,lS]
  refine zaa (nv lhs.val) rfl (zay (args:=[nv y.val,nv y.val]) rfl rfl rfl (zbi _ ·) (fun W hW => zbr klhs.out (hf.ext hW))) ?_
  refine zaa (ptrTo w.heap.size) rfl (zaf rfl rfl (fldK0 _ ·)) ?_;simp only [aP,lA,lZ,lS]
  refine zaa (fv 104 b) rfl (zak rfl rfl b0 rfl (zav ·)) ?_
  refine zaa (.pointer (some ⟨w.heap.size,1,none⟩)) rfl (zaf rfl rfl (fldK1 _ ·)) ?_;simp only [aP,lA,lZ,lS]
  refine zaa (fv 105 b) rfl (zak rfl rfl b0 rfl (zav ·)) ?_
  refine zaa (nv cube.val) rfl (zad rfl rfl bcube rfl uN rfl (iN _)) ?_;simp only [aP,lA,lZ,lS]
  refine zaa (cv b) rfl (zad rfl rfl b0 rfl Tryz.underlying103 rfl (iK _)) ?_
  refine zaa (ptrTo (w.heap.size + 1)) rfl (zaf rfl rfl (fldT0 _ ·)) ?_;simp only [aP,lA,lZ,lS]
  refine zaa (nv x.val) rfl (zad rfl rfl b1 rfl uN rfl (iN _)) ?_
  refine zaa (nv tr.val) rfl (zai (args:=[cv b,nv x.val]) rfl rfl (fun W => zac Tryz.func107 rfl rfl _ W) (fun W hW => trp_calls ktr.out (hf.ext hW))) ?_;simp only [aP,lA,lZ,lS]
  refine zaa (nv d.val) rfl (zay (args:=[nv cube.val,nv tr.val]) rfl rfl rfl (zcz _ ·) (fun W hW => zdz kd.out (hf.ext hW))) ?_
  refine zaa (nv ((Pt.F Pt.bb : Fe).val)) rfl (zai (args:=[]) rfl rfl (fun W => zac Tryz.func108 rfl rfl _ W) (fun W hW => bb_is W)) ?_;simp only [aP,lA,lZ,lS]
  refine zaa (nv r.val) rfl (zay (args:=[nv d.val,nv ((Pt.F Pt.bb : Fe).val)]) rfl rfl rfl (he_kAdd _ ·) (fun W hW => kadd_p kr.out (hf.ext hW))) ?_
  refine zaa (.bool (decide (lhs.val = r.val))) rfl (made_eqn rfl rfl rfl (zek _) (zek _)) ?_;simp only [aP,lA,lZ,lS]
  refine zaa (.bool (decide (lhs.val = r.val))) rfl (zan (.inr rfl) rfl) ?_;simp only [aP,lA,lZ,lS]
  exact zap
 refine zch rfl (by kernel_rfl) ?_
 intro w5 hE
 refine NoPanic.normal ?_
 replace hf:=hf.ext hE
 replace hx:=hx.trans hE
 clear hE
 go_wp2
 go_ret
 exact ⟨rfl,hx⟩
def Rep (x y z : Fe) : Pt.P Pt.pp → Prop
 | none => z = 0
 | some (X,Y) => z ≠ 0 ∧ x = X * (z * z) ∧ y = Y * (z * z * z)
section
variable {n : Nat} [NeZero n]
theorem rt_m {X Y z l x Z s u : Fin n} (hl : l * (Y + Y) = 3 * (X * X - 1)) (hx : x = X * (z * z)) (hZ : Z = Y * (z * z * z) * z + Y * (z * z * z) * z) (hs : s = x - z * z) (hu : u = x + z * z) : s * u + s * u + s * u = l * Z:=by
 subst hs hu hx hZ
 have h : l * (Y * (z * z * z) * z + Y * (z * z * z) * z) = l * (Y + Y) * (z * z * z * z):=by grobner
 rw [h,hl]
 grobner
theorem rt_c {X Y z x y Z : Fin n} (hx : x = X * (z * z)) (hy : y = Y * (z * z * z)) (hZ : Z = y * z + y * z) : (x * (y * y) + x * (y * y)) + (x * (y * y) + x * (y * y)) = X * (Z * Z):=by
 subst hZ hy hx
 grobner
theorem rt_x {m l Z c X : Fin n} (hm : m = l * Z) (hc : c = X * (Z * Z)) : m * m - (c + c) = (l * l - X - X) * (Z * Z):=by
 subst hm hc
 grobner
theorem rt_t {Y z y Z : Fin n} (hy : y = Y * (z * z * z)) (hZ : Z = y * z + y * z) : ((y * y * (y * y) + y * y * (y * y)) + (y * y * (y * y) + y * y * (y * y))) + ((y * y * (y * y) + y * y * (y * y)) + (y * y * (y * y) + y * y * (y * y))) = Y * (Z * Z * Z):=by
 subst hZ hy
 grobner
theorem rt_y {m l Z c X x3 X3 t Y : Fin n} (hm : m = l * Z) (hc : c = X * (Z * Z)) (hx : x3 = X3 * (Z * Z)) (ht : t = Y * (Z * Z * Z)) : m * (c - x3) - t = (l * (X - X3) - Y) * (Z * Z * Z):=by
 subst hm hc hx ht
 grobner
theorem rp_run {X1 X2 z x : Fin n} (hx : x = X1 * (z * z)) : X2 * (z * z) - x = (X2 - X1) * (z * z):=by subst hx; grobner
theorem rp_rise {Y1 Y2 z y : Fin n} (hy : y = Y1 * (z * z * z)) : Y2 * (z * z * z) - y = (Y2 - Y1) * (z * z * z):=by subst hy; grobner
theorem rp_l {X1 X2 Y1 Y2 z l run Z : Fin n} (hl : l * (X2 - X1) = Y2 - Y1) (hr : run = (X2 - X1) * (z * z)) (hZ : Z = z * run) : (Y2 - Y1) * (z * z * z) = l * Z:=by
 subst hZ hr
 rw [← hl]
 grobner
theorem rp_x {X1 X2 z l run Z rise x : Fin n} (hx : x = X1 * (z * z)) (hr : run = (X2 - X1) * (z * z)) (hZ : Z = z * run) (hs : rise = l * Z) :
  rise * rise - run * run * run - (x * (run * run) + x * (run * run)) = (l * l - X1 - X2) * (Z * Z):=by
 subst hs hZ hr hx
 grobner
theorem rp_y {X1 Y1 X2 z l run Z rise x y x3 X3 : Fin n} (hx : x = X1 * (z * z)) (hy : y = Y1 * (z * z * z)) (hr : run = (X2 - X1) * (z * z)) (hZ : Z = z * run) (hs : rise = l * Z) (h3 : x3 = X3 * (Z * Z)) :
  rise * (x * (run * run) - x3) - y * (run * run * run) = (l * (X1 - X3) - Y1) * (Z * Z * Z):=by
 subst h3 hs hZ hr hx hy
 grobner
theorem rf_x {X x z t : Fin n} (hx : x = X * (z * z)) (ht : z * t = 1) : x * (t * t) = X:=by
 subst hx
 have h : X * (z * z) * (t * t) = X * (z * t) * (z * t):=by grobner
 rw [h,ht]
 grobner
theorem rf_y {Y y z t : Fin n} (hy : y = Y * (z * z * z)) (ht : z * t = 1) : y * (t * t * t) = Y:=by
 subst hy
 have h : Y * (z * z * z) * (t * t * t) = Y * (z * t) * (z * t) * (z * t):=by grobner
 rw [h,ht]
 grobner
theorem three_x (x : Fin n) : x + x + x = 3 * x:=by grobner
theorem opp_of {y1 y2 : Fin n} (h : (y1 - y2) * (y1 - (0 - y2)) = 0) (hz : ∀ x y : Fin n,x * y = 0 → x = 0 ∨ y = 0) (hn : y1 ≠ y2) : y1 = 0 - y2:=by
 rcases hz _ _ h with h | h
 ·
  exact absurd (Pt.eq_of_sub h) hn
 ·
  exact Pt.eq_of_sub h
theorem opp_sq {y1 y2 : Fin n} (h : y1 * y1 = y2 * y2) : (y1 - y2) * (y1 - (0 - y2)) = 0:=by grobner
end
theorem fe_ne {x : Fe} (h : x ≠ 0) : x.val ≠ 0:=fun e => h (Fin.ext (by rw [e,zfs]))
theorem fe_z {x : Fe} (h : x = 0) : x.val = 0:=by rw [h,zfs]
theorem noz {x y : Fe} (hx : x ≠ 0) (hy : y ≠ 0) : x * y ≠ 0:=fun e => by
 rcases Pt.good.hz _ _ e with h | h
 ·
  exact hx h
 ·
  exact hy h
section
variable {n : Nat} [NeZero n]
theorem r0 (y : Fin n) : y * 0 + y * 0 = 0:=by grobner
theorem r1 (Y z : Fin n) : Y * (z * z * z) * z + Y * (z * z * z) * z = (Y + Y) * (z * z * (z * z)):=by grobner
theorem r2 (u i d : Fin n) (h : d * i = 1) : u * i * d = u:=by
 have e : u * i * d = u * (d * i):=by grobner
 rw [e,h]
 grobner
theorem r3 (X : Fin n) : X = X * (1 * 1):=by grobner
theorem r4 (X : Fin n) : X = X * (1 * 1 * 1):=by grobner
theorem r5 (X z : Fin n) : (X - X) * z = 0:=by grobner
end
theorem rep_twice {x y z : Fe} {p : Pt.P Pt.pp} (hp : Pt.E256.on p) (h : Rep x y z p) : Rep (twice3 x y z).1 (twice3 x y z).2.1 (twice3 x y z).2.2 (Pt.E256.add p p):=by
 rcases p with _ | ⟨X,Y⟩
 ·
  have hz : z = 0:=h
  subst hz
  exact r0 y
 ·
  obtain ⟨hz,hx,hy⟩:=h
  have hd:=Pt.down_same hp
  have hn : ¬ (X = X ∧ Y = 0 - Y):=fun e => hd ((Pt.ring_neg _ _).1 e.2)
  rw [Pt.add_near hn,Pt.lam_same]
  have hl:=r2 (3 * (X * X - 1)) _ _ (Pt.good.hinv (Y + Y) hd)
  generalize 3 * (X * X - 1) * Pt.E256.inv (Y + Y) = l at hl ⊢
  have hZ : y * z + y * z = Y * (z * z * z) * z + Y * (z * z * z) * z:=by rw [hy]
  have hm:=rt_m hl hx hZ rfl rfl
  have hc:=rt_c hx hy rfl
  have h3:=rt_x hm hc
  refine ⟨?_,h3,rt_y hm hc h3 (rt_t hy rfl)⟩
  show y * z + y * z ≠ 0
  rw [hZ,r1]
  exact noz hd (noz (noz hz hz) (noz hz hz))
def qvP (p : Pt.P Pt.pp) : Value:=qv (Pt.pX p) (Pt.pY p) (Pt.pFar p)
theorem twice_rep {x y z : Fe} {p : Pt.P Pt.pp} (hp : Pt.E256.on p) (h : Rep x y z p) : ∃ x' y' z' : Fe,Rep x' y' z' (Pt.E256.add p p) ∧
  ∀ (b : Nat) (w : World),Fp w b → Calls Tryz.prog 98 #[cv b,sv x.val y.val z.val] w fun e w' => e = .returned (sv x'.val y'.val z'.val) ∧ Ext w w' :=
 ⟨_,_,_,rep_twice hp h,fun _ _ hF => twice_calls x y z hF⟩
theorem plus_rep {x y z : Fe} {p q : Pt.P Pt.pp} (hp : Pt.E256.on p) (hq : Pt.E256.on q) (h : Rep x y z p) : ∃ x' y' z' : Fe,Rep x' y' z' (Pt.E256.add p q) ∧
  ∀ (b : Nat) (w : World),Fp w b → Calls Tryz.prog 100 #[cv b,sv x.val y.val z.val,qvP q] w fun e w' => e = .returned (sv x'.val y'.val z'.val) ∧ Ext w w':=by
 rcases q with _ | ⟨X2,Y2⟩
 ·
  rw [Pt.add_none]
  exact ⟨_,_,_,h,fun _ _ hF => plus_far x.val y.val z.val 0 0 hF⟩
 rcases p with _ | ⟨X1,Y1⟩
 ·
  have hz : z = 0:=h
  subst hz
  rw [Pt.none_add,zfs]
  refine ⟨X2,Y2,1,⟨?_,r3 X2,r4 Y2⟩,fun b w hF => ?_⟩
  ·
   intro e
   have:=congrArg Fin.val e
   rw [v_one,zfs] at this
   exact absurd this (by decide)
  ·
   rw [v_one]
   exact plus_lift x.val y.val X2.val Y2.val hF
 ·
  obtain ⟨hz,hx,hy⟩:=h
  have hz3 : z * z * z ≠ 0:=noz (noz hz hz) hz
  have hrun : runOf x z X2 = (X2 - X1) * (z * z):=rp_run hx
  have hrise : riseOf y z Y2 = (Y2 - Y1) * (z * z * z):=rp_rise hy
  by_cases hX : X1 = X2
  ·
   subst hX
   have h0 : (runOf x z X1).val = 0:=fe_z (by rw [hrun]; exact r5 _ _)
   by_cases hY : Y1 = Y2
   ·
    subst hY
    have h1 : (riseOf y z Y1).val = 0:=fe_z (by rw [hrise]; exact r5 _ _)
    exact ⟨_,_,_,rep_twice hp ⟨hz,hx,hy⟩,fun _ _ hF => plus_same x y z X1 Y1 (fe_ne hz) h0 h1 hF⟩
   ·
    have h1 : (riseOf y z Y2).val ≠ 0:=fe_ne (by rw [hrise]; exact noz (fun e => hY (Pt.eq_of_sub e).symm) hz3)
    have he : Y1 * Y1 = Y2 * Y2:=by
     have e1 : Y1 * Y1 = _:=(Pt.on_iff X1 Y1).1 hp
     have e2 : Y2 * Y2 = _:=(Pt.on_iff X1 Y2).1 hq
     rw [e1,e2]
    have ho:=opp_of (opp_sq he) Pt.good.hz hY
    rw [Pt.add_far ⟨rfl,ho⟩]
    refine ⟨0,0,0,rfl,fun b w hF => ?_⟩
    rw [zfs]
    exact plus_opp x y z X1 Y2 (fe_ne hz) h0 h1 hF
  ·
   have hd : X2 - X1 ≠ 0:=fun e => hX (Pt.eq_of_sub e).symm
   have h0 : runOf x z X2 ≠ 0:=by rw [hrun]; exact noz hd (noz hz hz)
   rw [Pt.add_near (fun e => hX e.1),Pt.lam_else (fun e => hX e.1)]
   have hl:=r2 (Y2 - Y1) _ _ (Pt.good.hinv (X2 - X1) hd)
   generalize (Y2 - Y1) * Pt.E256.inv (X2 - X1) = l at hl ⊢
   have hs : riseOf y z Y2 = l * (z * runOf x z X2):=by rw [hrise]; exact rp_l hl hrun rfl
   have h3:=rp_x (X2:=X2) hx hrun rfl hs
   exact ⟨_,_,_,⟨noz hz h0,h3,rp_y (X2:=X2) hx hy hrun rfl hs h3⟩,fun _ _ hF => plus_else x y z X2 Y2 (fe_ne hz) (fe_ne h0) hF⟩
theorem lift_rep (p : Pt.P Pt.pp) : ∃ x y z : Fe,Rep x y z p ∧ ∀ w,Calls Tryz.prog 96 #[qvP p] w fun e w' => e = .returned (sv x.val y.val z.val) ∧ Ext w w':=by
 rcases p with _ | ⟨X,Y⟩
 ·
  refine ⟨0,0,0,rfl,fun w => ?_⟩
  rw [zfs]
  exact lift_far 0 0 w
 ·
  refine ⟨X,Y,1,⟨?_,r3 X,r4 Y⟩,fun w => ?_⟩
  ·
   intro e
   have:=congrArg Fin.val e
   rw [v_one,zfs] at this
   exact absurd this (by decide)
  ·
   rw [v_one]
   exact lift_near X.val Y.val w
theorem flat_rep {b : Nat} {x y z : Fe} {p : Pt.P Pt.pp} (h : Rep x y z p) {w : World} (hF : Fp w b) :
  Calls Tryz.prog 101 #[cv b,sv x.val y.val z.val] w fun e w' => e = .returned (qvP p) ∧ Ext w w':=by
 rcases p with _ | ⟨X,Y⟩
 ·
  have hz : z = 0:=h
  subst hz
  rw [zfs]
  exact flat_far x.val y.val hF
 ·
  obtain ⟨hz,hx,hy⟩:=h
  have ht:=Pt.good.hinv z hz
  refine (flat_near x y z hz hF).mono fun _ _ ⟨he,hw⟩ => ⟨?_,hw⟩
  rw [he]
  have e1 : (flat2 x y z).1 = X:=rf_x hx ht
  have e2 : (flat2 x y z).2 = Y:=rf_y hy ht
  rw [e1,e2]
  rfl
theorem on_calls {b : Nat} (X Y : Nat) (f : Bool) (hX : X < top) (hY : Y < top) {w : World} (hF : Fp w b) :
  Calls Tryz.prog 56 #[cv b,qv X Y f] w fun e w' => e = .returned (.bool (onB X Y f)) ∧ Ext w w':=by
 unfold onB
 cases f with
 | true =>
  by_cases h0 : X = 0
  ·
   subst h0
   simp only [if_true,decide_true,Bool.true_and]
   exact on_far0 Y hY hF
  ·
   simp only [if_true,h0,decide_false,Bool.false_and]
   exact on_far1 X Y hX h0 hF
 | false =>
  by_cases hx : X < Pt.pp
  ·
   by_cases hy : Y < Pt.pp
   ·
    simp only [Bool.false_eq_true,if_false,hx,hy,decide_true,Bool.true_and]
    have k:=on_near (b:=b) ⟨X,hx⟩ ⟨Y,hy⟩ hF
    rw [three_x,← right_val,← Pt.v_mul] at k
    exact k
   ·
    simp only [Bool.false_eq_true,if_false,hx,hy,decide_true,decide_false,Bool.true_and,Bool.false_and]
    exact on_high X Y hx hY hy hF
  ·
   simp only [Bool.false_eq_true,if_false,hx,decide_false,Bool.false_and]
   exact on_out X Y hX hx hF
theorem on_yes {b : Nat} (q : Pt.Q) {w : World} (hF : Fp w b) : Calls Tryz.prog 56 #[cv b,qvP q.1] w fun e w' => e = .returned (.bool true) ∧ Ext w w':=by
 have k:=on_calls (Pt.pX q.1) (Pt.pY q.1) (Pt.pFar q.1) (p_top q.1).1 (p_top q.1).2 hF
 rw [onB_of] at k
 exact k
theorem Fp.but {w W : World} {b r : Nat} (h : Fp w b) (hB : But r w W) (hne : b ≠ r) : Fp W b:=by
 obtain ⟨N,Q,h1,h2⟩:=h
 exact ⟨N,Q,h1,h2.of_block (hB.block b h2.lt (by intro e; simp at e; exact hne e))⟩
theorem add_yes (q r : Pt.Q) (w : World) :
  Calls Tryz.prog 134 #[qvP q.1,qvP r.1] w fun e w' => e = .returned (.tuple #[qvP (Pt.grp.op q r).1,.nilIface]) ∧ Ext w w':=by
 obtain ⟨x1,y1,z1,h1,k1⟩:=lift_rep q.1
 obtain ⟨x2,y2,z2,h2,k2⟩:=plus_rep q.2 r.2 h1
 have k3:=fun (b : Nat) (w : World) (hF : Fp w b) => flat_rep h2 hF
 obtain ⟨t,ht⟩ : ∃ t : Pt.Q,t = Pt.grp.op q r:=⟨_,rfl⟩
 have ht2 : Pt.E256.add q.1 r.1 = t.1:=by rw [ht]; rfl
 rw [ht2] at k3
 rw [← ht]
 have K1:=veil k1
 have K2:=veil k2
 have K3:=veil k3
 clear k1 k2 k3 h1 h2 ht ht2
 unfold qvP qv qc
 go_enter Tryz.func134,Tryz.ntmps134
 go_upto_region 1 with (fail)
 refine zde fun w1 hx b0 b1 b2 => ?_
 have b0 : w1.heap[w.heap.size]? = some (.cells (qc (Pt.pX q.1) (Pt.pY q.1) (Pt.pFar q.1)) 48 (0,0)):=b0
 have b1 : w1.heap[w.heap.size + 1]? = some (.cells (qc (Pt.pX r.1) (Pt.pY r.1) (Pt.pFar r.1)) 48 (0,0)):=b1
 refine wp_region_lit ?_
 refine zjq (R:=fun v W' => ∃ b,v = cv b ∧ Fp W' b ∧ Ext w1 W') rfl rfl rfl (fun W => zac Tryz.func55 rfl rfl _ W) ((zic w1).mono fun e W' ⟨b,he,hF,hE⟩ => ⟨_,he,b,rfl,hF,hE⟩) ?_
 rintro v w2 ⟨b,rfl,hf,hE⟩
 simp only [aP,lA,lZ,lS]
 replace b0:=hE.block b0
 replace b1:=hE.block b1
 replace b2:=hE.block b2
 replace hx:=hx.trans hE
 clear hE
 refine zif _ _ rfl rfl rfl rfl rfl rfl (hzK ·) (fun _ => rfl) (fun _ => rfl) (iK _) rfl (cc_one _) ?_
 intro gc w3 hgc bc hE
 replace b0:=hE.block b0
 replace b1:=hE.block b1
 replace b2:=hE.block b2
 replace hf:=hf.ext hE
 replace hx:=hx.trans hE
 clear hE
 simp only [aP,lA,lZ,lS]
 clear hgc
 refine wpList_nil ?_
 go_upto_region 2 with (fail)
 refine' zdi (m:=10) (A:=_) ?h1 ?h2
 case h1 =>
  refine zaa (cv b) rfl (zad rfl rfl bc rfl Tryz.underlying103 rfl (iK _)) ?_
  refine zaa (qv (Pt.pX q.1) (Pt.pY q.1) (Pt.pFar q.1)) rfl (zad rfl rfl b0 rfl Tryz.underlying48 rfl (iT _ _ _)) ?_;simp only [aP,lA,lZ,lS]
  refine zaa (.bool true) rfl (zai (args:=[cv b,qv (Pt.pX q.1) (Pt.pY q.1) (Pt.pFar q.1)]) rfl rfl (fun W => zac Tryz.func56 rfl rfl _ W) (fun W hW => on_yes q (hf.ext hW))) ?_
  refine zaa (.bool false) rfl (zbm rfl rfl rfl) ?_;simp only [aP,lA,lZ,lS]
  refine zaa (.bool false) rfl (zan (.inl rfl) rfl) ?_
  refine zaq (cv b) rfl (zad rfl rfl bc rfl Tryz.underlying103 rfl (iK _)) ?_;simp only [aP,lA,lZ,lS]
  refine zaq (qv (Pt.pX r.1) (Pt.pY r.1) (Pt.pFar r.1)) rfl (zad rfl rfl b1 rfl Tryz.underlying48 rfl (iT _ _ _)) ?_
  refine zaq (.bool true) rfl (zai (args:=[cv b,qv (Pt.pX r.1) (Pt.pY r.1) (Pt.pFar r.1)]) rfl rfl (fun W => zac Tryz.func56 rfl rfl _ W) (fun W hW => on_yes r (hf.ext hW))) ?_;simp only [aP,lA,lZ,lS]
  refine zaq (.bool false) rfl (zbm rfl rfl rfl) ?_
  refine zaa (.bool false) rfl (zbb rfl rfl rfl) ?_;simp only [aP,lA,lZ,lS]
  exact zap
 refine zax rfl ?_
 intro w4 hE
 replace b0:=hE.block b0
 replace b1:=hE.block b1
 replace b2:=hE.block b2
 replace bc:=hE.block bc
 replace hf:=hf.ext hE
 replace hx:=hx.trans hE
 clear hE
 go_upto_region 4 with (fail)
 refine' zbu (m:=7) (A:=_) 7 (by kernel_rfl) (by kernel_rfl) (by kernel_rfl) ?h2a ?h2b
 case h2a =>
  refine zaa (cv b) rfl (zad rfl rfl bc rfl Tryz.underlying103 rfl (iK _)) ?_
  refine zaa (cv b) rfl (zad rfl rfl bc rfl Tryz.underlying103 rfl (iK _)) ?_;simp only [aP,lA,lZ,lS]
  refine zaa (qv (Pt.pX q.1) (Pt.pY q.1) (Pt.pFar q.1)) rfl (zad rfl rfl b0 rfl Tryz.underlying48 rfl (iT _ _ _)) ?_
  refine zaa (sv x1.val y1.val z1.val) rfl (zai (args:=[qv (Pt.pX q.1) (Pt.pY q.1) (Pt.pFar q.1)]) rfl rfl (fun W => zac Tryz.func96 rfl rfl _ W) (fun W hW => K1.out W)) ?_;simp only [aP,lA,lZ,lS]
  refine zaa (qv (Pt.pX r.1) (Pt.pY r.1) (Pt.pFar r.1)) rfl (zad rfl rfl b1 rfl Tryz.underlying48 rfl (iT _ _ _)) ?_
  refine zaa (sv x2.val y2.val z2.val) rfl (zai (args:=[cv b,sv x1.val y1.val z1.val,qv (Pt.pX r.1) (Pt.pY r.1) (Pt.pFar r.1)]) rfl rfl (fun W => zac Tryz.func100 rfl rfl _ W) (fun W hW => K2.out _ _ (hf.ext hW))) ?_;simp only [aP,lA,lZ,lS]
  refine zaa (qv (Pt.pX t.1) (Pt.pY t.1) (Pt.pFar t.1)) rfl (zai (args:=[cv b,sv x2.val y2.val z2.val]) rfl rfl (fun W => zac Tryz.func101 rfl rfl _ W) (fun W hW => K3.out _ _ (hf.ext hW))) ?_;simp only [aP,lA,lZ,lS]
  exact zap
 refine rest_store1 _ _ rfl rfl rfl rfl rfl rfl rfl rfl rfl (by kernel_rfl) (by kernel_rfl) (by kernel_rfl) rfl rfl rfl rfl rfl b2 (iT _ _ _) rfl (zdr _ _ _) ?_
 intro w5 hB hb
 refine NoPanic.normal ?_
 simp only [aP,lA,lZ,lS]
 go_wp2
 exact bodyPost_ret (zdk rfl _ _ (w.heap.size + 1 + 1) 48 (qc (Pt.pX t.1) (Pt.pY t.1) (Pt.pFar t.1)) (0,0) _ rfl hb Tryz.underlying48 rfl (iT _ _ _)) rfl ⟨rfl,hx.new hB (by omega)⟩
theorem mul_yes (K : Nat) (hK : K < top) (q : Pt.Q) (w : World) :
  Calls Tryz.prog 53 #[nv K,qvP q.1] w fun e w' => e = .returned (.tuple #[qvP (Pt.grp.mul K q).1,.nilIface]) ∧ Ext w w':=by
 have hL : bitLen K ≤ 256:=bl_le hK
 have hE0 : K / 2 ^ bitLen K = 0:=bl_div K
 have HT:=veil hK
 obtain ⟨x0,y0,z0,h0,k0⟩:=lift_rep none
 have K0:=veil k0
 clear hK k0
 unfold nv nc qvP qv qc
 go_enter Tryz.func53,Tryz.ntmps53
 go_upto_region 1 with (fail)
 refine zde fun w1 hx b0 b1 b2 => ?_
 have b0 : w1.heap[w.heap.size]? = some (.cells (nc K) 26 (0,0)):=b0
 have b1 : w1.heap[w.heap.size + 1]? = some (.cells (qc (Pt.pX q.1) (Pt.pY q.1) (Pt.pFar q.1)) 48 (0,0)):=b1
 refine wp_region_lit ?_
 refine zjq (R:=fun v W' => ∃ b,v = cv b ∧ Fp W' b ∧ Ext w1 W') rfl rfl rfl (fun W => zac Tryz.func55 rfl rfl _ W) ((zic w1).mono fun e W' ⟨b,he,hF,hE⟩ => ⟨_,he,b,rfl,hF,hE⟩) ?_
 rintro v w2 ⟨b,rfl,hf,hE⟩
 simp only [aP,lA,lZ,lS]
 replace b0:=hE.block b0
 replace b1:=hE.block b1
 replace b2:=hE.block b2
 replace hx:=hx.trans hE
 clear hE
 refine zif _ _ rfl rfl rfl rfl rfl rfl (hzK ·) (fun _ => rfl) (fun _ => rfl) (iK _) rfl (cc_one _) ?_
 intro gc w3 hgc bc hE
 replace b0:=hE.block b0
 replace b1:=hE.block b1
 replace b2:=hE.block b2
 replace hf:=hf.ext hE
 replace hx:=hx.trans hE
 clear hE
 simp only [aP,lA,lZ,lS]
 clear hgc
 refine wpList_nil ?_
 go_upto_region 2 with (fail)
 refine' zar (m:=4) (A:=_) (by kernel_rfl) ?h1 ?h2
 case h1 =>
  refine zaa (cv b) rfl (zad rfl rfl bc rfl Tryz.underlying103 rfl (iK _)) ?_
  refine zaa (qv (Pt.pX q.1) (Pt.pY q.1) (Pt.pFar q.1)) rfl (zad rfl rfl b1 rfl Tryz.underlying48 rfl (iT _ _ _)) ?_;simp only [aP,lA,lZ,lS]
  refine zaa (.bool true) rfl (zai (args:=[cv b,qv (Pt.pX q.1) (Pt.pY q.1) (Pt.pFar q.1)]) rfl rfl (fun W => zac Tryz.func56 rfl rfl _ W) (fun W hW => on_yes q (hf.ext hW))) ?_
  refine zaa (.bool false) rfl (zbm rfl rfl rfl) ?_;simp only [aP,lA,lZ,lS]
  exact zap
 refine zax rfl ?_
 intro w4 hE
 replace b0:=hE.block b0
 replace b1:=hE.block b1
 replace b2:=hE.block b2
 replace bc:=hE.block bc
 replace hf:=hf.ext hE
 replace hx:=hx.trans hE
 clear hE
 go_upto_region 4 with (fail)
 refine' zar (m:=2) (A:=_) (by kernel_rfl) ?h2a ?h2b
 case h2a =>
  refine zaa (qv 0 0 true) rfl (zbh rfl rfl (bldTF ·)) ?_
  refine zaa (sv x0.val y0.val z0.val) rfl (zai (args:=[qv 0 0 true]) rfl rfl (fun W => zac Tryz.func96 rfl rfl _ W) (fun W hW => K0.out W)) ?_;simp only [aP,lA,lZ,lS]
  exact zap
 refine zcs _ _ rfl rfl rfl rfl rfl rfl rfl (hzS ·) (fun _ => rfl) (fun _ => rfl) (iS _ _ _) rfl (zfv _ _ _) ?_
 intro gs w5 hgs bs hE
 have hls : w.heap.size ≤ gs:=Nat.le_trans (Below.size hx) hgs
 replace b0:=hE.block b0
 replace b1:=hE.block b1
 replace b2:=hE.block b2
 replace bc:=hE.block bc
 replace hf:=hf.ext hE
 replace hx:=hx.trans hE
 clear hE
 simp only [aP,lA,lZ,lS]
 clear hgs
 go_upto_region 5 with (fail)
 replace h0 : Rep x0 y0 z0 (Pt.grp.mul (K / 2 ^ bitLen K) q).1:=by rw [hE0]; exact h0
 obtain ⟨N,hN⟩ : ∃ N,N = bitLen K:=⟨_,rfl⟩
 have HN:=veil hN
 rw [← hN] at h0 hL
 clear hE0 hN
 have hNi : (0 : Int) ≤ (N : Int):=by omega
 refine wp_region_lit ?_
 refine wpl_load rfl rfl rfl b0 rfl uN rfl (iN K) ?_
 simp only [aP,lA,lZ,lS]
 refine zjq (R:=fun v W' => v = .int .i64 (N : Int) ∧ Ext w5 W') rfl rfl rfl (fun W => zac Tryz.func97 rfl rfl _ W) ((klen K N (by rw [HN.out]) HT.out w5).mono fun e W' ⟨he,hE⟩ => ⟨_,he,rfl,hE⟩) ?_
 rintro v w6 ⟨rfl,hE⟩
 replace b0:=hE.block b0
 replace b1:=hE.block b1
 replace b2:=hE.block b2
 replace bc:=hE.block bc
 replace bs:=hE.block bs
 replace hf:=hf.ext hE
 replace hx:=hx.trans hE
 clear hE
 simp only [aP,lA,lZ,lS]
 go_wp2
 clear HN hNi K0
 go_loopw [8] (fun v8 wr => ∃ j : Nat,j ≤ 256 ∧ v8 = .int .i64 ((j : Int) - 1) ∧ (∃ x y z : Fe,Rep x y z (Pt.grp.mul (K / 2 ^ j) q).1 ∧ wr.heap[gs]? = some (.cells (sc x.val y.val z.val) 146 (0,0))) ∧ wr.heap[w.heap.size]? = some (.cells (nc K) 26 (0,0)) ∧ wr.heap[w.heap.size + 1]? = some (.cells (qc (Pt.pX q.1) (Pt.pY q.1) (Pt.pFar q.1)) 48 (0,0)) ∧ (∃ c2,wr.heap[w.heap.size + 1 + 1]? = some (.cells c2 48 (0,0)) ∧ c2.size = 9) ∧ wr.heap[gc]? = some (.cells (cc b) 103 (0,0)) ∧ Fp wr b ∧ Ext w wr)
  (fun v8 _ => (intOf v8 + 1).toNat)
 case atStart => exact ⟨N,hL,by go_num,⟨x0,y0,z0,h0,bs⟩,b0,b1,⟨_,b2,rfl⟩,bc,hf,hx⟩
 case round =>
  clear b0 b1 b2 bc bs hf hx h0 hL
  obtain ⟨j,hj,hi,⟨x,y,z,hR,bs⟩,b0,b1,⟨c2,b2,hc2⟩,bc,hf,hx⟩:=hrel
  cases j with
  | zero =>
   obtain rfl : _ = Value.int .i64 (-1):=hi.trans (by congr 1)
   have e1 : Pt.grp.mul (K / 2 ^ 0) q = Pt.grp.mul K q:=by rw [Nat.pow_zero,Nat.div_one]
   rw [e1] at hR
   obtain ⟨t,ht⟩ : ∃ t : Pt.Q,t = Pt.grp.mul K q:=⟨_,rfl⟩
   rw [← ht] at hR
   have HTT:=veil ht
   have KF:=veil (fun (b : Nat) (w : World) (hF : Fp w b) => flat_rep hR hF)
   clear hi e1 ht
   go_upto_region 11 with (fail)
   refine' zar (m:=3) (A:=_) (by kernel_rfl) ?h3a ?h3b
   case h3a =>
    refine zaa (cv b) rfl (zad rfl rfl bc rfl Tryz.underlying103 rfl (iK _)) ?_
    refine zaa (sv x.val y.val z.val) rfl (zad rfl rfl bs rfl Tryz.underlying146 rfl (iS _ _ _)) ?_;simp only [aP,lA,lZ,lS]
    refine zaa (qv (Pt.pX t.1) (Pt.pY t.1) (Pt.pFar t.1)) rfl (zai (args:=[cv b,sv x.val y.val z.val]) rfl rfl (fun W => zac Tryz.func101 rfl rfl _ W) (fun W hW => KF.out _ _ (hf.ext hW))) ?_;simp only [aP,lA,lZ,lS]
    exact zap
   refine zhc _ rfl rfl rfl rfl rfl rfl b2 (iT _ _ _) hc2 (zdr _ _ _) ?_
   intro w7 hB hb
   go_wp2
   rw [← HTT.out]
   exact bodyPost_ret (zdk rfl _ _ (w.heap.size + 1 + 1) 48 (qc (Pt.pX t.1) (Pt.pY t.1) (Pt.pFar t.1)) (0,0) _ rfl hb Tryz.underlying48 rfl (iT _ _ _)) rfl ⟨rfl,hx.new hB (by omega)⟩
  | succ m =>
   obtain rfl : _ = Value.int .i64 (m : Int):=hi.trans (by congr 1; omega)
   have hm : m < 256:=by omega
   clear hi
   have hmi : (0 : Int) ≤ (m : Int):=by omega
   obtain ⟨R0,hR0⟩ : ∃ R,R = Pt.grp.mul (K / 2 ^ (m + 1)) q:=⟨_,rfl⟩
   rw [← hR0] at hR
   have HR0:=veil hR0
   clear hR0
   obtain ⟨x1,y1,z1,h1,k1⟩:=twice_rep R0.2 hR
   obtain ⟨R1,hR1⟩ : ∃ R,R = Pt.grp.op R0 R0:=⟨_,rfl⟩
   have HR1:=veil hR1
   replace h1 : Rep x1 y1 z1 R1.1:=by rw [hR1]; exact h1
   have K1:=veil k1
   clear hR1 k1 hR
   have hgs : gs < wr.heap.size:=(Array.getElem?_eq_some_iff.1 bs).1
   have hgs0 : gs ≠ w.heap.size:=fun e => (by rw [e,b0] at bs; injection bs with bs; injection bs with _ bs; exact absurd bs (by decide))
   have hgs1 : gs ≠ w.heap.size + 1:=fun e => (by rw [e,b1] at bs; injection bs with bs; injection bs with _ bs; exact absurd bs (by decide))
   have hgs2 : gs ≠ w.heap.size + 1 + 1:=fun e => (by rw [e,b2] at bs; injection bs with bs; injection bs with _ bs; exact absurd bs (by decide))
   have hgsc : gs ≠ gc:=fun e => (by rw [e,bc] at bs; injection bs with bs; injection bs with _ bs; exact absurd bs (by decide))
   have hgsb : b ≠ gs:=fun e => (by obtain ⟨_,_,_,h2⟩:=hf; have h3:=blkOf h2; rw [e,bs] at h3; injection h3 with h3; injection h3 with _ h3; exact absurd h3 (by decide))
   go_upto_region 8 with (fail)
   refine' zar (m:=3) (A:=_) (by kernel_rfl) ?h4a ?h4b
   case h4a =>
    refine zaa (cv b) rfl (zad rfl rfl bc rfl Tryz.underlying103 rfl (iK _)) ?_
    refine zaa (sv x.val y.val z.val) rfl (zad rfl rfl bs rfl Tryz.underlying146 rfl (iS _ _ _)) ?_;simp only [aP,lA,lZ,lS]
    refine zaa (sv x1.val y1.val z1.val) rfl (zai (args:=[cv b,sv x.val y.val z.val]) rfl rfl (fun W => zac Tryz.func98 rfl rfl _ W) (fun W hW => K1.out _ _ (hf.ext hW))) ?_;simp only [aP,lA,lZ,lS]
    exact zap
   refine zbq _ rfl rfl rfl rfl rfl rfl bs (iS _ _ _) rfl (zfv _ _ _) ?_
   intro w8 hB hb
   replace b0:=zfh hB b0 hgs0.symm
   replace b1:=zfh hB b1 hgs1.symm
   replace b2:=zfh hB b2 hgs2.symm
   replace bc:=zfh hB bc hgsc.symm
   replace hf:=hf.but hB hgsb
   replace hx:=hx.new hB hls
   clear hB bs
   have bs:=hb
   clear hb
   go_upto_region 9 with (fail)
   by_cases hbit : bit K m = true
   ·
    have HBIT:=veil hbit
    obtain ⟨x2,y2,z2,h2,k2⟩:=plus_rep R1.2 q.2 h1
    obtain ⟨R2,hR2⟩ : ∃ R,R = Pt.grp.op R1 q:=⟨_,rfl⟩
    have HR2:=veil hR2
    replace h2 : Rep x2 y2 z2 R2.1:=by rw [hR2]; exact h2
    have K2:=veil k2
    clear hR2 k2 h1
    clear hbit
    refine' zar (m:=3) (A:=_) (by kernel_rfl) ?h5a ?h5b
    case h5a =>
     refine zaa (nv K) rfl (zad rfl rfl b0 rfl uN rfl (iN _)) ?_
     refine zaa (.int .i64 (m : Int)) rfl (zan (.inl rfl) rfl) ?_;simp only [aP,lA,lZ,lS]
     refine zaa (.bool true) rfl (zai (args:=[nv K,.int .i64 (m : Int)]) rfl rfl (fun W => zac Tryz.func99 rfl rfl _ W) (fun W hW => kbit K m true HBIT.out hm W)) ?_;simp only [aP,lA,lZ,lS]
     exact zap
    refine zax rfl ?_
    intro w9 hE
    replace b0:=hE.block b0
    replace b1:=hE.block b1
    replace b2:=hE.block b2
    replace bc:=hE.block bc
    replace bs:=hE.block bs
    replace hf:=hf.ext hE
    replace hx:=hx.trans hE
    clear hE
    go_upto_region 10 with (fail)
    refine' zar (m:=4) (A:=_) (by kernel_rfl) ?h6a ?h6b
    case h6a =>
     refine zaa (cv b) rfl (zad rfl rfl bc rfl Tryz.underlying103 rfl (iK _)) ?_
     refine zaa (sv x1.val y1.val z1.val) rfl (zad rfl rfl bs rfl Tryz.underlying146 rfl (iS _ _ _)) ?_;simp only [aP,lA,lZ,lS]
     refine zaa (qv (Pt.pX q.1) (Pt.pY q.1) (Pt.pFar q.1)) rfl (zad rfl rfl b1 rfl Tryz.underlying48 rfl (iT _ _ _)) ?_
     refine zaa (sv x2.val y2.val z2.val) rfl (zai (args:=[cv b,sv x1.val y1.val z1.val,qv (Pt.pX q.1) (Pt.pY q.1) (Pt.pFar q.1)]) rfl rfl (fun W => zac Tryz.func100 rfl rfl _ W) (fun W hW => K2.out _ _ (hf.ext hW))) ?_;simp only [aP,lA,lZ,lS]
     exact zap
    refine zbq _ rfl rfl rfl rfl rfl rfl bs (iS _ _ _) rfl (zfv _ _ _) ?_
    intro w10 hB hb
    replace b0:=zfh hB b0 hgs0.symm
    replace b1:=zfh hB b1 hgs1.symm
    replace b2:=zfh hB b2 hgs2.symm
    replace bc:=zfh hB bc hgsc.symm
    replace hf:=hf.but hB hgsb
    replace hx:=hx.new hB hls
    clear hB bs
    have bs:=hb
    clear hb
    go_wp2
    go_roundw
    case rel => exact ⟨m,by omega,by go_num,⟨x2,y2,z2,by rw [zgy,if_pos HBIT.out,← HR0.out,← HR1.out,← HR2.out]; exact h2,bs⟩,b0,b1,⟨c2,b2,hc2⟩,bc,hf,hx⟩
    case measure => simp [intOf]
   ·
    have hbit : bit K m = false:=by simpa using hbit
    have HBIT:=veil hbit
    clear hbit
    refine' zar (m:=3) (A:=_) (by kernel_rfl) ?h7a ?h7b
    case h7a =>
     refine zaa (nv K) rfl (zad rfl rfl b0 rfl uN rfl (iN _)) ?_
     refine zaa (.int .i64 (m : Int)) rfl (zan (.inl rfl) rfl) ?_;simp only [aP,lA,lZ,lS]
     refine zaa (.bool false) rfl (zai (args:=[nv K,.int .i64 (m : Int)]) rfl rfl (fun W => zac Tryz.func99 rfl rfl _ W) (fun W hW => kbit K m false HBIT.out hm W)) ?_;simp only [aP,lA,lZ,lS]
     exact zap
    refine zax rfl ?_
    intro w9 hE
    replace b0:=hE.block b0
    replace b1:=hE.block b1
    replace b2:=hE.block b2
    replace bc:=hE.block bc
    replace bs:=hE.block bs
    replace hf:=hf.ext hE
    replace hx:=hx.trans hE
    clear hE
    go_wp2
    go_roundw
    case rel => exact ⟨m,by omega,by go_num,⟨x1,y1,z1,by rw [zgy,HBIT.out,if_neg (by decide),← HR0.out,← HR1.out]; exact h1,bs⟩,b0,b1,⟨c2,b2,hc2⟩,bc,hf,hx⟩
    case measure => simp [intOf]
theorem on_is (X Y : Nat) (f : Bool) (hX : X < top) (hY : Y < top) (w : World) :
  Calls Tryz.prog 22 #[qv X Y f] w fun e w' => e = .returned (.bool (onB X Y f)) ∧ Ext w w':=by
 have KO:=veil (fun (b : Nat) (w : World) (hF : Fp w b) => on_calls X Y f hX hY hF)
 obtain ⟨r,hr⟩ : ∃ r,r = onB X Y f:=⟨_,rfl⟩
 rw [← hr] at KO ⊢
 clear hX hY hr
 unfold qv qc
 go_enter Tryz.func22,Tryz.ntmps22
 go_upto_region 1 with (fail)
 refine zdu fun w1 hx b0 => ?_
 have b0 : w1.heap[w.heap.size]? = some (.cells (qc X Y f) 48 (0,0)):=b0
 refine wp_region_noPanic ?_
 refine wp_region_held_drew (S:=fun W => Ext w1 W) (by kernel_rfl) (Ext.drew _) (fun hH => ?_)
 refine wpAnyH_take (i:=1) (v:=qv X Y f) rfl (by kernel_rfl) (by kernel_rfl) (by decide +kernel) (fun _ _ _ h => h) (yieldsIf_load_mid (by rfl) _ _ rfl _ _ rfl (qc X Y f).toList _ (fun W hW j v hv => by rw [cell_of_row W _ _ (qc X Y f) 48 (0,0) (hW.block b0),Nat.zero_add]; simpa using hv) Tryz.underlying48 rfl (iT X Y f)) hH ?_
 refine wpAnyH_ready (rs:=[0]) (by decide +kernel) (by simp) ?_
 refine AllReadyH.cons rfl (fun K hK => ?_) AllReadyH.nil
 go_simp
 refine (zic _).mono ?_
 rintro e w2 ⟨b,rfl,hF,hE⟩
 refine hK.out _ _ (hH.trans hE) (fun hH => ?_)
 clear hK K hE
 refine wpAnyH_ready (rs:=[2]) (by decide +kernel) (by simp) ?_
 refine AllReadyH.cons rfl (fun K hK => ?_) AllReadyH.nil
 go_simp
 refine (KO.out _ _ hF).mono ?_
 rintro e w3 ⟨rfl,hE⟩
 refine hK.out _ _ (hH.trans hE) (fun hH => ?_)
 clear hK K hE
 refine wpAnyH_take (i:=3) (v:=.bool r) rfl (by kernel_rfl) (by kernel_rfl) (by decide +kernel) (fun _ _ _ h => h) (Or.inl ⟨by rfl,fun W hSw => (by dsimp only at hSw; go_simp)⟩) hH ?_
 refine wpAnyH_done (by decide +kernel) ?_ _
 refine NoPanic.normal ?_
 go_wp2
 go_ret
 exact ⟨rfl,hx.trans hH⟩
/-! ### the field of n -/
def Fn (w : World) (b : Nat) : Prop:=∃ N Q,Fok Pt.nn N Q ∧ Fb w b Pt.nn N Q
theorem Fn.ext {w w' : World} {b : Nat} (h : Fn w b) (k : Ext w w') : Fn w' b:=by
 obtain ⟨N,Q,h1,h2⟩:=h
 exact ⟨N,Q,h1,h2.call k⟩
theorem Fn.but {w w' : World} {b r : Nat} (h : Fn w b) (k : But r w w') (hne : b ≠ r) : Fn w' b:=by
 obtain ⟨N,Q,h1,h2⟩:=h
 exact ⟨N,Q,h1,World.rowIs.of_block h2 (k.block b h2.lt (fun e => hne (Option.some.inj e)))⟩
section
variable {b : Nat} {w : World}
theorem nadd_p {X Y Z : Nat} (hZ : Z = (X % Pt.nn + Y % Pt.nn) % Pt.nn) (hX : X < top) (hY : Y < top) (hF : Fn w b) : Calls Tryz.prog 104 #[ptrTo b,nv X,nv Y] w fun e w' => e = .returned (nv Z) ∧ Ext w w':=by
 obtain ⟨N,Q,h1,h2⟩:=hF
 exact fadd2_calls b X Y Pt.nn N Q Z hX hY h1 hZ.symm w h2
theorem ncut_p {X Z : Nat} (hZ : Z = X % Pt.nn) (hX : X < top) (hF : Fn w b) : Calls Tryz.prog 104 #[ptrTo b,nv X,nv 0] w fun e w' => e = .returned (nv Z) ∧ Ext w w' :=
 nadd_p (by rw [hZ,Nat.zero_mod,Nat.add_zero,Nat.mod_mod]) hX zcj hF
theorem nmul_p {X Y Z : Nat} (hZ : Z = X * Y % Pt.nn) (hX : X < top) (hY : Y < top) (hF : Fn w b) : Calls Tryz.prog 89 #[ptrTo b,nv X,nv Y] w fun e w' => e = .returned (nv Z) ∧ Ext w w':=by
 obtain ⟨N,Q,h1,h2⟩:=hF
 exact fmul2_calls b X Y Pt.nn N Q Z hX hY h1 hZ.symm w h2
theorem ninv_p {X t : Nat} (h0 : X ≠ 0) (hX : X < Pt.nn) (ht : t = Pt.iG Pt.nn X) (hF : Fn w b) : Calls Tryz.prog 87 #[ptrTo b,nv X] w fun e w' => e = .returned (.tuple #[nv t,.nilIface]) ∧ Ext w w':=by
 obtain ⟨N,Q,h1,h2⟩:=hF
 refine (zjj b X Pt.nn N Q (Nat.lt_trans hX zeq) h1 w h2).mono ?_
 rintro e w' ⟨⟨y,hy,hi,rfl⟩,hb⟩
 have hg:=Pt.gcd_nn h0 hX
 have e1 : y = t:=by rw [ht]; exact Pt.iG_of Pt.nn Pt.nn_root Pt.nn_one hy (hi hg)
 rw [zjf hg,e1]
 exact ⟨rfl,hb⟩
end
/-! ### a maker -/
theorem gc_size (r s : Nat) : (gc 0 0).size = (gc r s).size:=by simp [gc]
section
variable (g : Nat) (W : World)
end
/-! ### what the layers below answer -/
theorem ofl_is {y : Nat → Nat} {X : Nat} (hy : ∀ j,y j < 256) (hX : X = num32 y) {g : Nat} (w : World) (hb : w.heap[g]? = some (.cells (dgc y) 43 (0,0))) : Calls Tryz.prog 83 #[.slice (some ⟨g,0,none⟩) 32 32] w fun e w' => e = .returned (.tuple #[nv X,.nilIface]) ∧ Ext w w':=by
 subst hX
 exact of_some g 0 32 32 y hy (by decide) w (Array.getElem?_eq_some_iff.1 hb).1 (fun j hj => by rw [Nat.zero_add,cell_of_row w g j _ _ _ hb]; exact zdq _ hj)
theorem mulb_is {K : Nat} (hK : K < top) {P : Pt.Q} (hP : P = Pt.grp.mul K Pt.base) (w : World) : Calls Tryz.prog 53 #[nv K,qv Pt.gx Pt.gy false] w fun e w' => e = .returned (.tuple #[qv (Pt.pX P.1) (Pt.pY P.1) (Pt.pFar P.1),.nilIface]) ∧ Ext w w':=by
 subst hP
 have h:=mul_yes K hK Pt.base w
 unfold qvP at h
 rwa [base_x.1,base_x.2.1,base_x.2.2] at h
theorem mulq_is {K X Y : Nat} {f : Bool} (hK : K < top) {p q : Pt.Q} (hp : X = Pt.pX p.1 ∧ Y = Pt.pY p.1 ∧ f = Pt.pFar p.1) (hq : q = Pt.grp.mul K p) (w : World) : Calls Tryz.prog 53 #[nv K,qv X Y f] w fun e w' => e = .returned (.tuple #[qv (Pt.pX q.1) (Pt.pY q.1) (Pt.pFar q.1),.nilIface]) ∧ Ext w w':=by
 obtain ⟨rfl,rfl,rfl⟩:=hp
 subst hq
 exact mul_yes K hK p w
theorem addq_is {a b c : Pt.Q} (hc : c = Pt.grp.op a b) (w : World) : Calls Tryz.prog 134 #[qv (Pt.pX a.1) (Pt.pY a.1) (Pt.pFar a.1),qv (Pt.pX b.1) (Pt.pY b.1) (Pt.pFar b.1)] w fun e w' => e = .returned (.tuple #[qv (Pt.pX c.1) (Pt.pY c.1) (Pt.pFar c.1),.nilIface]) ∧ Ext w w':=by
 subst hc; exact add_yes a b w
theorem onp_is {X Y : Nat} {f r : Bool} (h : onB X Y f = r) (hX : X < top) (hY : Y < top) (w : World) : Calls Tryz.prog 22 #[qv X Y f] w fun e w' => e = .returned (.bool r) ∧ Ext w w':=by
 subst h; exact on_is X Y f hX hY w
theorem eqN0 {X : Nat} (hX : X < top) (h0 : X ≠ 0) (W : World) : (binOp .eql 26 (nv X) (nv 0)).run Tryz.prog W = .ok (.bool false) W:=by
 have e:=zis hX zcj W
 rw [decide_eq_false h0] at e
 exact e
end Go.Proofs.YtedehdbajiaaiaaGreatDoor
