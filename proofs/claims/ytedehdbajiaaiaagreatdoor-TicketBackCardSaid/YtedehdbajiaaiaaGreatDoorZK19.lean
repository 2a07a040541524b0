/-
  Of C6 C7 C8 CM.
-/
import Derived.Test.YtedehdbajiaaiaaGreatDoorZK18
set_option maxRecDepth 1000000
set_option maxHeartbeats 20000000
namespace Go.Proofs.YtedehdbajiaaiaaGreatDoor
open Go.RowKit
open Go.Value renaming int → vI
open Go.IntKind renaming u64 → vU
open Go.Act renaming put → aP
open List renaming setIfInBounds_toArray → lA, set_cons_zero → lZ, set_cons_succ → lS
theorem plus_far {b : Nat} (x y z X Y : Nat) {w : World} (hF : Fp w b) :
  Calls Tryz.prog 100 #[cv b,sv x y z,qv X Y true] w fun e w' => e = .returned (sv x y z) ∧ Ext w w':=by
 unfold cv sv qv cc fv sc qc
 go_enter Tryz.func100,Tryz.ntmps100
 go_upto_region 1 with (fail)
 refine zfx fun w1 hx b0 b1 b2 b3 => ?_
 have b0 : w1.heap[w.heap.size]? = some (.cells (cc b) 103 (0,0)):=b0
 have b1 : w1.heap[w.heap.size + 1]? = some (.cells (sc x y z) 146 (0,0)):=b1
 have b2 : w1.heap[w.heap.size + 1 + 1]? = some (.cells (qc X Y true) 48 (0,0)):=b2
 have hf:=hF.ext hx
 clear hF
 refine' zak (m:=2) (A:=_) (by kernel_rfl) ?h1 ?h2
 case h1 =>
  refine zaa (.pointer (some ⟨w.heap.size + 1 + 1,8,none⟩)) rfl (zad rfl rfl (fldT2 _ ·)) ?_
  refine zaa (.bool true) rfl (zae rfl rfl b2 rfl (zbq ·)) ?_;simp only [aP,lA,lZ,lS]
  exact zaj
 refine zaq rfl ?_
 intro w2 hE
 replace b1:=hE.block b1
 replace b3:=hE.block b3
 replace hf:=hf.ext hE
 replace hx:=hx.trans hE
 clear hE
 go_upto_region 2 with (fail)
 refine' zak (m:=1) (A:=_) (by kernel_rfl) ?h2a ?h2b
 case h2a =>
  refine zaa (sv x y z) rfl (zac rfl rfl b1 rfl Tryz.underlying146 rfl (iS _ _ _)) ?_;simp only [aP,lA,lZ,lS]
  exact zaj
 refine zbk _ rfl rfl rfl rfl rfl rfl b3 (iS _ _ _) rfl (zez _ _ _) ?_
 intro w3 hB hb
 go_wp2
 exact bodyPost_ret (results_cell_row rfl _ _ (w.heap.size + 1 + 1 + 1) 146 (sc x y z) (0,0) _ rfl hb Tryz.underlying146 rfl (by kernel_rfl)) rfl ⟨rfl,hx.new hB (by omega)⟩
theorem plus_lift {b : Nat} (x y X Y : Nat) {w : World} (hF : Fp w b) :
  Calls Tryz.prog 100 #[cv b,sv x y 0,qv X Y false] w fun e w' => e = .returned (sv X Y 1) ∧ Ext w w':=by
 unfold cv sv qv cc fv sc qc
 go_enter Tryz.func100,Tryz.ntmps100
 go_upto_region 1 with (fail)
 refine zfx fun w1 hx b0 b1 b2 b3 => ?_
 have b0 : w1.heap[w.heap.size]? = some (.cells (cc b) 103 (0,0)):=b0
 have b1 : w1.heap[w.heap.size + 1]? = some (.cells (sc x y 0) 146 (0,0)):=b1
 have b2 : w1.heap[w.heap.size + 1 + 1]? = some (.cells (qc X Y false) 48 (0,0)):=b2
 have hf:=hF.ext hx
 clear hF
 refine' zak (m:=2) (A:=_) (by kernel_rfl) ?h1 ?h2
 case h1 =>
  refine zaa (.pointer (some ⟨w.heap.size + 1 + 1,8,none⟩)) rfl (zad rfl rfl (fldT2 _ ·)) ?_
  refine zaa (.bool false) rfl (zae rfl rfl b2 rfl (zbq ·)) ?_;simp only [aP,lA,lZ,lS]
  exact zaj
 refine zaq rfl ?_
 intro w2 hE
 replace b1:=hE.block b1
 replace b2:=hE.block b2
 replace b3:=hE.block b3
 replace hf:=hf.ext hE
 replace hx:=hx.trans hE
 clear hE
 go_upto_region 3 with (fail)
 refine' zak (m:=3) (A:=_) (by kernel_rfl) ?h2a ?h2b
 case h2a =>
  refine zaa (.pointer (some ⟨w.heap.size + 1,8,none⟩)) rfl (zad rfl rfl (fldS2 _ ·)) ?_
  refine zaa (nv 0) rfl (zac rfl rfl b1 rfl uN rfl (iN _)) ?_;simp only [aP,lA,lZ,lS]
  refine zaa (.bool true) rfl (zaf (args:=[nv 0]) rfl rfl (fun W => zab Tryz.func106 rfl rfl _ W) (fun W hW => ziz rfl W)) ?_;simp only [aP,lA,lZ,lS]
  exact zaj
 refine zaq rfl ?_
 intro w3 hE
 replace b2:=hE.block b2
 replace b3:=hE.block b3
 replace hf:=hf.ext hE
 replace hx:=hx.trans hE
 clear hE
 go_upto_region 4 with (fail)
 refine' zak (m:=2) (A:=_) (by kernel_rfl) ?h3a ?h3b
 case h3a =>
  refine zaa (qv X Y false) rfl (zac rfl rfl b2 rfl Tryz.underlying48 rfl (iT _ _ _)) ?_
  refine zaa (sv X Y 1) rfl (zaf (args:=[qv X Y false]) rfl rfl (fun W => zab Tryz.func96 rfl rfl _ W) (fun W hW => lift_near X Y W)) ?_;simp only [aP,lA,lZ,lS]
  exact zaj
 refine zbk _ rfl rfl rfl rfl rfl rfl b3 (iS _ _ _) rfl (zez _ _ _) ?_
 intro w4 hB hb
 go_wp2
 exact bodyPost_ret (results_cell_row rfl _ _ (w.heap.size + 1 + 1 + 1) 146 (sc X Y 1) (0,0) _ rfl hb Tryz.underlying146 rfl (by kernel_rfl)) rfl ⟨rfl,hx.new hB (by omega)⟩
def runOf (x z X : Fe) : Fe:=X * (z * z) - x
def riseOf (y z Y : Fe) : Fe:=Y * (z * z * z) - y
def plus3 (x y z X Y : Fe) : Fe × Fe × Fe :=
 let zz : Fe:=z * z
 let u : Fe:=X * zz
 let run : Fe:=u - x
 let zzz : Fe:=zz * z
 let v : Fe:=Y * zzz
 let rise : Fe:=v - y
 let sq : Fe:=run * run
 let cube : Fe:=sq * run
 let cross : Fe:=x * sq
 let rr : Fe:=rise * rise
 let r1 : Fe:=rr - cube
 let c2 : Fe:=cross + cross
 let x3 : Fe:=r1 - c2
 let d : Fe:=cross - x3
 let rd : Fe:=rise * d
 let yc : Fe:=y * cube
 let y3 : Fe:=rd - yc
 let z3 : Fe:=z * run
 (x3,y3,z3)
theorem plus_same {b : Nat} (x y z X Y : Fe) (hz : z.val ≠ 0) (hr : (runOf x z X).val = 0) (hs : (riseOf y z Y).val = 0) {w : World} (hF : Fp w b) :
  Calls Tryz.prog 100 #[cv b,sv x.val y.val z.val,qv X.val Y.val false] w fun e w' => e = .returned (sv (twice3 x y z).1.val (twice3 x y z).2.1.val (twice3 x y z).2.2.val) ∧ Ext w w':=by
 obtain ⟨zz,hzz⟩ : ∃ t : Fe,t = z * z:=⟨_,rfl⟩
 obtain ⟨u,hu⟩ : ∃ t : Fe,t = X * zz:=⟨_,rfl⟩
 obtain ⟨run,hrun⟩ : ∃ t : Fe,t = u - x:=⟨_,rfl⟩
 obtain ⟨zzz,hzzz⟩ : ∃ t : Fe,t = zz * z:=⟨_,rfl⟩
 obtain ⟨v,hv⟩ : ∃ t : Fe,t = Y * zzz:=⟨_,rfl⟩
 obtain ⟨rise,hrise⟩ : ∃ t : Fe,t = v - y:=⟨_,rfl⟩
 have h1 : runOf x z X = run:=by subst hrun hu hzz; rfl
 have h2 : riseOf y z Y = rise:=by subst hrise hv hzzz hzz; rfl
 rw [h1] at hr
 rw [h2] at hs
 clear h1 h2
 have kzz:=veil hzz
 have ku:=veil hu
 have krun:=veil hrun
 have kzzz:=veil hzzz
 have kv:=veil hv
 have krise:=veil hrise
 clear hrise hv hzzz hrun hu hzz
 have kz0:=veil hz
 have kr:=veil hr
 have ks:=veil hs
 clear hz hr hs
 obtain ⟨X3,Y3,Z3,h3⟩ : ∃ X3 Y3 Z3,twice3 x y z = (X3,Y3,Z3):=⟨_,_,_,rfl⟩
 have KT:=veil (fun W (hF : Fp W b) => twice_calls x y z hF)
 rw [h3] at KT ⊢
 clear h3
 show Calls Tryz.prog 100 #[cv b,sv x.val y.val z.val,qv X.val Y.val false] w fun e w' => e = .returned (sv X3.val Y3.val Z3.val) ∧ Ext w w'
 unfold cv sv qv cc fv sc qc
 go_enter Tryz.func100,Tryz.ntmps100
 go_upto_region 1 with (fail)
 refine zfx fun w1 hx b0 b1 b2 b3 => ?_
 have b0 : w1.heap[w.heap.size]? = some (.cells (cc b) 103 (0,0)):=b0
 have b1 : w1.heap[w.heap.size + 1]? = some (.cells (sc x.val y.val z.val) 146 (0,0)):=b1
 have b2 : w1.heap[w.heap.size + 1 + 1]? = some (.cells (qc X.val Y.val false) 48 (0,0)):=b2
 have hf:=hF.ext hx
 clear hF
 refine' zak (m:=2) (A:=_) (by kernel_rfl) ?h1 ?h2
 case h1 =>
  refine zaa (.pointer (some ⟨w.heap.size + 1 + 1,8,none⟩)) rfl (zad rfl rfl (fldT2 _ ·)) ?_
  refine zaa (.bool false) rfl (zae rfl rfl b2 rfl (zbq ·)) ?_;simp only [aP,lA,lZ,lS]
  exact zaj
 refine zaq rfl ?_
 intro w2 hE
 replace b0:=hE.block b0
 replace b1:=hE.block b1
 replace b2:=hE.block b2
 replace b3:=hE.block b3
 replace hf:=hf.ext hE
 replace hx:=hx.trans hE
 clear hE
 go_upto_region 3 with (fail)
 refine' zak (m:=3) (A:=_) (by kernel_rfl) ?h2a ?h2b
 case h2a =>
  refine zaa (.pointer (some ⟨w.heap.size + 1,8,none⟩)) rfl (zad rfl rfl (fldS2 _ ·)) ?_
  refine zaa (nv z.val) rfl (zac rfl rfl b1 rfl uN rfl (iN _)) ?_;simp only [aP,lA,lZ,lS]
  refine zaa (.bool false) rfl (zaf (args:=[nv z.val]) rfl rfl (fun W => zab Tryz.func106 rfl rfl _ W) (fun W hW => isz_no kz0.out (zdy _) W)) ?_;simp only [aP,lA,lZ,lS]
  exact zaj
 refine zaq rfl ?_
 intro w3 hE
 replace b0:=hE.block b0
 replace b1:=hE.block b1
 replace b2:=hE.block b2
 replace b3:=hE.block b3
 replace hf:=hf.ext hE
 replace hx:=hx.trans hE
 clear hE
 go_upto_region 5 with (fail)
 refine' zak (m:=7) (A:=_) (by kernel_rfl) ?h3a ?h3b
 case h3a =>
  refine zaa (.pointer (some ⟨w.heap.size,2,none⟩)) rfl (zad rfl rfl (fldK2 _ ·)) ?_
  refine zaa (fv 89 b) rfl (zae rfl rfl b0 rfl (zap ·)) ?_;simp only [aP,lA,lZ,lS]
  refine zaa (.pointer (some ⟨w.heap.size + 1,8,none⟩)) rfl (zad rfl rfl (fldS2 _ ·)) ?_
  refine zaa (nv z.val) rfl (zac rfl rfl b1 rfl uN rfl (iN _)) ?_;simp only [aP,lA,lZ,lS]
  refine zaa (.pointer (some ⟨w.heap.size + 1,8,none⟩)) rfl (zad rfl rfl (fldS2 _ ·)) ?_
  refine zaa (nv z.val) rfl (zac rfl rfl b1 rfl uN rfl (iN _)) ?_;simp only [aP,lA,lZ,lS]
  refine zaa (nv zz.val) rfl (zat (args:=[nv z.val,nv z.val]) rfl rfl rfl (zbg _ ·) (fun W hW => zbn kzz.out (hf.ext hW))) ?_;simp only [aP,lA,lZ,lS]
  exact zaj
 refine zck _ _ rfl rfl rfl rfl rfl rfl rfl (hzN ·) (fun _ => rfl) (fun _ => rfl) (iN _) rfl (zbf _) ?_
 intro gzz w4 hgzz bzz hE
 replace b0:=hE.block b0
 replace b1:=hE.block b1
 replace b2:=hE.block b2
 replace b3:=hE.block b3
 replace hf:=hf.ext hE
 replace hx:=hx.trans hE
 clear hE
 simp only [aP,lA,lZ,lS]
 clear hgzz
 go_upto_region 6 with (fail)
 refine' zbr (m:=11) (A:=_) 12 (by kernel_rfl) (by kernel_rfl) (by kernel_rfl) ?h4a ?h4b
 case h4a =>
  refine zaa (.pointer (some ⟨w.heap.size,1,none⟩)) rfl (zad rfl rfl (fldK1 _ ·)) ?_
  refine zaa (fv 105 b) rfl (zae rfl rfl b0 rfl (zap ·)) ?_;simp only [aP,lA,lZ,lS]
  refine zaa (.pointer (some ⟨w.heap.size,2,none⟩)) rfl (zad rfl rfl (fldK2 _ ·)) ?_
  refine zaa (fv 89 b) rfl (zae rfl rfl b0 rfl (zap ·)) ?_;simp only [aP,lA,lZ,lS]
  refine zaa (ptrTo (w.heap.size + 1 + 1)) rfl (zad rfl rfl (fldT0 _ ·)) ?_
  refine zaa (nv X.val) rfl (zac rfl rfl b2 rfl uN rfl (iN _)) ?_;simp only [aP,lA,lZ,lS]
  refine zaa (nv zz.val) rfl (zac rfl rfl bzz rfl uN rfl (iN _)) ?_
  refine zaa (nv u.val) rfl (zat (args:=[nv X.val,nv zz.val]) rfl rfl rfl (zbg _ ·) (fun W hW => zbn ku.out (hf.ext hW))) ?_;simp only [aP,lA,lZ,lS]
  refine zaa (ptrTo (w.heap.size + 1)) rfl (zad rfl rfl (fldS0 _ ·)) ?_
  refine zaa (nv x.val) rfl (zac rfl rfl b1 rfl uN rfl (iN _)) ?_;simp only [aP,lA,lZ,lS]
  refine zaa (nv run.val) rfl (zat (args:=[nv u.val,nv x.val]) rfl rfl rfl (zcx _ ·) (fun W hW => zds krun.out (hf.ext hW))) ?_;simp only [aP,lA,lZ,lS]
  exact zaj
 refine zci _ _ rfl rfl rfl rfl rfl rfl rfl rfl rfl (by kernel_rfl) (by kernel_rfl) (by kernel_rfl) rfl rfl (hzN ·) (fun _ => rfl) (fun _ => rfl) (iN _) rfl (zbf _) ?_
 intro grun w5 hgrun brun hE
 refine NoPanic.normal ?_
 replace b0:=hE.block b0
 replace b1:=hE.block b1
 replace b2:=hE.block b2
 replace b3:=hE.block b3
 replace bzz:=hE.block bzz
 replace hf:=hf.ext hE
 replace hx:=hx.trans hE
 clear hE
 simp only [aP,lA,lZ,lS]
 clear hgrun
 go_upto_region 7 with (fail)
 refine' zbr (m:=16) (A:=_) 17 (by kernel_rfl) (by kernel_rfl) (by kernel_rfl) ?h5a ?h5b
 case h5a =>
  refine zaa (.pointer (some ⟨w.heap.size,1,none⟩)) rfl (zad rfl rfl (fldK1 _ ·)) ?_
  refine zaa (fv 105 b) rfl (zae rfl rfl b0 rfl (zap ·)) ?_;simp only [aP,lA,lZ,lS]
  refine zaa (.pointer (some ⟨w.heap.size,2,none⟩)) rfl (zad rfl rfl (fldK2 _ ·)) ?_
  refine zaa (fv 89 b) rfl (zae rfl rfl b0 rfl (zap ·)) ?_;simp only [aP,lA,lZ,lS]
  refine zaa (.pointer (some ⟨w.heap.size + 1 + 1,4,none⟩)) rfl (zad rfl rfl (fldT1 _ ·)) ?_
  refine zaa (nv Y.val) rfl (zac rfl rfl b2 rfl uN rfl (iN _)) ?_;simp only [aP,lA,lZ,lS]
  refine zaa (.pointer (some ⟨w.heap.size,2,none⟩)) rfl (zad rfl rfl (fldK2 _ ·)) ?_
  refine zaa (fv 89 b) rfl (zae rfl rfl b0 rfl (zap ·)) ?_;simp only [aP,lA,lZ,lS]
  refine zaa (nv zz.val) rfl (zac rfl rfl bzz rfl uN rfl (iN _)) ?_
  refine zaa (.pointer (some ⟨w.heap.size + 1,8,none⟩)) rfl (zad rfl rfl (fldS2 _ ·)) ?_;simp only [aP,lA,lZ,lS]
  refine zaa (nv z.val) rfl (zac rfl rfl b1 rfl uN rfl (iN _)) ?_
  refine zaa (nv zzz.val) rfl (zat (args:=[nv zz.val,nv z.val]) rfl rfl rfl (zbg _ ·) (fun W hW => zbn kzzz.out (hf.ext hW))) ?_;simp only [aP,lA,lZ,lS]
  refine zaa (nv v.val) rfl (zat (args:=[nv Y.val,nv zzz.val]) rfl rfl rfl (zbg _ ·) (fun W hW => zbn kv.out (hf.ext hW))) ?_
  refine zaa (.pointer (some ⟨w.heap.size + 1,4,none⟩)) rfl (zad rfl rfl (fldS1 _ ·)) ?_;simp only [aP,lA,lZ,lS]
  refine zaa (nv y.val) rfl (zac rfl rfl b1 rfl uN rfl (iN _)) ?_
  refine zaa (nv rise.val) rfl (zat (args:=[nv v.val,nv y.val]) rfl rfl rfl (zcx _ ·) (fun W hW => zds krise.out (hf.ext hW))) ?_;simp only [aP,lA,lZ,lS]
  exact zaj
 refine zci _ _ rfl rfl rfl rfl rfl rfl rfl rfl rfl (by kernel_rfl) (by kernel_rfl) (by kernel_rfl) rfl rfl (hzN ·) (fun _ => rfl) (fun _ => rfl) (iN _) rfl (zbf _) ?_
 intro grise w6 hgrise brise hE
 refine NoPanic.normal ?_
 replace b0:=hE.block b0
 replace b1:=hE.block b1
 replace b3:=hE.block b3
 replace brun:=hE.block brun
 replace hf:=hf.ext hE
 replace hx:=hx.trans hE
 clear hE
 simp only [aP,lA,lZ,lS]
 clear hgrise
 go_upto_region 8 with (fail)
 refine' zak (m:=2) (A:=_) (by kernel_rfl) ?h6a ?h6b
 case h6a =>
  refine zaa (nv run.val) rfl (zac rfl rfl brun rfl uN rfl (iN _)) ?_
  refine zaa (.bool true) rfl (zaf (args:=[nv run.val]) rfl rfl (fun W => zab Tryz.func106 rfl rfl _ W) (fun W hW => ziz kr.out W)) ?_;simp only [aP,lA,lZ,lS]
  exact zaj
 refine zaq rfl ?_
 intro w7 hE
 replace b0:=hE.block b0
 replace b1:=hE.block b1
 replace b3:=hE.block b3
 replace brise:=hE.block brise
 replace hf:=hf.ext hE
 replace hx:=hx.trans hE
 clear hE
 go_upto_region 9 with (fail)
 refine' zak (m:=2) (A:=_) (by kernel_rfl) ?h7a ?h7b
 case h7a =>
  refine zaa (nv rise.val) rfl (zac rfl rfl brise rfl uN rfl (iN _)) ?_
  refine zaa (.bool true) rfl (zaf (args:=[nv rise.val]) rfl rfl (fun W => zab Tryz.func106 rfl rfl _ W) (fun W hW => ziz ks.out W)) ?_;simp only [aP,lA,lZ,lS]
  exact zaj
 refine zaq rfl ?_
 intro w8 hE
 replace b0:=hE.block b0
 replace b1:=hE.block b1
 replace b3:=hE.block b3
 replace hf:=hf.ext hE
 replace hx:=hx.trans hE
 clear hE
 go_upto_region 10 with (fail)
 refine' zak (m:=3) (A:=_) (by kernel_rfl) ?h8a ?h8b
 case h8a =>
  refine zaa (cv b) rfl (zac rfl rfl b0 rfl Tryz.underlying103 rfl (iK _)) ?_
  refine zaa (sv x.val y.val z.val) rfl (zac rfl rfl b1 rfl Tryz.underlying146 rfl (iS _ _ _)) ?_;simp only [aP,lA,lZ,lS]
  refine zaa (sv X3.val Y3.val Z3.val) rfl (zaf (args:=[cv b,sv x.val y.val z.val]) rfl rfl (fun W => zab Tryz.func98 rfl rfl _ W) (fun W hW => KT.out W (hf.ext hW))) ?_;simp only [aP,lA,lZ,lS]
  exact zaj
 refine zbk _ rfl rfl rfl rfl rfl rfl b3 (iS _ _ _) rfl (zez _ _ _) ?_
 intro w9 hB hb
 go_wp2
 exact bodyPost_ret (results_cell_row rfl _ _ (w.heap.size + 1 + 1 + 1) 146 (sc X3.val Y3.val Z3.val) (0,0) _ rfl hb Tryz.underlying146 rfl (by kernel_rfl)) rfl ⟨rfl,hx.new hB (by omega)⟩
theorem plus_opp {b : Nat} (x y z X Y : Fe) (hz : z.val ≠ 0) (hr : (runOf x z X).val = 0) (hs : (riseOf y z Y).val ≠ 0) {w : World} (hF : Fp w b) :
  Calls Tryz.prog 100 #[cv b,sv x.val y.val z.val,qv X.val Y.val false] w fun e w' => e = .returned (sv 0 0 0) ∧ Ext w w':=by
 obtain ⟨zz,hzz⟩ : ∃ t : Fe,t = z * z:=⟨_,rfl⟩
 obtain ⟨u,hu⟩ : ∃ t : Fe,t = X * zz:=⟨_,rfl⟩
 obtain ⟨run,hrun⟩ : ∃ t : Fe,t = u - x:=⟨_,rfl⟩
 obtain ⟨zzz,hzzz⟩ : ∃ t : Fe,t = zz * z:=⟨_,rfl⟩
 obtain ⟨v,hv⟩ : ∃ t : Fe,t = Y * zzz:=⟨_,rfl⟩
 obtain ⟨rise,hrise⟩ : ∃ t : Fe,t = v - y:=⟨_,rfl⟩
 have h1 : runOf x z X = run:=by subst hrun hu hzz; rfl
 have h2 : riseOf y z Y = rise:=by subst hrise hv hzzz hzz; rfl
 rw [h1] at hr
 rw [h2] at hs
 clear h1 h2
 have kzz:=veil hzz
 have ku:=veil hu
 have krun:=veil hrun
 have kzzz:=veil hzzz
 have kv:=veil hv
 have krise:=veil hrise
 clear hrise hv hzzz hrun hu hzz
 have kz0:=veil hz
 have kr:=veil hr
 have ks:=veil hs
 clear hz hr hs
 unfold cv sv qv cc fv sc qc
 go_enter Tryz.func100,Tryz.ntmps100
 go_upto_region 1 with (fail)
 refine zfx fun w1 hx b0 b1 b2 b3 => ?_
 have b0 : w1.heap[w.heap.size]? = some (.cells (cc b) 103 (0,0)):=b0
 have b1 : w1.heap[w.heap.size + 1]? = some (.cells (sc x.val y.val z.val) 146 (0,0)):=b1
 have b2 : w1.heap[w.heap.size + 1 + 1]? = some (.cells (qc X.val Y.val false) 48 (0,0)):=b2
 have hf:=hF.ext hx
 clear hF
 refine' zak (m:=2) (A:=_) (by kernel_rfl) ?h1 ?h2
 case h1 =>
  refine zaa (.pointer (some ⟨w.heap.size + 1 + 1,8,none⟩)) rfl (zad rfl rfl (fldT2 _ ·)) ?_
  refine zaa (.bool false) rfl (zae rfl rfl b2 rfl (zbq ·)) ?_;simp only [aP,lA,lZ,lS]
  exact zaj
 refine zaq rfl ?_
 intro w2 hE
 replace b0:=hE.block b0
 replace b1:=hE.block b1
 replace b2:=hE.block b2
 replace b3:=hE.block b3
 replace hf:=hf.ext hE
 replace hx:=hx.trans hE
 clear hE
 go_upto_region 3 with (fail)
 refine' zak (m:=3) (A:=_) (by kernel_rfl) ?h2a ?h2b
 case h2a =>
  refine zaa (.pointer (some ⟨w.heap.size + 1,8,none⟩)) rfl (zad rfl rfl (fldS2 _ ·)) ?_
  refine zaa (nv z.val) rfl (zac rfl rfl b1 rfl uN rfl (iN _)) ?_;simp only [aP,lA,lZ,lS]
  refine zaa (.bool false) rfl (zaf (args:=[nv z.val]) rfl rfl (fun W => zab Tryz.func106 rfl rfl _ W) (fun W hW => isz_no kz0.out (zdy _) W)) ?_;simp only [aP,lA,lZ,lS]
  exact zaj
 refine zaq rfl ?_
 intro w3 hE
 replace b0:=hE.block b0
 replace b1:=hE.block b1
 replace b2:=hE.block b2
 replace b3:=hE.block b3
 replace hf:=hf.ext hE
 replace hx:=hx.trans hE
 clear hE
 go_upto_region 5 with (fail)
 refine' zak (m:=7) (A:=_) (by kernel_rfl) ?h3a ?h3b
 case h3a =>
  refine zaa (.pointer (some ⟨w.heap.size,2,none⟩)) rfl (zad rfl rfl (fldK2 _ ·)) ?_
  refine zaa (fv 89 b) rfl (zae rfl rfl b0 rfl (zap ·)) ?_;simp only [aP,lA,lZ,lS]
  refine zaa (.pointer (some ⟨w.heap.size + 1,8,none⟩)) rfl (zad rfl rfl (fldS2 _ ·)) ?_
  refine zaa (nv z.val) rfl (zac rfl rfl b1 rfl uN rfl (iN _)) ?_;simp only [aP,lA,lZ,lS]
  refine zaa (.pointer (some ⟨w.heap.size + 1,8,none⟩)) rfl (zad rfl rfl (fldS2 _ ·)) ?_
  refine zaa (nv z.val) rfl (zac rfl rfl b1 rfl uN rfl (iN _)) ?_;simp only [aP,lA,lZ,lS]
  refine zaa (nv zz.val) rfl (zat (args:=[nv z.val,nv z.val]) rfl rfl rfl (zbg _ ·) (fun W hW => zbn kzz.out (hf.ext hW))) ?_;simp only [aP,lA,lZ,lS]
  exact zaj
 refine zck _ _ rfl rfl rfl rfl rfl rfl rfl (hzN ·) (fun _ => rfl) (fun _ => rfl) (iN _) rfl (zbf _) ?_
 intro gzz w4 hgzz bzz hE
 replace b0:=hE.block b0
 replace b1:=hE.block b1
 replace b2:=hE.block b2
 replace b3:=hE.block b3
 replace hf:=hf.ext hE
 replace hx:=hx.trans hE
 clear hE
 simp only [aP,lA,lZ,lS]
 clear hgzz
 go_upto_region 6 with (fail)
 refine' zbr (m:=11) (A:=_) 12 (by kernel_rfl) (by kernel_rfl) (by kernel_rfl) ?h4a ?h4b
 case h4a =>
  refine zaa (.pointer (some ⟨w.heap.size,1,none⟩)) rfl (zad rfl rfl (fldK1 _ ·)) ?_
  refine zaa (fv 105 b) rfl (zae rfl rfl b0 rfl (zap ·)) ?_;simp only [aP,lA,lZ,lS]
  refine zaa (.pointer (some ⟨w.heap.size,2,none⟩)) rfl (zad rfl rfl (fldK2 _ ·)) ?_
  refine zaa (fv 89 b) rfl (zae rfl rfl b0 rfl (zap ·)) ?_;simp only [aP,lA,lZ,lS]
  refine zaa (ptrTo (w.heap.size + 1 + 1)) rfl (zad rfl rfl (fldT0 _ ·)) ?_
  refine zaa (nv X.val) rfl (zac rfl rfl b2 rfl uN rfl (iN _)) ?_;simp only [aP,lA,lZ,lS]
  refine zaa (nv zz.val) rfl (zac rfl rfl bzz rfl uN rfl (iN _)) ?_
  refine zaa (nv u.val) rfl (zat (args:=[nv X.val,nv zz.val]) rfl rfl rfl (zbg _ ·) (fun W hW => zbn ku.out (hf.ext hW))) ?_;simp only [aP,lA,lZ,lS]
  refine zaa (ptrTo (w.heap.size + 1)) rfl (zad rfl rfl (fldS0 _ ·)) ?_
  refine zaa (nv x.val) rfl (zac rfl rfl b1 rfl uN rfl (iN _)) ?_;simp only [aP,lA,lZ,lS]
  refine zaa (nv run.val) rfl (zat (args:=[nv u.val,nv x.val]) rfl rfl rfl (zcx _ ·) (fun W hW => zds krun.out (hf.ext hW))) ?_;simp only [aP,lA,lZ,lS]
  exact zaj
 refine zci _ _ rfl rfl rfl rfl rfl rfl rfl rfl rfl (by kernel_rfl) (by kernel_rfl) (by kernel_rfl) rfl rfl (hzN ·) (fun _ => rfl) (fun _ => rfl) (iN _) rfl (zbf _) ?_
 intro grun w5 hgrun brun hE
 refine NoPanic.normal ?_
 replace b0:=hE.block b0
 replace b1:=hE.block b1
 replace b2:=hE.block b2
 replace b3:=hE.block b3
 replace bzz:=hE.block bzz
 replace hf:=hf.ext hE
 replace hx:=hx.trans hE
 clear hE
 simp only [aP,lA,lZ,lS]
 clear hgrun
 go_upto_region 7 with (fail)
 refine' zbr (m:=16) (A:=_) 17 (by kernel_rfl) (by kernel_rfl) (by kernel_rfl) ?h5a ?h5b
 case h5a =>
  refine zaa (.pointer (some ⟨w.heap.size,1,none⟩)) rfl (zad rfl rfl (fldK1 _ ·)) ?_
  refine zaa (fv 105 b) rfl (zae rfl rfl b0 rfl (zap ·)) ?_;simp only [aP,lA,lZ,lS]
  refine zaa (.pointer (some ⟨w.heap.size,2,none⟩)) rfl (zad rfl rfl (fldK2 _ ·)) ?_
  refine zaa (fv 89 b) rfl (zae rfl rfl b0 rfl (zap ·)) ?_;simp only [aP,lA,lZ,lS]
  refine zaa (.pointer (some ⟨w.heap.size + 1 + 1,4,none⟩)) rfl (zad rfl rfl (fldT1 _ ·)) ?_
  refine zaa (nv Y.val) rfl (zac rfl rfl b2 rfl uN rfl (iN _)) ?_;simp only [aP,lA,lZ,lS]
  refine zaa (.pointer (some ⟨w.heap.size,2,none⟩)) rfl (zad rfl rfl (fldK2 _ ·)) ?_
  refine zaa (fv 89 b) rfl (zae rfl rfl b0 rfl (zap ·)) ?_;simp only [aP,lA,lZ,lS]
  refine zaa (nv zz.val) rfl (zac rfl rfl bzz rfl uN rfl (iN _)) ?_
  refine zaa (.pointer (some ⟨w.heap.size + 1,8,none⟩)) rfl (zad rfl rfl (fldS2 _ ·)) ?_;simp only [aP,lA,lZ,lS]
  refine zaa (nv z.val) rfl (zac rfl rfl b1 rfl uN rfl (iN _)) ?_
  refine zaa (nv zzz.val) rfl (zat (args:=[nv zz.val,nv z.val]) rfl rfl rfl (zbg _ ·) (fun W hW => zbn kzzz.out (hf.ext hW))) ?_;simp only [aP,lA,lZ,lS]
  refine zaa (nv v.val) rfl (zat (args:=[nv Y.val,nv zzz.val]) rfl rfl rfl (zbg _ ·) (fun W hW => zbn kv.out (hf.ext hW))) ?_
  refine zaa (.pointer (some ⟨w.heap.size + 1,4,none⟩)) rfl (zad rfl rfl (fldS1 _ ·)) ?_;simp only [aP,lA,lZ,lS]
  refine zaa (nv y.val) rfl (zac rfl rfl b1 rfl uN rfl (iN _)) ?_
  refine zaa (nv rise.val) rfl (zat (args:=[nv v.val,nv y.val]) rfl rfl rfl (zcx _ ·) (fun W hW => zds krise.out (hf.ext hW))) ?_;simp only [aP,lA,lZ,lS]
  exact zaj
 refine zci _ _ rfl rfl rfl rfl rfl rfl rfl rfl rfl (by kernel_rfl) (by kernel_rfl) (by kernel_rfl) rfl rfl (hzN ·) (fun _ => rfl) (fun _ => rfl) (iN _) rfl (zbf _) ?_
 intro grise w6 hgrise brise hE
 refine NoPanic.normal ?_
 replace b3:=hE.block b3
 replace brun:=hE.block brun
 replace hf:=hf.ext hE
 replace hx:=hx.trans hE
 clear hE
 simp only [aP,lA,lZ,lS]
 clear hgrise
 go_upto_region 8 with (fail)
 refine' zak (m:=2) (A:=_) (by kernel_rfl) ?h6a ?h6b
 case h6a =>
  refine zaa (nv run.val) rfl (zac rfl rfl brun rfl uN rfl (iN _)) ?_
  refine zaa (.bool true) rfl (zaf (args:=[nv run.val]) rfl rfl (fun W => zab Tryz.func106 rfl rfl _ W) (fun W hW => ziz kr.out W)) ?_;simp only [aP,lA,lZ,lS]
  exact zaj
 refine zaq rfl ?_
 intro w7 hE
 replace b3:=hE.block b3
 replace brise:=hE.block brise
 replace hf:=hf.ext hE
 replace hx:=hx.trans hE
 clear hE
 go_upto_region 9 with (fail)
 refine' zak (m:=2) (A:=_) (by kernel_rfl) ?h7a ?h7b
 case h7a =>
  refine zaa (nv rise.val) rfl (zac rfl rfl brise rfl uN rfl (iN _)) ?_
  refine zaa (.bool false) rfl (zaf (args:=[nv rise.val]) rfl rfl (fun W => zab Tryz.func106 rfl rfl _ W) (fun W hW => isz_no ks.out (zdy _) W)) ?_;simp only [aP,lA,lZ,lS]
  exact zaj
 refine zaq rfl ?_
 intro w8 hE
 replace b3:=hE.block b3
 replace hf:=hf.ext hE
 replace hx:=hx.trans hE
 clear hE
 go_upto_region 11 with (fail)
 refine' zak (m:=1) (A:=_) (by kernel_rfl) ?h8a ?h8b
 case h8a =>
  refine zaa (sv 0 0 0) rfl (zbb rfl rfl (bldS0 ·)) ?_;simp only [aP,lA,lZ,lS]
  exact zaj
 refine zbk _ rfl rfl rfl rfl rfl rfl b3 (iS _ _ _) rfl (zez _ _ _) ?_
 intro w9 hB hb
 go_wp2
 exact bodyPost_ret (results_cell_row rfl _ _ (w.heap.size + 1 + 1 + 1) 146 (sc 0 0 0) (0,0) _ rfl hb Tryz.underlying146 rfl (by kernel_rfl)) rfl ⟨rfl,hx.new hB (by omega)⟩
theorem plus_else {b : Nat} (x y z X Y : Fe) (hz : z.val ≠ 0) (hr : (runOf x z X).val ≠ 0) {w : World} (hF : Fp w b) :
  Calls Tryz.prog 100 #[cv b,sv x.val y.val z.val,qv X.val Y.val false] w fun e w' => e = .returned (sv (plus3 x y z X Y).1.val (plus3 x y z X Y).2.1.val (plus3 x y z X Y).2.2.val) ∧ Ext w w':=by
 obtain ⟨zz,hzz⟩ : ∃ t : Fe,t = z * z:=⟨_,rfl⟩
 obtain ⟨u,hu⟩ : ∃ t : Fe,t = X * zz:=⟨_,rfl⟩
 obtain ⟨run,hrun⟩ : ∃ t : Fe,t = u - x:=⟨_,rfl⟩
 obtain ⟨zzz,hzzz⟩ : ∃ t : Fe,t = zz * z:=⟨_,rfl⟩
 obtain ⟨v,hv⟩ : ∃ t : Fe,t = Y * zzz:=⟨_,rfl⟩
 obtain ⟨rise,hrise⟩ : ∃ t : Fe,t = v - y:=⟨_,rfl⟩
 obtain ⟨sq,hsq⟩ : ∃ t : Fe,t = run * run:=⟨_,rfl⟩
 obtain ⟨cube,hcube⟩ : ∃ t : Fe,t = sq * run:=⟨_,rfl⟩
 obtain ⟨cross,hcross⟩ : ∃ t : Fe,t = x * sq:=⟨_,rfl⟩
 obtain ⟨rr,hrr⟩ : ∃ t : Fe,t = rise * rise:=⟨_,rfl⟩
 obtain ⟨r1,hr1⟩ : ∃ t : Fe,t = rr - cube:=⟨_,rfl⟩
 obtain ⟨c2,hc2⟩ : ∃ t : Fe,t = cross + cross:=⟨_,rfl⟩
 obtain ⟨x3,hx3⟩ : ∃ t : Fe,t = r1 - c2:=⟨_,rfl⟩
 obtain ⟨d,hd⟩ : ∃ t : Fe,t = cross - x3:=⟨_,rfl⟩
 obtain ⟨rd,hrd⟩ : ∃ t : Fe,t = rise * d:=⟨_,rfl⟩
 obtain ⟨yc,hyc⟩ : ∃ t : Fe,t = y * cube:=⟨_,rfl⟩
 obtain ⟨y3,hy3⟩ : ∃ t : Fe,t = rd - yc:=⟨_,rfl⟩
 obtain ⟨z3,hz3⟩ : ∃ t : Fe,t = z * run:=⟨_,rfl⟩
 have h1 : runOf x z X = run:=by subst hrun hu hzz; rfl
 rw [h1] at hr
 clear h1
 have hfin : plus3 x y z X Y = (x3,y3,z3):=by
  subst hz3 hy3 hyc hrd hd hx3 hc2 hr1 hrr hcross hcube hsq hrise hv hzzz hrun hu hzz
  rfl
 rw [hfin]
 clear hfin
 have kzz:=veil hzz
 have ku:=veil hu
 have krun:=veil hrun
 have kzzz:=veil hzzz
 have kv:=veil hv
 have krise:=veil hrise
 have ksq:=veil hsq
 have kcube:=veil hcube
 have kcross:=veil hcross
 have krr:=veil hrr
 have kr1:=veil hr1
 have kc2:=veil hc2
 have kx3:=veil hx3
 have kd:=veil hd
 have krd:=veil hrd
 have kyc:=veil hyc
 have ky3:=veil hy3
 have kz3:=veil hz3
 clear hz3 hy3 hyc hrd hd hx3 hc2 hr1 hrr hcross hcube hsq hrise hv hzzz hrun hu hzz
 have kz0:=veil hz
 have kr:=veil hr
 clear hz hr
 show Calls Tryz.prog 100 #[cv b,sv x.val y.val z.val,qv X.val Y.val false] w fun e w' => e = .returned (sv x3.val y3.val z3.val) ∧ Ext w w'
 unfold cv sv qv cc fv sc qc
 go_enter Tryz.func100,Tryz.ntmps100
 go_upto_region 1 with (fail)
 refine zfx fun w1 hx b0 b1 b2 b3 => ?_
 have b0 : w1.heap[w.heap.size]? = some (.cells (cc b) 103 (0,0)):=b0
 have b1 : w1.heap[w.heap.size + 1]? = some (.cells (sc x.val y.val z.val) 146 (0,0)):=b1
 have b2 : w1.heap[w.heap.size + 1 + 1]? = some (.cells (qc X.val Y.val false) 48 (0,0)):=b2
 have hf:=hF.ext hx
 clear hF
 refine' zak (m:=2) (A:=_) (by kernel_rfl) ?h1 ?h2
 case h1 =>
  refine zaa (.pointer (some ⟨w.heap.size + 1 + 1,8,none⟩)) rfl (zad rfl rfl (fldT2 _ ·)) ?_
  refine zaa (.bool false) rfl (zae rfl rfl b2 rfl (zbq ·)) ?_;simp only [aP,lA,lZ,lS]
  exact zaj
 refine zaq rfl ?_
 intro w2 hE
 replace b0:=hE.block b0
 replace b1:=hE.block b1
 replace b2:=hE.block b2
 replace b3:=hE.block b3
 replace hf:=hf.ext hE
 replace hx:=hx.trans hE
 clear hE
 go_upto_region 3 with (fail)
 refine' zak (m:=3) (A:=_) (by kernel_rfl) ?h2a ?h2b
 case h2a =>
  refine zaa (.pointer (some ⟨w.heap.size + 1,8,none⟩)) rfl (zad rfl rfl (fldS2 _ ·)) ?_
  refine zaa (nv z.val) rfl (zac rfl rfl b1 rfl uN rfl (iN _)) ?_;simp only [aP,lA,lZ,lS]
  refine zaa (.bool false) rfl (zaf (args:=[nv z.val]) rfl rfl (fun W => zab Tryz.func106 rfl rfl _ W) (fun W hW => isz_no kz0.out (zdy _) W)) ?_;simp only [aP,lA,lZ,lS]
  exact zaj
 refine zaq rfl ?_
 intro w3 hE
 replace b0:=hE.block b0
 replace b1:=hE.block b1
 replace b2:=hE.block b2
 replace b3:=hE.block b3
 replace hf:=hf.ext hE
 replace hx:=hx.trans hE
 clear hE
 go_upto_region 5 with (fail)
 refine' zak (m:=7) (A:=_) (by kernel_rfl) ?h3a ?h3b
 case h3a =>
  refine zaa (.pointer (some ⟨w.heap.size,2,none⟩)) rfl (zad rfl rfl (fldK2 _ ·)) ?_
  refine zaa (fv 89 b) rfl (zae rfl rfl b0 rfl (zap ·)) ?_;simp only [aP,lA,lZ,lS]
  refine zaa (.pointer (some ⟨w.heap.size + 1,8,none⟩)) rfl (zad rfl rfl (fldS2 _ ·)) ?_
  refine zaa (nv z.val) rfl (zac rfl rfl b1 rfl uN rfl (iN _)) ?_;simp only [aP,lA,lZ,lS]
  refine zaa (.pointer (some ⟨w.heap.size + 1,8,none⟩)) rfl (zad rfl rfl (fldS2 _ ·)) ?_
  refine zaa (nv z.val) rfl (zac rfl rfl b1 rfl uN rfl (iN _)) ?_;simp only [aP,lA,lZ,lS]
  refine zaa (nv zz.val) rfl (zat (args:=[nv z.val,nv z.val]) rfl rfl rfl (zbg _ ·) (fun W hW => zbn kzz.out (hf.ext hW))) ?_;simp only [aP,lA,lZ,lS]
  exact zaj
 refine zck _ _ rfl rfl rfl rfl rfl rfl rfl (hzN ·) (fun _ => rfl) (fun _ => rfl) (iN _) rfl (zbf _) ?_
 intro gzz w4 hgzz bzz hE
 replace b0:=hE.block b0
 replace b1:=hE.block b1
 replace b2:=hE.block b2
 replace b3:=hE.block b3
 replace hf:=hf.ext hE
 replace hx:=hx.trans hE
 clear hE
 simp only [aP,lA,lZ,lS]
 clear hgzz
 go_upto_region 6 with (fail)
 refine' zbr (m:=11) (A:=_) 12 (by kernel_rfl) (by kernel_rfl) (by kernel_rfl) ?h4a ?h4b
 case h4a =>
  refine zaa (.pointer (some ⟨w.heap.size,1,none⟩)) rfl (zad rfl rfl (fldK1 _ ·)) ?_
  refine zaa (fv 105 b) rfl (zae rfl rfl b0 rfl (zap ·)) ?_;simp only [aP,lA,lZ,lS]
  refine zaa (.pointer (some ⟨w.heap.size,2,none⟩)) rfl (zad rfl rfl (fldK2 _ ·)) ?_
  refine zaa (fv 89 b) rfl (zae rfl rfl b0 rfl (zap ·)) ?_;simp only [aP,lA,lZ,lS]
  refine zaa (ptrTo (w.heap.size + 1 + 1)) rfl (zad rfl rfl (fldT0 _ ·)) ?_
  refine zaa (nv X.val) rfl (zac rfl rfl b2 rfl uN rfl (iN _)) ?_;simp only [aP,lA,lZ,lS]
  refine zaa (nv zz.val) rfl (zac rfl rfl bzz rfl uN rfl (iN _)) ?_
  refine zaa (nv u.val) rfl (zat (args:=[nv X.val,nv zz.val]) rfl rfl rfl (zbg _ ·) (fun W hW => zbn ku.out (hf.ext hW))) ?_;simp only [aP,lA,lZ,lS]
  refine zaa (ptrTo (w.heap.size + 1)) rfl (zad rfl rfl (fldS0 _ ·)) ?_
  refine zaa (nv x.val) rfl (zac rfl rfl b1 rfl uN rfl (iN _)) ?_;simp only [aP,lA,lZ,lS]
  refine zaa (nv run.val) rfl (zat (args:=[nv u.val,nv x.val]) rfl rfl rfl (zcx _ ·) (fun W hW => zds krun.out (hf.ext hW))) ?_;simp only [aP,lA,lZ,lS]
  exact zaj
 refine zci _ _ rfl rfl rfl rfl rfl rfl rfl rfl rfl (by kernel_rfl) (by kernel_rfl) (by kernel_rfl) rfl rfl (hzN ·) (fun _ => rfl) (fun _ => rfl) (iN _) rfl (zbf _) ?_
 intro grun w5 hgrun brun hE
 refine NoPanic.normal ?_
 replace b0:=hE.block b0
 replace b1:=hE.block b1
 replace b2:=hE.block b2
 replace b3:=hE.block b3
 replace bzz:=hE.block bzz
 replace hf:=hf.ext hE
 replace hx:=hx.trans hE
 clear hE
 simp only [aP,lA,lZ,lS]
 clear hgrun
 go_upto_region 7 with (fail)
 refine' zbr (m:=16) (A:=_) 17 (by kernel_rfl) (by kernel_rfl) (by kernel_rfl) ?h5a ?h5b
 case h5a =>
  refine zaa (.pointer (some ⟨w.heap.size,1,none⟩)) rfl (zad rfl rfl (fldK1 _ ·)) ?_
  refine zaa (fv 105 b) rfl (zae rfl rfl b0 rfl (zap ·)) ?_;simp only [aP,lA,lZ,lS]
  refine zaa (.pointer (some ⟨w.heap.size,2,none⟩)) rfl (zad rfl rfl (fldK2 _ ·)) ?_
  refine zaa (fv 89 b) rfl (zae rfl rfl b0 rfl (zap ·)) ?_;simp only [aP,lA,lZ,lS]
  refine zaa (.pointer (some ⟨w.heap.size + 1 + 1,4,none⟩)) rfl (zad rfl rfl (fldT1 _ ·)) ?_
  refine zaa (nv Y.val) rfl (zac rfl rfl b2 rfl uN rfl (iN _)) ?_;simp only [aP,lA,lZ,lS]
  refine zaa (.pointer (some ⟨w.heap.size,2,none⟩)) rfl (zad rfl rfl (fldK2 _ ·)) ?_
  refine zaa (fv 89 b) rfl (zae rfl rfl b0 rfl (zap ·)) ?_;simp only [aP,lA,lZ,lS]
  refine zaa (nv zz.val) rfl (zac rfl rfl bzz rfl uN rfl (iN _)) ?_
  refine zaa (.pointer (some ⟨w.heap.size + 1,8,none⟩)) rfl (zad rfl rfl (fldS2 _ ·)) ?_;simp only [aP,lA,lZ,lS]
  refine zaa (nv z.val) rfl (zac rfl rfl b1 rfl uN rfl (iN _)) ?_
  refine zaa (nv zzz.val) rfl (zat (args:=[nv zz.val,nv z.val]) rfl rfl rfl (zbg _ ·) (fun W hW => zbn kzzz.out (hf.ext hW))) ?_;simp only [aP,lA,lZ,lS]
  refine zaa (nv v.val) rfl (zat (args:=[nv Y.val,nv zzz.val]) rfl rfl rfl (zbg _ ·) (fun W hW => zbn kv.out (hf.ext hW))) ?_
  refine zaa (.pointer (some ⟨w.heap.size + 1,4,none⟩)) rfl (zad rfl rfl (fldS1 _ ·)) ?_;simp only [aP,lA,lZ,lS]
  refine zaa (nv y.val) rfl (zac rfl rfl b1 rfl uN rfl (iN _)) ?_
  refine zaa (nv rise.val) rfl (zat (args:=[nv v.val,nv y.val]) rfl rfl rfl (zcx _ ·) (fun W hW => zds krise.out (hf.ext hW))) ?_;simp only [aP,lA,lZ,lS]
  exact zaj
 refine zci _ _ rfl rfl rfl rfl rfl rfl rfl rfl rfl (by kernel_rfl) (by kernel_rfl) (by kernel_rfl) rfl rfl (hzN ·) (fun _ => rfl) (fun _ => rfl) (iN _) rfl (zbf _) ?_
 intro grise w6 hgrise brise hE
 refine NoPanic.normal ?_
 replace b0:=hE.block b0
 replace b1:=hE.block b1
 replace b3:=hE.block b3
 replace brun:=hE.block brun
 replace hf:=hf.ext hE
 replace hx:=hx.trans hE
 clear hE
 simp only [aP,lA,lZ,lS]
 clear hgrise
 go_upto_region 8 with (fail)
 refine' zak (m:=2) (A:=_) (by kernel_rfl) ?h6a ?h6b
 case h6a =>
  refine zaa (nv run.val) rfl (zac rfl rfl brun rfl uN rfl (iN _)) ?_
  refine zaa (.bool false) rfl (zaf (args:=[nv run.val]) rfl rfl (fun W => zab Tryz.func106 rfl rfl _ W) (fun W hW => isz_no kr.out (zdy _) W)) ?_;simp only [aP,lA,lZ,lS]
  exact zaj
 refine zaq rfl ?_
 intro w7 hE
 replace b0:=hE.block b0
 replace b1:=hE.block b1
 replace b3:=hE.block b3
 replace brun:=hE.block brun
 replace brise:=hE.block brise
 replace hf:=hf.ext hE
 replace hx:=hx.trans hE
 clear hE
 go_upto_region 12 with (fail)
 refine' zak (m:=5) (A:=_) (by kernel_rfl) ?h7a ?h7b
 case h7a =>
  refine zaa (.pointer (some ⟨w.heap.size,2,none⟩)) rfl (zad rfl rfl (fldK2 _ ·)) ?_
  refine zaa (fv 89 b) rfl (zae rfl rfl b0 rfl (zap ·)) ?_;simp only [aP,lA,lZ,lS]
  refine zaa (nv run.val) rfl (zac rfl rfl brun rfl uN rfl (iN _)) ?_
  refine zaa (nv run.val) rfl (zac rfl rfl brun rfl uN rfl (iN _)) ?_;simp only [aP,lA,lZ,lS]
  refine zaa (nv sq.val) rfl (zat (args:=[nv run.val,nv run.val]) rfl rfl rfl (zbg _ ·) (fun W hW => zbn ksq.out (hf.ext hW))) ?_;simp only [aP,lA,lZ,lS]
  exact zaj
 refine zck _ _ rfl rfl rfl rfl rfl rfl rfl (hzN ·) (fun _ => rfl) (fun _ => rfl) (iN _) rfl (zbf _) ?_
 intro gsq w8 hgsq bsq hE
 replace b0:=hE.block b0
 replace b1:=hE.block b1
 replace b3:=hE.block b3
 replace brun:=hE.block brun
 replace brise:=hE.block brise
 replace hf:=hf.ext hE
 replace hx:=hx.trans hE
 clear hE
 simp only [aP,lA,lZ,lS]
 clear hgsq
 go_upto_region 13 with (fail)
 refine' zak (m:=5) (A:=_) (by kernel_rfl) ?h8a ?h8b
 case h8a =>
  refine zaa (.pointer (some ⟨w.heap.size,2,none⟩)) rfl (zad rfl rfl (fldK2 _ ·)) ?_
  refine zaa (fv 89 b) rfl (zae rfl rfl b0 rfl (zap ·)) ?_;simp only [aP,lA,lZ,lS]
  refine zaa (nv sq.val) rfl (zac rfl rfl bsq rfl uN rfl (iN _)) ?_
  refine zaa (nv run.val) rfl (zac rfl rfl brun rfl uN rfl (iN _)) ?_;simp only [aP,lA,lZ,lS]
  refine zaa (nv cube.val) rfl (zat (args:=[nv sq.val,nv run.val]) rfl rfl rfl (zbg _ ·) (fun W hW => zbn kcube.out (hf.ext hW))) ?_;simp only [aP,lA,lZ,lS]
  exact zaj
 refine zck _ _ rfl rfl rfl rfl rfl rfl rfl (hzN ·) (fun _ => rfl) (fun _ => rfl) (iN _) rfl (zbf _) ?_
 intro gcube w9 hgcube bcube hE
 replace b0:=hE.block b0
 replace b1:=hE.block b1
 replace b3:=hE.block b3
 replace brun:=hE.block brun
 replace brise:=hE.block brise
 replace bsq:=hE.block bsq
 replace hf:=hf.ext hE
 replace hx:=hx.trans hE
 clear hE
 simp only [aP,lA,lZ,lS]
 clear hgcube
 go_upto_region 14 with (fail)
 refine' zak (m:=6) (A:=_) (by kernel_rfl) ?h9a ?h9b
 case h9a =>
  refine zaa (.pointer (some ⟨w.heap.size,2,none⟩)) rfl (zad rfl rfl (fldK2 _ ·)) ?_
  refine zaa (fv 89 b) rfl (zae rfl rfl b0 rfl (zap ·)) ?_;simp only [aP,lA,lZ,lS]
  refine zaa (ptrTo (w.heap.size + 1)) rfl (zad rfl rfl (fldS0 _ ·)) ?_
  refine zaa (nv x.val) rfl (zac rfl rfl b1 rfl uN rfl (iN _)) ?_;simp only [aP,lA,lZ,lS]
  refine zaa (nv sq.val) rfl (zac rfl rfl bsq rfl uN rfl (iN _)) ?_
  refine zaa (nv cross.val) rfl (zat (args:=[nv x.val,nv sq.val]) rfl rfl rfl (zbg _ ·) (fun W hW => zbn kcross.out (hf.ext hW))) ?_;simp only [aP,lA,lZ,lS]
  exact zaj
 refine zck _ _ rfl rfl rfl rfl rfl rfl rfl (hzN ·) (fun _ => rfl) (fun _ => rfl) (iN _) rfl (zbf _) ?_
 intro gcross w10 hgcross bcross hE
 replace b0:=hE.block b0
 replace b1:=hE.block b1
 replace b3:=hE.block b3
 replace brun:=hE.block brun
 replace brise:=hE.block brise
 replace bcube:=hE.block bcube
 replace hf:=hf.ext hE
 replace hx:=hx.trans hE
 clear hE
 simp only [aP,lA,lZ,lS]
 clear hgcross
 go_upto_region 15 with (fail)
 refine' zbr (m:=15) (A:=_) 16 (by kernel_rfl) (by kernel_rfl) (by kernel_rfl) ?h10a ?h10b
 case h10a =>
  refine zaa (.pointer (some ⟨w.heap.size,1,none⟩)) rfl (zad rfl rfl (fldK1 _ ·)) ?_
  refine zaa (fv 105 b) rfl (zae rfl rfl b0 rfl (zap ·)) ?_;simp only [aP,lA,lZ,lS]
  refine zaa (.pointer (some ⟨w.heap.size,1,none⟩)) rfl (zad rfl rfl (fldK1 _ ·)) ?_
  refine zaa (fv 105 b) rfl (zae rfl rfl b0 rfl (zap ·)) ?_;simp only [aP,lA,lZ,lS]
  refine zaa (.pointer (some ⟨w.heap.size,2,none⟩)) rfl (zad rfl rfl (fldK2 _ ·)) ?_
  refine zaa (fv 89 b) rfl (zae rfl rfl b0 rfl (zap ·)) ?_;simp only [aP,lA,lZ,lS]
  refine zaa (nv rise.val) rfl (zac rfl rfl brise rfl uN rfl (iN _)) ?_
  refine zaa (nv rise.val) rfl (zac rfl rfl brise rfl uN rfl (iN _)) ?_;simp only [aP,lA,lZ,lS]
  refine zaa (nv rr.val) rfl (zat (args:=[nv rise.val,nv rise.val]) rfl rfl rfl (zbg _ ·) (fun W hW => zbn krr.out (hf.ext hW))) ?_
  refine zaa (nv cube.val) rfl (zac rfl rfl bcube rfl uN rfl (iN _)) ?_;simp only [aP,lA,lZ,lS]
  refine zaa (nv r1.val) rfl (zat (args:=[nv rr.val,nv cube.val]) rfl rfl rfl (zcx _ ·) (fun W hW => zds kr1.out (hf.ext hW))) ?_
  refine zaa (cv b) rfl (zac rfl rfl b0 rfl Tryz.underlying103 rfl (iK _)) ?_;simp only [aP,lA,lZ,lS]
  refine zaa (nv cross.val) rfl (zac rfl rfl bcross rfl uN rfl (iN _)) ?_
  refine zaa (nv c2.val) rfl (zaf (args:=[cv b,nv cross.val]) rfl rfl (fun W => zab Tryz.func140 rfl rfl _ W) (fun W hW => zdn kc2.out (hf.ext hW))) ?_;simp only [aP,lA,lZ,lS]
  refine zaa (nv x3.val) rfl (zat (args:=[nv r1.val,nv c2.val]) rfl rfl rfl (zcx _ ·) (fun W hW => zds kx3.out (hf.ext hW))) ?_;simp only [aP,lA,lZ,lS]
  exact zaj
 refine zci _ _ rfl rfl rfl rfl rfl rfl rfl rfl rfl (by kernel_rfl) (by kernel_rfl) (by kernel_rfl) rfl rfl (hzN ·) (fun _ => rfl) (fun _ => rfl) (iN _) rfl (zbf _) ?_
 intro gx3 w11 hgx3 bx3 hE
 refine NoPanic.normal ?_
 replace b0:=hE.block b0
 replace b1:=hE.block b1
 replace b3:=hE.block b3
 replace brun:=hE.block brun
 replace brise:=hE.block brise
 replace bcube:=hE.block bcube
 replace bcross:=hE.block bcross
 replace hf:=hf.ext hE
 replace hx:=hx.trans hE
 clear hE
 simp only [aP,lA,lZ,lS]
 clear hgx3
 go_upto_region 16 with (fail)
 refine' zbr (m:=26) (A:=_) 26 (by kernel_rfl) (by kernel_rfl) (by kernel_rfl) ?h11a ?h11b
 case h11a =>
  refine zaa (nv x3.val) rfl (zac rfl rfl bx3 rfl uN rfl (iN _)) ?_
  refine zaa (.pointer (some ⟨w.heap.size,1,none⟩)) rfl (zad rfl rfl (fldK1 _ ·)) ?_;simp only [aP,lA,lZ,lS]
  refine zaa (fv 105 b) rfl (zae rfl rfl b0 rfl (zap ·)) ?_
  refine zaa (.pointer (some ⟨w.heap.size,2,none⟩)) rfl (zad rfl rfl (fldK2 _ ·)) ?_;simp only [aP,lA,lZ,lS]
  refine zaa (fv 89 b) rfl (zae rfl rfl b0 rfl (zap ·)) ?_
  refine zaa (nv rise.val) rfl (zac rfl rfl brise rfl uN rfl (iN _)) ?_;simp only [aP,lA,lZ,lS]
  refine zaa (.pointer (some ⟨w.heap.size,1,none⟩)) rfl (zad rfl rfl (fldK1 _ ·)) ?_
  refine zaa (fv 105 b) rfl (zae rfl rfl b0 rfl (zap ·)) ?_;simp only [aP,lA,lZ,lS]
  refine zaa (nv cross.val) rfl (zac rfl rfl bcross rfl uN rfl (iN _)) ?_
  refine zaa (nv x3.val) rfl (zac rfl rfl bx3 rfl uN rfl (iN _)) ?_;simp only [aP,lA,lZ,lS]
  refine zaa (nv d.val) rfl (zat (args:=[nv cross.val,nv x3.val]) rfl rfl rfl (zcx _ ·) (fun W hW => zds kd.out (hf.ext hW))) ?_
  refine zaa (nv rd.val) rfl (zat (args:=[nv rise.val,nv d.val]) rfl rfl rfl (zbg _ ·) (fun W hW => zbn krd.out (hf.ext hW))) ?_;simp only [aP,lA,lZ,lS]
  refine zaa (.pointer (some ⟨w.heap.size,2,none⟩)) rfl (zad rfl rfl (fldK2 _ ·)) ?_
  refine zaa (fv 89 b) rfl (zae rfl rfl b0 rfl (zap ·)) ?_;simp only [aP,lA,lZ,lS]
  refine zaa (.pointer (some ⟨w.heap.size + 1,4,none⟩)) rfl (zad rfl rfl (fldS1 _ ·)) ?_
  refine zaa (nv y.val) rfl (zac rfl rfl b1 rfl uN rfl (iN _)) ?_;simp only [aP,lA,lZ,lS]
  refine zaa (nv cube.val) rfl (zac rfl rfl bcube rfl uN rfl (iN _)) ?_
  refine zaa (nv yc.val) rfl (zat (args:=[nv y.val,nv cube.val]) rfl rfl rfl (zbg _ ·) (fun W hW => zbn kyc.out (hf.ext hW))) ?_;simp only [aP,lA,lZ,lS]
  refine zaa (nv y3.val) rfl (zat (args:=[nv rd.val,nv yc.val]) rfl rfl rfl (zcx _ ·) (fun W hW => zds ky3.out (hf.ext hW))) ?_
  refine zaa (.pointer (some ⟨w.heap.size,2,none⟩)) rfl (zad rfl rfl (fldK2 _ ·)) ?_;simp only [aP,lA,lZ,lS]
  refine zaa (fv 89 b) rfl (zae rfl rfl b0 rfl (zap ·)) ?_
  refine zaa (.pointer (some ⟨w.heap.size + 1,8,none⟩)) rfl (zad rfl rfl (fldS2 _ ·)) ?_;simp only [aP,lA,lZ,lS]
  refine zaa (nv z.val) rfl (zac rfl rfl b1 rfl uN rfl (iN _)) ?_
  refine zaa (nv run.val) rfl (zac rfl rfl brun rfl uN rfl (iN _)) ?_;simp only [aP,lA,lZ,lS]
  refine zaa (nv z3.val) rfl (zat (args:=[nv z.val,nv run.val]) rfl rfl rfl (zbg _ ·) (fun W hW => zbn kz3.out (hf.ext hW))) ?_
  refine zaa (sv x3.val y3.val z3.val) rfl (zbb (vs:=[(0,nv x3.val),(1,nv y3.val),(2,nv z3.val)]) rfl rfl (fun W => bldS W _ _ _)) ?_;simp only [aP,lA,lZ,lS]
  exact zaj
 refine zgb _ rfl rfl rfl rfl rfl (by kernel_rfl) (by kernel_rfl) rfl rfl rfl b3 (iS _ _ _) rfl (zez _ _ _) ?_
 intro w12 hB hb
 refine NoPanic.normal ?_
 go_wp2
 exact bodyPost_ret (results_cell_row rfl _ _ (w.heap.size + 1 + 1 + 1) 146 (sc x3.val y3.val z3.val) (0,0) _ rfl hb Tryz.underlying146 rfl (by kernel_rfl)) rfl ⟨rfl,hx.new hB (by omega)⟩
theorem flat_far {b : Nat} (x y : Nat) {w : World} (hF : Fp w b) :
  Calls Tryz.prog 101 #[cv b,sv x y 0] w fun e w' => e = .returned (qv 0 0 true) ∧ Ext w w':=by
 unfold cv sv cc fv sc
 go_enter Tryz.func101,Tryz.ntmps101
 go_upto_region 1 with (fail)
 refine zcs fun w1 hx b0 b1 b2 => ?_
 have b0 : w1.heap[w.heap.size]? = some (.cells (cc b) 103 (0,0)):=b0
 have b1 : w1.heap[w.heap.size + 1]? = some (.cells (sc x y 0) 146 (0,0)):=b1
 have hf:=hF.ext hx
 clear hF
 refine' zak (m:=8) (A:=_) (by kernel_rfl) ?h1 ?h2
 case h1 =>
  refine zaa (.pointer (some ⟨w.heap.size,3,none⟩)) rfl (zad rfl rfl (fldK3 _ ·)) ?_
  refine zaa (fv 87 b) rfl (zae rfl rfl b0 rfl (isn_inv ·)) ?_;simp only [aP,lA,lZ,lS]
  refine zaa (.pointer (some ⟨w.heap.size + 1,8,none⟩)) rfl (zad rfl rfl (fldS2 _ ·)) ?_
  refine zaa (nv 0) rfl (zac rfl rfl b1 rfl uN rfl (iN _)) ?_;simp only [aP,lA,lZ,lS]
  refine zaa (.tuple #[nv 0,.iface 35 (.int .i64 4)]) rfl (zat (args:=[nv 0]) rfl rfl rfl (he_kInv _ ·) (fun W hW => kinv_z (hf.ext hW))) ?_
  refine zaa (.tuple #[nv 0,.iface 35 (.int .i64 4)]) rfl (zah (.inl rfl) rfl) ?_;simp only [aP,lA,lZ,lS]
  refine zaa (nv 0) rfl (zbi rfl rfl rfl) ?_
  refine zaa (.iface 35 (.int .i64 4)) rfl (zbi rfl rfl rfl) ?_;simp only [aP,lA,lZ,lS]
  exact zaj
 refine zcb _ _ rfl rfl rfl rfl rfl rfl rfl (hzN ·) (fun _ => rfl) (fun _ => rfl) (iN _) rfl (zbf _) ?_
 intro gt w2 hgt bt hE
 replace b2:=hE.block b2
 replace hf:=hf.ext hE
 replace hx:=hx.trans hE
 clear hE
 simp only [aP,lA,lZ,lS]
 clear hgt
 go_upto_region 3 with (fail)
 refine' zak (m:=1) (A:=_) (by kernel_rfl) ?h2a ?h2b
 case h2a =>
  refine zaa (qv 0 0 true) rfl (zbb rfl rfl (bldTF ·)) ?_;simp only [aP,lA,lZ,lS]
  exact zaj
 refine zbk _ rfl rfl rfl rfl rfl rfl b2 (iT _ _ _) rfl (zdr _ _ _) ?_
 intro w3 hB hb
 go_wp2
 exact bodyPost_ret (results_cell_row rfl _ _ (w.heap.size + 1 + 1) 48 (qc 0 0 true) (0,0) _ rfl hb Tryz.underlying48 rfl (by kernel_rfl)) rfl ⟨rfl,hx.new hB (by omega)⟩
def flat2 (x y z : Fe) : Fe × Fe:=(x * (Pt.E256.inv z * Pt.E256.inv z),y * (Pt.E256.inv z * Pt.E256.inv z * Pt.E256.inv z))
theorem flat_near {b : Nat} (x y z : Fe) (hz : z ≠ 0) {w : World} (hF : Fp w b) :
  Calls Tryz.prog 101 #[cv b,sv x.val y.val z.val] w fun e w' => e = .returned (qv (flat2 x y z).1.val (flat2 x y z).2.val false) ∧ Ext w w':=by
 obtain ⟨iv,hiv⟩ : ∃ t : Fe,t = Pt.E256.inv z:=⟨_,rfl⟩
 obtain ⟨sq,hsq⟩ : ∃ t : Fe,t = iv * iv:=⟨_,rfl⟩
 obtain ⟨X,hX⟩ : ∃ t : Fe,t = x * sq:=⟨_,rfl⟩
 obtain ⟨cb,hcb⟩ : ∃ t : Fe,t = sq * iv:=⟨_,rfl⟩
 obtain ⟨Y,hY⟩ : ∃ t : Fe,t = y * cb:=⟨_,rfl⟩
 have hfin : flat2 x y z = (X,Y):=by
  unfold flat2
  rw [hY,hcb,hX,hsq,hiv]
 rw [hfin]
 clear hfin
 have kiv:=veil hiv
 have ksq:=veil hsq
 have kX:=veil hX
 have kcb:=veil hcb
 have kY:=veil hY
 clear hY hcb hX hsq hiv
 have kz0:=veil hz
 clear hz
 show Calls Tryz.prog 101 #[cv b,sv x.val y.val z.val] w fun e w' => e = .returned (qv X.val Y.val false) ∧ Ext w w'
 unfold cv sv cc fv sc
 go_enter Tryz.func101,Tryz.ntmps101
 go_upto_region 1 with (fail)
 refine zcs fun w1 hx b0 b1 b2 => ?_
 have b0 : w1.heap[w.heap.size]? = some (.cells (cc b) 103 (0,0)):=b0
 have b1 : w1.heap[w.heap.size + 1]? = some (.cells (sc x.val y.val z.val) 146 (0,0)):=b1
 have hf:=hF.ext hx
 clear hF
 refine' zak (m:=8) (A:=_) (by kernel_rfl) ?h1 ?h2
 case h1 =>
  refine zaa (.pointer (some ⟨w.heap.size,3,none⟩)) rfl (zad rfl rfl (fldK3 _ ·)) ?_
  refine zaa (fv 87 b) rfl (zae rfl rfl b0 rfl (isn_inv ·)) ?_;simp only [aP,lA,lZ,lS]
  refine zaa (.pointer (some ⟨w.heap.size + 1,8,none⟩)) rfl (zad rfl rfl (fldS2 _ ·)) ?_
  refine zaa (nv z.val) rfl (zac rfl rfl b1 rfl uN rfl (iN _)) ?_;simp only [aP,lA,lZ,lS]
  refine zaa (.tuple #[nv iv.val,.nilIface]) rfl (zat (args:=[nv z.val]) rfl rfl rfl (he_kInv _ ·) (fun W hW => kinv_p kz0.out kiv.out (hf.ext hW))) ?_
  refine zaa (.tuple #[nv iv.val,.nilIface]) rfl (zah (.inl rfl) rfl) ?_;simp only [aP,lA,lZ,lS]
  refine zaa (nv iv.val) rfl (zbi rfl rfl rfl) ?_
  refine zaa (.nilIface) rfl (zbi rfl rfl rfl) ?_;simp only [aP,lA,lZ,lS]
  exact zaj
 refine zcb _ _ rfl rfl rfl rfl rfl rfl rfl (hzN ·) (fun _ => rfl) (fun _ => rfl) (iN _) rfl (zbf _) ?_
 intro gt w2 hgt bt hE
 replace b0:=hE.block b0
 replace b1:=hE.block b1
 replace b2:=hE.block b2
 replace hf:=hf.ext hE
 replace hx:=hx.trans hE
 clear hE
 simp only [aP,lA,lZ,lS]
 clear hgt
 go_upto_region 4 with (fail)
 refine' zak (m:=5) (A:=_) (by kernel_rfl) ?h2a ?h2b
 case h2a =>
  refine zaa (.pointer (some ⟨w.heap.size,2,none⟩)) rfl (zad rfl rfl (fldK2 _ ·)) ?_
  refine zaa (fv 89 b) rfl (zae rfl rfl b0 rfl (zap ·)) ?_;simp only [aP,lA,lZ,lS]
  refine zaa (nv iv.val) rfl (zac rfl rfl bt rfl uN rfl (iN _)) ?_
  refine zaa (nv iv.val) rfl (zac rfl rfl bt rfl uN rfl (iN _)) ?_;simp only [aP,lA,lZ,lS]
  refine zaa (nv sq.val) rfl (zat (args:=[nv iv.val,nv iv.val]) rfl rfl rfl (zbg _ ·) (fun W hW => zbn ksq.out (hf.ext hW))) ?_;simp only [aP,lA,lZ,lS]
  exact zaj
 refine zck _ _ rfl rfl rfl rfl rfl rfl rfl (hzN ·) (fun _ => rfl) (fun _ => rfl) (iN _) rfl (zbf _) ?_
 intro gsq w3 hgsq bsq hE
 replace b0:=hE.block b0
 replace b1:=hE.block b1
 replace b2:=hE.block b2
 replace bt:=hE.block bt
 replace hf:=hf.ext hE
 replace hx:=hx.trans hE
 clear hE
 simp only [aP,lA,lZ,lS]
 clear hgsq
 go_upto_region 5 with (fail)
 refine' zbr (m:=17) (A:=_) 17 (by kernel_rfl) (by kernel_rfl) (by kernel_rfl) ?h3a ?h3b
 case h3a =>
  refine zaa (.pointer (some ⟨w.heap.size,2,none⟩)) rfl (zad rfl rfl (fldK2 _ ·)) ?_
  refine zaa (fv 89 b) rfl (zae rfl rfl b0 rfl (zap ·)) ?_;simp only [aP,lA,lZ,lS]
  refine zaa (ptrTo (w.heap.size + 1)) rfl (zad rfl rfl (fldS0 _ ·)) ?_
  refine zaa (nv x.val) rfl (zac rfl rfl b1 rfl uN rfl (iN _)) ?_;simp only [aP,lA,lZ,lS]
  refine zaa (nv sq.val) rfl (zac rfl rfl bsq rfl uN rfl (iN _)) ?_
  refine zaa (nv X.val) rfl (zat (args:=[nv x.val,nv sq.val]) rfl rfl rfl (zbg _ ·) (fun W hW => zbn kX.out (hf.ext hW))) ?_;simp only [aP,lA,lZ,lS]
  refine zaa (.pointer (some ⟨w.heap.size,2,none⟩)) rfl (zad rfl rfl (fldK2 _ ·)) ?_
  refine zaa (fv 89 b) rfl (zae rfl rfl b0 rfl (zap ·)) ?_;simp only [aP,lA,lZ,lS]
  refine zaa (.pointer (some ⟨w.heap.size + 1,4,none⟩)) rfl (zad rfl rfl (fldS1 _ ·)) ?_
  refine zaa (nv y.val) rfl (zac rfl rfl b1 rfl uN rfl (iN _)) ?_;simp only [aP,lA,lZ,lS]
  refine zaa (.pointer (some ⟨w.heap.size,2,none⟩)) rfl (zad rfl rfl (fldK2 _ ·)) ?_
  refine zaa (fv 89 b) rfl (zae rfl rfl b0 rfl (zap ·)) ?_;simp only [aP,lA,lZ,lS]
  refine zaa (nv sq.val) rfl (zac rfl rfl bsq rfl uN rfl (iN _)) ?_
  refine zaa (nv iv.val) rfl (zac rfl rfl bt rfl uN rfl (iN _)) ?_;simp only [aP,lA,lZ,lS]
  refine zaa (nv cb.val) rfl (zat (args:=[nv sq.val,nv iv.val]) rfl rfl rfl (zbg _ ·) (fun W hW => zbn kcb.out (hf.ext hW))) ?_
  refine zaa (nv Y.val) rfl (zat (args:=[nv y.val,nv cb.val]) rfl rfl rfl (zbg _ ·) (fun W hW => zbn kY.out (hf.ext hW))) ?_;simp only [aP,lA,lZ,lS]
  refine zaa (qv X.val Y.val false) rfl (zbb (vs:=[(0,nv X.val),(1,nv Y.val)]) rfl rfl (fun W => bldT W _ _)) ?_;simp only [aP,lA,lZ,lS]
  exact zaj
 refine zgb _ rfl rfl rfl rfl rfl (by kernel_rfl) (by kernel_rfl) rfl rfl rfl b2 (iT _ _ _) rfl (zdr _ _ _) ?_
 intro w4 hB hb
 refine NoPanic.normal ?_
 go_wp2
 exact bodyPost_ret (results_cell_row rfl _ _ (w.heap.size + 1 + 1) 48 (qc X.val Y.val false) (0,0) _ rfl hb Tryz.underlying48 rfl (by kernel_rfl)) rfl ⟨rfl,hx.new hB (by omega)⟩
theorem on_far0 {b : Nat} (Y : Nat) (hY : Y < top) {w : World} (hF : Fp w b) :
  Calls Tryz.prog 56 #[cv b,qv 0 Y true] w fun e w' => e = .returned (.bool (decide (Y = 0))) ∧ Ext w w':=by
 have kY:=veil hY
 clear hY
 obtain ⟨q,hq⟩ : ∃ q,q = decide (Y = 0):=⟨_,rfl⟩
 rw [← hq]
 have kq:=veil hq
 clear hq
 unfold cv qv cc fv qc
 go_enter Tryz.func56,Tryz.ntmps56
 go_upto_region 1 with (fail)
 refine zdt fun w1 hx b0 b1 => ?_
 have b0 : w1.heap[w.heap.size]? = some (.cells (cc b) 103 (0,0)):=b0
 have b1 : w1.heap[w.heap.size + 1]? = some (.cells (qc 0 Y true) 48 (0,0)):=b1
 have hf:=hF.ext hx
 clear hF
 refine' zak (m:=2) (A:=_) (by kernel_rfl) ?h1 ?h2
 case h1 =>
  refine zaa (.pointer (some ⟨w.heap.size + 1,8,none⟩)) rfl (zad rfl rfl (fldT2 _ ·)) ?_
  refine zaa (.bool true) rfl (zae rfl rfl b1 rfl (zbq ·)) ?_;simp only [aP,lA,lZ,lS]
  exact zaj
 refine zaq rfl ?_
 intro w2 hE
 replace b1:=hE.block b1
 replace hf:=hf.ext hE
 replace hx:=hx.trans hE
 clear hE
 go_upto_region 2 with (fail)
 refine' zdk (m:=9) (A:=_) ?h2a ?h2b
 case h2a =>
  refine zaa (ptrTo (w.heap.size + 1)) rfl (zad rfl rfl (fldT0 _ ·)) ?_
  refine zaa (nv 0) rfl (zac rfl rfl b1 rfl uN rfl (iN _)) ?_;simp only [aP,lA,lZ,lS]
  refine zaa (.bool true) rfl (zaf (args:=[nv 0]) rfl rfl (fun W => zab Tryz.func106 rfl rfl _ W) (fun W hW => ziz rfl W)) ?_
  refine zaa (.bool true) rfl (zah (.inl rfl) rfl) ?_;simp only [aP,lA,lZ,lS]
  refine zam (.pointer (some ⟨w.heap.size + 1,4,none⟩)) rfl (zad rfl rfl (fldT1 _ ·)) ?_
  refine zam (nv Y) rfl (zac rfl rfl b1 rfl uN rfl (iN _)) ?_;simp only [aP,lA,lZ,lS]
  refine zam (.bool q) rfl (zaf (args:=[nv Y]) rfl rfl (fun W => zab Tryz.func106 rfl rfl _ W) (fun W hW => by rw [kq.out]; exact isz_calls Y kY.out W)) ?_
  refine zaa (.bool q) rfl (zaz rfl rfl rfl) ?_;simp only [aP,lA,lZ,lS]
  refine zaa (.bool q) rfl (zah (.inr rfl) rfl) ?_;simp only [aP,lA,lZ,lS]
  exact zaj
 refine zaq rfl ?_
 intro w3 hE
 replace hf:=hf.ext hE
 replace hx:=hx.trans hE
 clear hE
 go_wp2
 go_ret
 exact ⟨rfl,hx⟩
theorem on_far1 {b : Nat} (X Y : Nat) (hX : X < top) (h0 : X ≠ 0) {w : World} (hF : Fp w b) :
  Calls Tryz.prog 56 #[cv b,qv X Y true] w fun e w' => e = .returned (.bool false) ∧ Ext w w':=by
 have kX:=veil hX
 have k0:=veil h0
 clear hX h0
 unfold cv qv cc fv qc
 go_enter Tryz.func56,Tryz.ntmps56
 go_upto_region 1 with (fail)
 refine zdt fun w1 hx b0 b1 => ?_
 have b0 : w1.heap[w.heap.size]? = some (.cells (cc b) 103 (0,0)):=b0
 have b1 : w1.heap[w.heap.size + 1]? = some (.cells (qc X Y true) 48 (0,0)):=b1
 have hf:=hF.ext hx
 clear hF
 refine' zak (m:=2) (A:=_) (by kernel_rfl) ?h1 ?h2
 case h1 =>
  refine zaa (.pointer (some ⟨w.heap.size + 1,8,none⟩)) rfl (zad rfl rfl (fldT2 _ ·)) ?_
  refine zaa (.bool true) rfl (zae rfl rfl b1 rfl (zbq ·)) ?_;simp only [aP,lA,lZ,lS]
  exact zaj
 refine zaq rfl ?_
 intro w2 hE
 replace b1:=hE.block b1
 replace hf:=hf.ext hE
 replace hx:=hx.trans hE
 clear hE
 go_upto_region 2 with (fail)
 refine' zdk (m:=9) (A:=_) ?h2a ?h2b
 case h2a =>
  refine zaa (ptrTo (w.heap.size + 1)) rfl (zad rfl rfl (fldT0 _ ·)) ?_
  refine zaa (nv X) rfl (zac rfl rfl b1 rfl uN rfl (iN _)) ?_;simp only [aP,lA,lZ,lS]
  refine zaa (.bool false) rfl (zaf (args:=[nv X]) rfl rfl (fun W => zab Tryz.func106 rfl rfl _ W) (fun W hW => isz_no k0.out kX.out W)) ?_
  refine zaa (.bool false) rfl (zah (.inl rfl) rfl) ?_;simp only [aP,lA,lZ,lS]
  refine zay rfl ?_
  refine zay rfl ?_;simp only [aP,lA,lZ,lS]
  refine zay rfl ?_
  refine zaa (.bool false) rfl (zaz rfl rfl rfl) ?_;simp only [aP,lA,lZ,lS]
  refine zaa (.bool false) rfl (zah (.inr rfl) rfl) ?_;simp only [aP,lA,lZ,lS]
  exact zaj
 refine zaq rfl ?_
 intro w3 hE
 replace hf:=hf.ext hE
 replace hx:=hx.trans hE
 clear hE
 go_wp2
 go_ret
 exact ⟨rfl,hx⟩
theorem on_out {b : Nat} (X Y : Nat) (hX : X < top) (h0 : ¬ X < Pt.pp) {w : World} (hF : Fp w b) :
  Calls Tryz.prog 56 #[cv b,qv X Y false] w fun e w' => e = .returned (.bool false) ∧ Ext w w':=by
 have kX:=veil hX
 have k0:=veil h0
 clear hX h0
 unfold cv qv cc fv qc
 go_enter Tryz.func56,Tryz.ntmps56
 go_upto_region 1 with (fail)
 refine zdt fun w1 hx b0 b1 => ?_
 have b0 : w1.heap[w.heap.size]? = some (.cells (cc b) 103 (0,0)):=b0
 have b1 : w1.heap[w.heap.size + 1]? = some (.cells (qc X Y false) 48 (0,0)):=b1
 have hf:=hF.ext hx
 clear hF
 refine' zak (m:=2) (A:=_) (by kernel_rfl) ?h1 ?h2
 case h1 =>
  refine zaa (.pointer (some ⟨w.heap.size + 1,8,none⟩)) rfl (zad rfl rfl (fldT2 _ ·)) ?_
  refine zaa (.bool false) rfl (zae rfl rfl b1 rfl (zbq ·)) ?_;simp only [aP,lA,lZ,lS]
  exact zaj
 refine zaq rfl ?_
 intro w2 hE
 replace b1:=hE.block b1
 replace hf:=hf.ext hE
 replace hx:=hx.trans hE
 clear hE
 go_upto_region 3 with (fail)
 refine' zdf (m:=12) (A:=_) 12 (by kernel_rfl) (by kernel_rfl) ?h2a ?h2b
 case h2a =>
  refine zaa (ptrTo (w.heap.size + 1)) rfl (zad rfl rfl (fldT0 _ ·)) ?_
  refine zaa (nv X) rfl (zac rfl rfl b1 rfl uN rfl (iN _)) ?_;simp only [aP,lA,lZ,lS]
  refine zaa (nv Pt.pp) rfl (zaf (args:=[]) rfl rfl (fun W => zab Tryz.func103 rfl rfl _ W) (fun W hW => pP_is W)) ?_
  refine zaa (.int .i64 (cmpN X Pt.pp)) rfl (zaf (args:=[nv X,nv Pt.pp]) rfl rfl (fun W => zab Tryz.func94 rfl rfl _ W) (fun W hW => cmp_no kX.out W)) ?_;simp only [aP,lA,lZ,lS]
  refine zaa (.bool true) rfl (zgx rfl rfl (cmp_no_ge k0.out)) ?_
  refine zaa (.bool true) rfl (zah (.inl rfl) rfl) ?_;simp only [aP,lA,lZ,lS]
  refine zay rfl ?_
  refine zay rfl ?_;simp only [aP,lA,lZ,lS]
  refine zay rfl ?_
  refine zay rfl ?_;simp only [aP,lA,lZ,lS]
  refine zay rfl ?_
  refine zaa (.bool true) rfl (zaz rfl rfl rfl) ?_;simp only [aP,lA,lZ,lS]
  exact zaj
 refine zcj rfl (by kernel_rfl) ?_
 intro w3 hE
 refine NoPanic.normal ?_
 replace hf:=hf.ext hE
 replace hx:=hx.trans hE
 clear hE
 go_wp2
 go_ret
 exact ⟨rfl,hx⟩
theorem on_high {b : Nat} (X Y : Nat) (hX : X < Pt.pp) (hY : Y < top) (h0 : ¬ Y < Pt.pp) {w : World} (hF : Fp w b) :
  Calls Tryz.prog 56 #[cv b,qv X Y false] w fun e w' => e = .returned (.bool false) ∧ Ext w w':=by
 have kX:=veil hX
 have kY:=veil hY
 have k0:=veil h0
 clear hX hY h0
 unfold cv qv cc fv qc
 go_enter Tryz.func56,Tryz.ntmps56
 go_upto_region 1 with (fail)
 refine zdt fun w1 hx b0 b1 => ?_
 have b0 : w1.heap[w.heap.size]? = some (.cells (cc b) 103 (0,0)):=b0
 have b1 : w1.heap[w.heap.size + 1]? = some (.cells (qc X Y false) 48 (0,0)):=b1
 have hf:=hF.ext hx
 clear hF
 refine' zak (m:=2) (A:=_) (by kernel_rfl) ?h1 ?h2
 case h1 =>
  refine zaa (.pointer (some ⟨w.heap.size + 1,8,none⟩)) rfl (zad rfl rfl (fldT2 _ ·)) ?_
  refine zaa (.bool false) rfl (zae rfl rfl b1 rfl (zbq ·)) ?_;simp only [aP,lA,lZ,lS]
  exact zaj
 refine zaq rfl ?_
 intro w2 hE
 replace b1:=hE.block b1
 replace hf:=hf.ext hE
 replace hx:=hx.trans hE
 clear hE
 go_upto_region 3 with (fail)
 refine' zdf (m:=12) (A:=_) 12 (by kernel_rfl) (by kernel_rfl) ?h2a ?h2b
 case h2a =>
  refine zaa (ptrTo (w.heap.size + 1)) rfl (zad rfl rfl (fldT0 _ ·)) ?_
  refine zaa (nv X) rfl (zac rfl rfl b1 rfl uN rfl (iN _)) ?_;simp only [aP,lA,lZ,lS]
  refine zaa (nv Pt.pp) rfl (zaf (args:=[]) rfl rfl (fun W => zab Tryz.func103 rfl rfl _ W) (fun W hW => pP_is W)) ?_
  refine zaa (.int .i64 (-1)) rfl (zaf (args:=[nv X,nv Pt.pp]) rfl rfl (fun W => zab Tryz.func94 rfl rfl _ W) (fun W hW => cmp_in kX.out W)) ?_;simp only [aP,lA,lZ,lS]
  refine zaa (.bool false) rfl (zgx rfl rfl (by decide)) ?_
  refine zaa (.bool false) rfl (zah (.inl rfl) rfl) ?_;simp only [aP,lA,lZ,lS]
  refine zam (.pointer (some ⟨w.heap.size + 1,4,none⟩)) rfl (zad rfl rfl (fldT1 _ ·)) ?_
  refine zam (nv Y) rfl (zac rfl rfl b1 rfl uN rfl (iN _)) ?_;simp only [aP,lA,lZ,lS]
  refine zam (nv Pt.pp) rfl (zaf (args:=[]) rfl rfl (fun W => zab Tryz.func103 rfl rfl _ W) (fun W hW => pP_is W)) ?_
  refine zam (.int .i64 (cmpN Y Pt.pp)) rfl (zaf (args:=[nv Y,nv Pt.pp]) rfl rfl (fun W => zab Tryz.func94 rfl rfl _ W) (fun W hW => cmp_no kY.out W)) ?_;simp only [aP,lA,lZ,lS]
  refine zam (.bool true) rfl (zgx rfl rfl (cmp_no_ge k0.out)) ?_
  refine zaa (.bool true) rfl (zaz rfl rfl rfl) ?_;simp only [aP,lA,lZ,lS]
  exact zaj
 refine zcj rfl (by kernel_rfl) ?_
 intro w3 hE
 refine NoPanic.normal ?_
 replace hf:=hf.ext hE
 replace hx:=hx.trans hE
 clear hE
 go_wp2
 go_ret
 exact ⟨rfl,hx⟩
theorem on_near {b : Nat} (x y : Fe) {w : World} (hF : Fp w b) :
  Calls Tryz.prog 56 #[cv b,qv x.val y.val false] w fun e w' => e = .returned (.bool (decide ((y * y).val = (x * x * x - (x + x + x) + Pt.F Pt.bb).val))) ∧ Ext w w':=by
 obtain ⟨sq,hsq⟩ : ∃ t : Fe,t = x * x:=⟨_,rfl⟩
 obtain ⟨cube,hcube⟩ : ∃ t : Fe,t = sq * x:=⟨_,rfl⟩
 obtain ⟨lhs,hlhs⟩ : ∃ t : Fe,t = y * y:=⟨_,rfl⟩
 obtain ⟨tr,htr⟩ : ∃ t : Fe,t = x + x + x:=⟨_,rfl⟩
 obtain ⟨d,hd⟩ : ∃ t : Fe,t = cube - tr:=⟨_,rfl⟩
 obtain ⟨r,hr⟩ : ∃ t : Fe,t = d + Pt.F Pt.bb:=⟨_,rfl⟩
 have hfin : x * x * x - (x + x + x) + Pt.F Pt.bb = r:=by
  subst hr hd htr hlhs hcube hsq
  rfl
 rw [hfin,← hlhs]
 clear hfin
 have ksq:=veil hsq
 have kcube:=veil hcube
 have klhs:=veil hlhs
 have ktr:=veil htr
 have kd:=veil hd
 have kr:=veil hr
 clear hr hd htr hlhs hcube hsq
 have kx:=veil x.isLt
 have ky:=veil y.isLt
 unfold cv qv cc fv qc
 go_enter Tryz.func56,Tryz.ntmps56
 go_upto_region 1 with (fail)
 refine zdt fun w1 hx b0 b1 => ?_
 have b0 : w1.heap[w.heap.size]? = some (.cells (cc b) 103 (0,0)):=b0
 have b1 : w1.heap[w.heap.size + 1]? = some (.cells (qc x.val y.val false) 48 (0,0)):=b1
 have hf:=hF.ext hx
 clear hF
 refine' zak (m:=2) (A:=_) (by kernel_rfl) ?h1 ?h2
 case h1 =>
  refine zaa (.pointer (some ⟨w.heap.size + 1,8,none⟩)) rfl (zad rfl rfl (fldT2 _ ·)) ?_
  refine zaa (.bool false) rfl (zae rfl rfl b1 rfl (zbq ·)) ?_;simp only [aP,lA,lZ,lS]
  exact zaj
 refine zaq rfl ?_
 intro w2 hE
 replace b0:=hE.block b0
 replace b1:=hE.block b1
 replace hf:=hf.ext hE
 replace hx:=hx.trans hE
 clear hE
 go_upto_region 3 with (fail)
 refine' zdf (m:=12) (A:=_) 12 (by kernel_rfl) (by kernel_rfl) ?h2a ?h2b
 case h2a =>
  refine zaa (ptrTo (w.heap.size + 1)) rfl (zad rfl rfl (fldT0 _ ·)) ?_
  refine zaa (nv x.val) rfl (zac rfl rfl b1 rfl uN rfl (iN _)) ?_;simp only [aP,lA,lZ,lS]
  refine zaa (nv Pt.pp) rfl (zaf (args:=[]) rfl rfl (fun W => zab Tryz.func103 rfl rfl _ W) (fun W hW => pP_is W)) ?_
  refine zaa (.int .i64 (-1)) rfl (zaf (args:=[nv x.val,nv Pt.pp]) rfl rfl (fun W => zab Tryz.func94 rfl rfl _ W) (fun W hW => cmp_in kx.out W)) ?_;simp only [aP,lA,lZ,lS]
  refine zaa (.bool false) rfl (zgx rfl rfl (by decide)) ?_
  refine zaa (.bool false) rfl (zah (.inl rfl) rfl) ?_;simp only [aP,lA,lZ,lS]
  refine zam (.pointer (some ⟨w.heap.size + 1,4,none⟩)) rfl (zad rfl rfl (fldT1 _ ·)) ?_
  refine zam (nv y.val) rfl (zac rfl rfl b1 rfl uN rfl (iN _)) ?_;simp only [aP,lA,lZ,lS]
  refine zam (nv Pt.pp) rfl (zaf (args:=[]) rfl rfl (fun W => zab Tryz.func103 rfl rfl _ W) (fun W hW => pP_is W)) ?_
  refine zam (.int .i64 (-1)) rfl (zaf (args:=[nv y.val,nv Pt.pp]) rfl rfl (fun W => zab Tryz.func94 rfl rfl _ W) (fun W hW => cmp_in ky.out W)) ?_;simp only [aP,lA,lZ,lS]
  refine zam (.bool false) rfl (zgx rfl rfl (by decide)) ?_
  refine zaa (.bool false) rfl (zaz rfl rfl rfl) ?_;simp only [aP,lA,lZ,lS]
  exact zaj
 refine zcj rfl (by kernel_rfl) ?_
 intro w3 hE
 refine NoPanic.normal ?_
 replace b0:=hE.block b0
 replace b1:=hE.block b1
 replace hf:=hf.ext hE
 replace hx:=hx.trans hE
 clear hE
 go_upto_region 5 with (fail)
 refine' zbr (m:=12) (A:=_) 13 (by kernel_rfl) (by kernel_rfl) (by kernel_rfl) ?h3a ?h3b
 case h3a =>
  refine zaa (.pointer (some ⟨w.heap.size,2,none⟩)) rfl (zad rfl rfl (fldK2 _ ·)) ?_
  refine zaa (fv 89 b) rfl (zae rfl rfl b0 rfl (zap ·)) ?_;simp only [aP,lA,lZ,lS]
  refine zaa (.pointer (some ⟨w.heap.size,2,none⟩)) rfl (zad rfl rfl (fldK2 _ ·)) ?_
  refine zaa (fv 89 b) rfl (zae rfl rfl b0 rfl (zap ·)) ?_;simp only [aP,lA,lZ,lS]
  refine zaa (ptrTo (w.heap.size + 1)) rfl (zad rfl rfl (fldT0 _ ·)) ?_
  refine zaa (nv x.val) rfl (zac rfl rfl b1 rfl uN rfl (iN _)) ?_;simp only [aP,lA,lZ,lS]
  refine zaa (ptrTo (w.heap.size + 1)) rfl (zad rfl rfl (fldT0 _ ·)) ?_
  refine zaa (nv x.val) rfl (zac rfl rfl b1 rfl uN rfl (iN _)) ?_;simp only [aP,lA,lZ,lS]
  refine zaa (nv sq.val) rfl (zat (args:=[nv x.val,nv x.val]) rfl rfl rfl (zbg _ ·) (fun W hW => zbn ksq.out (hf.ext hW))) ?_
  refine zaa (ptrTo (w.heap.size + 1)) rfl (zad rfl rfl (fldT0 _ ·)) ?_;simp only [aP,lA,lZ,lS]
  refine zaa (nv x.val) rfl (zac rfl rfl b1 rfl uN rfl (iN _)) ?_
  refine zaa (nv cube.val) rfl (zat (args:=[nv sq.val,nv x.val]) rfl rfl rfl (zbg _ ·) (fun W hW => zbn kcube.out (hf.ext hW))) ?_;simp only [aP,lA,lZ,lS]
  exact zaj
 refine zci _ _ rfl rfl rfl rfl rfl rfl rfl rfl rfl (by kernel_rfl) (by kernel_rfl) (by kernel_rfl) rfl rfl (hzN ·) (fun _ => rfl) (fun _ => rfl) (iN _) rfl (zbf _) ?_
 intro gcube w4 hgcube bcube hE
 refine NoPanic.normal ?_
 replace b0:=hE.block b0
 replace b1:=hE.block b1
 replace hf:=hf.ext hE
 replace hx:=hx.trans hE
 clear hE
 simp only [aP,lA,lZ,lS]
 clear hgcube
 go_upto_region 6 with (fail)
 refine' zbr (m:=21) (A:=_) 21 (by kernel_rfl) (by kernel_rfl) (by kernel_rfl) ?h4a ?h4b
 case h4a =>
  refine zaa (.pointer (some ⟨w.heap.size,2,none⟩)) rfl (zad rfl rfl (fldK2 _ ·)) ?_
  refine zaa (fv 89 b) rfl (zae rfl rfl b0 rfl (zap ·)) ?_;simp only [aP,lA,lZ,lS]
  refine zaa (.pointer (some ⟨w.heap.size + 1,4,none⟩)) rfl (zad rfl rfl (fldT1 _ ·)) ?_
  refine zaa (nv y.val) rfl (zac rfl rfl b1 rfl uN rfl (iN _)) ?_;simp only [aP,lA,lZ,lS]
  refine zaa (.pointer (some ⟨w.heap.size + 1,4,none⟩)) rfl (zad rfl rfl (fldT1 _ ·)) ?_
  refine zaa (nv y.val) rfl (zac rfl rfl b1 rfl uN rfl (iN _)) ?_;simp only [aP,lA,lZ,lS]
  refine zaa (nv lhs.val) rfl (zat (args:=[nv y.val,nv y.val]) rfl rfl rfl (zbg _ ·) (fun W hW => zbn klhs.out (hf.ext hW))) ?_
  refine zaa (ptrTo w.heap.size) rfl (zad rfl rfl (fldK0 _ ·)) ?_;simp only [aP,lA,lZ,lS]
  refine zaa (fv 104 b) rfl (zae rfl rfl b0 rfl (zap ·)) ?_
  refine zaa (.pointer (some ⟨w.heap.size,1,none⟩)) rfl (zad rfl rfl (fldK1 _ ·)) ?_;simp only [aP,lA,lZ,lS]
  refine zaa (fv 105 b) rfl (zae rfl rfl b0 rfl (zap ·)) ?_
  refine zaa (nv cube.val) rfl (zac rfl rfl bcube rfl uN rfl (iN _)) ?_;simp only [aP,lA,lZ,lS]
  refine zaa (cv b) rfl (zac rfl rfl b0 rfl Tryz.underlying103 rfl (iK _)) ?_
  refine zaa (ptrTo (w.heap.size + 1)) rfl (zad rfl rfl (fldT0 _ ·)) ?_;simp only [aP,lA,lZ,lS]
  refine zaa (nv x.val) rfl (zac rfl rfl b1 rfl uN rfl (iN _)) ?_
  refine zaa (nv tr.val) rfl (zaf (args:=[cv b,nv x.val]) rfl rfl (fun W => zab Tryz.func107 rfl rfl _ W) (fun W hW => trp_calls ktr.out (hf.ext hW))) ?_;simp only [aP,lA,lZ,lS]
  refine zaa (nv d.val) rfl (zat (args:=[nv cube.val,nv tr.val]) rfl rfl rfl (zcx _ ·) (fun W hW => zds kd.out (hf.ext hW))) ?_
  refine zaa (nv ((Pt.F Pt.bb : Fe).val)) rfl (zaf (args:=[]) rfl rfl (fun W => zab Tryz.func108 rfl rfl _ W) (fun W hW => bb_is W)) ?_;simp only [aP,lA,lZ,lS]
  refine zaa (nv r.val) rfl (zat (args:=[nv d.val,nv ((Pt.F Pt.bb : Fe).val)]) rfl rfl rfl (he_kAdd _ ·) (fun W hW => kadd_p kr.out (hf.ext hW))) ?_
  refine zaa (.bool (decide (lhs.val = r.val))) rfl (made_eqn rfl rfl rfl (zdy _) (zdy _)) ?_;simp only [aP,lA,lZ,lS]
  refine zaa (.bool (decide (lhs.val = r.val))) rfl (zah (.inr rfl) rfl) ?_;simp only [aP,lA,lZ,lS]
  exact zaj
 refine zcj rfl (by kernel_rfl) ?_
 intro w5 hE
 refine NoPanic.normal ?_
 replace hf:=hf.ext hE
 replace hx:=hx.trans hE
 clear hE
 go_wp2
 go_ret
 exact ⟨rfl,hx⟩
def Rep (x y z : Fe) : Pt.P Pt.pp → Prop
 | none => z = 0
 | some (X,Y) => z ≠ 0 ∧ x = X * (z * z) ∧ y = Y * (z * z * z)
section
variable {n : Nat} [NeZero n]
theorem rt_m {X Y z l x Z s u : Fin n} (hl : l * (Y + Y) = 3 * (X * X - 1)) (hx : x = X * (z * z)) (hZ : Z = Y * (z * z * z) * z + Y * (z * z * z) * z) (hs : s = x - z * z) (hu : u = x + z * z) : s * u + s * u + s * u = l * Z:=by
 subst hs hu hx hZ
 have h : l * (Y * (z * z * z) * z + Y * (z * z * z) * z) = l * (Y + Y) * (z * z * z * z):=by grobner
 rw [h,hl]
 grobner
theorem rt_c {X Y z x y Z : Fin n} (hx : x = X * (z * z)) (hy : y = Y * (z * z * z)) (hZ : Z = y * z + y * z) : (x * (y * y) + x * (y * y)) + (x * (y * y) + x * (y * y)) = X * (Z * Z):=by
 subst hZ hy hx
 grobner
theorem rt_x {m l Z c X : Fin n} (hm : m = l * Z) (hc : c = X * (Z * Z)) : m * m - (c + c) = (l * l - X - X) * (Z * Z):=by
 subst hm hc
 grobner
theorem rt_t {Y z y Z : Fin n} (hy : y = Y * (z * z * z)) (hZ : Z = y * z + y * z) : ((y * y * (y * y) + y * y * (y * y)) + (y * y * (y * y) + y * y * (y * y))) + ((y * y * (y * y) + y * y * (y * y)) + (y * y * (y * y) + y * y * (y * y))) = Y * (Z * Z * Z):=by
 subst hZ hy
 grobner
theorem rt_y {m l Z c X x3 X3 t Y : Fin n} (hm : m = l * Z) (hc : c = X * (Z * Z)) (hx : x3 = X3 * (Z * Z)) (ht : t = Y * (Z * Z * Z)) : m * (c - x3) - t = (l * (X - X3) - Y) * (Z * Z * Z):=by
 subst hm hc hx ht
 grobner
theorem rp_run {X1 X2 z x : Fin n} (hx : x = X1 * (z * z)) : X2 * (z * z) - x = (X2 - X1) * (z * z):=by subst hx; grobner
theorem rp_rise {Y1 Y2 z y : Fin n} (hy : y = Y1 * (z * z * z)) : Y2 * (z * z * z) - y = (Y2 - Y1) * (z * z * z):=by subst hy; grobner
theorem rp_l {X1 X2 Y1 Y2 z l run Z : Fin n} (hl : l * (X2 - X1) = Y2 - Y1) (hr : run = (X2 - X1) * (z * z)) (hZ : Z = z * run) : (Y2 - Y1) * (z * z * z) = l * Z:=by
 subst hZ hr
 rw [← hl]
 grobner
theorem rp_x {X1 X2 z l run Z rise x : Fin n} (hx : x = X1 * (z * z)) (hr : run = (X2 - X1) * (z * z)) (hZ : Z = z * run) (hs : rise = l * Z) :
  rise * rise - run * run * run - (x * (run * run) + x * (run * run)) = (l * l - X1 - X2) * (Z * Z):=by
 subst hs hZ hr hx
 grobner
theorem rp_y {X1 Y1 X2 z l run Z rise x y x3 X3 : Fin n} (hx : x = X1 * (z * z)) (hy : y = Y1 * (z * z * z)) (hr : run = (X2 - X1) * (z * z)) (hZ : Z = z * run) (hs : rise = l * Z) (h3 : x3 = X3 * (Z * Z)) :
  rise * (x * (run * run) - x3) - y * (run * run * run) = (l * (X1 - X3) - Y1) * (Z * Z * Z):=by
 subst h3 hs hZ hr hx hy
 grobner
theorem rf_x {X x z t : Fin n} (hx : x = X * (z * z)) (ht : z * t = 1) : x * (t * t) = X:=by
 subst hx
 have h : X * (z * z) * (t * t) = X * (z * t) * (z * t):=by grobner
 rw [h,ht]
 grobner
theorem rf_y {Y y z t : Fin n} (hy : y = Y * (z * z * z)) (ht : z * t = 1) : y * (t * t * t) = Y:=by
 subst hy
 have h : Y * (z * z * z) * (t * t * t) = Y * (z * t) * (z * t) * (z * t):=by grobner
 rw [h,ht]
 grobner
theorem three_x (x : Fin n) : x + x + x = 3 * x:=by grobner
theorem opp_of {y1 y2 : Fin n} (h : (y1 - y2) * (y1 - (0 - y2)) = 0) (hz : ∀ x y : Fin n,x * y = 0 → x = 0 ∨ y = 0) (hn : y1 ≠ y2) : y1 = 0 - y2:=by
 rcases hz _ _ h with h | h
 ·
  exact absurd (Pt.eq_of_sub h) hn
 ·
  exact Pt.eq_of_sub h
theorem opp_sq {y1 y2 : Fin n} (h : y1 * y1 = y2 * y2) : (y1 - y2) * (y1 - (0 - y2)) = 0:=by grobner
end
end Go.Proofs.YtedehdbajiaaiaaGreatDoor
