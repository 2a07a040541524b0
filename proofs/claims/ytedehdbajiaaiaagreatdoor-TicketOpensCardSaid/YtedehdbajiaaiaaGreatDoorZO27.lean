/-
  Of C4 C3 C5 C6.
-/
import Derived.Test.YtedehdbajiaaiaaGreatDoorZO21
import Derived.Test.YtedehdbajiaaiaaGreatDoorZO12
import Derived.Test.YtedehdbajiaaiaaGreatDoorZO14
import Derived.Test.YtedehdbajiaaiaaGreatDoorZO6
set_option maxRecDepth 1000000
set_option maxHeartbeats 20000000
namespace Go.Proofs.YtedehdbajiaaiaaGreatDoor
open Go.RowKit
open Go.Value renaming int → vI
open Go.IntKind renaming u64 → vU
open Go.Act renaming put → aP
open List renaming setIfInBounds_toArray → lA, set_cons_zero → lZ, set_cons_succ → lS
def twice3 (x y z : Fe) : Fe × Fe × Fe :=
 let zz : Fe:=z * z
 let yy : Fe:=y * y
 let s : Fe:=x - zz
 let u : Fe:=x + zz
 let su : Fe:=s * u
 let m : Fe:=su + su + su
 let q : Fe:=x * yy
 let q2 : Fe:=q + q
 let cr : Fe:=q2 + q2
 let mm : Fe:=m * m
 let c2 : Fe:=cr + cr
 let X : Fe:=mm - c2
 let e : Fe:=yy * yy
 let e2 : Fe:=e + e
 let e4 : Fe:=e2 + e2
 let tl : Fe:=e4 + e4
 let d : Fe:=cr - X
 let md : Fe:=m * d
 let Y : Fe:=md - tl
 let yz : Fe:=y * z
 let Z : Fe:=yz + yz
 (X,Y,Z)
theorem twice_calls {b : Nat} (x y z : Fe) {w : World} (hF : Fp w b) :
  Calls Tryz.prog 98 #[cv b,sv x.val y.val z.val] w fun e w' => e = .returned (sv (twice3 x y z).1.val (twice3 x y z).2.1.val (twice3 x y z).2.2.val) ∧ Ext w w':=by
 obtain ⟨zz,hzz⟩ : ∃ t : Fe,t = z * z:=⟨_,rfl⟩
 obtain ⟨yy,hyy⟩ : ∃ t : Fe,t = y * y:=⟨_,rfl⟩
 obtain ⟨s,hs⟩ : ∃ t : Fe,t = x - zz:=⟨_,rfl⟩
 obtain ⟨u,hu⟩ : ∃ t : Fe,t = x + zz:=⟨_,rfl⟩
 obtain ⟨su,hsu⟩ : ∃ t : Fe,t = s * u:=⟨_,rfl⟩
 obtain ⟨m,hm⟩ : ∃ t : Fe,t = su + su + su:=⟨_,rfl⟩
 obtain ⟨q,hq⟩ : ∃ t : Fe,t = x * yy:=⟨_,rfl⟩
 obtain ⟨q2,hq2⟩ : ∃ t : Fe,t = q + q:=⟨_,rfl⟩
 obtain ⟨cr,hcr⟩ : ∃ t : Fe,t = q2 + q2:=⟨_,rfl⟩
 obtain ⟨mm,hmm⟩ : ∃ t : Fe,t = m * m:=⟨_,rfl⟩
 obtain ⟨c2,hc2⟩ : ∃ t : Fe,t = cr + cr:=⟨_,rfl⟩
 obtain ⟨X,hX⟩ : ∃ t : Fe,t = mm - c2:=⟨_,rfl⟩
 obtain ⟨e,he⟩ : ∃ t : Fe,t = yy * yy:=⟨_,rfl⟩
 obtain ⟨e2,he2⟩ : ∃ t : Fe,t = e + e:=⟨_,rfl⟩
 obtain ⟨e4,he4⟩ : ∃ t : Fe,t = e2 + e2:=⟨_,rfl⟩
 obtain ⟨tl,htl⟩ : ∃ t : Fe,t = e4 + e4:=⟨_,rfl⟩
 obtain ⟨d,hd⟩ : ∃ t : Fe,t = cr - X:=⟨_,rfl⟩
 obtain ⟨md,hmd⟩ : ∃ t : Fe,t = m * d:=⟨_,rfl⟩
 obtain ⟨Y,hY⟩ : ∃ t : Fe,t = md - tl:=⟨_,rfl⟩
 obtain ⟨yz,hyz⟩ : ∃ t : Fe,t = y * z:=⟨_,rfl⟩
 obtain ⟨Z,hZ⟩ : ∃ t : Fe,t = yz + yz:=⟨_,rfl⟩
 have hfin : twice3 x y z = (X,Y,Z):=by
  subst hZ hyz hY hmd hd htl he4 he2 he hX hc2 hmm hcr hq2 hq hm hsu hu hs hyy hzz
  rfl
 rw [hfin]
 clear hfin
 have kzz:=veil hzz
 have kyy:=veil hyy
 have ks:=veil hs
 have ku:=veil hu
 have ksu:=veil hsu
 have km:=veil hm
 have kq:=veil hq
 have kq2:=veil hq2
 have kcr:=veil hcr
 have kmm:=veil hmm
 have kc2:=veil hc2
 have kX:=veil hX
 have ke:=veil he
 have ke2:=veil he2
 have ke4:=veil he4
 have ktl:=veil htl
 have kd:=veil hd
 have kmd:=veil hmd
 have kY:=veil hY
 have kyz:=veil hyz
 have kZ:=veil hZ
 clear hZ hyz hY hmd hd htl he4 he2 he hX hc2 hmm hcr hq2 hq hm hsu hu hs hyy hzz
 show Calls Tryz.prog 98 #[cv b,sv x.val y.val z.val] w fun e w' => e = .returned (sv X.val Y.val Z.val) ∧ Ext w w'
 unfold cv sv cc fv sc
 go_enter Tryz.func98,Tryz.ntmps98
 go_upto_region 1 with (fail)
 refine zde fun w1 hx b0 b1 b2 => ?_
 have b0 : w1.heap[w.heap.size]? = some (.cells (cc b) 103 (0,0)):=b0
 have b1 : w1.heap[w.heap.size + 1]? = some (.cells (sc x.val y.val z.val) 146 (0,0)):=b1
 have hf:=hF.ext hx
 clear hF
 refine' zbu (m:=14) (A:=_) 16 (by kernel_rfl) (by kernel_rfl) (by kernel_rfl) ?h1 ?h2
 case h1 =>
  refine zaa (.pointer (some ⟨w.heap.size,2,none⟩)) rfl (zaf rfl rfl (fldK2 _ ·)) ?_
  refine zaa (fv 89 b) rfl (zak rfl rfl b0 rfl (zav ·)) ?_;simp only [aP,lA,lZ,lS]
  refine zaa (.pointer (some ⟨w.heap.size + 1,8,none⟩)) rfl (zaf rfl rfl (fldS2 _ ·)) ?_
  refine zaa (nv z.val) rfl (zad rfl rfl b1 rfl uN rfl (iN _)) ?_;simp only [aP,lA,lZ,lS]
  refine zaa (.pointer (some ⟨w.heap.size + 1,8,none⟩)) rfl (zaf rfl rfl (fldS2 _ ·)) ?_
  refine zaa (nv z.val) rfl (zad rfl rfl b1 rfl uN rfl (iN _)) ?_;simp only [aP,lA,lZ,lS]
  refine zaa (nv zz.val) rfl (zay (args:=[nv z.val,nv z.val]) rfl rfl rfl (zbi _ ·) (fun W hW => zbr kzz.out (hf.ext hW))) ?_
  refine zaa (.pointer (some ⟨w.heap.size,2,none⟩)) rfl (zaf rfl rfl (fldK2 _ ·)) ?_;simp only [aP,lA,lZ,lS]
  refine zaa (fv 89 b) rfl (zak rfl rfl b0 rfl (zav ·)) ?_
  refine zaa (.pointer (some ⟨w.heap.size + 1,4,none⟩)) rfl (zaf rfl rfl (fldS1 _ ·)) ?_;simp only [aP,lA,lZ,lS]
  refine zaa (nv y.val) rfl (zad rfl rfl b1 rfl uN rfl (iN _)) ?_
  refine zaa (.pointer (some ⟨w.heap.size + 1,4,none⟩)) rfl (zaf rfl rfl (fldS1 _ ·)) ?_;simp only [aP,lA,lZ,lS]
  refine zaa (nv y.val) rfl (zad rfl rfl b1 rfl uN rfl (iN _)) ?_
  refine zaa (nv yy.val) rfl (zay (args:=[nv y.val,nv y.val]) rfl rfl rfl (zbi _ ·) (fun W hW => zbr kyy.out (hf.ext hW))) ?_;simp only [aP,lA,lZ,lS]
  exact zap
 refine rest_two _ _ _ _ rfl rfl rfl rfl rfl rfl rfl rfl rfl rfl rfl rfl rfl rfl rfl rfl rfl (by decide) (by kernel_rfl) (by kernel_rfl) (by kernel_rfl) (by kernel_rfl) (by kernel_rfl) (by kernel_rfl) (by kernel_rfl) (by kernel_rfl) (by kernel_rfl) (hzN ·) (fun _ _ => rfl) (fun _ _ => rfl) (fun _ _ => rfl) (fun _ _ => rfl) (iN _) (iN _) rfl rfl (zbp _) (zbp _) ?_
 intro gzz gyy w2 hgzz hgyy bzz byy hE
 refine NoPanic.normal ?_
 replace b0:=hE.block b0
 replace b1:=hE.block b1
 replace b2:=hE.block b2
 replace hf:=hf.ext hE
 replace hx:=hx.trans hE
 clear hE
 simp only [aP,lA,lZ,lS]
 clear hgzz hgyy
 go_upto_region 2 with (fail)
 refine' zbu (m:=17) (A:=_) 18 (by kernel_rfl) (by kernel_rfl) (by kernel_rfl) ?h2a ?h2b
 case h2a =>
  refine zaa (cv b) rfl (zad rfl rfl b0 rfl Tryz.underlying103 rfl (iK _)) ?_
  refine zaa (.pointer (some ⟨w.heap.size,2,none⟩)) rfl (zaf rfl rfl (fldK2 _ ·)) ?_;simp only [aP,lA,lZ,lS]
  refine zaa (fv 89 b) rfl (zak rfl rfl b0 rfl (zav ·)) ?_
  refine zaa (.pointer (some ⟨w.heap.size,1,none⟩)) rfl (zaf rfl rfl (fldK1 _ ·)) ?_;simp only [aP,lA,lZ,lS]
  refine zaa (fv 105 b) rfl (zak rfl rfl b0 rfl (zav ·)) ?_
  refine zaa (ptrTo (w.heap.size + 1)) rfl (zaf rfl rfl (fldS0 _ ·)) ?_;simp only [aP,lA,lZ,lS]
  refine zaa (nv x.val) rfl (zad rfl rfl b1 rfl uN rfl (iN _)) ?_
  refine zaa (nv zz.val) rfl (zad rfl rfl bzz rfl uN rfl (iN _)) ?_;simp only [aP,lA,lZ,lS]
  refine zaa (nv s.val) rfl (zay (args:=[nv x.val,nv zz.val]) rfl rfl rfl (zcz _ ·) (fun W hW => zdz ks.out (hf.ext hW))) ?_
  refine zaa (ptrTo w.heap.size) rfl (zaf rfl rfl (fldK0 _ ·)) ?_;simp only [aP,lA,lZ,lS]
  refine zaa (fv 104 b) rfl (zak rfl rfl b0 rfl (zav ·)) ?_
  refine zaa (ptrTo (w.heap.size + 1)) rfl (zaf rfl rfl (fldS0 _ ·)) ?_;simp only [aP,lA,lZ,lS]
  refine zaa (nv x.val) rfl (zad rfl rfl b1 rfl uN rfl (iN _)) ?_
  refine zaa (nv zz.val) rfl (zad rfl rfl bzz rfl uN rfl (iN _)) ?_;simp only [aP,lA,lZ,lS]
  refine zaa (nv u.val) rfl (zay (args:=[nv x.val,nv zz.val]) rfl rfl rfl (he_kAdd _ ·) (fun W hW => kadd_p ku.out (hf.ext hW))) ?_
  refine zaa (nv su.val) rfl (zay (args:=[nv s.val,nv u.val]) rfl rfl rfl (zbi _ ·) (fun W hW => zbr ksu.out (hf.ext hW))) ?_;simp only [aP,lA,lZ,lS]
  refine zaa (nv m.val) rfl (zai (args:=[cv b,nv su.val]) rfl rfl (fun W => zac Tryz.func107 rfl rfl _ W) (fun W hW => trp_calls km.out (hf.ext hW))) ?_;simp only [aP,lA,lZ,lS]
  exact zap
 refine zci _ _ rfl rfl rfl rfl rfl rfl rfl rfl rfl (by kernel_rfl) (by kernel_rfl) (by kernel_rfl) rfl rfl (hzN ·) (fun _ => rfl) (fun _ => rfl) (iN _) rfl (zbp _) ?_
 intro gm w3 hgm bm hE
 refine NoPanic.normal ?_
 replace b0:=hE.block b0
 replace b1:=hE.block b1
 replace b2:=hE.block b2
 replace byy:=hE.block byy
 replace hf:=hf.ext hE
 replace hx:=hx.trans hE
 clear hE
 simp only [aP,lA,lZ,lS]
 clear hgm
 go_upto_region 3 with (fail)
 refine' zar (m:=6) (A:=_) (by kernel_rfl) ?h3a ?h3b
 case h3a =>
  refine zaa (.pointer (some ⟨w.heap.size,2,none⟩)) rfl (zaf rfl rfl (fldK2 _ ·)) ?_
  refine zaa (fv 89 b) rfl (zak rfl rfl b0 rfl (zav ·)) ?_;simp only [aP,lA,lZ,lS]
  refine zaa (ptrTo (w.heap.size + 1)) rfl (zaf rfl rfl (fldS0 _ ·)) ?_
  refine zaa (nv x.val) rfl (zad rfl rfl b1 rfl uN rfl (iN _)) ?_;simp only [aP,lA,lZ,lS]
  refine zaa (nv yy.val) rfl (zad rfl rfl byy rfl uN rfl (iN _)) ?_
  refine zaa (nv q.val) rfl (zay (args:=[nv x.val,nv yy.val]) rfl rfl rfl (zbi _ ·) (fun W hW => zbr kq.out (hf.ext hW))) ?_;simp only [aP,lA,lZ,lS]
  exact zap
 refine zcs _ _ rfl rfl rfl rfl rfl rfl rfl (hzN ·) (fun _ => rfl) (fun _ => rfl) (iN _) rfl (zbp _) ?_
 intro gq w4 hgq bq hE
 replace b0:=hE.block b0
 replace b1:=hE.block b1
 replace b2:=hE.block b2
 replace byy:=hE.block byy
 replace bm:=hE.block bm
 replace hf:=hf.ext hE
 replace hx:=hx.trans hE
 clear hE
 simp only [aP,lA,lZ,lS]
 clear hgq
 go_upto_region 4 with (fail)
 refine' zbu (m:=5) (A:=_) 6 (by kernel_rfl) (by kernel_rfl) (by kernel_rfl) ?h4a ?h4b
 case h4a =>
  refine zaa (cv b) rfl (zad rfl rfl b0 rfl Tryz.underlying103 rfl (iK _)) ?_
  refine zaa (cv b) rfl (zad rfl rfl b0 rfl Tryz.underlying103 rfl (iK _)) ?_;simp only [aP,lA,lZ,lS]
  refine zaa (nv q.val) rfl (zad rfl rfl bq rfl uN rfl (iN _)) ?_
  refine zaa (nv q2.val) rfl (zai (args:=[cv b,nv q.val]) rfl rfl (fun W => zac Tryz.func140 rfl rfl _ W) (fun W hW => zdp kq2.out (hf.ext hW))) ?_;simp only [aP,lA,lZ,lS]
  refine zaa (nv cr.val) rfl (zai (args:=[cv b,nv q2.val]) rfl rfl (fun W => zac Tryz.func140 rfl rfl _ W) (fun W hW => zdp kcr.out (hf.ext hW))) ?_;simp only [aP,lA,lZ,lS]
  exact zap
 refine zci _ _ rfl rfl rfl rfl rfl rfl rfl rfl rfl (by kernel_rfl) (by kernel_rfl) (by kernel_rfl) rfl rfl (hzN ·) (fun _ => rfl) (fun _ => rfl) (iN _) rfl (zbp _) ?_
 intro gcr w5 hgcr bcr hE
 refine NoPanic.normal ?_
 replace b0:=hE.block b0
 replace b1:=hE.block b1
 replace b2:=hE.block b2
 replace byy:=hE.block byy
 replace bm:=hE.block bm
 replace hf:=hf.ext hE
 replace hx:=hx.trans hE
 clear hE
 simp only [aP,lA,lZ,lS]
 clear hgcr
 go_upto_region 5 with (fail)
 refine' zbu (m:=11) (A:=_) 12 (by kernel_rfl) (by kernel_rfl) (by kernel_rfl) ?h5a ?h5b
 case h5a =>
  refine zaa (.pointer (some ⟨w.heap.size,1,none⟩)) rfl (zaf rfl rfl (fldK1 _ ·)) ?_
  refine zaa (fv 105 b) rfl (zak rfl rfl b0 rfl (zav ·)) ?_;simp only [aP,lA,lZ,lS]
  refine zaa (.pointer (some ⟨w.heap.size,2,none⟩)) rfl (zaf rfl rfl (fldK2 _ ·)) ?_
  refine zaa (fv 89 b) rfl (zak rfl rfl b0 rfl (zav ·)) ?_;simp only [aP,lA,lZ,lS]
  refine zaa (nv m.val) rfl (zad rfl rfl bm rfl uN rfl (iN _)) ?_
  refine zaa (nv m.val) rfl (zad rfl rfl bm rfl uN rfl (iN _)) ?_;simp only [aP,lA,lZ,lS]
  refine zaa (nv mm.val) rfl (zay (args:=[nv m.val,nv m.val]) rfl rfl rfl (zbi _ ·) (fun W hW => zbr kmm.out (hf.ext hW))) ?_
  refine zaa (cv b) rfl (zad rfl rfl b0 rfl Tryz.underlying103 rfl (iK _)) ?_;simp only [aP,lA,lZ,lS]
  refine zaa (nv cr.val) rfl (zad rfl rfl bcr rfl uN rfl (iN _)) ?_
  refine zaa (nv c2.val) rfl (zai (args:=[cv b,nv cr.val]) rfl rfl (fun W => zac Tryz.func140 rfl rfl _ W) (fun W hW => zdp kc2.out (hf.ext hW))) ?_;simp only [aP,lA,lZ,lS]
  refine zaa (nv X.val) rfl (zay (args:=[nv mm.val,nv c2.val]) rfl rfl rfl (zcz _ ·) (fun W hW => zdz kX.out (hf.ext hW))) ?_;simp only [aP,lA,lZ,lS]
  exact zap
 refine zci _ _ rfl rfl rfl rfl rfl rfl rfl rfl rfl (by kernel_rfl) (by kernel_rfl) (by kernel_rfl) rfl rfl (hzN ·) (fun _ => rfl) (fun _ => rfl) (iN _) rfl (zbp _) ?_
 intro gX w6 hgX bX hE
 refine NoPanic.normal ?_
 replace b0:=hE.block b0
 replace b1:=hE.block b1
 replace b2:=hE.block b2
 replace byy:=hE.block byy
 replace bm:=hE.block bm
 replace bcr:=hE.block bcr
 replace hf:=hf.ext hE
 replace hx:=hx.trans hE
 clear hE
 simp only [aP,lA,lZ,lS]
 clear hgX
 go_upto_region 6 with (fail)
 refine' zar (m:=5) (A:=_) (by kernel_rfl) ?h6a ?h6b
 case h6a =>
  refine zaa (.pointer (some ⟨w.heap.size,2,none⟩)) rfl (zaf rfl rfl (fldK2 _ ·)) ?_
  refine zaa (fv 89 b) rfl (zak rfl rfl b0 rfl (zav ·)) ?_;simp only [aP,lA,lZ,lS]
  refine zaa (nv yy.val) rfl (zad rfl rfl byy rfl uN rfl (iN _)) ?_
  refine zaa (nv yy.val) rfl (zad rfl rfl byy rfl uN rfl (iN _)) ?_;simp only [aP,lA,lZ,lS]
  refine zaa (nv e.val) rfl (zay (args:=[nv yy.val,nv yy.val]) rfl rfl rfl (zbi _ ·) (fun W hW => zbr ke.out (hf.ext hW))) ?_;simp only [aP,lA,lZ,lS]
  exact zap
 refine zcs _ _ rfl rfl rfl rfl rfl rfl rfl (hzN ·) (fun _ => rfl) (fun _ => rfl) (iN _) rfl (zbp _) ?_
 intro ge w7 hge be hE
 replace b0:=hE.block b0
 replace b1:=hE.block b1
 replace b2:=hE.block b2
 replace bm:=hE.block bm
 replace bcr:=hE.block bcr
 replace bX:=hE.block bX
 replace hf:=hf.ext hE
 replace hx:=hx.trans hE
 clear hE
 simp only [aP,lA,lZ,lS]
 clear hge
 go_upto_region 7 with (fail)
 refine' zbu (m:=7) (A:=_) 8 (by kernel_rfl) (by kernel_rfl) (by kernel_rfl) ?h7a ?h7b
 case h7a =>
  refine zaa (cv b) rfl (zad rfl rfl b0 rfl Tryz.underlying103 rfl (iK _)) ?_
  refine zaa (cv b) rfl (zad rfl rfl b0 rfl Tryz.underlying103 rfl (iK _)) ?_;simp only [aP,lA,lZ,lS]
  refine zaa (cv b) rfl (zad rfl rfl b0 rfl Tryz.underlying103 rfl (iK _)) ?_
  refine zaa (nv e.val) rfl (zad rfl rfl be rfl uN rfl (iN _)) ?_;simp only [aP,lA,lZ,lS]
  refine zaa (nv e2.val) rfl (zai (args:=[cv b,nv e.val]) rfl rfl (fun W => zac Tryz.func140 rfl rfl _ W) (fun W hW => zdp ke2.out (hf.ext hW))) ?_
  refine zaa (nv e4.val) rfl (zai (args:=[cv b,nv e2.val]) rfl rfl (fun W => zac Tryz.func140 rfl rfl _ W) (fun W hW => zdp ke4.out (hf.ext hW))) ?_;simp only [aP,lA,lZ,lS]
  refine zaa (nv tl.val) rfl (zai (args:=[cv b,nv e4.val]) rfl rfl (fun W => zac Tryz.func140 rfl rfl _ W) (fun W hW => zdp ktl.out (hf.ext hW))) ?_;simp only [aP,lA,lZ,lS]
  exact zap
 refine zci _ _ rfl rfl rfl rfl rfl rfl rfl rfl rfl (by kernel_rfl) (by kernel_rfl) (by kernel_rfl) rfl rfl (hzN ·) (fun _ => rfl) (fun _ => rfl) (iN _) rfl (zbp _) ?_
 intro gtl w8 hgtl btl hE
 refine NoPanic.normal ?_
 replace b0:=hE.block b0
 replace b1:=hE.block b1
 replace b2:=hE.block b2
 replace bm:=hE.block bm
 replace bcr:=hE.block bcr
 replace bX:=hE.block bX
 replace hf:=hf.ext hE
 replace hx:=hx.trans hE
 clear hE
 simp only [aP,lA,lZ,lS]
 clear hgtl
 go_upto_region 8 with (fail)
 refine' zbu (m:=24) (A:=_) 24 (by kernel_rfl) (by kernel_rfl) (by kernel_rfl) ?h8a ?h8b
 case h8a =>
  refine zaa (nv X.val) rfl (zad rfl rfl bX rfl uN rfl (iN _)) ?_
  refine zaa (.pointer (some ⟨w.heap.size,1,none⟩)) rfl (zaf rfl rfl (fldK1 _ ·)) ?_;simp only [aP,lA,lZ,lS]
  refine zaa (fv 105 b) rfl (zak rfl rfl b0 rfl (zav ·)) ?_
  refine zaa (.pointer (some ⟨w.heap.size,2,none⟩)) rfl (zaf rfl rfl (fldK2 _ ·)) ?_;simp only [aP,lA,lZ,lS]
  refine zaa (fv 89 b) rfl (zak rfl rfl b0 rfl (zav ·)) ?_
  refine zaa (nv m.val) rfl (zad rfl rfl bm rfl uN rfl (iN _)) ?_;simp only [aP,lA,lZ,lS]
  refine zaa (.pointer (some ⟨w.heap.size,1,none⟩)) rfl (zaf rfl rfl (fldK1 _ ·)) ?_
  refine zaa (fv 105 b) rfl (zak rfl rfl b0 rfl (zav ·)) ?_;simp only [aP,lA,lZ,lS]
  refine zaa (nv cr.val) rfl (zad rfl rfl bcr rfl uN rfl (iN _)) ?_
  refine zaa (nv X.val) rfl (zad rfl rfl bX rfl uN rfl (iN _)) ?_;simp only [aP,lA,lZ,lS]
  refine zaa (nv d.val) rfl (zay (args:=[nv cr.val,nv X.val]) rfl rfl rfl (zcz _ ·) (fun W hW => zdz kd.out (hf.ext hW))) ?_
  refine zaa (nv md.val) rfl (zay (args:=[nv m.val,nv d.val]) rfl rfl rfl (zbi _ ·) (fun W hW => zbr kmd.out (hf.ext hW))) ?_;simp only [aP,lA,lZ,lS]
  refine zaa (nv tl.val) rfl (zad rfl rfl btl rfl uN rfl (iN _)) ?_
  refine zaa (nv Y.val) rfl (zay (args:=[nv md.val,nv tl.val]) rfl rfl rfl (zcz _ ·) (fun W hW => zdz kY.out (hf.ext hW))) ?_;simp only [aP,lA,lZ,lS]
  refine zaa (cv b) rfl (zad rfl rfl b0 rfl Tryz.underlying103 rfl (iK _)) ?_
  refine zaa (.pointer (some ⟨w.heap.size,2,none⟩)) rfl (zaf rfl rfl (fldK2 _ ·)) ?_;simp only [aP,lA,lZ,lS]
  refine zaa (fv 89 b) rfl (zak rfl rfl b0 rfl (zav ·)) ?_
  refine zaa (.pointer (some ⟨w.heap.size + 1,4,none⟩)) rfl (zaf rfl rfl (fldS1 _ ·)) ?_;simp only [aP,lA,lZ,lS]
  refine zaa (nv y.val) rfl (zad rfl rfl b1 rfl uN rfl (iN _)) ?_
  refine zaa (.pointer (some ⟨w.heap.size + 1,8,none⟩)) rfl (zaf rfl rfl (fldS2 _ ·)) ?_;simp only [aP,lA,lZ,lS]
  refine zaa (nv z.val) rfl (zad rfl rfl b1 rfl uN rfl (iN _)) ?_
  refine zaa (nv yz.val) rfl (zay (args:=[nv y.val,nv z.val]) rfl rfl rfl (zbi _ ·) (fun W hW => zbr kyz.out (hf.ext hW))) ?_;simp only [aP,lA,lZ,lS]
  refine zaa (nv Z.val) rfl (zai (args:=[cv b,nv yz.val]) rfl rfl (fun W => zac Tryz.func140 rfl rfl _ W) (fun W hW => zdp kZ.out (hf.ext hW))) ?_
  refine zaa (sv X.val Y.val Z.val) rfl (zbh (vs:=[(0,nv X.val),(1,nv Y.val),(2,nv Z.val)]) rfl rfl (fun W => bldS W _ _ _)) ?_;simp only [aP,lA,lZ,lS]
  exact zap
 refine zfx _ rfl rfl rfl rfl rfl (by kernel_rfl) (by kernel_rfl) rfl rfl rfl b2 (iS _ _ _) rfl (zfv _ _ _) ?_
 intro w9 hB hb
 refine NoPanic.normal ?_
 go_wp2
 exact bodyPost_ret (results_cell_row rfl _ _ (w.heap.size + 1 + 1) 146 (sc X.val Y.val Z.val) (0,0) _ rfl hb Tryz.underlying146 rfl (by kernel_rfl)) rfl ⟨rfl,hx.new hB (by omega)⟩
theorem pP_calls (w : World) : Calls Tryz.prog 103 #[] w fun e w' => e = .returned (.agg #[vI vU (wd (Pt.pp) 0),vI vU (wd (Pt.pp) 1),vI vU (wd (Pt.pp) 2),vI vU (wd (Pt.pp) 3)]) ∧ Below w.heap.size w w':=by
 obtain ⟨l0,l1,l2,l3⟩:=pp_lits
 rw [l0,l1,l2,l3]
 clear l0 l1 l2 l3
 go_enter Tryz.func103,Tryz.ntmps103
 go_wp2
 exact bodyPost_ret (results_cell_row rfl _ _ w.heap.size 26 #[vI vU 18446744073709551615,vI vU 4294967295,vI vU 0,vI vU 18446744069414584321] (0,0) _ rfl (heap_alloc_last w _) Tryz.underlying26 rfl (by kernel_rfl)) rfl ⟨rfl,(Below.refl _ _).alloc (Nat.le_refl _) _⟩
theorem bb_calls (w : World) : Calls Tryz.prog 108 #[] w fun e w' => e = .returned (.agg #[vI vU (wd (Pt.bb) 0),vI vU (wd (Pt.bb) 1),vI vU (wd (Pt.bb) 2),vI vU (wd (Pt.bb) 3)]) ∧ Below w.heap.size w w':=by
 obtain ⟨l0,l1,l2,l3⟩:=bb_lits
 rw [l0,l1,l2,l3]
 clear l0 l1 l2 l3
 go_enter Tryz.func108,Tryz.ntmps108
 go_wp2
 exact bodyPost_ret (results_cell_row rfl _ _ w.heap.size 26 #[vI vU 4309448131093880907,vI vU 7285987128567378166,vI vU 12964664127075681980,vI vU 6540974713487397863] (0,0) _ rfl (heap_alloc_last w _) Tryz.underlying26 rfl (by kernel_rfl)) rfl ⟨rfl,(Below.refl _ _).alloc (Nat.le_refl _) _⟩
theorem isz_calls (X : Nat) (hX : X < top) (w : World) :
  Calls Tryz.prog 106 #[nv X] w fun e w' => e = .returned (.bool (decide (X = 0))) ∧ Ext w w':=by
 unfold nv nc
 have kq:=fun W => eql_zero hX W
 obtain ⟨q,hq⟩ : ∃ q,q = decide (X = 0):=⟨_,rfl⟩
 rw [← hq] at kq ⊢
 have hA : (w.alloc (.cells #[vI vU (wd X 0),vI vU (wd X 1),vI vU (wd X 2),vI vU (wd X 3)] 26)).rowIs w.heap.size 26 4 (fun j => .int .u64 (wd X j)):=zag (n:=4) (by simp) rfl (arr4 fun j => .int .u64 (wd X j))
 obtain ⟨c0,c1,c2,c3⟩:=zae hA
 clear hq hX hA
 go_enter Tryz.func106,Tryz.ntmps106
 go_wp2
 go_ret
 exact ⟨rfl,(Below.refl _ _).alloc (Nat.le_refl _) _⟩
theorem isz_no {X : Nat} (h : X ≠ 0) (hX : X < top) (w : World) : Calls Tryz.prog 106 #[nv X] w fun e w' => e = .returned (.bool false) ∧ Ext w w':=by
 have k:=isz_calls X hX w
 rwa [decide_eq_false h] at k
theorem zkf {X : Nat} (h : X = 0) (w : World) : Calls Tryz.prog 106 #[nv X] w fun e w' => e = .returned (.bool true) ∧ Ext w w':=by
 have k:=isz_calls X (by rw [h]; exact Nat.two_pow_pos 256) w
 rwa [decide_eq_true h] at k
section
variable {P : Program} {o : Oper} {a : Act} {w : World}
end
theorem cmp_in {X : Nat} (h : X < Pt.pp) (w : World) : Calls Tryz.prog 94 #[nv X,nv Pt.pp] w fun e w' => e = .returned (.int .i64 (-1)) ∧ Ext w w' :=
 kcmp X Pt.pp (-1) (by unfold cmpN; rw [if_pos h]) (Nat.lt_trans h zbf) zbf w
theorem cmp_no {X : Nat} (hX : X < top) (w : World) : Calls Tryz.prog 94 #[nv X,nv Pt.pp] w fun e w' => e = .returned (.int .i64 (cmpN X Pt.pp)) ∧ Ext w w' :=
 kcmp X Pt.pp _ rfl hX zbf w
theorem cmp_no_ge {X : Nat} (h : ¬ X < Pt.pp) : decide (0 ≤ cmpN X Pt.pp) = true:=by
 have:=cmp_ge X Pt.pp
 simp only [this,h,not_false_eq_true,decide_true]
theorem pP_is (w : World) : Calls Tryz.prog 103 #[] w fun e w' => e = .returned (nv Pt.pp) ∧ Ext w w':=pP_calls w
theorem bb_is (w : World) : Calls Tryz.prog 108 #[] w fun e w' => e = .returned (nv (Pt.F Pt.bb : Fe).val) ∧ Ext w w':=by
 have h : (Pt.F Pt.bb : Fe).val = Pt.bb:=Nat.mod_eq_of_lt bb_lt
 rw [h]
 exact bb_calls w
theorem zic (w : World) : Calls Tryz.prog 55 #[] w fun e w' => ∃ b,e = .returned (cv b) ∧ Fp w' b ∧ Ext w w':=by
 have hp : Pt.pp % 2 = 1:=by decide +kernel
 have hp2 : 2 < Pt.pp:=by decide +kernel
 have K1:=veil (fun W => new_good Pt.pp hp hp2 zbf W)
 have K0:=veil pP_calls
 clear hp hp2
 generalize hM : Pt.pp = M at K0 K1
 go_enter Tryz.func55,Tryz.ntmps55
 go_wp2_with fail
 refine (K0.out _).mono ?_
 rintro e w1 ⟨rfl,hb1⟩
 go_wp2_with fail
 refine (K1.out _).mono ?_
 rintro e w2 ⟨⟨b,N,Q,hK,hF,hle,rfl⟩,hb2⟩
 have hx : Ext w w2:=(Ext.alloc w _).trans (Ext.trans hb1 hb2)
 have hf : Fp w2 b:=⟨N,Q,hM ▸ hK,hM ▸ hF⟩
 have b0 : w2.heap[w.heap.size]? = some (.cells #[.nilFunc,.nilFunc,.nilFunc,.nilFunc] 103 (0,0)):=Ext.block (Ext.trans hb1 hb2) (zej (w:=w) rfl)
 have hne : w.heap.size < b:=by have h1:=hb1.size; simp at h1; omega
 clear hK hF hM K0 K1 hb1 hb2 hle
 go_upto_region 2 with (fail)
 refine' zar (m:=9) (A:=_) (by kernel_rfl) ?h1 ?h2
 case h1 =>
  refine zaa (ptrTo b) rfl (zan (.inl rfl) rfl) ?_
  refine zaa (fv 104 b) rfl (ziq rfl rfl) ?_;simp only [aP,lA,lZ,lS]
  refine zaa (ptrTo b) rfl (zan (.inl rfl) rfl) ?_
  refine zaa (fv 105 b) rfl (ziq rfl rfl) ?_;simp only [aP,lA,lZ,lS]
  refine zaa (ptrTo b) rfl (zan (.inl rfl) rfl) ?_
  refine zaa (fv 89 b) rfl (ziq rfl rfl) ?_;simp only [aP,lA,lZ,lS]
  refine zaa (ptrTo b) rfl (zan (.inl rfl) rfl) ?_
  refine zaa (fv 87 b) rfl (ziq rfl rfl) ?_;simp only [aP,lA,lZ,lS]
  refine zaa (cv b) rfl (zbh (vs:=[(0,fv 104 b),(1,fv 105 b),(2,fv 89 b),(3,fv 87 b)]) rfl rfl (fun W => bldK W _)) ?_;simp only [aP,lA,lZ,lS]
  exact zap
 refine zbq _ rfl rfl rfl rfl rfl rfl b0 (iK _) rfl (cc_one _) ?_
 intro w3 hB hb
 go_wp2
 have hf' : Fp w3 b:=by
  obtain ⟨N,Q,h1,h2⟩:=hf
  exact ⟨N,Q,h1,h2.of_block (hB.block b h2.lt (by intro e; simp at e; omega))⟩
 exact bodyPost_ret (results_cell_row rfl _ _ w.heap.size 103 (cc b) (0,0) _ rfl hb Tryz.underlying103 rfl (by kernel_rfl)) rfl ⟨b,rfl,hf',hx.new hB (Nat.le_refl _)⟩
theorem lift_far (x y : Nat) (w : World) :
  Calls Tryz.prog 96 #[qv x y true] w fun e w' => e = .returned (sv 0 0 0) ∧ Ext w w':=by
 unfold qv qc
 go_enter Tryz.func96,Tryz.ntmps96
 go_upto_region 1 with (fail)
 refine zex fun w1 hx b0 b1 => ?_
 have b0 : w1.heap[w.heap.size]? = some (.cells (qc x y true) 48 (0,0)):=b0
 refine' zar (m:=2) (A:=_) (by kernel_rfl) ?h1 ?h2
 case h1 =>
  refine zaa (.pointer (some ⟨w.heap.size,8,none⟩)) rfl (zaf rfl rfl (fldT2 _ ·)) ?_
  refine zaa (.bool true) rfl (zak rfl rfl b0 rfl (zbs ·)) ?_;simp only [aP,lA,lZ,lS]
  exact zap
 refine zax rfl ?_
 intro w2 hE
 replace b1:=hE.block b1
 replace hx:=hx.trans hE
 clear hE
 go_upto_region 2 with (fail)
 refine' zar (m:=1) (A:=_) (by kernel_rfl) ?h2a ?h2b
 case h2a =>
  refine zaa (sv 0 0 0) rfl (zbh rfl rfl (bldS0 ·)) ?_;simp only [aP,lA,lZ,lS]
  exact zap
 refine zbq _ rfl rfl rfl rfl rfl rfl b1 (iS _ _ _) rfl (zfv _ _ _) ?_
 intro w3 hB hb
 go_wp2
 exact bodyPost_ret (results_cell_row rfl _ _ (w.heap.size + 1) 146 (sc 0 0 0) (0,0) _ rfl hb Tryz.underlying146 rfl (by kernel_rfl)) rfl ⟨rfl,hx.new hB (by omega)⟩
theorem lift_near (x y : Nat) (w : World) :
  Calls Tryz.prog 96 #[qv x y false] w fun e w' => e = .returned (sv x y 1) ∧ Ext w w':=by
 unfold qv qc
 go_enter Tryz.func96,Tryz.ntmps96
 go_upto_region 1 with (fail)
 refine zex fun w1 hx b0 b1 => ?_
 have b0 : w1.heap[w.heap.size]? = some (.cells (qc x y false) 48 (0,0)):=b0
 refine' zar (m:=2) (A:=_) (by kernel_rfl) ?h1 ?h2
 case h1 =>
  refine zaa (.pointer (some ⟨w.heap.size,8,none⟩)) rfl (zaf rfl rfl (fldT2 _ ·)) ?_
  refine zaa (.bool false) rfl (zak rfl rfl b0 rfl (zbs ·)) ?_;simp only [aP,lA,lZ,lS]
  exact zap
 refine zax rfl ?_
 intro w2 hE
 replace b0:=hE.block b0
 replace b1:=hE.block b1
 replace hx:=hx.trans hE
 clear hE
 go_upto_region 3 with (fail)
 refine' zar (m:=6) (A:=_) (by kernel_rfl) ?h2a ?h2b
 case h2a =>
  refine zaa (ptrTo w.heap.size) rfl (zaf rfl rfl (fldT0 _ ·)) ?_
  refine zaa (nv x) rfl (zad rfl rfl b0 rfl uN rfl (iN _)) ?_;simp only [aP,lA,lZ,lS]
  refine zaa (.pointer (some ⟨w.heap.size,4,none⟩)) rfl (zaf rfl rfl (fldT1 _ ·)) ?_
  refine zaa (nv y) rfl (zad rfl rfl b0 rfl uN rfl (iN _)) ?_;simp only [aP,lA,lZ,lS]
  refine zaa (nv 1) rfl (zbh (vs:=[(0,.int .u64 1)]) rfl rfl (bldN1 ·)) ?_
  refine zaa (sv x y 1) rfl (zbh (vs:=[(0,nv x),(1,nv y),(2,nv 1)]) rfl rfl (fun W => bldS W _ _ _)) ?_;simp only [aP,lA,lZ,lS]
  exact zap
 refine zbq _ rfl rfl rfl rfl rfl rfl b1 (iS _ _ _) rfl (zfv _ _ _) ?_
 intro w3 hB hb
 go_wp2
 exact bodyPost_ret (results_cell_row rfl _ _ (w.heap.size + 1) 146 (sc x y 1) (0,0) _ rfl hb Tryz.underlying146 rfl (by kernel_rfl)) rfl ⟨rfl,hx.new hB (by omega)⟩
theorem base_calls (w : World) :
  Calls Tryz.prog 54 #[] w fun e w' => e = .returned (qv Pt.gx Pt.gy false) ∧ Ext w w':=by
 unfold qv qc
 go_enter Tryz.func54,Tryz.ntmps54
 go_upto_region 1 with (fail)
 refine zdu fun w1 hx b0 => ?_
 refine' zar (m:=3) (A:=_) (by kernel_rfl) ?h1 ?h2
 case h1 =>
  refine zaa (nv Pt.gx) rfl (zbh (vs:=[(0,.int .u64 17627433388654248598),(1,.int .u64 8575836109218198432),(2,.int .u64 17923454489921339634),(3,.int .u64 7716867327612699207)]) rfl rfl (bldGx ·)) ?_
  refine zaa (nv Pt.gy) rfl (zbh (vs:=[(0,.int .u64 14678990851816772085),(1,.int .u64 3156516839386865358),(2,.int .u64 10297457778147434006),(3,.int .u64 5756518291402817435)]) rfl rfl (bldGy ·)) ?_;simp only [aP,lA,lZ,lS]
  refine zaa (qv Pt.gx Pt.gy false) rfl (zbh (vs:=[(0,nv Pt.gx),(1,nv Pt.gy)]) rfl rfl (fun W => bldT W _ _)) ?_;simp only [aP,lA,lZ,lS]
  exact zap
 refine zbq _ rfl rfl rfl rfl rfl rfl b0 (iT _ _ _) rfl (zdr _ _ _) ?_
 intro w2 hB hb
 go_wp2
 exact bodyPost_ret (results_cell_row rfl _ _ (w.heap.size) 48 (qc Pt.gx Pt.gy false) (0,0) _ rfl hb Tryz.underlying48 rfl (by kernel_rfl)) rfl ⟨rfl,hx.new hB (by omega)⟩
theorem plus_far {b : Nat} (x y z X Y : Nat) {w : World} (hF : Fp w b) :
  Calls Tryz.prog 100 #[cv b,sv x y z,qv X Y true] w fun e w' => e = .returned (sv x y z) ∧ Ext w w':=by
 unfold cv sv qv cc fv sc qc
 go_enter Tryz.func100,Tryz.ntmps100
 go_upto_region 1 with (fail)
 refine zig fun w1 hx b0 b1 b2 b3 => ?_
 have b0 : w1.heap[w.heap.size]? = some (.cells (cc b) 103 (0,0)):=b0
 have b1 : w1.heap[w.heap.size + 1]? = some (.cells (sc x y z) 146 (0,0)):=b1
 have b2 : w1.heap[w.heap.size + 1 + 1]? = some (.cells (qc X Y true) 48 (0,0)):=b2
 have hf:=hF.ext hx
 clear hF
 refine' zar (m:=2) (A:=_) (by kernel_rfl) ?h1 ?h2
 case h1 =>
  refine zaa (.pointer (some ⟨w.heap.size + 1 + 1,8,none⟩)) rfl (zaf rfl rfl (fldT2 _ ·)) ?_
  refine zaa (.bool true) rfl (zak rfl rfl b2 rfl (zbs ·)) ?_;simp only [aP,lA,lZ,lS]
  exact zap
 refine zax rfl ?_
 intro w2 hE
 replace b1:=hE.block b1
 replace b3:=hE.block b3
 replace hf:=hf.ext hE
 replace hx:=hx.trans hE
 clear hE
 go_upto_region 2 with (fail)
 refine' zar (m:=1) (A:=_) (by kernel_rfl) ?h2a ?h2b
 case h2a =>
  refine zaa (sv x y z) rfl (zad rfl rfl b1 rfl Tryz.underlying146 rfl (iS _ _ _)) ?_;simp only [aP,lA,lZ,lS]
  exact zap
 refine zbq _ rfl rfl rfl rfl rfl rfl b3 (iS _ _ _) rfl (zfv _ _ _) ?_
 intro w3 hB hb
 go_wp2
 exact bodyPost_ret (results_cell_row rfl _ _ (w.heap.size + 1 + 1 + 1) 146 (sc x y z) (0,0) _ rfl hb Tryz.underlying146 rfl (by kernel_rfl)) rfl ⟨rfl,hx.new hB (by omega)⟩
theorem plus_lift {b : Nat} (x y X Y : Nat) {w : World} (hF : Fp w b) :
  Calls Tryz.prog 100 #[cv b,sv x y 0,qv X Y false] w fun e w' => e = .returned (sv X Y 1) ∧ Ext w w':=by
 unfold cv sv qv cc fv sc qc
 go_enter Tryz.func100,Tryz.ntmps100
 go_upto_region 1 with (fail)
 refine zig fun w1 hx b0 b1 b2 b3 => ?_
 have b0 : w1.heap[w.heap.size]? = some (.cells (cc b) 103 (0,0)):=b0
 have b1 : w1.heap[w.heap.size + 1]? = some (.cells (sc x y 0) 146 (0,0)):=b1
 have b2 : w1.heap[w.heap.size + 1 + 1]? = some (.cells (qc X Y false) 48 (0,0)):=b2
 have hf:=hF.ext hx
 clear hF
 refine' zar (m:=2) (A:=_) (by kernel_rfl) ?h1 ?h2
 case h1 =>
  refine zaa (.pointer (some ⟨w.heap.size + 1 + 1,8,none⟩)) rfl (zaf rfl rfl (fldT2 _ ·)) ?_
  refine zaa (.bool false) rfl (zak rfl rfl b2 rfl (zbs ·)) ?_;simp only [aP,lA,lZ,lS]
  exact zap
 refine zax rfl ?_
 intro w2 hE
 replace b1:=hE.block b1
 replace b2:=hE.block b2
 replace b3:=hE.block b3
 replace hf:=hf.ext hE
 replace hx:=hx.trans hE
 clear hE
 go_upto_region 3 with (fail)
 refine' zar (m:=3) (A:=_) (by kernel_rfl) ?h2a ?h2b
 case h2a =>
  refine zaa (.pointer (some ⟨w.heap.size + 1,8,none⟩)) rfl (zaf rfl rfl (fldS2 _ ·)) ?_
  refine zaa (nv 0) rfl (zad rfl rfl b1 rfl uN rfl (iN _)) ?_;simp only [aP,lA,lZ,lS]
  refine zaa (.bool true) rfl (zai (args:=[nv 0]) rfl rfl (fun W => zac Tryz.func106 rfl rfl _ W) (fun W hW => zkf rfl W)) ?_;simp only [aP,lA,lZ,lS]
  exact zap
 refine zax rfl ?_
 intro w3 hE
 replace b2:=hE.block b2
 replace b3:=hE.block b3
 replace hf:=hf.ext hE
 replace hx:=hx.trans hE
 clear hE
 go_upto_region 4 with (fail)
 refine' zar (m:=2) (A:=_) (by kernel_rfl) ?h3a ?h3b
 case h3a =>
  refine zaa (qv X Y false) rfl (zad rfl rfl b2 rfl Tryz.underlying48 rfl (iT _ _ _)) ?_
  refine zaa (sv X Y 1) rfl (zai (args:=[qv X Y false]) rfl rfl (fun W => zac Tryz.func96 rfl rfl _ W) (fun W hW => lift_near X Y W)) ?_;simp only [aP,lA,lZ,lS]
  exact zap
 refine zbq _ rfl rfl rfl rfl rfl rfl b3 (iS _ _ _) rfl (zfv _ _ _) ?_
 intro w4 hB hb
 go_wp2
 exact bodyPost_ret (results_cell_row rfl _ _ (w.heap.size + 1 + 1 + 1) 146 (sc X Y 1) (0,0) _ rfl hb Tryz.underlying146 rfl (by kernel_rfl)) rfl ⟨rfl,hx.new hB (by omega)⟩
def runOf (x z X : Fe) : Fe:=X * (z * z) - x
def riseOf (y z Y : Fe) : Fe:=Y * (z * z * z) - y
def plus3 (x y z X Y : Fe) : Fe × Fe × Fe :=
 let zz : Fe:=z * z
 let u : Fe:=X * zz
 let run : Fe:=u - x
 let zzz : Fe:=zz * z
 let v : Fe:=Y * zzz
 let rise : Fe:=v - y
 let sq : Fe:=run * run
 let cube : Fe:=sq * run
 let cross : Fe:=x * sq
 let rr : Fe:=rise * rise
 let r1 : Fe:=rr - cube
 let c2 : Fe:=cross + cross
 let x3 : Fe:=r1 - c2
 let d : Fe:=cross - x3
 let rd : Fe:=rise * d
 let yc : Fe:=y * cube
 let y3 : Fe:=rd - yc
 let z3 : Fe:=z * run
 (x3,y3,z3)
theorem plus_same {b : Nat} (x y z X Y : Fe) (hz : z.val ≠ 0) (hr : (runOf x z X).val = 0) (hs : (riseOf y z Y).val = 0) {w : World} (hF : Fp w b) :
  Calls Tryz.prog 100 #[cv b,sv x.val y.val z.val,qv X.val Y.val false] w fun e w' => e = .returned (sv (twice3 x y z).1.val (twice3 x y z).2.1.val (twice3 x y z).2.2.val) ∧ Ext w w':=by
 obtain ⟨zz,hzz⟩ : ∃ t : Fe,t = z * z:=⟨_,rfl⟩
 obtain ⟨u,hu⟩ : ∃ t : Fe,t = X * zz:=⟨_,rfl⟩
 obtain ⟨run,hrun⟩ : ∃ t : Fe,t = u - x:=⟨_,rfl⟩
 obtain ⟨zzz,hzzz⟩ : ∃ t : Fe,t = zz * z:=⟨_,rfl⟩
 obtain ⟨v,hv⟩ : ∃ t : Fe,t = Y * zzz:=⟨_,rfl⟩
 obtain ⟨rise,hrise⟩ : ∃ t : Fe,t = v - y:=⟨_,rfl⟩
 have h1 : runOf x z X = run:=by subst hrun hu hzz; rfl
 have h2 : riseOf y z Y = rise:=by subst hrise hv hzzz hzz; rfl
 rw [h1] at hr
 rw [h2] at hs
 clear h1 h2
 have kzz:=veil hzz
 have ku:=veil hu
 have krun:=veil hrun
 have kzzz:=veil hzzz
 have kv:=veil hv
 have krise:=veil hrise
 clear hrise hv hzzz hrun hu hzz
 have kz0:=veil hz
 have kr:=veil hr
 have ks:=veil hs
 clear hz hr hs
 obtain ⟨X3,Y3,Z3,h3⟩ : ∃ X3 Y3 Z3,twice3 x y z = (X3,Y3,Z3):=⟨_,_,_,rfl⟩
 have KT:=veil (fun W (hF : Fp W b) => twice_calls x y z hF)
 rw [h3] at KT ⊢
 clear h3
 show Calls Tryz.prog 100 #[cv b,sv x.val y.val z.val,qv X.val Y.val false] w fun e w' => e = .returned (sv X3.val Y3.val Z3.val) ∧ Ext w w'
 unfold cv sv qv cc fv sc qc
 go_enter Tryz.func100,Tryz.ntmps100
 go_upto_region 1 with (fail)
 refine zig fun w1 hx b0 b1 b2 b3 => ?_
 have b0 : w1.heap[w.heap.size]? = some (.cells (cc b) 103 (0,0)):=b0
 have b1 : w1.heap[w.heap.size + 1]? = some (.cells (sc x.val y.val z.val) 146 (0,0)):=b1
 have b2 : w1.heap[w.heap.size + 1 + 1]? = some (.cells (qc X.val Y.val false) 48 (0,0)):=b2
 have hf:=hF.ext hx
 clear hF
 refine' zar (m:=2) (A:=_) (by kernel_rfl) ?h1 ?h2
 case h1 =>
  refine zaa (.pointer (some ⟨w.heap.size + 1 + 1,8,none⟩)) rfl (zaf rfl rfl (fldT2 _ ·)) ?_
  refine zaa (.bool false) rfl (zak rfl rfl b2 rfl (zbs ·)) ?_;simp only [aP,lA,lZ,lS]
  exact zap
 refine zax rfl ?_
 intro w2 hE
 replace b0:=hE.block b0
 replace b1:=hE.block b1
 replace b2:=hE.block b2
 replace b3:=hE.block b3
 replace hf:=hf.ext hE
 replace hx:=hx.trans hE
 clear hE
 go_upto_region 3 with (fail)
 refine' zar (m:=3) (A:=_) (by kernel_rfl) ?h2a ?h2b
 case h2a =>
  refine zaa (.pointer (some ⟨w.heap.size + 1,8,none⟩)) rfl (zaf rfl rfl (fldS2 _ ·)) ?_
  refine zaa (nv z.val) rfl (zad rfl rfl b1 rfl uN rfl (iN _)) ?_;simp only [aP,lA,lZ,lS]
  refine zaa (.bool false) rfl (zai (args:=[nv z.val]) rfl rfl (fun W => zac Tryz.func106 rfl rfl _ W) (fun W hW => isz_no kz0.out (zek _) W)) ?_;simp only [aP,lA,lZ,lS]
  exact zap
 refine zax rfl ?_
 intro w3 hE
 replace b0:=hE.block b0
 replace b1:=hE.block b1
 replace b2:=hE.block b2
 replace b3:=hE.block b3
 replace hf:=hf.ext hE
 replace hx:=hx.trans hE
 clear hE
 go_upto_region 5 with (fail)
 refine' zar (m:=7) (A:=_) (by kernel_rfl) ?h3a ?h3b
 case h3a =>
  refine zaa (.pointer (some ⟨w.heap.size,2,none⟩)) rfl (zaf rfl rfl (fldK2 _ ·)) ?_
  refine zaa (fv 89 b) rfl (zak rfl rfl b0 rfl (zav ·)) ?_;simp only [aP,lA,lZ,lS]
  refine zaa (.pointer (some ⟨w.heap.size + 1,8,none⟩)) rfl (zaf rfl rfl (fldS2 _ ·)) ?_
  refine zaa (nv z.val) rfl (zad rfl rfl b1 rfl uN rfl (iN _)) ?_;simp only [aP,lA,lZ,lS]
  refine zaa (.pointer (some ⟨w.heap.size + 1,8,none⟩)) rfl (zaf rfl rfl (fldS2 _ ·)) ?_
  refine zaa (nv z.val) rfl (zad rfl rfl b1 rfl uN rfl (iN _)) ?_;simp only [aP,lA,lZ,lS]
  refine zaa (nv zz.val) rfl (zay (args:=[nv z.val,nv z.val]) rfl rfl rfl (zbi _ ·) (fun W hW => zbr kzz.out (hf.ext hW))) ?_;simp only [aP,lA,lZ,lS]
  exact zap
 refine zcs _ _ rfl rfl rfl rfl rfl rfl rfl (hzN ·) (fun _ => rfl) (fun _ => rfl) (iN _) rfl (zbp _) ?_
 intro gzz w4 hgzz bzz hE
 replace b0:=hE.block b0
 replace b1:=hE.block b1
 replace b2:=hE.block b2
 replace b3:=hE.block b3
 replace hf:=hf.ext hE
 replace hx:=hx.trans hE
 clear hE
 simp only [aP,lA,lZ,lS]
 clear hgzz
 go_upto_region 6 with (fail)
 refine' zbu (m:=11) (A:=_) 12 (by kernel_rfl) (by kernel_rfl) (by kernel_rfl) ?h4a ?h4b
 case h4a =>
  refine zaa (.pointer (some ⟨w.heap.size,1,none⟩)) rfl (zaf rfl rfl (fldK1 _ ·)) ?_
  refine zaa (fv 105 b) rfl (zak rfl rfl b0 rfl (zav ·)) ?_;simp only [aP,lA,lZ,lS]
  refine zaa (.pointer (some ⟨w.heap.size,2,none⟩)) rfl (zaf rfl rfl (fldK2 _ ·)) ?_
  refine zaa (fv 89 b) rfl (zak rfl rfl b0 rfl (zav ·)) ?_;simp only [aP,lA,lZ,lS]
  refine zaa (ptrTo (w.heap.size + 1 + 1)) rfl (zaf rfl rfl (fldT0 _ ·)) ?_
  refine zaa (nv X.val) rfl (zad rfl rfl b2 rfl uN rfl (iN _)) ?_;simp only [aP,lA,lZ,lS]
  refine zaa (nv zz.val) rfl (zad rfl rfl bzz rfl uN rfl (iN _)) ?_
  refine zaa (nv u.val) rfl (zay (args:=[nv X.val,nv zz.val]) rfl rfl rfl (zbi _ ·) (fun W hW => zbr ku.out (hf.ext hW))) ?_;simp only [aP,lA,lZ,lS]
  refine zaa (ptrTo (w.heap.size + 1)) rfl (zaf rfl rfl (fldS0 _ ·)) ?_
  refine zaa (nv x.val) rfl (zad rfl rfl b1 rfl uN rfl (iN _)) ?_;simp only [aP,lA,lZ,lS]
  refine zaa (nv run.val) rfl (zay (args:=[nv u.val,nv x.val]) rfl rfl rfl (zcz _ ·) (fun W hW => zdz krun.out (hf.ext hW))) ?_;simp only [aP,lA,lZ,lS]
  exact zap
 refine zci _ _ rfl rfl rfl rfl rfl rfl rfl rfl rfl (by kernel_rfl) (by kernel_rfl) (by kernel_rfl) rfl rfl (hzN ·) (fun _ => rfl) (fun _ => rfl) (iN _) rfl (zbp _) ?_
 intro grun w5 hgrun brun hE
 refine NoPanic.normal ?_
 replace b0:=hE.block b0
 replace b1:=hE.block b1
 replace b2:=hE.block b2
 replace b3:=hE.block b3
 replace bzz:=hE.block bzz
 replace hf:=hf.ext hE
 replace hx:=hx.trans hE
 clear hE
 simp only [aP,lA,lZ,lS]
 clear hgrun
 go_upto_region 7 with (fail)
 refine' zbu (m:=16) (A:=_) 17 (by kernel_rfl) (by kernel_rfl) (by kernel_rfl) ?h5a ?h5b
 case h5a =>
  refine zaa (.pointer (some ⟨w.heap.size,1,none⟩)) rfl (zaf rfl rfl (fldK1 _ ·)) ?_
  refine zaa (fv 105 b) rfl (zak rfl rfl b0 rfl (zav ·)) ?_;simp only [aP,lA,lZ,lS]
  refine zaa (.pointer (some ⟨w.heap.size,2,none⟩)) rfl (zaf rfl rfl (fldK2 _ ·)) ?_
  refine zaa (fv 89 b) rfl (zak rfl rfl b0 rfl (zav ·)) ?_;simp only [aP,lA,lZ,lS]
  refine zaa (.pointer (some ⟨w.heap.size + 1 + 1,4,none⟩)) rfl (zaf rfl rfl (fldT1 _ ·)) ?_
  refine zaa (nv Y.val) rfl (zad rfl rfl b2 rfl uN rfl (iN _)) ?_;simp only [aP,lA,lZ,lS]
  refine zaa (.pointer (some ⟨w.heap.size,2,none⟩)) rfl (zaf rfl rfl (fldK2 _ ·)) ?_
  refine zaa (fv 89 b) rfl (zak rfl rfl b0 rfl (zav ·)) ?_;simp only [aP,lA,lZ,lS]
  refine zaa (nv zz.val) rfl (zad rfl rfl bzz rfl uN rfl (iN _)) ?_
  refine zaa (.pointer (some ⟨w.heap.size + 1,8,none⟩)) rfl (zaf rfl rfl (fldS2 _ ·)) ?_;simp only [aP,lA,lZ,lS]
  refine zaa (nv z.val) rfl (zad rfl rfl b1 rfl uN rfl (iN _)) ?_
  refine zaa (nv zzz.val) rfl (zay (args:=[nv zz.val,nv z.val]) rfl rfl rfl (zbi _ ·) (fun W hW => zbr kzzz.out (hf.ext hW))) ?_;simp only [aP,lA,lZ,lS]
  refine zaa (nv v.val) rfl (zay (args:=[nv Y.val,nv zzz.val]) rfl rfl rfl (zbi _ ·) (fun W hW => zbr kv.out (hf.ext hW))) ?_
  refine zaa (.pointer (some ⟨w.heap.size + 1,4,none⟩)) rfl (zaf rfl rfl (fldS1 _ ·)) ?_;simp only [aP,lA,lZ,lS]
  refine zaa (nv y.val) rfl (zad rfl rfl b1 rfl uN rfl (iN _)) ?_
  refine zaa (nv rise.val) rfl (zay (args:=[nv v.val,nv y.val]) rfl rfl rfl (zcz _ ·) (fun W hW => zdz krise.out (hf.ext hW))) ?_;simp only [aP,lA,lZ,lS]
  exact zap
 refine zci _ _ rfl rfl rfl rfl rfl rfl rfl rfl rfl (by kernel_rfl) (by kernel_rfl) (by kernel_rfl) rfl rfl (hzN ·) (fun _ => rfl) (fun _ => rfl) (iN _) rfl (zbp _) ?_
 intro grise w6 hgrise brise hE
 refine NoPanic.normal ?_
 replace b0:=hE.block b0
 replace b1:=hE.block b1
 replace b3:=hE.block b3
 replace brun:=hE.block brun
 replace hf:=hf.ext hE
 replace hx:=hx.trans hE
 clear hE
 simp only [aP,lA,lZ,lS]
 clear hgrise
 go_upto_region 8 with (fail)
 refine' zar (m:=2) (A:=_) (by kernel_rfl) ?h6a ?h6b
 case h6a =>
  refine zaa (nv run.val) rfl (zad rfl rfl brun rfl uN rfl (iN _)) ?_
  refine zaa (.bool true) rfl (zai (args:=[nv run.val]) rfl rfl (fun W => zac Tryz.func106 rfl rfl _ W) (fun W hW => zkf kr.out W)) ?_;simp only [aP,lA,lZ,lS]
  exact zap
 refine zax rfl ?_
 intro w7 hE
 replace b0:=hE.block b0
 replace b1:=hE.block b1
 replace b3:=hE.block b3
 replace brise:=hE.block brise
 replace hf:=hf.ext hE
 replace hx:=hx.trans hE
 clear hE
 go_upto_region 9 with (fail)
 refine' zar (m:=2) (A:=_) (by kernel_rfl) ?h7a ?h7b
 case h7a =>
  refine zaa (nv rise.val) rfl (zad rfl rfl brise rfl uN rfl (iN _)) ?_
  refine zaa (.bool true) rfl (zai (args:=[nv rise.val]) rfl rfl (fun W => zac Tryz.func106 rfl rfl _ W) (fun W hW => zkf ks.out W)) ?_;simp only [aP,lA,lZ,lS]
  exact zap
 refine zax rfl ?_
 intro w8 hE
 replace b0:=hE.block b0
 replace b1:=hE.block b1
 replace b3:=hE.block b3
 replace hf:=hf.ext hE
 replace hx:=hx.trans hE
 clear hE
 go_upto_region 10 with (fail)
 refine' zar (m:=3) (A:=_) (by kernel_rfl) ?h8a ?h8b
 case h8a =>
  refine zaa (cv b) rfl (zad rfl rfl b0 rfl Tryz.underlying103 rfl (iK _)) ?_
  refine zaa (sv x.val y.val z.val) rfl (zad rfl rfl b1 rfl Tryz.underlying146 rfl (iS _ _ _)) ?_;simp only [aP,lA,lZ,lS]
  refine zaa (sv X3.val Y3.val Z3.val) rfl (zai (args:=[cv b,sv x.val y.val z.val]) rfl rfl (fun W => zac Tryz.func98 rfl rfl _ W) (fun W hW => KT.out W (hf.ext hW))) ?_;simp only [aP,lA,lZ,lS]
  exact zap
 refine zbq _ rfl rfl rfl rfl rfl rfl b3 (iS _ _ _) rfl (zfv _ _ _) ?_
 intro w9 hB hb
 go_wp2
 exact bodyPost_ret (results_cell_row rfl _ _ (w.heap.size + 1 + 1 + 1) 146 (sc X3.val Y3.val Z3.val) (0,0) _ rfl hb Tryz.underlying146 rfl (by kernel_rfl)) rfl ⟨rfl,hx.new hB (by omega)⟩
theorem plus_opp {b : Nat} (x y z X Y : Fe) (hz : z.val ≠ 0) (hr : (runOf x z X).val = 0) (hs : (riseOf y z Y).val ≠ 0) {w : World} (hF : Fp w b) :
  Calls Tryz.prog 100 #[cv b,sv x.val y.val z.val,qv X.val Y.val false] w fun e w' => e = .returned (sv 0 0 0) ∧ Ext w w':=by
 obtain ⟨zz,hzz⟩ : ∃ t : Fe,t = z * z:=⟨_,rfl⟩
 obtain ⟨u,hu⟩ : ∃ t : Fe,t = X * zz:=⟨_,rfl⟩
 obtain ⟨run,hrun⟩ : ∃ t : Fe,t = u - x:=⟨_,rfl⟩
 obtain ⟨zzz,hzzz⟩ : ∃ t : Fe,t = zz * z:=⟨_,rfl⟩
 obtain ⟨v,hv⟩ : ∃ t : Fe,t = Y * zzz:=⟨_,rfl⟩
 obtain ⟨rise,hrise⟩ : ∃ t : Fe,t = v - y:=⟨_,rfl⟩
 have h1 : runOf x z X = run:=by subst hrun hu hzz; rfl
 have h2 : riseOf y z Y = rise:=by subst hrise hv hzzz hzz; rfl
 rw [h1] at hr
 rw [h2] at hs
 clear h1 h2
 have kzz:=veil hzz
 have ku:=veil hu
 have krun:=veil hrun
 have kzzz:=veil hzzz
 have kv:=veil hv
 have krise:=veil hrise
 clear hrise hv hzzz hrun hu hzz
 have kz0:=veil hz
 have kr:=veil hr
 have ks:=veil hs
 clear hz hr hs
 unfold cv sv qv cc fv sc qc
 go_enter Tryz.func100,Tryz.ntmps100
 go_upto_region 1 with (fail)
 refine zig fun w1 hx b0 b1 b2 b3 => ?_
 have b0 : w1.heap[w.heap.size]? = some (.cells (cc b) 103 (0,0)):=b0
 have b1 : w1.heap[w.heap.size + 1]? = some (.cells (sc x.val y.val z.val) 146 (0,0)):=b1
 have b2 : w1.heap[w.heap.size + 1 + 1]? = some (.cells (qc X.val Y.val false) 48 (0,0)):=b2
 have hf:=hF.ext hx
 clear hF
 refine' zar (m:=2) (A:=_) (by kernel_rfl) ?h1 ?h2
 case h1 =>
  refine zaa (.pointer (some ⟨w.heap.size + 1 + 1,8,none⟩)) rfl (zaf rfl rfl (fldT2 _ ·)) ?_
  refine zaa (.bool false) rfl (zak rfl rfl b2 rfl (zbs ·)) ?_;simp only [aP,lA,lZ,lS]
  exact zap
 refine zax rfl ?_
 intro w2 hE
 replace b0:=hE.block b0
 replace b1:=hE.block b1
 replace b2:=hE.block b2
 replace b3:=hE.block b3
 replace hf:=hf.ext hE
 replace hx:=hx.trans hE
 clear hE
 go_upto_region 3 with (fail)
 refine' zar (m:=3) (A:=_) (by kernel_rfl) ?h2a ?h2b
 case h2a =>
  refine zaa (.pointer (some ⟨w.heap.size + 1,8,none⟩)) rfl (zaf rfl rfl (fldS2 _ ·)) ?_
  refine zaa (nv z.val) rfl (zad rfl rfl b1 rfl uN rfl (iN _)) ?_;simp only [aP,lA,lZ,lS]
  refine zaa (.bool false) rfl (zai (args:=[nv z.val]) rfl rfl (fun W => zac Tryz.func106 rfl rfl _ W) (fun W hW => isz_no kz0.out (zek _) W)) ?_;simp only [aP,lA,lZ,lS]
  exact zap
 refine zax rfl ?_
 intro w3 hE
 replace b0:=hE.block b0
 replace b1:=hE.block b1
 replace b2:=hE.block b2
 replace b3:=hE.block b3
 replace hf:=hf.ext hE
 replace hx:=hx.trans hE
 clear hE
 go_upto_region 5 with (fail)
 refine' zar (m:=7) (A:=_) (by kernel_rfl) ?h3a ?h3b
 case h3a =>
  refine zaa (.pointer (some ⟨w.heap.size,2,none⟩)) rfl (zaf rfl rfl (fldK2 _ ·)) ?_
  refine zaa (fv 89 b) rfl (zak rfl rfl b0 rfl (zav ·)) ?_;simp only [aP,lA,lZ,lS]
  refine zaa (.pointer (some ⟨w.heap.size + 1,8,none⟩)) rfl (zaf rfl rfl (fldS2 _ ·)) ?_
  refine zaa (nv z.val) rfl (zad rfl rfl b1 rfl uN rfl (iN _)) ?_;simp only [aP,lA,lZ,lS]
  refine zaa (.pointer (some ⟨w.heap.size + 1,8,none⟩)) rfl (zaf rfl rfl (fldS2 _ ·)) ?_
  refine zaa (nv z.val) rfl (zad rfl rfl b1 rfl uN rfl (iN _)) ?_;simp only [aP,lA,lZ,lS]
  refine zaa (nv zz.val) rfl (zay (args:=[nv z.val,nv z.val]) rfl rfl rfl (zbi _ ·) (fun W hW => zbr kzz.out (hf.ext hW))) ?_;simp only [aP,lA,lZ,lS]
  exact zap
 refine zcs _ _ rfl rfl rfl rfl rfl rfl rfl (hzN ·) (fun _ => rfl) (fun _ => rfl) (iN _) rfl (zbp _) ?_
 intro gzz w4 hgzz bzz hE
 replace b0:=hE.block b0
 replace b1:=hE.block b1
 replace b2:=hE.block b2
 replace b3:=hE.block b3
 replace hf:=hf.ext hE
 replace hx:=hx.trans hE
 clear hE
 simp only [aP,lA,lZ,lS]
 clear hgzz
 go_upto_region 6 with (fail)
 refine' zbu (m:=11) (A:=_) 12 (by kernel_rfl) (by kernel_rfl) (by kernel_rfl) ?h4a ?h4b
 case h4a =>
  refine zaa (.pointer (some ⟨w.heap.size,1,none⟩)) rfl (zaf rfl rfl (fldK1 _ ·)) ?_
  refine zaa (fv 105 b) rfl (zak rfl rfl b0 rfl (zav ·)) ?_;simp only [aP,lA,lZ,lS]
  refine zaa (.pointer (some ⟨w.heap.size,2,none⟩)) rfl (zaf rfl rfl (fldK2 _ ·)) ?_
  refine zaa (fv 89 b) rfl (zak rfl rfl b0 rfl (zav ·)) ?_;simp only [aP,lA,lZ,lS]
  refine zaa (ptrTo (w.heap.size + 1 + 1)) rfl (zaf rfl rfl (fldT0 _ ·)) ?_
  refine zaa (nv X.val) rfl (zad rfl rfl b2 rfl uN rfl (iN _)) ?_;simp only [aP,lA,lZ,lS]
  refine zaa (nv zz.val) rfl (zad rfl rfl bzz rfl uN rfl (iN _)) ?_
  refine zaa (nv u.val) rfl (zay (args:=[nv X.val,nv zz.val]) rfl rfl rfl (zbi _ ·) (fun W hW => zbr ku.out (hf.ext hW))) ?_;simp only [aP,lA,lZ,lS]
  refine zaa (ptrTo (w.heap.size + 1)) rfl (zaf rfl rfl (fldS0 _ ·)) ?_
  refine zaa (nv x.val) rfl (zad rfl rfl b1 rfl uN rfl (iN _)) ?_;simp only [aP,lA,lZ,lS]
  refine zaa (nv run.val) rfl (zay (args:=[nv u.val,nv x.val]) rfl rfl rfl (zcz _ ·) (fun W hW => zdz krun.out (hf.ext hW))) ?_;simp only [aP,lA,lZ,lS]
  exact zap
 refine zci _ _ rfl rfl rfl rfl rfl rfl rfl rfl rfl (by kernel_rfl) (by kernel_rfl) (by kernel_rfl) rfl rfl (hzN ·) (fun _ => rfl) (fun _ => rfl) (iN _) rfl (zbp _) ?_
 intro grun w5 hgrun brun hE
 refine NoPanic.normal ?_
 replace b0:=hE.block b0
 replace b1:=hE.block b1
 replace b2:=hE.block b2
 replace b3:=hE.block b3
 replace bzz:=hE.block bzz
 replace hf:=hf.ext hE
 replace hx:=hx.trans hE
 clear hE
 simp only [aP,lA,lZ,lS]
 clear hgrun
 go_upto_region 7 with (fail)
 refine' zbu (m:=16) (A:=_) 17 (by kernel_rfl) (by kernel_rfl) (by kernel_rfl) ?h5a ?h5b
 case h5a =>
  refine zaa (.pointer (some ⟨w.heap.size,1,none⟩)) rfl (zaf rfl rfl (fldK1 _ ·)) ?_
  refine zaa (fv 105 b) rfl (zak rfl rfl b0 rfl (zav ·)) ?_;simp only [aP,lA,lZ,lS]
  refine zaa (.pointer (some ⟨w.heap.size,2,none⟩)) rfl (zaf rfl rfl (fldK2 _ ·)) ?_
  refine zaa (fv 89 b) rfl (zak rfl rfl b0 rfl (zav ·)) ?_;simp only [aP,lA,lZ,lS]
  refine zaa (.pointer (some ⟨w.heap.size + 1 + 1,4,none⟩)) rfl (zaf rfl rfl (fldT1 _ ·)) ?_
  refine zaa (nv Y.val) rfl (zad rfl rfl b2 rfl uN rfl (iN _)) ?_;simp only [aP,lA,lZ,lS]
  refine zaa (.pointer (some ⟨w.heap.size,2,none⟩)) rfl (zaf rfl rfl (fldK2 _ ·)) ?_
  refine zaa (fv 89 b) rfl (zak rfl rfl b0 rfl (zav ·)) ?_;simp only [aP,lA,lZ,lS]
  refine zaa (nv zz.val) rfl (zad rfl rfl bzz rfl uN rfl (iN _)) ?_
  refine zaa (.pointer (some ⟨w.heap.size + 1,8,none⟩)) rfl (zaf rfl rfl (fldS2 _ ·)) ?_;simp only [aP,lA,lZ,lS]
  refine zaa (nv z.val) rfl (zad rfl rfl b1 rfl uN rfl (iN _)) ?_
  refine zaa (nv zzz.val) rfl (zay (args:=[nv zz.val,nv z.val]) rfl rfl rfl (zbi _ ·) (fun W hW => zbr kzzz.out (hf.ext hW))) ?_;simp only [aP,lA,lZ,lS]
  refine zaa (nv v.val) rfl (zay (args:=[nv Y.val,nv zzz.val]) rfl rfl rfl (zbi _ ·) (fun W hW => zbr kv.out (hf.ext hW))) ?_
  refine zaa (.pointer (some ⟨w.heap.size + 1,4,none⟩)) rfl (zaf rfl rfl (fldS1 _ ·)) ?_;simp only [aP,lA,lZ,lS]
  refine zaa (nv y.val) rfl (zad rfl rfl b1 rfl uN rfl (iN _)) ?_
  refine zaa (nv rise.val) rfl (zay (args:=[nv v.val,nv y.val]) rfl rfl rfl (zcz _ ·) (fun W hW => zdz krise.out (hf.ext hW))) ?_;simp only [aP,lA,lZ,lS]
  exact zap
 refine zci _ _ rfl rfl rfl rfl rfl rfl rfl rfl rfl (by kernel_rfl) (by kernel_rfl) (by kernel_rfl) rfl rfl (hzN ·) (fun _ => rfl) (fun _ => rfl) (iN _) rfl (zbp _) ?_
 intro grise w6 hgrise brise hE
 refine NoPanic.normal ?_
 replace b3:=hE.block b3
 replace brun:=hE.block brun
 replace hf:=hf.ext hE
 replace hx:=hx.trans hE
 clear hE
 simp only [aP,lA,lZ,lS]
 clear hgrise
 go_upto_region 8 with (fail)
 refine' zar (m:=2) (A:=_) (by kernel_rfl) ?h6a ?h6b
 case h6a =>
  refine zaa (nv run.val) rfl (zad rfl rfl brun rfl uN rfl (iN _)) ?_
  refine zaa (.bool true) rfl (zai (args:=[nv run.val]) rfl rfl (fun W => zac Tryz.func106 rfl rfl _ W) (fun W hW => zkf kr.out W)) ?_;simp only [aP,lA,lZ,lS]
  exact zap
 refine zax rfl ?_
 intro w7 hE
 replace b3:=hE.block b3
 replace brise:=hE.block brise
 replace hf:=hf.ext hE
 replace hx:=hx.trans hE
 clear hE
 go_upto_region 9 with (fail)
 refine' zar (m:=2) (A:=_) (by kernel_rfl) ?h7a ?h7b
 case h7a =>
  refine zaa (nv rise.val) rfl (zad rfl rfl brise rfl uN rfl (iN _)) ?_
  refine zaa (.bool false) rfl (zai (args:=[nv rise.val]) rfl rfl (fun W => zac Tryz.func106 rfl rfl _ W) (fun W hW => isz_no ks.out (zek _) W)) ?_;simp only [aP,lA,lZ,lS]
  exact zap
 refine zax rfl ?_
 intro w8 hE
 replace b3:=hE.block b3
 replace hf:=hf.ext hE
 replace hx:=hx.trans hE
 clear hE
 go_upto_region 11 with (fail)
 refine' zar (m:=1) (A:=_) (by kernel_rfl) ?h8a ?h8b
 case h8a =>
  refine zaa (sv 0 0 0) rfl (zbh rfl rfl (bldS0 ·)) ?_;simp only [aP,lA,lZ,lS]
  exact zap
 refine zbq _ rfl rfl rfl rfl rfl rfl b3 (iS _ _ _) rfl (zfv _ _ _) ?_
 intro w9 hB hb
 go_wp2
 exact bodyPost_ret (results_cell_row rfl _ _ (w.heap.size + 1 + 1 + 1) 146 (sc 0 0 0) (0,0) _ rfl hb Tryz.underlying146 rfl (by kernel_rfl)) rfl ⟨rfl,hx.new hB (by omega)⟩
theorem plus_else {b : Nat} (x y z X Y : Fe) (hz : z.val ≠ 0) (hr : (runOf x z X).val ≠ 0) {w : World} (hF : Fp w b) :
  Calls Tryz.prog 100 #[cv b,sv x.val y.val z.val,qv X.val Y.val false] w fun e w' => e = .returned (sv (plus3 x y z X Y).1.val (plus3 x y z X Y).2.1.val (plus3 x y z X Y).2.2.val) ∧ Ext w w':=by
 obtain ⟨zz,hzz⟩ : ∃ t : Fe,t = z * z:=⟨_,rfl⟩
 obtain ⟨u,hu⟩ : ∃ t : Fe,t = X * zz:=⟨_,rfl⟩
 obtain ⟨run,hrun⟩ : ∃ t : Fe,t = u - x:=⟨_,rfl⟩
 obtain ⟨zzz,hzzz⟩ : ∃ t : Fe,t = zz * z:=⟨_,rfl⟩
 obtain ⟨v,hv⟩ : ∃ t : Fe,t = Y * zzz:=⟨_,rfl⟩
 obtain ⟨rise,hrise⟩ : ∃ t : Fe,t = v - y:=⟨_,rfl⟩
 obtain ⟨sq,hsq⟩ : ∃ t : Fe,t = run * run:=⟨_,rfl⟩
 obtain ⟨cube,hcube⟩ : ∃ t : Fe,t = sq * run:=⟨_,rfl⟩
 obtain ⟨cross,hcross⟩ : ∃ t : Fe,t = x * sq:=⟨_,rfl⟩
 obtain ⟨rr,hrr⟩ : ∃ t : Fe,t = rise * rise:=⟨_,rfl⟩
 obtain ⟨r1,hr1⟩ : ∃ t : Fe,t = rr - cube:=⟨_,rfl⟩
 obtain ⟨c2,hc2⟩ : ∃ t : Fe,t = cross + cross:=⟨_,rfl⟩
 obtain ⟨x3,hx3⟩ : ∃ t : Fe,t = r1 - c2:=⟨_,rfl⟩
 obtain ⟨d,hd⟩ : ∃ t : Fe,t = cross - x3:=⟨_,rfl⟩
 obtain ⟨rd,hrd⟩ : ∃ t : Fe,t = rise * d:=⟨_,rfl⟩
 obtain ⟨yc,hyc⟩ : ∃ t : Fe,t = y * cube:=⟨_,rfl⟩
 obtain ⟨y3,hy3⟩ : ∃ t : Fe,t = rd - yc:=⟨_,rfl⟩
 obtain ⟨z3,hz3⟩ : ∃ t : Fe,t = z * run:=⟨_,rfl⟩
 have h1 : runOf x z X = run:=by subst hrun hu hzz; rfl
 rw [h1] at hr
 clear h1
 have hfin : plus3 x y z X Y = (x3,y3,z3):=by
  subst hz3 hy3 hyc hrd hd hx3 hc2 hr1 hrr hcross hcube hsq hrise hv hzzz hrun hu hzz
  rfl
 rw [hfin]
 clear hfin
 have kzz:=veil hzz
 have ku:=veil hu
 have krun:=veil hrun
 have kzzz:=veil hzzz
 have kv:=veil hv
 have krise:=veil hrise
 have ksq:=veil hsq
 have kcube:=veil hcube
 have kcross:=veil hcross
 have krr:=veil hrr
 have kr1:=veil hr1
 have kc2:=veil hc2
 have kx3:=veil hx3
 have kd:=veil hd
 have krd:=veil hrd
 have kyc:=veil hyc
 have ky3:=veil hy3
 have kz3:=veil hz3
 clear hz3 hy3 hyc hrd hd hx3 hc2 hr1 hrr hcross hcube hsq hrise hv hzzz hrun hu hzz
 have kz0:=veil hz
 have kr:=veil hr
 clear hz hr
 show Calls Tryz.prog 100 #[cv b,sv x.val y.val z.val,qv X.val Y.val false] w fun e w' => e = .returned (sv x3.val y3.val z3.val) ∧ Ext w w'
 unfold cv sv qv cc fv sc qc
 go_enter Tryz.func100,Tryz.ntmps100
 go_upto_region 1 with (fail)
 refine zig fun w1 hx b0 b1 b2 b3 => ?_
 have b0 : w1.heap[w.heap.size]? = some (.cells (cc b) 103 (0,0)):=b0
 have b1 : w1.heap[w.heap.size + 1]? = some (.cells (sc x.val y.val z.val) 146 (0,0)):=b1
 have b2 : w1.heap[w.heap.size + 1 + 1]? = some (.cells (qc X.val Y.val false) 48 (0,0)):=b2
 have hf:=hF.ext hx
 clear hF
 refine' zar (m:=2) (A:=_) (by kernel_rfl) ?h1 ?h2
 case h1 =>
  refine zaa (.pointer (some ⟨w.heap.size + 1 + 1,8,none⟩)) rfl (zaf rfl rfl (fldT2 _ ·)) ?_
  refine zaa (.bool false) rfl (zak rfl rfl b2 rfl (zbs ·)) ?_;simp only [aP,lA,lZ,lS]
  exact zap
 refine zax rfl ?_
 intro w2 hE
 replace b0:=hE.block b0
 replace b1:=hE.block b1
 replace b2:=hE.block b2
 replace b3:=hE.block b3
 replace hf:=hf.ext hE
 replace hx:=hx.trans hE
 clear hE
 go_upto_region 3 with (fail)
 refine' zar (m:=3) (A:=_) (by kernel_rfl) ?h2a ?h2b
 case h2a =>
  refine zaa (.pointer (some ⟨w.heap.size + 1,8,none⟩)) rfl (zaf rfl rfl (fldS2 _ ·)) ?_
  refine zaa (nv z.val) rfl (zad rfl rfl b1 rfl uN rfl (iN _)) ?_;simp only [aP,lA,lZ,lS]
  refine zaa (.bool false) rfl (zai (args:=[nv z.val]) rfl rfl (fun W => zac Tryz.func106 rfl rfl _ W) (fun W hW => isz_no kz0.out (zek _) W)) ?_;simp only [aP,lA,lZ,lS]
  exact zap
 refine zax rfl ?_
 intro w3 hE
 replace b0:=hE.block b0
 replace b1:=hE.block b1
 replace b2:=hE.block b2
 replace b3:=hE.block b3
 replace hf:=hf.ext hE
 replace hx:=hx.trans hE
 clear hE
 go_upto_region 5 with (fail)
 refine' zar (m:=7) (A:=_) (by kernel_rfl) ?h3a ?h3b
 case h3a =>
  refine zaa (.pointer (some ⟨w.heap.size,2,none⟩)) rfl (zaf rfl rfl (fldK2 _ ·)) ?_
  refine zaa (fv 89 b) rfl (zak rfl rfl b0 rfl (zav ·)) ?_;simp only [aP,lA,lZ,lS]
  refine zaa (.pointer (some ⟨w.heap.size + 1,8,none⟩)) rfl (zaf rfl rfl (fldS2 _ ·)) ?_
  refine zaa (nv z.val) rfl (zad rfl rfl b1 rfl uN rfl (iN _)) ?_;simp only [aP,lA,lZ,lS]
  refine zaa (.pointer (some ⟨w.heap.size + 1,8,none⟩)) rfl (zaf rfl rfl (fldS2 _ ·)) ?_
  refine zaa (nv z.val) rfl (zad rfl rfl b1 rfl uN rfl (iN _)) ?_;simp only [aP,lA,lZ,lS]
  refine zaa (nv zz.val) rfl (zay (args:=[nv z.val,nv z.val]) rfl rfl rfl (zbi _ ·) (fun W hW => zbr kzz.out (hf.ext hW))) ?_;simp only [aP,lA,lZ,lS]
  exact zap
 refine zcs _ _ rfl rfl rfl rfl rfl rfl rfl (hzN ·) (fun _ => rfl) (fun _ => rfl) (iN _) rfl (zbp _) ?_
 intro gzz w4 hgzz bzz hE
 replace b0:=hE.block b0
 replace b1:=hE.block b1
 replace b2:=hE.block b2
 replace b3:=hE.block b3
 replace hf:=hf.ext hE
 replace hx:=hx.trans hE
 clear hE
 simp only [aP,lA,lZ,lS]
 clear hgzz
 go_upto_region 6 with (fail)
 refine' zbu (m:=11) (A:=_) 12 (by kernel_rfl) (by kernel_rfl) (by kernel_rfl) ?h4a ?h4b
 case h4a =>
  refine zaa (.pointer (some ⟨w.heap.size,1,none⟩)) rfl (zaf rfl rfl (fldK1 _ ·)) ?_
  refine zaa (fv 105 b) rfl (zak rfl rfl b0 rfl (zav ·)) ?_;simp only [aP,lA,lZ,lS]
  refine zaa (.pointer (some ⟨w.heap.size,2,none⟩)) rfl (zaf rfl rfl (fldK2 _ ·)) ?_
  refine zaa (fv 89 b) rfl (zak rfl rfl b0 rfl (zav ·)) ?_;simp only [aP,lA,lZ,lS]
  refine zaa (ptrTo (w.heap.size + 1 + 1)) rfl (zaf rfl rfl (fldT0 _ ·)) ?_
  refine zaa (nv X.val) rfl (zad rfl rfl b2 rfl uN rfl (iN _)) ?_;simp only [aP,lA,lZ,lS]
  refine zaa (nv zz.val) rfl (zad rfl rfl bzz rfl uN rfl (iN _)) ?_
  refine zaa (nv u.val) rfl (zay (args:=[nv X.val,nv zz.val]) rfl rfl rfl (zbi _ ·) (fun W hW => zbr ku.out (hf.ext hW))) ?_;simp only [aP,lA,lZ,lS]
  refine zaa (ptrTo (w.heap.size + 1)) rfl (zaf rfl rfl (fldS0 _ ·)) ?_
  refine zaa (nv x.val) rfl (zad rfl rfl b1 rfl uN rfl (iN _)) ?_;simp only [aP,lA,lZ,lS]
  refine zaa (nv run.val) rfl (zay (args:=[nv u.val,nv x.val]) rfl rfl rfl (zcz _ ·) (fun W hW => zdz krun.out (hf.ext hW))) ?_;simp only [aP,lA,lZ,lS]
  exact zap
 refine zci _ _ rfl rfl rfl rfl rfl rfl rfl rfl rfl (by kernel_rfl) (by kernel_rfl) (by kernel_rfl) rfl rfl (hzN ·) (fun _ => rfl) (fun _ => rfl) (iN _) rfl (zbp _) ?_
 intro grun w5 hgrun brun hE
 refine NoPanic.normal ?_
 replace b0:=hE.block b0
 replace b1:=hE.block b1
 replace b2:=hE.block b2
 replace b3:=hE.block b3
 replace bzz:=hE.block bzz
 replace hf:=hf.ext hE
 replace hx:=hx.trans hE
 clear hE
 simp only [aP,lA,lZ,lS]
 clear hgrun
 go_upto_region 7 with (fail)
 refine' zbu (m:=16) (A:=_) 17 (by kernel_rfl) (by kernel_rfl) (by kernel_rfl) ?h5a ?h5b
 case h5a =>
  refine zaa (.pointer (some ⟨w.heap.size,1,none⟩)) rfl (zaf rfl rfl (fldK1 _ ·)) ?_
  refine zaa (fv 105 b) rfl (zak rfl rfl b0 rfl (zav ·)) ?_;simp only [aP,lA,lZ,lS]
  refine zaa (.pointer (some ⟨w.heap.size,2,none⟩)) rfl (zaf rfl rfl (fldK2 _ ·)) ?_
  refine zaa (fv 89 b) rfl (zak rfl rfl b0 rfl (zav ·)) ?_;simp only [aP,lA,lZ,lS]
  refine zaa (.pointer (some ⟨w.heap.size + 1 + 1,4,none⟩)) rfl (zaf rfl rfl (fldT1 _ ·)) ?_
  refine zaa (nv Y.val) rfl (zad rfl rfl b2 rfl uN rfl (iN _)) ?_;simp only [aP,lA,lZ,lS]
  refine zaa (.pointer (some ⟨w.heap.size,2,none⟩)) rfl (zaf rfl rfl (fldK2 _ ·)) ?_
  refine zaa (fv 89 b) rfl (zak rfl rfl b0 rfl (zav ·)) ?_;simp only [aP,lA,lZ,lS]
  refine zaa (nv zz.val) rfl (zad rfl rfl bzz rfl uN rfl (iN _)) ?_
  refine zaa (.pointer (some ⟨w.heap.size + 1,8,none⟩)) rfl (zaf rfl rfl (fldS2 _ ·)) ?_;simp only [aP,lA,lZ,lS]
  refine zaa (nv z.val) rfl (zad rfl rfl b1 rfl uN rfl (iN _)) ?_
  refine zaa (nv zzz.val) rfl (zay (args:=[nv zz.val,nv z.val]) rfl rfl rfl (zbi _ ·) (fun W hW => zbr kzzz.out (hf.ext hW))) ?_;simp only [aP,lA,lZ,lS]
  refine zaa (nv v.val) rfl (zay (args:=[nv Y.val,nv zzz.val]) rfl rfl rfl (zbi _ ·) (fun W hW => zbr kv.out (hf.ext hW))) ?_
  refine zaa (.pointer (some ⟨w.heap.size + 1,4,none⟩)) rfl (zaf rfl rfl (fldS1 _ ·)) ?_;simp only [aP,lA,lZ,lS]
  refine zaa (nv y.val) rfl (zad rfl rfl b1 rfl uN rfl (iN _)) ?_
  refine zaa (nv rise.val) rfl (zay (args:=[nv v.val,nv y.val]) rfl rfl rfl (zcz _ ·) (fun W hW => zdz krise.out (hf.ext hW))) ?_;simp only [aP,lA,lZ,lS]
  exact zap
 refine zci _ _ rfl rfl rfl rfl rfl rfl rfl rfl rfl (by kernel_rfl) (by kernel_rfl) (by kernel_rfl) rfl rfl (hzN ·) (fun _ => rfl) (fun _ => rfl) (iN _) rfl (zbp _) ?_
 intro grise w6 hgrise brise hE
 refine NoPanic.normal ?_
 replace b0:=hE.block b0
 replace b1:=hE.block b1
 replace b3:=hE.block b3
 replace brun:=hE.block brun
 replace hf:=hf.ext hE
 replace hx:=hx.trans hE
 clear hE
 simp only [aP,lA,lZ,lS]
 clear hgrise
 go_upto_region 8 with (fail)
 refine' zar (m:=2) (A:=_) (by kernel_rfl) ?h6a ?h6b
 case h6a =>
  refine zaa (nv run.val) rfl (zad rfl rfl brun rfl uN rfl (iN _)) ?_
  refine zaa (.bool false) rfl (zai (args:=[nv run.val]) rfl rfl (fun W => zac Tryz.func106 rfl rfl _ W) (fun W hW => isz_no kr.out (zek _) W)) ?_;simp only [aP,lA,lZ,lS]
  exact zap
 refine zax rfl ?_
 intro w7 hE
 replace b0:=hE.block b0
 replace b1:=hE.block b1
 replace b3:=hE.block b3
 replace brun:=hE.block brun
 replace brise:=hE.block brise
 replace hf:=hf.ext hE
 replace hx:=hx.trans hE
 clear hE
 go_upto_region 12 with (fail)
 refine' zar (m:=5) (A:=_) (by kernel_rfl) ?h7a ?h7b
 case h7a =>
  refine zaa (.pointer (some ⟨w.heap.size,2,none⟩)) rfl (zaf rfl rfl (fldK2 _ ·)) ?_
  refine zaa (fv 89 b) rfl (zak rfl rfl b0 rfl (zav ·)) ?_;simp only [aP,lA,lZ,lS]
  refine zaa (nv run.val) rfl (zad rfl rfl brun rfl uN rfl (iN _)) ?_
  refine zaa (nv run.val) rfl (zad rfl rfl brun rfl uN rfl (iN _)) ?_;simp only [aP,lA,lZ,lS]
  refine zaa (nv sq.val) rfl (zay (args:=[nv run.val,nv run.val]) rfl rfl rfl (zbi _ ·) (fun W hW => zbr ksq.out (hf.ext hW))) ?_;simp only [aP,lA,lZ,lS]
  exact zap
 refine zcs _ _ rfl rfl rfl rfl rfl rfl rfl (hzN ·) (fun _ => rfl) (fun _ => rfl) (iN _) rfl (zbp _) ?_
 intro gsq w8 hgsq bsq hE
 replace b0:=hE.block b0
 replace b1:=hE.block b1
 replace b3:=hE.block b3
 replace brun:=hE.block brun
 replace brise:=hE.block brise
 replace hf:=hf.ext hE
 replace hx:=hx.trans hE
 clear hE
 simp only [aP,lA,lZ,lS]
 clear hgsq
 go_upto_region 13 with (fail)
 refine' zar (m:=5) (A:=_) (by kernel_rfl) ?h8a ?h8b
 case h8a =>
  refine zaa (.pointer (some ⟨w.heap.size,2,none⟩)) rfl (zaf rfl rfl (fldK2 _ ·)) ?_
  refine zaa (fv 89 b) rfl (zak rfl rfl b0 rfl (zav ·)) ?_;simp only [aP,lA,lZ,lS]
  refine zaa (nv sq.val) rfl (zad rfl rfl bsq rfl uN rfl (iN _)) ?_
  refine zaa (nv run.val) rfl (zad rfl rfl brun rfl uN rfl (iN _)) ?_;simp only [aP,lA,lZ,lS]
  refine zaa (nv cube.val) rfl (zay (args:=[nv sq.val,nv run.val]) rfl rfl rfl (zbi _ ·) (fun W hW => zbr kcube.out (hf.ext hW))) ?_;simp only [aP,lA,lZ,lS]
  exact zap
 refine zcs _ _ rfl rfl rfl rfl rfl rfl rfl (hzN ·) (fun _ => rfl) (fun _ => rfl) (iN _) rfl (zbp _) ?_
 intro gcube w9 hgcube bcube hE
 replace b0:=hE.block b0
 replace b1:=hE.block b1
 replace b3:=hE.block b3
 replace brun:=hE.block brun
 replace brise:=hE.block brise
 replace bsq:=hE.block bsq
 replace hf:=hf.ext hE
 replace hx:=hx.trans hE
 clear hE
 simp only [aP,lA,lZ,lS]
 clear hgcube
 go_upto_region 14 with (fail)
 refine' zar (m:=6) (A:=_) (by kernel_rfl) ?h9a ?h9b
 case h9a =>
  refine zaa (.pointer (some ⟨w.heap.size,2,none⟩)) rfl (zaf rfl rfl (fldK2 _ ·)) ?_
  refine zaa (fv 89 b) rfl (zak rfl rfl b0 rfl (zav ·)) ?_;simp only [aP,lA,lZ,lS]
  refine zaa (ptrTo (w.heap.size + 1)) rfl (zaf rfl rfl (fldS0 _ ·)) ?_
  refine zaa (nv x.val) rfl (zad rfl rfl b1 rfl uN rfl (iN _)) ?_;simp only [aP,lA,lZ,lS]
  refine zaa (nv sq.val) rfl (zad rfl rfl bsq rfl uN rfl (iN _)) ?_
  refine zaa (nv cross.val) rfl (zay (args:=[nv x.val,nv sq.val]) rfl rfl rfl (zbi _ ·) (fun W hW => zbr kcross.out (hf.ext hW))) ?_;simp only [aP,lA,lZ,lS]
  exact zap
 refine zcs _ _ rfl rfl rfl rfl rfl rfl rfl (hzN ·) (fun _ => rfl) (fun _ => rfl) (iN _) rfl (zbp _) ?_
 intro gcross w10 hgcross bcross hE
 replace b0:=hE.block b0
 replace b1:=hE.block b1
 replace b3:=hE.block b3
 replace brun:=hE.block brun
 replace brise:=hE.block brise
 replace bcube:=hE.block bcube
 replace hf:=hf.ext hE
 replace hx:=hx.trans hE
 clear hE
 simp only [aP,lA,lZ,lS]
 clear hgcross
 go_upto_region 15 with (fail)
 refine' zbu (m:=15) (A:=_) 16 (by kernel_rfl) (by kernel_rfl) (by kernel_rfl) ?h10a ?h10b
 case h10a =>
  refine zaa (.pointer (some ⟨w.heap.size,1,none⟩)) rfl (zaf rfl rfl (fldK1 _ ·)) ?_
  refine zaa (fv 105 b) rfl (zak rfl rfl b0 rfl (zav ·)) ?_;simp only [aP,lA,lZ,lS]
  refine zaa (.pointer (some ⟨w.heap.size,1,none⟩)) rfl (zaf rfl rfl (fldK1 _ ·)) ?_
  refine zaa (fv 105 b) rfl (zak rfl rfl b0 rfl (zav ·)) ?_;simp only [aP,lA,lZ,lS]
  refine zaa (.pointer (some ⟨w.heap.size,2,none⟩)) rfl (zaf rfl rfl (fldK2 _ ·)) ?_
  refine zaa (fv 89 b) rfl (zak rfl rfl b0 rfl (zav ·)) ?_;simp only [aP,lA,lZ,lS]
  refine zaa (nv rise.val) rfl (zad rfl rfl brise rfl uN rfl (iN _)) ?_
  refine zaa (nv rise.val) rfl (zad rfl rfl brise rfl uN rfl (iN _)) ?_;simp only [aP,lA,lZ,lS]
  refine zaa (nv rr.val) rfl (zay (args:=[nv rise.val,nv rise.val]) rfl rfl rfl (zbi _ ·) (fun W hW => zbr krr.out (hf.ext hW))) ?_
  refine zaa (nv cube.val) rfl (zad rfl rfl bcube rfl uN rfl (iN _)) ?_;simp only [aP,lA,lZ,lS]
  refine zaa (nv r1.val) rfl (zay (args:=[nv rr.val,nv cube.val]) rfl rfl rfl (zcz _ ·) (fun W hW => zdz kr1.out (hf.ext hW))) ?_
  refine zaa (cv b) rfl (zad rfl rfl b0 rfl Tryz.underlying103 rfl (iK _)) ?_;simp only [aP,lA,lZ,lS]
  refine zaa (nv cross.val) rfl (zad rfl rfl bcross rfl uN rfl (iN _)) ?_
  refine zaa (nv c2.val) rfl (zai (args:=[cv b,nv cross.val]) rfl rfl (fun W => zac Tryz.func140 rfl rfl _ W) (fun W hW => zdp kc2.out (hf.ext hW))) ?_;simp only [aP,lA,lZ,lS]
  refine zaa (nv x3.val) rfl (zay (args:=[nv r1.val,nv c2.val]) rfl rfl rfl (zcz _ ·) (fun W hW => zdz kx3.out (hf.ext hW))) ?_;simp only [aP,lA,lZ,lS]
  exact zap
 refine zci _ _ rfl rfl rfl rfl rfl rfl rfl rfl rfl (by kernel_rfl) (by kernel_rfl) (by kernel_rfl) rfl rfl (hzN ·) (fun _ => rfl) (fun _ => rfl) (iN _) rfl (zbp _) ?_
 intro gx3 w11 hgx3 bx3 hE
 refine NoPanic.normal ?_
 replace b0:=hE.block b0
 replace b1:=hE.block b1
 replace b3:=hE.block b3
 replace brun:=hE.block brun
 replace brise:=hE.block brise
 replace bcube:=hE.block bcube
 replace bcross:=hE.block bcross
 replace hf:=hf.ext hE
 replace hx:=hx.trans hE
 clear hE
 simp only [aP,lA,lZ,lS]
 clear hgx3
 go_upto_region 16 with (fail)
 refine' zbu (m:=26) (A:=_) 26 (by kernel_rfl) (by kernel_rfl) (by kernel_rfl) ?h11a ?h11b
 case h11a =>
  refine zaa (nv x3.val) rfl (zad rfl rfl bx3 rfl uN rfl (iN _)) ?_
  refine zaa (.pointer (some ⟨w.heap.size,1,none⟩)) rfl (zaf rfl rfl (fldK1 _ ·)) ?_;simp only [aP,lA,lZ,lS]
  refine zaa (fv 105 b) rfl (zak rfl rfl b0 rfl (zav ·)) ?_
  refine zaa (.pointer (some ⟨w.heap.size,2,none⟩)) rfl (zaf rfl rfl (fldK2 _ ·)) ?_;simp only [aP,lA,lZ,lS]
  refine zaa (fv 89 b) rfl (zak rfl rfl b0 rfl (zav ·)) ?_
  refine zaa (nv rise.val) rfl (zad rfl rfl brise rfl uN rfl (iN _)) ?_;simp only [aP,lA,lZ,lS]
  refine zaa (.pointer (some ⟨w.heap.size,1,none⟩)) rfl (zaf rfl rfl (fldK1 _ ·)) ?_
  refine zaa (fv 105 b) rfl (zak rfl rfl b0 rfl (zav ·)) ?_;simp only [aP,lA,lZ,lS]
  refine zaa (nv cross.val) rfl (zad rfl rfl bcross rfl uN rfl (iN _)) ?_
  refine zaa (nv x3.val) rfl (zad rfl rfl bx3 rfl uN rfl (iN _)) ?_;simp only [aP,lA,lZ,lS]
  refine zaa (nv d.val) rfl (zay (args:=[nv cross.val,nv x3.val]) rfl rfl rfl (zcz _ ·) (fun W hW => zdz kd.out (hf.ext hW))) ?_
  refine zaa (nv rd.val) rfl (zay (args:=[nv rise.val,nv d.val]) rfl rfl rfl (zbi _ ·) (fun W hW => zbr krd.out (hf.ext hW))) ?_;simp only [aP,lA,lZ,lS]
  refine zaa (.pointer (some ⟨w.heap.size,2,none⟩)) rfl (zaf rfl rfl (fldK2 _ ·)) ?_
  refine zaa (fv 89 b) rfl (zak rfl rfl b0 rfl (zav ·)) ?_;simp only [aP,lA,lZ,lS]
  refine zaa (.pointer (some ⟨w.heap.size + 1,4,none⟩)) rfl (zaf rfl rfl (fldS1 _ ·)) ?_
  refine zaa (nv y.val) rfl (zad rfl rfl b1 rfl uN rfl (iN _)) ?_;simp only [aP,lA,lZ,lS]
  refine zaa (nv cube.val) rfl (zad rfl rfl bcube rfl uN rfl (iN _)) ?_
  refine zaa (nv yc.val) rfl (zay (args:=[nv y.val,nv cube.val]) rfl rfl rfl (zbi _ ·) (fun W hW => zbr kyc.out (hf.ext hW))) ?_;simp only [aP,lA,lZ,lS]
  refine zaa (nv y3.val) rfl (zay (args:=[nv rd.val,nv yc.val]) rfl rfl rfl (zcz _ ·) (fun W hW => zdz ky3.out (hf.ext hW))) ?_
  refine zaa (.pointer (some ⟨w.heap.size,2,none⟩)) rfl (zaf rfl rfl (fldK2 _ ·)) ?_;simp only [aP,lA,lZ,lS]
  refine zaa (fv 89 b) rfl (zak rfl rfl b0 rfl (zav ·)) ?_
  refine zaa (.pointer (some ⟨w.heap.size + 1,8,none⟩)) rfl (zaf rfl rfl (fldS2 _ ·)) ?_;simp only [aP,lA,lZ,lS]
  refine zaa (nv z.val) rfl (zad rfl rfl b1 rfl uN rfl (iN _)) ?_
  refine zaa (nv run.val) rfl (zad rfl rfl brun rfl uN rfl (iN _)) ?_;simp only [aP,lA,lZ,lS]
  refine zaa (nv z3.val) rfl (zay (args:=[nv z.val,nv run.val]) rfl rfl rfl (zbi _ ·) (fun W hW => zbr kz3.out (hf.ext hW))) ?_
  refine zaa (sv x3.val y3.val z3.val) rfl (zbh (vs:=[(0,nv x3.val),(1,nv y3.val),(2,nv z3.val)]) rfl rfl (fun W => bldS W _ _ _)) ?_;simp only [aP,lA,lZ,lS]
  exact zap
 refine zfx _ rfl rfl rfl rfl rfl (by kernel_rfl) (by kernel_rfl) rfl rfl rfl b3 (iS _ _ _) rfl (zfv _ _ _) ?_
 intro w12 hB hb
 refine NoPanic.normal ?_
 go_wp2
 exact bodyPost_ret (results_cell_row rfl _ _ (w.heap.size + 1 + 1 + 1) 146 (sc x3.val y3.val z3.val) (0,0) _ rfl hb Tryz.underlying146 rfl (by kernel_rfl)) rfl ⟨rfl,hx.new hB (by omega)⟩
end Go.Proofs.YtedehdbajiaaiaaGreatDoor
