/-
  Of C4.
-/
import Derived.Test.YtmfjigcdhijkjaaDoorZB33
set_option maxRecDepth 1000000
set_option maxHeartbeats 20000000
namespace Go.Proofs.YtmfjigcdhijkjaaDoor
open Go.RowKit
open Go.Act renaming put → aP
open List renaming setIfInBounds_toArray → lA, set_cons_zero → lZ, set_cons_succ → lS
def twice3 (x y z : Fe) : Fe × Fe × Fe :=
 let zz : Fe:=z * z
 let yy : Fe:=y * y
 let s : Fe:=x - zz
 let u : Fe:=x + zz
 let su : Fe:=s * u
 let m : Fe:=su + su + su
 let q : Fe:=x * yy
 let q2 : Fe:=q + q
 let cr : Fe:=q2 + q2
 let mm : Fe:=m * m
 let c2 : Fe:=cr + cr
 let X : Fe:=mm - c2
 let e : Fe:=yy * yy
 let e2 : Fe:=e + e
 let e4 : Fe:=e2 + e2
 let tl : Fe:=e4 + e4
 let d : Fe:=cr - X
 let md : Fe:=m * d
 let Y : Fe:=md - tl
 let yz : Fe:=y * z
 let Z : Fe:=yz + yz
 (X,Y,Z)
theorem twice_calls {b : Nat} (x y z : Fe) {w : World} (hF : Fp w b) :
  Calls Tryd.prog 50 #[cv b,sv x.val y.val z.val] w fun e w' => e = .returned (sv (twice3 x y z).1.val (twice3 x y z).2.1.val (twice3 x y z).2.2.val) ∧ Ext w w':=by
 obtain ⟨zz,hzz⟩ : ∃ t : Fe,t = z * z:=⟨_,rfl⟩
 obtain ⟨yy,hyy⟩ : ∃ t : Fe,t = y * y:=⟨_,rfl⟩
 obtain ⟨s,hs⟩ : ∃ t : Fe,t = x - zz:=⟨_,rfl⟩
 obtain ⟨u,hu⟩ : ∃ t : Fe,t = x + zz:=⟨_,rfl⟩
 obtain ⟨su,hsu⟩ : ∃ t : Fe,t = s * u:=⟨_,rfl⟩
 obtain ⟨m,hm⟩ : ∃ t : Fe,t = su + su + su:=⟨_,rfl⟩
 obtain ⟨q,hq⟩ : ∃ t : Fe,t = x * yy:=⟨_,rfl⟩
 obtain ⟨q2,hq2⟩ : ∃ t : Fe,t = q + q:=⟨_,rfl⟩
 obtain ⟨cr,hcr⟩ : ∃ t : Fe,t = q2 + q2:=⟨_,rfl⟩
 obtain ⟨mm,hmm⟩ : ∃ t : Fe,t = m * m:=⟨_,rfl⟩
 obtain ⟨c2,hc2⟩ : ∃ t : Fe,t = cr + cr:=⟨_,rfl⟩
 obtain ⟨X,hX⟩ : ∃ t : Fe,t = mm - c2:=⟨_,rfl⟩
 obtain ⟨e,he⟩ : ∃ t : Fe,t = yy * yy:=⟨_,rfl⟩
 obtain ⟨e2,he2⟩ : ∃ t : Fe,t = e + e:=⟨_,rfl⟩
 obtain ⟨e4,he4⟩ : ∃ t : Fe,t = e2 + e2:=⟨_,rfl⟩
 obtain ⟨tl,htl⟩ : ∃ t : Fe,t = e4 + e4:=⟨_,rfl⟩
 obtain ⟨d,hd⟩ : ∃ t : Fe,t = cr - X:=⟨_,rfl⟩
 obtain ⟨md,hmd⟩ : ∃ t : Fe,t = m * d:=⟨_,rfl⟩
 obtain ⟨Y,hY⟩ : ∃ t : Fe,t = md - tl:=⟨_,rfl⟩
 obtain ⟨yz,hyz⟩ : ∃ t : Fe,t = y * z:=⟨_,rfl⟩
 obtain ⟨Z,hZ⟩ : ∃ t : Fe,t = yz + yz:=⟨_,rfl⟩
 have hfin : twice3 x y z = (X,Y,Z):=by
  subst hZ hyz hY hmd hd htl he4 he2 he hX hc2 hmm hcr hq2 hq hm hsu hu hs hyy hzz
  rfl
 rw [hfin]
 clear hfin
 have kzz:=veil hzz
 have kyy:=veil hyy
 have ks:=veil hs
 have ku:=veil hu
 have ksu:=veil hsu
 have km:=veil hm
 have kq:=veil hq
 have kq2:=veil hq2
 have kcr:=veil hcr
 have kmm:=veil hmm
 have kc2:=veil hc2
 have kX:=veil hX
 have ke:=veil he
 have ke2:=veil he2
 have ke4:=veil he4
 have ktl:=veil htl
 have kd:=veil hd
 have kmd:=veil hmd
 have kY:=veil hY
 have kyz:=veil hyz
 have kZ:=veil hZ
 clear hZ hyz hY hmd hd htl he4 he2 he hX hc2 hmm hcr hq2 hq hm hsu hu hs hyy hzz
 show Calls Tryd.prog 50 #[cv b,sv x.val y.val z.val] w fun e w' => e = .returned (sv X.val Y.val Z.val) ∧ Ext w w'
 unfold cv sv cc fv sc
 go_enter Tryd.func50,Tryd.ntmps50
 go_upto_region 1 with (fail)
 obtain ⟨hx,b0,b1,b2⟩:=blocks3 w (.cells #[.func (.func 67) #[ptrTo b] #[],.func (.func 69) #[ptrTo b] #[],.func (.func 33) #[ptrTo b] #[],.func (.func 31) #[ptrTo b] #[]] 75) (.cells #[.int .u64 (wd (x.val) 0),.int .u64 (wd (x.val) 1),.int .u64 (wd (x.val) 2),.int .u64 (wd (x.val) 3),.int .u64 (wd (y.val) 0),.int .u64 (wd (y.val) 1),.int .u64 (wd (y.val) 2),.int .u64 (wd (y.val) 3),.int .u64 (wd (z.val) 0),.int .u64 (wd (z.val) 1),.int .u64 (wd (z.val) 2),.int .u64 (wd (z.val) 3)] 88) (.cells #[.int .u64 0,.int .u64 0,.int .u64 0,.int .u64 0,.int .u64 0,.int .u64 0,.int .u64 0,.int .u64 0,.int .u64 0,.int .u64 0,.int .u64 0,.int .u64 0] 88)
 generalize ((w.alloc (.cells #[.func (.func 67) #[ptrTo b] #[],.func (.func 69) #[ptrTo b] #[],.func (.func 33) #[ptrTo b] #[],.func (.func 31) #[ptrTo b] #[]] 75)).alloc (.cells #[.int .u64 (wd (x.val) 0),.int .u64 (wd (x.val) 1),.int .u64 (wd (x.val) 2),.int .u64 (wd (x.val) 3),.int .u64 (wd (y.val) 0),.int .u64 (wd (y.val) 1),.int .u64 (wd (y.val) 2),.int .u64 (wd (y.val) 3),.int .u64 (wd (z.val) 0),.int .u64 (wd (z.val) 1),.int .u64 (wd (z.val) 2),.int .u64 (wd (z.val) 3)] 88)).alloc (.cells #[.int .u64 0,.int .u64 0,.int .u64 0,.int .u64 0,.int .u64 0,.int .u64 0,.int .u64 0,.int .u64 0,.int .u64 0,.int .u64 0,.int .u64 0,.int .u64 0] 88) = w1 at *
 have b0 : w1.heap[w.heap.size]? = some (.cells (cc b) 75 (0,0)):=b0
 have b1 : w1.heap[w.heap.size + 1]? = some (.cells (sc x.val y.val z.val) 88 (0,0)):=b1
 have hf:=hF.ext hx
 clear hF
 refine' zbn (m:=14) (A:=_) 16 (by kernel_rfl) (by kernel_rfl) (by kernel_rfl) ?h1 ?h2
 case h1 =>
  refine zaa (.pointer (some ⟨w.heap.size,2,none⟩)) rfl (zad rfl rfl (fldK2 _ ·)) ?_;simp only [aP,lA,lZ,lS]
  refine zaa (fv 33 b) rfl (zai rfl rfl b0 rfl (zas ·)) ?_;simp only [aP,lA,lZ,lS]
  refine zaa (.pointer (some ⟨w.heap.size + 1,8,none⟩)) rfl (zad rfl rfl (fldS2 _ ·)) ?_;simp only [aP,lA,lZ,lS]
  refine zaa (nv z.val) rfl (zac rfl rfl b1 rfl uN rfl (iN _)) ?_;simp only [aP,lA,lZ,lS]
  refine zaa (.pointer (some ⟨w.heap.size + 1,8,none⟩)) rfl (zad rfl rfl (fldS2 _ ·)) ?_;simp only [aP,lA,lZ,lS]
  refine zaa (nv z.val) rfl (zac rfl rfl b1 rfl uN rfl (iN _)) ?_;simp only [aP,lA,lZ,lS]
  refine zaa (nv zz.val) rfl (zav (args:=[nv z.val,nv z.val]) rfl rfl rfl (zbg _ ·) (fun W hW => zbk kzz.out (hf.ext hW))) ?_;simp only [aP,lA,lZ,lS]
  refine zaa (.pointer (some ⟨w.heap.size,2,none⟩)) rfl (zad rfl rfl (fldK2 _ ·)) ?_;simp only [aP,lA,lZ,lS]
  refine zaa (fv 33 b) rfl (zai rfl rfl b0 rfl (zas ·)) ?_;simp only [aP,lA,lZ,lS]
  refine zaa (.pointer (some ⟨w.heap.size + 1,4,none⟩)) rfl (zad rfl rfl (fldS1 _ ·)) ?_;simp only [aP,lA,lZ,lS]
  refine zaa (nv y.val) rfl (zac rfl rfl b1 rfl uN rfl (iN _)) ?_;simp only [aP,lA,lZ,lS]
  refine zaa (.pointer (some ⟨w.heap.size + 1,4,none⟩)) rfl (zad rfl rfl (fldS1 _ ·)) ?_;simp only [aP,lA,lZ,lS]
  refine zaa (nv y.val) rfl (zac rfl rfl b1 rfl uN rfl (iN _)) ?_;simp only [aP,lA,lZ,lS]
  refine zaa (nv yy.val) rfl (zav (args:=[nv y.val,nv y.val]) rfl rfl rfl (zbg _ ·) (fun W hW => zbk kyy.out (hf.ext hW))) ?_;simp only [aP,lA,lZ,lS]
  exact zah
 refine rest_two _ _ _ _ rfl rfl rfl rfl rfl rfl rfl rfl rfl rfl rfl rfl rfl rfl rfl rfl rfl (by decide) (by kernel_rfl) (by kernel_rfl) (by kernel_rfl) (by kernel_rfl) (by kernel_rfl) (by kernel_rfl) (by kernel_rfl) (by kernel_rfl) (by kernel_rfl) (hzN ·) (fun _ _ => rfl) (fun _ _ => rfl) (fun _ _ => rfl) (fun _ _ => rfl) (iN _) (iN _) rfl rfl (zbe _) (zbe _) ?_
 intro gzz gyy w2 hgzz hgyy bzz byy hE
 refine NoPanic.normal ?_
 replace b0:=hE.block b0
 replace b1:=hE.block b1
 replace b2:=hE.block b2
 replace hf:=hf.ext hE
 replace hx:=hx.trans hE
 clear hE
 simp only [aP,lA,lZ,lS]
 clear hgzz hgyy
 go_upto_region 2 with (fail)
 refine' zbn (m:=17) (A:=_) 18 (by kernel_rfl) (by kernel_rfl) (by kernel_rfl) ?h2a ?h2b
 case h2a =>
  refine zaa (cv b) rfl (zac rfl rfl b0 rfl Tryd.underlying75 rfl (iK _)) ?_;simp only [aP,lA,lZ,lS]
  refine zaa (.pointer (some ⟨w.heap.size,2,none⟩)) rfl (zad rfl rfl (fldK2 _ ·)) ?_;simp only [aP,lA,lZ,lS]
  refine zaa (fv 33 b) rfl (zai rfl rfl b0 rfl (zas ·)) ?_;simp only [aP,lA,lZ,lS]
  refine zaa (.pointer (some ⟨w.heap.size,1,none⟩)) rfl (zad rfl rfl (fldK1 _ ·)) ?_;simp only [aP,lA,lZ,lS]
  refine zaa (fv 69 b) rfl (zai rfl rfl b0 rfl (zas ·)) ?_;simp only [aP,lA,lZ,lS]
  refine zaa (ptrTo (w.heap.size + 1)) rfl (zad rfl rfl (fldS0 _ ·)) ?_;simp only [aP,lA,lZ,lS]
  refine zaa (nv x.val) rfl (zac rfl rfl b1 rfl uN rfl (iN _)) ?_;simp only [aP,lA,lZ,lS]
  refine zaa (nv zz.val) rfl (zac rfl rfl bzz rfl uN rfl (iN _)) ?_;simp only [aP,lA,lZ,lS]
  refine zaa (nv s.val) rfl (zav (args:=[nv x.val,nv zz.val]) rfl rfl rfl (zcx _ ·) (fun W hW => zdh ks.out (hf.ext hW))) ?_;simp only [aP,lA,lZ,lS]
  refine zaa (ptrTo w.heap.size) rfl (zad rfl rfl (fldK0 _ ·)) ?_;simp only [aP,lA,lZ,lS]
  refine zaa (fv 67 b) rfl (zai rfl rfl b0 rfl (zas ·)) ?_;simp only [aP,lA,lZ,lS]
  refine zaa (ptrTo (w.heap.size + 1)) rfl (zad rfl rfl (fldS0 _ ·)) ?_;simp only [aP,lA,lZ,lS]
  refine zaa (nv x.val) rfl (zac rfl rfl b1 rfl uN rfl (iN _)) ?_;simp only [aP,lA,lZ,lS]
  refine zaa (nv zz.val) rfl (zac rfl rfl bzz rfl uN rfl (iN _)) ?_;simp only [aP,lA,lZ,lS]
  refine zaa (nv u.val) rfl (zav (args:=[nv x.val,nv zz.val]) rfl rfl rfl (he_kAdd _ ·) (fun W hW => kadd_p ku.out (hf.ext hW))) ?_;simp only [aP,lA,lZ,lS]
  refine zaa (nv su.val) rfl (zav (args:=[nv s.val,nv u.val]) rfl rfl rfl (zbg _ ·) (fun W hW => zbk ksu.out (hf.ext hW))) ?_;simp only [aP,lA,lZ,lS]
  refine zaa (nv m.val) rfl (zaf (args:=[cv b,nv su.val]) rfl rfl (fun W => zab Tryd.func71 rfl rfl _ W) (fun W hW => trp_calls km.out (hf.ext hW))) ?_;simp only [aP,lA,lZ,lS]
  exact zah
 refine zcn _ _ rfl rfl rfl rfl rfl rfl rfl rfl rfl (by kernel_rfl) (by kernel_rfl) (by kernel_rfl) rfl rfl (hzN ·) (fun _ => rfl) (fun _ => rfl) (iN _) rfl (zbe _) ?_
 intro gm w3 hgm bm hE
 refine NoPanic.normal ?_
 replace b0:=hE.block b0
 replace b1:=hE.block b1
 replace b2:=hE.block b2
 replace byy:=hE.block byy
 replace hf:=hf.ext hE
 replace hx:=hx.trans hE
 clear hE
 simp only [aP,lA,lZ,lS]
 clear hgm
 go_upto_region 3 with (fail)
 refine' zaj (m:=6) (A:=_) (by kernel_rfl) ?h3a ?h3b
 case h3a =>
  refine zaa (.pointer (some ⟨w.heap.size,2,none⟩)) rfl (zad rfl rfl (fldK2 _ ·)) ?_;simp only [aP,lA,lZ,lS]
  refine zaa (fv 33 b) rfl (zai rfl rfl b0 rfl (zas ·)) ?_;simp only [aP,lA,lZ,lS]
  refine zaa (ptrTo (w.heap.size + 1)) rfl (zad rfl rfl (fldS0 _ ·)) ?_;simp only [aP,lA,lZ,lS]
  refine zaa (nv x.val) rfl (zac rfl rfl b1 rfl uN rfl (iN _)) ?_;simp only [aP,lA,lZ,lS]
  refine zaa (nv yy.val) rfl (zac rfl rfl byy rfl uN rfl (iN _)) ?_;simp only [aP,lA,lZ,lS]
  refine zaa (nv q.val) rfl (zav (args:=[nv x.val,nv yy.val]) rfl rfl rfl (zbg _ ·) (fun W hW => zbk kq.out (hf.ext hW))) ?_;simp only [aP,lA,lZ,lS]
  exact zah
 refine zcm _ _ rfl rfl rfl rfl rfl rfl rfl (hzN ·) (fun _ => rfl) (fun _ => rfl) (iN _) rfl (zbe _) ?_
 intro gq w4 hgq bq hE
 replace b0:=hE.block b0
 replace b1:=hE.block b1
 replace b2:=hE.block b2
 replace byy:=hE.block byy
 replace bm:=hE.block bm
 replace hf:=hf.ext hE
 replace hx:=hx.trans hE
 clear hE
 simp only [aP,lA,lZ,lS]
 clear hgq
 go_upto_region 4 with (fail)
 refine' zbn (m:=5) (A:=_) 6 (by kernel_rfl) (by kernel_rfl) (by kernel_rfl) ?h4a ?h4b
 case h4a =>
  refine zaa (cv b) rfl (zac rfl rfl b0 rfl Tryd.underlying75 rfl (iK _)) ?_;simp only [aP,lA,lZ,lS]
  refine zaa (cv b) rfl (zac rfl rfl b0 rfl Tryd.underlying75 rfl (iK _)) ?_;simp only [aP,lA,lZ,lS]
  refine zaa (nv q.val) rfl (zac rfl rfl bq rfl uN rfl (iN _)) ?_;simp only [aP,lA,lZ,lS]
  refine zaa (nv q2.val) rfl (zaf (args:=[cv b,nv q.val]) rfl rfl (fun W => zab Tryd.func78 rfl rfl _ W) (fun W hW => zde kq2.out (hf.ext hW))) ?_;simp only [aP,lA,lZ,lS]
  refine zaa (nv cr.val) rfl (zaf (args:=[cv b,nv q2.val]) rfl rfl (fun W => zab Tryd.func78 rfl rfl _ W) (fun W hW => zde kcr.out (hf.ext hW))) ?_;simp only [aP,lA,lZ,lS]
  exact zah
 refine zcn _ _ rfl rfl rfl rfl rfl rfl rfl rfl rfl (by kernel_rfl) (by kernel_rfl) (by kernel_rfl) rfl rfl (hzN ·) (fun _ => rfl) (fun _ => rfl) (iN _) rfl (zbe _) ?_
 intro gcr w5 hgcr bcr hE
 refine NoPanic.normal ?_
 replace b0:=hE.block b0
 replace b1:=hE.block b1
 replace b2:=hE.block b2
 replace byy:=hE.block byy
 replace bm:=hE.block bm
 replace hf:=hf.ext hE
 replace hx:=hx.trans hE
 clear hE
 simp only [aP,lA,lZ,lS]
 clear hgcr
 go_upto_region 5 with (fail)
 refine' zbn (m:=11) (A:=_) 12 (by kernel_rfl) (by kernel_rfl) (by kernel_rfl) ?h5a ?h5b
 case h5a =>
  refine zaa (.pointer (some ⟨w.heap.size,1,none⟩)) rfl (zad rfl rfl (fldK1 _ ·)) ?_;simp only [aP,lA,lZ,lS]
  refine zaa (fv 69 b) rfl (zai rfl rfl b0 rfl (zas ·)) ?_;simp only [aP,lA,lZ,lS]
  refine zaa (.pointer (some ⟨w.heap.size,2,none⟩)) rfl (zad rfl rfl (fldK2 _ ·)) ?_;simp only [aP,lA,lZ,lS]
  refine zaa (fv 33 b) rfl (zai rfl rfl b0 rfl (zas ·)) ?_;simp only [aP,lA,lZ,lS]
  refine zaa (nv m.val) rfl (zac rfl rfl bm rfl uN rfl (iN _)) ?_;simp only [aP,lA,lZ,lS]
  refine zaa (nv m.val) rfl (zac rfl rfl bm rfl uN rfl (iN _)) ?_;simp only [aP,lA,lZ,lS]
  refine zaa (nv mm.val) rfl (zav (args:=[nv m.val,nv m.val]) rfl rfl rfl (zbg _ ·) (fun W hW => zbk kmm.out (hf.ext hW))) ?_;simp only [aP,lA,lZ,lS]
  refine zaa (cv b) rfl (zac rfl rfl b0 rfl Tryd.underlying75 rfl (iK _)) ?_;simp only [aP,lA,lZ,lS]
  refine zaa (nv cr.val) rfl (zac rfl rfl bcr rfl uN rfl (iN _)) ?_;simp only [aP,lA,lZ,lS]
  refine zaa (nv c2.val) rfl (zaf (args:=[cv b,nv cr.val]) rfl rfl (fun W => zab Tryd.func78 rfl rfl _ W) (fun W hW => zde kc2.out (hf.ext hW))) ?_;simp only [aP,lA,lZ,lS]
  refine zaa (nv X.val) rfl (zav (args:=[nv mm.val,nv c2.val]) rfl rfl rfl (zcx _ ·) (fun W hW => zdh kX.out (hf.ext hW))) ?_;simp only [aP,lA,lZ,lS]
  exact zah
 refine zcn _ _ rfl rfl rfl rfl rfl rfl rfl rfl rfl (by kernel_rfl) (by kernel_rfl) (by kernel_rfl) rfl rfl (hzN ·) (fun _ => rfl) (fun _ => rfl) (iN _) rfl (zbe _) ?_
 intro gX w6 hgX bX hE
 refine NoPanic.normal ?_
 replace b0:=hE.block b0
 replace b1:=hE.block b1
 replace b2:=hE.block b2
 replace byy:=hE.block byy
 replace bm:=hE.block bm
 replace bcr:=hE.block bcr
 replace hf:=hf.ext hE
 replace hx:=hx.trans hE
 clear hE
 simp only [aP,lA,lZ,lS]
 clear hgX
 go_upto_region 6 with (fail)
 refine' zaj (m:=5) (A:=_) (by kernel_rfl) ?h6a ?h6b
 case h6a =>
  refine zaa (.pointer (some ⟨w.heap.size,2,none⟩)) rfl (zad rfl rfl (fldK2 _ ·)) ?_;simp only [aP,lA,lZ,lS]
  refine zaa (fv 33 b) rfl (zai rfl rfl b0 rfl (zas ·)) ?_;simp only [aP,lA,lZ,lS]
  refine zaa (nv yy.val) rfl (zac rfl rfl byy rfl uN rfl (iN _)) ?_;simp only [aP,lA,lZ,lS]
  refine zaa (nv yy.val) rfl (zac rfl rfl byy rfl uN rfl (iN _)) ?_;simp only [aP,lA,lZ,lS]
  refine zaa (nv e.val) rfl (zav (args:=[nv yy.val,nv yy.val]) rfl rfl rfl (zbg _ ·) (fun W hW => zbk ke.out (hf.ext hW))) ?_;simp only [aP,lA,lZ,lS]
  exact zah
 refine zcm _ _ rfl rfl rfl rfl rfl rfl rfl (hzN ·) (fun _ => rfl) (fun _ => rfl) (iN _) rfl (zbe _) ?_
 intro ge w7 hge be hE
 replace b0:=hE.block b0
 replace b1:=hE.block b1
 replace b2:=hE.block b2
 replace bm:=hE.block bm
 replace bcr:=hE.block bcr
 replace bX:=hE.block bX
 replace hf:=hf.ext hE
 replace hx:=hx.trans hE
 clear hE
 simp only [aP,lA,lZ,lS]
 clear hge
 go_upto_region 7 with (fail)
 refine' zbn (m:=7) (A:=_) 8 (by kernel_rfl) (by kernel_rfl) (by kernel_rfl) ?h7a ?h7b
 case h7a =>
  refine zaa (cv b) rfl (zac rfl rfl b0 rfl Tryd.underlying75 rfl (iK _)) ?_;simp only [aP,lA,lZ,lS]
  refine zaa (cv b) rfl (zac rfl rfl b0 rfl Tryd.underlying75 rfl (iK _)) ?_;simp only [aP,lA,lZ,lS]
  refine zaa (cv b) rfl (zac rfl rfl b0 rfl Tryd.underlying75 rfl (iK _)) ?_;simp only [aP,lA,lZ,lS]
  refine zaa (nv e.val) rfl (zac rfl rfl be rfl uN rfl (iN _)) ?_;simp only [aP,lA,lZ,lS]
  refine zaa (nv e2.val) rfl (zaf (args:=[cv b,nv e.val]) rfl rfl (fun W => zab Tryd.func78 rfl rfl _ W) (fun W hW => zde ke2.out (hf.ext hW))) ?_;simp only [aP,lA,lZ,lS]
  refine zaa (nv e4.val) rfl (zaf (args:=[cv b,nv e2.val]) rfl rfl (fun W => zab Tryd.func78 rfl rfl _ W) (fun W hW => zde ke4.out (hf.ext hW))) ?_;simp only [aP,lA,lZ,lS]
  refine zaa (nv tl.val) rfl (zaf (args:=[cv b,nv e4.val]) rfl rfl (fun W => zab Tryd.func78 rfl rfl _ W) (fun W hW => zde ktl.out (hf.ext hW))) ?_;simp only [aP,lA,lZ,lS]
  exact zah
 refine zcn _ _ rfl rfl rfl rfl rfl rfl rfl rfl rfl (by kernel_rfl) (by kernel_rfl) (by kernel_rfl) rfl rfl (hzN ·) (fun _ => rfl) (fun _ => rfl) (iN _) rfl (zbe _) ?_
 intro gtl w8 hgtl btl hE
 refine NoPanic.normal ?_
 replace b0:=hE.block b0
 replace b1:=hE.block b1
 replace b2:=hE.block b2
 replace bm:=hE.block bm
 replace bcr:=hE.block bcr
 replace bX:=hE.block bX
 replace hf:=hf.ext hE
 replace hx:=hx.trans hE
 clear hE
 simp only [aP,lA,lZ,lS]
 clear hgtl
 go_upto_region 8 with (fail)
 refine' zbn (m:=24) (A:=_) 24 (by kernel_rfl) (by kernel_rfl) (by kernel_rfl) ?h8a ?h8b
 case h8a =>
  refine zaa (nv X.val) rfl (zac rfl rfl bX rfl uN rfl (iN _)) ?_;simp only [aP,lA,lZ,lS]
  refine zaa (.pointer (some ⟨w.heap.size,1,none⟩)) rfl (zad rfl rfl (fldK1 _ ·)) ?_;simp only [aP,lA,lZ,lS]
  refine zaa (fv 69 b) rfl (zai rfl rfl b0 rfl (zas ·)) ?_;simp only [aP,lA,lZ,lS]
  refine zaa (.pointer (some ⟨w.heap.size,2,none⟩)) rfl (zad rfl rfl (fldK2 _ ·)) ?_;simp only [aP,lA,lZ,lS]
  refine zaa (fv 33 b) rfl (zai rfl rfl b0 rfl (zas ·)) ?_;simp only [aP,lA,lZ,lS]
  refine zaa (nv m.val) rfl (zac rfl rfl bm rfl uN rfl (iN _)) ?_;simp only [aP,lA,lZ,lS]
  refine zaa (.pointer (some ⟨w.heap.size,1,none⟩)) rfl (zad rfl rfl (fldK1 _ ·)) ?_;simp only [aP,lA,lZ,lS]
  refine zaa (fv 69 b) rfl (zai rfl rfl b0 rfl (zas ·)) ?_;simp only [aP,lA,lZ,lS]
  refine zaa (nv cr.val) rfl (zac rfl rfl bcr rfl uN rfl (iN _)) ?_;simp only [aP,lA,lZ,lS]
  refine zaa (nv X.val) rfl (zac rfl rfl bX rfl uN rfl (iN _)) ?_;simp only [aP,lA,lZ,lS]
  refine zaa (nv d.val) rfl (zav (args:=[nv cr.val,nv X.val]) rfl rfl rfl (zcx _ ·) (fun W hW => zdh kd.out (hf.ext hW))) ?_;simp only [aP,lA,lZ,lS]
  refine zaa (nv md.val) rfl (zav (args:=[nv m.val,nv d.val]) rfl rfl rfl (zbg _ ·) (fun W hW => zbk kmd.out (hf.ext hW))) ?_;simp only [aP,lA,lZ,lS]
  refine zaa (nv tl.val) rfl (zac rfl rfl btl rfl uN rfl (iN _)) ?_;simp only [aP,lA,lZ,lS]
  refine zaa (nv Y.val) rfl (zav (args:=[nv md.val,nv tl.val]) rfl rfl rfl (zcx _ ·) (fun W hW => zdh kY.out (hf.ext hW))) ?_;simp only [aP,lA,lZ,lS]
  refine zaa (cv b) rfl (zac rfl rfl b0 rfl Tryd.underlying75 rfl (iK _)) ?_;simp only [aP,lA,lZ,lS]
  refine zaa (.pointer (some ⟨w.heap.size,2,none⟩)) rfl (zad rfl rfl (fldK2 _ ·)) ?_;simp only [aP,lA,lZ,lS]
  refine zaa (fv 33 b) rfl (zai rfl rfl b0 rfl (zas ·)) ?_;simp only [aP,lA,lZ,lS]
  refine zaa (.pointer (some ⟨w.heap.size + 1,4,none⟩)) rfl (zad rfl rfl (fldS1 _ ·)) ?_;simp only [aP,lA,lZ,lS]
  refine zaa (nv y.val) rfl (zac rfl rfl b1 rfl uN rfl (iN _)) ?_;simp only [aP,lA,lZ,lS]
  refine zaa (.pointer (some ⟨w.heap.size + 1,8,none⟩)) rfl (zad rfl rfl (fldS2 _ ·)) ?_;simp only [aP,lA,lZ,lS]
  refine zaa (nv z.val) rfl (zac rfl rfl b1 rfl uN rfl (iN _)) ?_;simp only [aP,lA,lZ,lS]
  refine zaa (nv yz.val) rfl (zav (args:=[nv y.val,nv z.val]) rfl rfl rfl (zbg _ ·) (fun W hW => zbk kyz.out (hf.ext hW))) ?_;simp only [aP,lA,lZ,lS]
  refine zaa (nv Z.val) rfl (zaf (args:=[cv b,nv yz.val]) rfl rfl (fun W => zab Tryd.func78 rfl rfl _ W) (fun W hW => zde kZ.out (hf.ext hW))) ?_;simp only [aP,lA,lZ,lS]
  refine zaa (sv X.val Y.val Z.val) rfl (zau (vs:=[(0,nv X.val),(1,nv Y.val),(2,nv Z.val)]) rfl rfl (fun W => bldS W _ _ _)) ?_;simp only [aP,lA,lZ,lS]
  exact zah
 refine zfj _ rfl rfl rfl rfl rfl (by kernel_rfl) (by kernel_rfl) rfl rfl rfl b2 (iS _ _ _) rfl (zen _ _ _) ?_
 intro w9 hB hb
 refine NoPanic.normal ?_
 go_wp2
 exact bodyPost_ret (results_cell_row rfl _ _ (w.heap.size + 1 + 1) 88 (sc X.val Y.val Z.val) (0,0) _ rfl hb Tryd.underlying88 rfl (by kernel_rfl)) rfl ⟨rfl,hx.new hB (by omega)⟩
end Go.Proofs.YtmfjigcdhijkjaaDoor
