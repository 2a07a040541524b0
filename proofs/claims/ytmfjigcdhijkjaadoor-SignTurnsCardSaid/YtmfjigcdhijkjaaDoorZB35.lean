/-
  Of C6.
-/
import Derived.Test.YtmfjigcdhijkjaaDoorZB33
import Derived.Test.YtmfjigcdhijkjaaDoorZB34
set_option maxRecDepth 1000000
set_option maxHeartbeats 20000000
namespace Go.Proofs.YtmfjigcdhijkjaaDoor
open Go.RowKit
open Go.Act renaming put → aP
open List renaming setIfInBounds_toArray → lA, set_cons_zero → lZ, set_cons_succ → lS
theorem plus_far {b : Nat} (x y z X Y : Nat) {w : World} (hF : Fp w b) :
  Calls Tryd.prog 52 #[cv b,sv x y z,qv X Y true] w fun e w' => e = .returned (sv x y z) ∧ Ext w w':=by
 unfold cv sv qv cc fv sc qc
 go_enter Tryd.func52,Tryd.ntmps52
 go_upto_region 1 with (fail)
 obtain ⟨hx,b0,b1,b2,b3⟩:=blocks4 w (.cells #[.func (.func 67) #[ptrTo b] #[],.func (.func 69) #[ptrTo b] #[],.func (.func 33) #[ptrTo b] #[],.func (.func 31) #[ptrTo b] #[]] 75) (.cells #[.int .u64 (wd x 0),.int .u64 (wd x 1),.int .u64 (wd x 2),.int .u64 (wd x 3),.int .u64 (wd y 0),.int .u64 (wd y 1),.int .u64 (wd y 2),.int .u64 (wd y 3),.int .u64 (wd z 0),.int .u64 (wd z 1),.int .u64 (wd z 2),.int .u64 (wd z 3)] 88) (.cells #[.int .u64 (wd X 0),.int .u64 (wd X 1),.int .u64 (wd X 2),.int .u64 (wd X 3),.int .u64 (wd Y 0),.int .u64 (wd Y 1),.int .u64 (wd Y 2),.int .u64 (wd Y 3),.bool (true)] 40) (.cells #[.int .u64 0,.int .u64 0,.int .u64 0,.int .u64 0,.int .u64 0,.int .u64 0,.int .u64 0,.int .u64 0,.int .u64 0,.int .u64 0,.int .u64 0,.int .u64 0] 88)
 generalize (((w.alloc (.cells #[.func (.func 67) #[ptrTo b] #[],.func (.func 69) #[ptrTo b] #[],.func (.func 33) #[ptrTo b] #[],.func (.func 31) #[ptrTo b] #[]] 75)).alloc (.cells #[.int .u64 (wd x 0),.int .u64 (wd x 1),.int .u64 (wd x 2),.int .u64 (wd x 3),.int .u64 (wd y 0),.int .u64 (wd y 1),.int .u64 (wd y 2),.int .u64 (wd y 3),.int .u64 (wd z 0),.int .u64 (wd z 1),.int .u64 (wd z 2),.int .u64 (wd z 3)] 88)).alloc (.cells #[.int .u64 (wd X 0),.int .u64 (wd X 1),.int .u64 (wd X 2),.int .u64 (wd X 3),.int .u64 (wd Y 0),.int .u64 (wd Y 1),.int .u64 (wd Y 2),.int .u64 (wd Y 3),.bool (true)] 40)).alloc (.cells #[.int .u64 0,.int .u64 0,.int .u64 0,.int .u64 0,.int .u64 0,.int .u64 0,.int .u64 0,.int .u64 0,.int .u64 0,.int .u64 0,.int .u64 0,.int .u64 0] 88) = w1 at *
 have b0 : w1.heap[w.heap.size]? = some (.cells (cc b) 75 (0,0)):=b0
 have b1 : w1.heap[w.heap.size + 1]? = some (.cells (sc x y z) 88 (0,0)):=b1
 have b2 : w1.heap[w.heap.size + 1 + 1]? = some (.cells (qc X Y true) 40 (0,0)):=b2
 have hf:=hF.ext hx
 clear hF
 refine' zaj (m:=2) (A:=_) (by kernel_rfl) ?h1 ?h2
 case h1 =>
  refine zaa (.pointer (some ⟨w.heap.size + 1 + 1,8,none⟩)) rfl (zad rfl rfl (fldT2 _ ·)) ?_;simp only [aP,lA,lZ,lS]
  refine zaa (.bool true) rfl (zai rfl rfl b2 rfl (zbr ·)) ?_;simp only [aP,lA,lZ,lS]
  exact zah
 refine zam rfl ?_
 intro w2 hE
 replace b1:=hE.block b1
 replace b3:=hE.block b3
 replace hf:=hf.ext hE
 replace hx:=hx.trans hE
 clear hE
 go_upto_region 2 with (fail)
 refine' zaj (m:=1) (A:=_) (by kernel_rfl) ?h2a ?h2b
 case h2a =>
  refine zaa (sv x y z) rfl (zac rfl rfl b1 rfl Tryd.underlying88 rfl (iS _ _ _)) ?_;simp only [aP,lA,lZ,lS]
  exact zah
 refine zbj _ rfl rfl rfl rfl rfl rfl b3 (iS _ _ _) rfl (zen _ _ _) ?_
 intro w3 hB hb
 go_wp2
 exact bodyPost_ret (results_cell_row rfl _ _ (w.heap.size + 1 + 1 + 1) 88 (sc x y z) (0,0) _ rfl hb Tryd.underlying88 rfl (by kernel_rfl)) rfl ⟨rfl,hx.new hB (by omega)⟩
theorem plus_lift {b : Nat} (x y X Y : Nat) {w : World} (hF : Fp w b) :
  Calls Tryd.prog 52 #[cv b,sv x y 0,qv X Y false] w fun e w' => e = .returned (sv X Y 1) ∧ Ext w w':=by
 unfold cv sv qv cc fv sc qc
 go_enter Tryd.func52,Tryd.ntmps52
 go_upto_region 1 with (fail)
 obtain ⟨hx,b0,b1,b2,b3⟩:=blocks4 w (.cells #[.func (.func 67) #[ptrTo b] #[],.func (.func 69) #[ptrTo b] #[],.func (.func 33) #[ptrTo b] #[],.func (.func 31) #[ptrTo b] #[]] 75) (.cells #[.int .u64 (wd x 0),.int .u64 (wd x 1),.int .u64 (wd x 2),.int .u64 (wd x 3),.int .u64 (wd y 0),.int .u64 (wd y 1),.int .u64 (wd y 2),.int .u64 (wd y 3),.int .u64 (wd 0 0),.int .u64 (wd 0 1),.int .u64 (wd 0 2),.int .u64 (wd 0 3)] 88) (.cells #[.int .u64 (wd X 0),.int .u64 (wd X 1),.int .u64 (wd X 2),.int .u64 (wd X 3),.int .u64 (wd Y 0),.int .u64 (wd Y 1),.int .u64 (wd Y 2),.int .u64 (wd Y 3),.bool (false)] 40) (.cells #[.int .u64 0,.int .u64 0,.int .u64 0,.int .u64 0,.int .u64 0,.int .u64 0,.int .u64 0,.int .u64 0,.int .u64 0,.int .u64 0,.int .u64 0,.int .u64 0] 88)
 generalize (((w.alloc (.cells #[.func (.func 67) #[ptrTo b] #[],.func (.func 69) #[ptrTo b] #[],.func (.func 33) #[ptrTo b] #[],.func (.func 31) #[ptrTo b] #[]] 75)).alloc (.cells #[.int .u64 (wd x 0),.int .u64 (wd x 1),.int .u64 (wd x 2),.int .u64 (wd x 3),.int .u64 (wd y 0),.int .u64 (wd y 1),.int .u64 (wd y 2),.int .u64 (wd y 3),.int .u64 (wd 0 0),.int .u64 (wd 0 1),.int .u64 (wd 0 2),.int .u64 (wd 0 3)] 88)).alloc (.cells #[.int .u64 (wd X 0),.int .u64 (wd X 1),.int .u64 (wd X 2),.int .u64 (wd X 3),.int .u64 (wd Y 0),.int .u64 (wd Y 1),.int .u64 (wd Y 2),.int .u64 (wd Y 3),.bool (false)] 40)).alloc (.cells #[.int .u64 0,.int .u64 0,.int .u64 0,.int .u64 0,.int .u64 0,.int .u64 0,.int .u64 0,.int .u64 0,.int .u64 0,.int .u64 0,.int .u64 0,.int .u64 0] 88) = w1 at *
 have b0 : w1.heap[w.heap.size]? = some (.cells (cc b) 75 (0,0)):=b0
 have b1 : w1.heap[w.heap.size + 1]? = some (.cells (sc x y 0) 88 (0,0)):=b1
 have b2 : w1.heap[w.heap.size + 1 + 1]? = some (.cells (qc X Y false) 40 (0,0)):=b2
 have hf:=hF.ext hx
 clear hF
 refine' zaj (m:=2) (A:=_) (by kernel_rfl) ?h1 ?h2
 case h1 =>
  refine zaa (.pointer (some ⟨w.heap.size + 1 + 1,8,none⟩)) rfl (zad rfl rfl (fldT2 _ ·)) ?_;simp only [aP,lA,lZ,lS]
  refine zaa (.bool false) rfl (zai rfl rfl b2 rfl (zbr ·)) ?_;simp only [aP,lA,lZ,lS]
  exact zah
 refine zam rfl ?_
 intro w2 hE
 replace b1:=hE.block b1
 replace b2:=hE.block b2
 replace b3:=hE.block b3
 replace hf:=hf.ext hE
 replace hx:=hx.trans hE
 clear hE
 go_upto_region 3 with (fail)
 refine' zaj (m:=3) (A:=_) (by kernel_rfl) ?h2a ?h2b
 case h2a =>
  refine zaa (.pointer (some ⟨w.heap.size + 1,8,none⟩)) rfl (zad rfl rfl (fldS2 _ ·)) ?_;simp only [aP,lA,lZ,lS]
  refine zaa (nv 0) rfl (zac rfl rfl b1 rfl uN rfl (iN _)) ?_;simp only [aP,lA,lZ,lS]
  refine zaa (.bool true) rfl (zaf (args:=[nv 0]) rfl rfl (fun W => zab Tryd.func70 rfl rfl _ W) (fun W hW => zhe rfl W)) ?_;simp only [aP,lA,lZ,lS]
  exact zah
 refine zam rfl ?_
 intro w3 hE
 replace b2:=hE.block b2
 replace b3:=hE.block b3
 replace hf:=hf.ext hE
 replace hx:=hx.trans hE
 clear hE
 go_upto_region 4 with (fail)
 refine' zaj (m:=2) (A:=_) (by kernel_rfl) ?h3a ?h3b
 case h3a =>
  refine zaa (qv X Y false) rfl (zac rfl rfl b2 rfl Tryd.underlying40 rfl (iT _ _ _)) ?_;simp only [aP,lA,lZ,lS]
  refine zaa (sv X Y 1) rfl (zaf (args:=[qv X Y false]) rfl rfl (fun W => zab Tryd.func48 rfl rfl _ W) (fun W hW => lift_near X Y W)) ?_;simp only [aP,lA,lZ,lS]
  exact zah
 refine zbj _ rfl rfl rfl rfl rfl rfl b3 (iS _ _ _) rfl (zen _ _ _) ?_
 intro w4 hB hb
 go_wp2
 exact bodyPost_ret (results_cell_row rfl _ _ (w.heap.size + 1 + 1 + 1) 88 (sc X Y 1) (0,0) _ rfl hb Tryd.underlying88 rfl (by kernel_rfl)) rfl ⟨rfl,hx.new hB (by omega)⟩
def runOf (x z X : Fe) : Fe:=X * (z * z) - x
def riseOf (y z Y : Fe) : Fe:=Y * (z * z * z) - y
def plus3 (x y z X Y : Fe) : Fe × Fe × Fe :=
 let zz : Fe:=z * z
 let u : Fe:=X * zz
 let run : Fe:=u - x
 let zzz : Fe:=zz * z
 let v : Fe:=Y * zzz
 let rise : Fe:=v - y
 let sq : Fe:=run * run
 let cube : Fe:=sq * run
 let cross : Fe:=x * sq
 let rr : Fe:=rise * rise
 let r1 : Fe:=rr - cube
 let c2 : Fe:=cross + cross
 let x3 : Fe:=r1 - c2
 let d : Fe:=cross - x3
 let rd : Fe:=rise * d
 let yc : Fe:=y * cube
 let y3 : Fe:=rd - yc
 let z3 : Fe:=z * run
 (x3,y3,z3)
theorem plus_same {b : Nat} (x y z X Y : Fe) (hz : z.val ≠ 0) (hr : (runOf x z X).val = 0) (hs : (riseOf y z Y).val = 0) {w : World} (hF : Fp w b) :
  Calls Tryd.prog 52 #[cv b,sv x.val y.val z.val,qv X.val Y.val false] w fun e w' => e = .returned (sv (twice3 x y z).1.val (twice3 x y z).2.1.val (twice3 x y z).2.2.val) ∧ Ext w w':=by
 obtain ⟨zz,hzz⟩ : ∃ t : Fe,t = z * z:=⟨_,rfl⟩
 obtain ⟨u,hu⟩ : ∃ t : Fe,t = X * zz:=⟨_,rfl⟩
 obtain ⟨run,hrun⟩ : ∃ t : Fe,t = u - x:=⟨_,rfl⟩
 obtain ⟨zzz,hzzz⟩ : ∃ t : Fe,t = zz * z:=⟨_,rfl⟩
 obtain ⟨v,hv⟩ : ∃ t : Fe,t = Y * zzz:=⟨_,rfl⟩
 obtain ⟨rise,hrise⟩ : ∃ t : Fe,t = v - y:=⟨_,rfl⟩
 have h1 : runOf x z X = run:=by subst hrun hu hzz; rfl
 have h2 : riseOf y z Y = rise:=by subst hrise hv hzzz hzz; rfl
 rw [h1] at hr
 rw [h2] at hs
 clear h1 h2
 have kzz:=veil hzz
 have ku:=veil hu
 have krun:=veil hrun
 have kzzz:=veil hzzz
 have kv:=veil hv
 have krise:=veil hrise
 clear hrise hv hzzz hrun hu hzz
 have kz0:=veil hz
 have kr:=veil hr
 have ks:=veil hs
 clear hz hr hs
 obtain ⟨X3,Y3,Z3,h3⟩ : ∃ X3 Y3 Z3,twice3 x y z = (X3,Y3,Z3):=⟨_,_,_,rfl⟩
 have KT:=veil (fun W (hF : Fp W b) => twice_calls x y z hF)
 rw [h3] at KT ⊢
 clear h3
 show Calls Tryd.prog 52 #[cv b,sv x.val y.val z.val,qv X.val Y.val false] w fun e w' => e = .returned (sv X3.val Y3.val Z3.val) ∧ Ext w w'
 unfold cv sv qv cc fv sc qc
 go_enter Tryd.func52,Tryd.ntmps52
 go_upto_region 1 with (fail)
 obtain ⟨hx,b0,b1,b2,b3⟩:=blocks4 w (.cells #[.func (.func 67) #[ptrTo b] #[],.func (.func 69) #[ptrTo b] #[],.func (.func 33) #[ptrTo b] #[],.func (.func 31) #[ptrTo b] #[]] 75) (.cells #[.int .u64 (wd (x.val) 0),.int .u64 (wd (x.val) 1),.int .u64 (wd (x.val) 2),.int .u64 (wd (x.val) 3),.int .u64 (wd (y.val) 0),.int .u64 (wd (y.val) 1),.int .u64 (wd (y.val) 2),.int .u64 (wd (y.val) 3),.int .u64 (wd (z.val) 0),.int .u64 (wd (z.val) 1),.int .u64 (wd (z.val) 2),.int .u64 (wd (z.val) 3)] 88) (.cells #[.int .u64 (wd (X.val) 0),.int .u64 (wd (X.val) 1),.int .u64 (wd (X.val) 2),.int .u64 (wd (X.val) 3),.int .u64 (wd (Y.val) 0),.int .u64 (wd (Y.val) 1),.int .u64 (wd (Y.val) 2),.int .u64 (wd (Y.val) 3),.bool (false)] 40) (.cells #[.int .u64 0,.int .u64 0,.int .u64 0,.int .u64 0,.int .u64 0,.int .u64 0,.int .u64 0,.int .u64 0,.int .u64 0,.int .u64 0,.int .u64 0,.int .u64 0] 88)
 generalize (((w.alloc (.cells #[.func (.func 67) #[ptrTo b] #[],.func (.func 69) #[ptrTo b] #[],.func (.func 33) #[ptrTo b] #[],.func (.func 31) #[ptrTo b] #[]] 75)).alloc (.cells #[.int .u64 (wd (x.val) 0),.int .u64 (wd (x.val) 1),.int .u64 (wd (x.val) 2),.int .u64 (wd (x.val) 3),.int .u64 (wd (y.val) 0),.int .u64 (wd (y.val) 1),.int .u64 (wd (y.val) 2),.int .u64 (wd (y.val) 3),.int .u64 (wd (z.val) 0),.int .u64 (wd (z.val) 1),.int .u64 (wd (z.val) 2),.int .u64 (wd (z.val) 3)] 88)).alloc (.cells #[.int .u64 (wd (X.val) 0),.int .u64 (wd (X.val) 1),.int .u64 (wd (X.val) 2),.int .u64 (wd (X.val) 3),.int .u64 (wd (Y.val) 0),.int .u64 (wd (Y.val) 1),.int .u64 (wd (Y.val) 2),.int .u64 (wd (Y.val) 3),.bool (false)] 40)).alloc (.cells #[.int .u64 0,.int .u64 0,.int .u64 0,.int .u64 0,.int .u64 0,.int .u64 0,.int .u64 0,.int .u64 0,.int .u64 0,.int .u64 0,.int .u64 0,.int .u64 0] 88) = w1 at *
 have b0 : w1.heap[w.heap.size]? = some (.cells (cc b) 75 (0,0)):=b0
 have b1 : w1.heap[w.heap.size + 1]? = some (.cells (sc x.val y.val z.val) 88 (0,0)):=b1
 have b2 : w1.heap[w.heap.size + 1 + 1]? = some (.cells (qc X.val Y.val false) 40 (0,0)):=b2
 have hf:=hF.ext hx
 clear hF
 refine' zaj (m:=2) (A:=_) (by kernel_rfl) ?h1 ?h2
 case h1 =>
  refine zaa (.pointer (some ⟨w.heap.size + 1 + 1,8,none⟩)) rfl (zad rfl rfl (fldT2 _ ·)) ?_;simp only [aP,lA,lZ,lS]
  refine zaa (.bool false) rfl (zai rfl rfl b2 rfl (zbr ·)) ?_;simp only [aP,lA,lZ,lS]
  exact zah
 refine zam rfl ?_
 intro w2 hE
 replace b0:=hE.block b0
 replace b1:=hE.block b1
 replace b2:=hE.block b2
 replace b3:=hE.block b3
 replace hf:=hf.ext hE
 replace hx:=hx.trans hE
 clear hE
 go_upto_region 3 with (fail)
 refine' zaj (m:=3) (A:=_) (by kernel_rfl) ?h2a ?h2b
 case h2a =>
  refine zaa (.pointer (some ⟨w.heap.size + 1,8,none⟩)) rfl (zad rfl rfl (fldS2 _ ·)) ?_;simp only [aP,lA,lZ,lS]
  refine zaa (nv z.val) rfl (zac rfl rfl b1 rfl uN rfl (iN _)) ?_;simp only [aP,lA,lZ,lS]
  refine zaa (.bool false) rfl (zaf (args:=[nv z.val]) rfl rfl (fun W => zab Tryd.func70 rfl rfl _ W) (fun W hW => isz_no kz0.out (zdq _) W)) ?_;simp only [aP,lA,lZ,lS]
  exact zah
 refine zam rfl ?_
 intro w3 hE
 replace b0:=hE.block b0
 replace b1:=hE.block b1
 replace b2:=hE.block b2
 replace b3:=hE.block b3
 replace hf:=hf.ext hE
 replace hx:=hx.trans hE
 clear hE
 go_upto_region 5 with (fail)
 refine' zaj (m:=7) (A:=_) (by kernel_rfl) ?h3a ?h3b
 case h3a =>
  refine zaa (.pointer (some ⟨w.heap.size,2,none⟩)) rfl (zad rfl rfl (fldK2 _ ·)) ?_;simp only [aP,lA,lZ,lS]
  refine zaa (fv 33 b) rfl (zai rfl rfl b0 rfl (zas ·)) ?_;simp only [aP,lA,lZ,lS]
  refine zaa (.pointer (some ⟨w.heap.size + 1,8,none⟩)) rfl (zad rfl rfl (fldS2 _ ·)) ?_;simp only [aP,lA,lZ,lS]
  refine zaa (nv z.val) rfl (zac rfl rfl b1 rfl uN rfl (iN _)) ?_;simp only [aP,lA,lZ,lS]
  refine zaa (.pointer (some ⟨w.heap.size + 1,8,none⟩)) rfl (zad rfl rfl (fldS2 _ ·)) ?_;simp only [aP,lA,lZ,lS]
  refine zaa (nv z.val) rfl (zac rfl rfl b1 rfl uN rfl (iN _)) ?_;simp only [aP,lA,lZ,lS]
  refine zaa (nv zz.val) rfl (zav (args:=[nv z.val,nv z.val]) rfl rfl rfl (zbg _ ·) (fun W hW => zbk kzz.out (hf.ext hW))) ?_;simp only [aP,lA,lZ,lS]
  exact zah
 refine zcm _ _ rfl rfl rfl rfl rfl rfl rfl (hzN ·) (fun _ => rfl) (fun _ => rfl) (iN _) rfl (zbe _) ?_
 intro gzz w4 hgzz bzz hE
 replace b0:=hE.block b0
 replace b1:=hE.block b1
 replace b2:=hE.block b2
 replace b3:=hE.block b3
 replace hf:=hf.ext hE
 replace hx:=hx.trans hE
 clear hE
 simp only [aP,lA,lZ,lS]
 clear hgzz
 go_upto_region 6 with (fail)
 refine' zbn (m:=11) (A:=_) 12 (by kernel_rfl) (by kernel_rfl) (by kernel_rfl) ?h4a ?h4b
 case h4a =>
  refine zaa (.pointer (some ⟨w.heap.size,1,none⟩)) rfl (zad rfl rfl (fldK1 _ ·)) ?_;simp only [aP,lA,lZ,lS]
  refine zaa (fv 69 b) rfl (zai rfl rfl b0 rfl (zas ·)) ?_;simp only [aP,lA,lZ,lS]
  refine zaa (.pointer (some ⟨w.heap.size,2,none⟩)) rfl (zad rfl rfl (fldK2 _ ·)) ?_;simp only [aP,lA,lZ,lS]
  refine zaa (fv 33 b) rfl (zai rfl rfl b0 rfl (zas ·)) ?_;simp only [aP,lA,lZ,lS]
  refine zaa (ptrTo (w.heap.size + 1 + 1)) rfl (zad rfl rfl (fldT0 _ ·)) ?_;simp only [aP,lA,lZ,lS]
  refine zaa (nv X.val) rfl (zac rfl rfl b2 rfl uN rfl (iN _)) ?_;simp only [aP,lA,lZ,lS]
  refine zaa (nv zz.val) rfl (zac rfl rfl bzz rfl uN rfl (iN _)) ?_;simp only [aP,lA,lZ,lS]
  refine zaa (nv u.val) rfl (zav (args:=[nv X.val,nv zz.val]) rfl rfl rfl (zbg _ ·) (fun W hW => zbk ku.out (hf.ext hW))) ?_;simp only [aP,lA,lZ,lS]
  refine zaa (ptrTo (w.heap.size + 1)) rfl (zad rfl rfl (fldS0 _ ·)) ?_;simp only [aP,lA,lZ,lS]
  refine zaa (nv x.val) rfl (zac rfl rfl b1 rfl uN rfl (iN _)) ?_;simp only [aP,lA,lZ,lS]
  refine zaa (nv run.val) rfl (zav (args:=[nv u.val,nv x.val]) rfl rfl rfl (zcx _ ·) (fun W hW => zdh krun.out (hf.ext hW))) ?_;simp only [aP,lA,lZ,lS]
  exact zah
 refine zcn _ _ rfl rfl rfl rfl rfl rfl rfl rfl rfl (by kernel_rfl) (by kernel_rfl) (by kernel_rfl) rfl rfl (hzN ·) (fun _ => rfl) (fun _ => rfl) (iN _) rfl (zbe _) ?_
 intro grun w5 hgrun brun hE
 refine NoPanic.normal ?_
 replace b0:=hE.block b0
 replace b1:=hE.block b1
 replace b2:=hE.block b2
 replace b3:=hE.block b3
 replace bzz:=hE.block bzz
 replace hf:=hf.ext hE
 replace hx:=hx.trans hE
 clear hE
 simp only [aP,lA,lZ,lS]
 clear hgrun
 go_upto_region 7 with (fail)
 refine' zbn (m:=16) (A:=_) 17 (by kernel_rfl) (by kernel_rfl) (by kernel_rfl) ?h5a ?h5b
 case h5a =>
  refine zaa (.pointer (some ⟨w.heap.size,1,none⟩)) rfl (zad rfl rfl (fldK1 _ ·)) ?_;simp only [aP,lA,lZ,lS]
  refine zaa (fv 69 b) rfl (zai rfl rfl b0 rfl (zas ·)) ?_;simp only [aP,lA,lZ,lS]
  refine zaa (.pointer (some ⟨w.heap.size,2,none⟩)) rfl (zad rfl rfl (fldK2 _ ·)) ?_;simp only [aP,lA,lZ,lS]
  refine zaa (fv 33 b) rfl (zai rfl rfl b0 rfl (zas ·)) ?_;simp only [aP,lA,lZ,lS]
  refine zaa (.pointer (some ⟨w.heap.size + 1 + 1,4,none⟩)) rfl (zad rfl rfl (fldT1 _ ·)) ?_;simp only [aP,lA,lZ,lS]
  refine zaa (nv Y.val) rfl (zac rfl rfl b2 rfl uN rfl (iN _)) ?_;simp only [aP,lA,lZ,lS]
  refine zaa (.pointer (some ⟨w.heap.size,2,none⟩)) rfl (zad rfl rfl (fldK2 _ ·)) ?_;simp only [aP,lA,lZ,lS]
  refine zaa (fv 33 b) rfl (zai rfl rfl b0 rfl (zas ·)) ?_;simp only [aP,lA,lZ,lS]
  refine zaa (nv zz.val) rfl (zac rfl rfl bzz rfl uN rfl (iN _)) ?_;simp only [aP,lA,lZ,lS]
  refine zaa (.pointer (some ⟨w.heap.size + 1,8,none⟩)) rfl (zad rfl rfl (fldS2 _ ·)) ?_;simp only [aP,lA,lZ,lS]
  refine zaa (nv z.val) rfl (zac rfl rfl b1 rfl uN rfl (iN _)) ?_;simp only [aP,lA,lZ,lS]
  refine zaa (nv zzz.val) rfl (zav (args:=[nv zz.val,nv z.val]) rfl rfl rfl (zbg _ ·) (fun W hW => zbk kzzz.out (hf.ext hW))) ?_;simp only [aP,lA,lZ,lS]
  refine zaa (nv v.val) rfl (zav (args:=[nv Y.val,nv zzz.val]) rfl rfl rfl (zbg _ ·) (fun W hW => zbk kv.out (hf.ext hW))) ?_;simp only [aP,lA,lZ,lS]
  refine zaa (.pointer (some ⟨w.heap.size + 1,4,none⟩)) rfl (zad rfl rfl (fldS1 _ ·)) ?_;simp only [aP,lA,lZ,lS]
  refine zaa (nv y.val) rfl (zac rfl rfl b1 rfl uN rfl (iN _)) ?_;simp only [aP,lA,lZ,lS]
  refine zaa (nv rise.val) rfl (zav (args:=[nv v.val,nv y.val]) rfl rfl rfl (zcx _ ·) (fun W hW => zdh krise.out (hf.ext hW))) ?_;simp only [aP,lA,lZ,lS]
  exact zah
 refine zcn _ _ rfl rfl rfl rfl rfl rfl rfl rfl rfl (by kernel_rfl) (by kernel_rfl) (by kernel_rfl) rfl rfl (hzN ·) (fun _ => rfl) (fun _ => rfl) (iN _) rfl (zbe _) ?_
 intro grise w6 hgrise brise hE
 refine NoPanic.normal ?_
 replace b0:=hE.block b0
 replace b1:=hE.block b1
 replace b3:=hE.block b3
 replace brun:=hE.block brun
 replace hf:=hf.ext hE
 replace hx:=hx.trans hE
 clear hE
 simp only [aP,lA,lZ,lS]
 clear hgrise
 go_upto_region 8 with (fail)
 refine' zaj (m:=2) (A:=_) (by kernel_rfl) ?h6a ?h6b
 case h6a =>
  refine zaa (nv run.val) rfl (zac rfl rfl brun rfl uN rfl (iN _)) ?_;simp only [aP,lA,lZ,lS]
  refine zaa (.bool true) rfl (zaf (args:=[nv run.val]) rfl rfl (fun W => zab Tryd.func70 rfl rfl _ W) (fun W hW => zhe kr.out W)) ?_;simp only [aP,lA,lZ,lS]
  exact zah
 refine zam rfl ?_
 intro w7 hE
 replace b0:=hE.block b0
 replace b1:=hE.block b1
 replace b3:=hE.block b3
 replace brise:=hE.block brise
 replace hf:=hf.ext hE
 replace hx:=hx.trans hE
 clear hE
 go_upto_region 9 with (fail)
 refine' zaj (m:=2) (A:=_) (by kernel_rfl) ?h7a ?h7b
 case h7a =>
  refine zaa (nv rise.val) rfl (zac rfl rfl brise rfl uN rfl (iN _)) ?_;simp only [aP,lA,lZ,lS]
  refine zaa (.bool true) rfl (zaf (args:=[nv rise.val]) rfl rfl (fun W => zab Tryd.func70 rfl rfl _ W) (fun W hW => zhe ks.out W)) ?_;simp only [aP,lA,lZ,lS]
  exact zah
 refine zam rfl ?_
 intro w8 hE
 replace b0:=hE.block b0
 replace b1:=hE.block b1
 replace b3:=hE.block b3
 replace hf:=hf.ext hE
 replace hx:=hx.trans hE
 clear hE
 go_upto_region 10 with (fail)
 refine' zaj (m:=3) (A:=_) (by kernel_rfl) ?h8a ?h8b
 case h8a =>
  refine zaa (cv b) rfl (zac rfl rfl b0 rfl Tryd.underlying75 rfl (iK _)) ?_;simp only [aP,lA,lZ,lS]
  refine zaa (sv x.val y.val z.val) rfl (zac rfl rfl b1 rfl Tryd.underlying88 rfl (iS _ _ _)) ?_;simp only [aP,lA,lZ,lS]
  refine zaa (sv X3.val Y3.val Z3.val) rfl (zaf (args:=[cv b,sv x.val y.val z.val]) rfl rfl (fun W => zab Tryd.func50 rfl rfl _ W) (fun W hW => KT.out W (hf.ext hW))) ?_;simp only [aP,lA,lZ,lS]
  exact zah
 refine zbj _ rfl rfl rfl rfl rfl rfl b3 (iS _ _ _) rfl (zen _ _ _) ?_
 intro w9 hB hb
 go_wp2
 exact bodyPost_ret (results_cell_row rfl _ _ (w.heap.size + 1 + 1 + 1) 88 (sc X3.val Y3.val Z3.val) (0,0) _ rfl hb Tryd.underlying88 rfl (by kernel_rfl)) rfl ⟨rfl,hx.new hB (by omega)⟩
theorem plus_opp {b : Nat} (x y z X Y : Fe) (hz : z.val ≠ 0) (hr : (runOf x z X).val = 0) (hs : (riseOf y z Y).val ≠ 0) {w : World} (hF : Fp w b) :
  Calls Tryd.prog 52 #[cv b,sv x.val y.val z.val,qv X.val Y.val false] w fun e w' => e = .returned (sv 0 0 0) ∧ Ext w w':=by
 obtain ⟨zz,hzz⟩ : ∃ t : Fe,t = z * z:=⟨_,rfl⟩
 obtain ⟨u,hu⟩ : ∃ t : Fe,t = X * zz:=⟨_,rfl⟩
 obtain ⟨run,hrun⟩ : ∃ t : Fe,t = u - x:=⟨_,rfl⟩
 obtain ⟨zzz,hzzz⟩ : ∃ t : Fe,t = zz * z:=⟨_,rfl⟩
 obtain ⟨v,hv⟩ : ∃ t : Fe,t = Y * zzz:=⟨_,rfl⟩
 obtain ⟨rise,hrise⟩ : ∃ t : Fe,t = v - y:=⟨_,rfl⟩
 have h1 : runOf x z X = run:=by subst hrun hu hzz; rfl
 have h2 : riseOf y z Y = rise:=by subst hrise hv hzzz hzz; rfl
 rw [h1] at hr
 rw [h2] at hs
 clear h1 h2
 have kzz:=veil hzz
 have ku:=veil hu
 have krun:=veil hrun
 have kzzz:=veil hzzz
 have kv:=veil hv
 have krise:=veil hrise
 clear hrise hv hzzz hrun hu hzz
 have kz0:=veil hz
 have kr:=veil hr
 have ks:=veil hs
 clear hz hr hs
 unfold cv sv qv cc fv sc qc
 go_enter Tryd.func52,Tryd.ntmps52
 go_upto_region 1 with (fail)
 obtain ⟨hx,b0,b1,b2,b3⟩:=blocks4 w (.cells #[.func (.func 67) #[ptrTo b] #[],.func (.func 69) #[ptrTo b] #[],.func (.func 33) #[ptrTo b] #[],.func (.func 31) #[ptrTo b] #[]] 75) (.cells #[.int .u64 (wd (x.val) 0),.int .u64 (wd (x.val) 1),.int .u64 (wd (x.val) 2),.int .u64 (wd (x.val) 3),.int .u64 (wd (y.val) 0),.int .u64 (wd (y.val) 1),.int .u64 (wd (y.val) 2),.int .u64 (wd (y.val) 3),.int .u64 (wd (z.val) 0),.int .u64 (wd (z.val) 1),.int .u64 (wd (z.val) 2),.int .u64 (wd (z.val) 3)] 88) (.cells #[.int .u64 (wd (X.val) 0),.int .u64 (wd (X.val) 1),.int .u64 (wd (X.val) 2),.int .u64 (wd (X.val) 3),.int .u64 (wd (Y.val) 0),.int .u64 (wd (Y.val) 1),.int .u64 (wd (Y.val) 2),.int .u64 (wd (Y.val) 3),.bool (false)] 40) (.cells #[.int .u64 0,.int .u64 0,.int .u64 0,.int .u64 0,.int .u64 0,.int .u64 0,.int .u64 0,.int .u64 0,.int .u64 0,.int .u64 0,.int .u64 0,.int .u64 0] 88)
 generalize (((w.alloc (.cells #[.func (.func 67) #[ptrTo b] #[],.func (.func 69) #[ptrTo b] #[],.func (.func 33) #[ptrTo b] #[],.func (.func 31) #[ptrTo b] #[]] 75)).alloc (.cells #[.int .u64 (wd (x.val) 0),.int .u64 (wd (x.val) 1),.int .u64 (wd (x.val) 2),.int .u64 (wd (x.val) 3),.int .u64 (wd (y.val) 0),.int .u64 (wd (y.val) 1),.int .u64 (wd (y.val) 2),.int .u64 (wd (y.val) 3),.int .u64 (wd (z.val) 0),.int .u64 (wd (z.val) 1),.int .u64 (wd (z.val) 2),.int .u64 (wd (z.val) 3)] 88)).alloc (.cells #[.int .u64 (wd (X.val) 0),.int .u64 (wd (X.val) 1),.int .u64 (wd (X.val) 2),.int .u64 (wd (X.val) 3),.int .u64 (wd (Y.val) 0),.int .u64 (wd (Y.val) 1),.int .u64 (wd (Y.val) 2),.int .u64 (wd (Y.val) 3),.bool (false)] 40)).alloc (.cells #[.int .u64 0,.int .u64 0,.int .u64 0,.int .u64 0,.int .u64 0,.int .u64 0,.int .u64 0,.int .u64 0,.int .u64 0,.int .u64 0,.int .u64 0,.int .u64 0] 88) = w1 at *
 have b0 : w1.heap[w.heap.size]? = some (.cells (cc b) 75 (0,0)):=b0
 have b1 : w1.heap[w.heap.size + 1]? = some (.cells (sc x.val y.val z.val) 88 (0,0)):=b1
 have b2 : w1.heap[w.heap.size + 1 + 1]? = some (.cells (qc X.val Y.val false) 40 (0,0)):=b2
 have hf:=hF.ext hx
 clear hF
 refine' zaj (m:=2) (A:=_) (by kernel_rfl) ?h1 ?h2
 case h1 =>
  refine zaa (.pointer (some ⟨w.heap.size + 1 + 1,8,none⟩)) rfl (zad rfl rfl (fldT2 _ ·)) ?_;simp only [aP,lA,lZ,lS]
  refine zaa (.bool false) rfl (zai rfl rfl b2 rfl (zbr ·)) ?_;simp only [aP,lA,lZ,lS]
  exact zah
 refine zam rfl ?_
 intro w2 hE
 replace b0:=hE.block b0
 replace b1:=hE.block b1
 replace b2:=hE.block b2
 replace b3:=hE.block b3
 replace hf:=hf.ext hE
 replace hx:=hx.trans hE
 clear hE
 go_upto_region 3 with (fail)
 refine' zaj (m:=3) (A:=_) (by kernel_rfl) ?h2a ?h2b
 case h2a =>
  refine zaa (.pointer (some ⟨w.heap.size + 1,8,none⟩)) rfl (zad rfl rfl (fldS2 _ ·)) ?_;simp only [aP,lA,lZ,lS]
  refine zaa (nv z.val) rfl (zac rfl rfl b1 rfl uN rfl (iN _)) ?_;simp only [aP,lA,lZ,lS]
  refine zaa (.bool false) rfl (zaf (args:=[nv z.val]) rfl rfl (fun W => zab Tryd.func70 rfl rfl _ W) (fun W hW => isz_no kz0.out (zdq _) W)) ?_;simp only [aP,lA,lZ,lS]
  exact zah
 refine zam rfl ?_
 intro w3 hE
 replace b0:=hE.block b0
 replace b1:=hE.block b1
 replace b2:=hE.block b2
 replace b3:=hE.block b3
 replace hf:=hf.ext hE
 replace hx:=hx.trans hE
 clear hE
 go_upto_region 5 with (fail)
 refine' zaj (m:=7) (A:=_) (by kernel_rfl) ?h3a ?h3b
 case h3a =>
  refine zaa (.pointer (some ⟨w.heap.size,2,none⟩)) rfl (zad rfl rfl (fldK2 _ ·)) ?_;simp only [aP,lA,lZ,lS]
  refine zaa (fv 33 b) rfl (zai rfl rfl b0 rfl (zas ·)) ?_;simp only [aP,lA,lZ,lS]
  refine zaa (.pointer (some ⟨w.heap.size + 1,8,none⟩)) rfl (zad rfl rfl (fldS2 _ ·)) ?_;simp only [aP,lA,lZ,lS]
  refine zaa (nv z.val) rfl (zac rfl rfl b1 rfl uN rfl (iN _)) ?_;simp only [aP,lA,lZ,lS]
  refine zaa (.pointer (some ⟨w.heap.size + 1,8,none⟩)) rfl (zad rfl rfl (fldS2 _ ·)) ?_;simp only [aP,lA,lZ,lS]
  refine zaa (nv z.val) rfl (zac rfl rfl b1 rfl uN rfl (iN _)) ?_;simp only [aP,lA,lZ,lS]
  refine zaa (nv zz.val) rfl (zav (args:=[nv z.val,nv z.val]) rfl rfl rfl (zbg _ ·) (fun W hW => zbk kzz.out (hf.ext hW))) ?_;simp only [aP,lA,lZ,lS]
  exact zah
 refine zcm _ _ rfl rfl rfl rfl rfl rfl rfl (hzN ·) (fun _ => rfl) (fun _ => rfl) (iN _) rfl (zbe _) ?_
 intro gzz w4 hgzz bzz hE
 replace b0:=hE.block b0
 replace b1:=hE.block b1
 replace b2:=hE.block b2
 replace b3:=hE.block b3
 replace hf:=hf.ext hE
 replace hx:=hx.trans hE
 clear hE
 simp only [aP,lA,lZ,lS]
 clear hgzz
 go_upto_region 6 with (fail)
 refine' zbn (m:=11) (A:=_) 12 (by kernel_rfl) (by kernel_rfl) (by kernel_rfl) ?h4a ?h4b
 case h4a =>
  refine zaa (.pointer (some ⟨w.heap.size,1,none⟩)) rfl (zad rfl rfl (fldK1 _ ·)) ?_;simp only [aP,lA,lZ,lS]
  refine zaa (fv 69 b) rfl (zai rfl rfl b0 rfl (zas ·)) ?_;simp only [aP,lA,lZ,lS]
  refine zaa (.pointer (some ⟨w.heap.size,2,none⟩)) rfl (zad rfl rfl (fldK2 _ ·)) ?_;simp only [aP,lA,lZ,lS]
  refine zaa (fv 33 b) rfl (zai rfl rfl b0 rfl (zas ·)) ?_;simp only [aP,lA,lZ,lS]
  refine zaa (ptrTo (w.heap.size + 1 + 1)) rfl (zad rfl rfl (fldT0 _ ·)) ?_;simp only [aP,lA,lZ,lS]
  refine zaa (nv X.val) rfl (zac rfl rfl b2 rfl uN rfl (iN _)) ?_;simp only [aP,lA,lZ,lS]
  refine zaa (nv zz.val) rfl (zac rfl rfl bzz rfl uN rfl (iN _)) ?_;simp only [aP,lA,lZ,lS]
  refine zaa (nv u.val) rfl (zav (args:=[nv X.val,nv zz.val]) rfl rfl rfl (zbg _ ·) (fun W hW => zbk ku.out (hf.ext hW))) ?_;simp only [aP,lA,lZ,lS]
  refine zaa (ptrTo (w.heap.size + 1)) rfl (zad rfl rfl (fldS0 _ ·)) ?_;simp only [aP,lA,lZ,lS]
  refine zaa (nv x.val) rfl (zac rfl rfl b1 rfl uN rfl (iN _)) ?_;simp only [aP,lA,lZ,lS]
  refine zaa (nv run.val) rfl (zav (args:=[nv u.val,nv x.val]) rfl rfl rfl (zcx _ ·) (fun W hW => zdh krun.out (hf.ext hW))) ?_;simp only [aP,lA,lZ,lS]
  exact zah
 refine zcn _ _ rfl rfl rfl rfl rfl rfl rfl rfl rfl (by kernel_rfl) (by kernel_rfl) (by kernel_rfl) rfl rfl (hzN ·) (fun _ => rfl) (fun _ => rfl) (iN _) rfl (zbe _) ?_
 intro grun w5 hgrun brun hE
 refine NoPanic.normal ?_
 replace b0:=hE.block b0
 replace b1:=hE.block b1
 replace b2:=hE.block b2
 replace b3:=hE.block b3
 replace bzz:=hE.block bzz
 replace hf:=hf.ext hE
 replace hx:=hx.trans hE
 clear hE
 simp only [aP,lA,lZ,lS]
 clear hgrun
 go_upto_region 7 with (fail)
 refine' zbn (m:=16) (A:=_) 17 (by kernel_rfl) (by kernel_rfl) (by kernel_rfl) ?h5a ?h5b
 case h5a =>
  refine zaa (.pointer (some ⟨w.heap.size,1,none⟩)) rfl (zad rfl rfl (fldK1 _ ·)) ?_;simp only [aP,lA,lZ,lS]
  refine zaa (fv 69 b) rfl (zai rfl rfl b0 rfl (zas ·)) ?_;simp only [aP,lA,lZ,lS]
  refine zaa (.pointer (some ⟨w.heap.size,2,none⟩)) rfl (zad rfl rfl (fldK2 _ ·)) ?_;simp only [aP,lA,lZ,lS]
  refine zaa (fv 33 b) rfl (zai rfl rfl b0 rfl (zas ·)) ?_;simp only [aP,lA,lZ,lS]
  refine zaa (.pointer (some ⟨w.heap.size + 1 + 1,4,none⟩)) rfl (zad rfl rfl (fldT1 _ ·)) ?_;simp only [aP,lA,lZ,lS]
  refine zaa (nv Y.val) rfl (zac rfl rfl b2 rfl uN rfl (iN _)) ?_;simp only [aP,lA,lZ,lS]
  refine zaa (.pointer (some ⟨w.heap.size,2,none⟩)) rfl (zad rfl rfl (fldK2 _ ·)) ?_;simp only [aP,lA,lZ,lS]
  refine zaa (fv 33 b) rfl (zai rfl rfl b0 rfl (zas ·)) ?_;simp only [aP,lA,lZ,lS]
  refine zaa (nv zz.val) rfl (zac rfl rfl bzz rfl uN rfl (iN _)) ?_;simp only [aP,lA,lZ,lS]
  refine zaa (.pointer (some ⟨w.heap.size + 1,8,none⟩)) rfl (zad rfl rfl (fldS2 _ ·)) ?_;simp only [aP,lA,lZ,lS]
  refine zaa (nv z.val) rfl (zac rfl rfl b1 rfl uN rfl (iN _)) ?_;simp only [aP,lA,lZ,lS]
  refine zaa (nv zzz.val) rfl (zav (args:=[nv zz.val,nv z.val]) rfl rfl rfl (zbg _ ·) (fun W hW => zbk kzzz.out (hf.ext hW))) ?_;simp only [aP,lA,lZ,lS]
  refine zaa (nv v.val) rfl (zav (args:=[nv Y.val,nv zzz.val]) rfl rfl rfl (zbg _ ·) (fun W hW => zbk kv.out (hf.ext hW))) ?_;simp only [aP,lA,lZ,lS]
  refine zaa (.pointer (some ⟨w.heap.size + 1,4,none⟩)) rfl (zad rfl rfl (fldS1 _ ·)) ?_;simp only [aP,lA,lZ,lS]
  refine zaa (nv y.val) rfl (zac rfl rfl b1 rfl uN rfl (iN _)) ?_;simp only [aP,lA,lZ,lS]
  refine zaa (nv rise.val) rfl (zav (args:=[nv v.val,nv y.val]) rfl rfl rfl (zcx _ ·) (fun W hW => zdh krise.out (hf.ext hW))) ?_;simp only [aP,lA,lZ,lS]
  exact zah
 refine zcn _ _ rfl rfl rfl rfl rfl rfl rfl rfl rfl (by kernel_rfl) (by kernel_rfl) (by kernel_rfl) rfl rfl (hzN ·) (fun _ => rfl) (fun _ => rfl) (iN _) rfl (zbe _) ?_
 intro grise w6 hgrise brise hE
 refine NoPanic.normal ?_
 replace b3:=hE.block b3
 replace brun:=hE.block brun
 replace hf:=hf.ext hE
 replace hx:=hx.trans hE
 clear hE
 simp only [aP,lA,lZ,lS]
 clear hgrise
 go_upto_region 8 with (fail)
 refine' zaj (m:=2) (A:=_) (by kernel_rfl) ?h6a ?h6b
 case h6a =>
  refine zaa (nv run.val) rfl (zac rfl rfl brun rfl uN rfl (iN _)) ?_;simp only [aP,lA,lZ,lS]
  refine zaa (.bool true) rfl (zaf (args:=[nv run.val]) rfl rfl (fun W => zab Tryd.func70 rfl rfl _ W) (fun W hW => zhe kr.out W)) ?_;simp only [aP,lA,lZ,lS]
  exact zah
 refine zam rfl ?_
 intro w7 hE
 replace b3:=hE.block b3
 replace brise:=hE.block brise
 replace hf:=hf.ext hE
 replace hx:=hx.trans hE
 clear hE
 go_upto_region 9 with (fail)
 refine' zaj (m:=2) (A:=_) (by kernel_rfl) ?h7a ?h7b
 case h7a =>
  refine zaa (nv rise.val) rfl (zac rfl rfl brise rfl uN rfl (iN _)) ?_;simp only [aP,lA,lZ,lS]
  refine zaa (.bool false) rfl (zaf (args:=[nv rise.val]) rfl rfl (fun W => zab Tryd.func70 rfl rfl _ W) (fun W hW => isz_no ks.out (zdq _) W)) ?_;simp only [aP,lA,lZ,lS]
  exact zah
 refine zam rfl ?_
 intro w8 hE
 replace b3:=hE.block b3
 replace hf:=hf.ext hE
 replace hx:=hx.trans hE
 clear hE
 go_upto_region 11 with (fail)
 refine' zaj (m:=1) (A:=_) (by kernel_rfl) ?h8a ?h8b
 case h8a =>
  refine zaa (sv 0 0 0) rfl (zau rfl rfl (bldS0 ·)) ?_;simp only [aP,lA,lZ,lS]
  exact zah
 refine zbj _ rfl rfl rfl rfl rfl rfl b3 (iS _ _ _) rfl (zen _ _ _) ?_
 intro w9 hB hb
 go_wp2
 exact bodyPost_ret (results_cell_row rfl _ _ (w.heap.size + 1 + 1 + 1) 88 (sc 0 0 0) (0,0) _ rfl hb Tryd.underlying88 rfl (by kernel_rfl)) rfl ⟨rfl,hx.new hB (by omega)⟩
theorem plus_else {b : Nat} (x y z X Y : Fe) (hz : z.val ≠ 0) (hr : (runOf x z X).val ≠ 0) {w : World} (hF : Fp w b) :
  Calls Tryd.prog 52 #[cv b,sv x.val y.val z.val,qv X.val Y.val false] w fun e w' => e = .returned (sv (plus3 x y z X Y).1.val (plus3 x y z X Y).2.1.val (plus3 x y z X Y).2.2.val) ∧ Ext w w':=by
 obtain ⟨zz,hzz⟩ : ∃ t : Fe,t = z * z:=⟨_,rfl⟩
 obtain ⟨u,hu⟩ : ∃ t : Fe,t = X * zz:=⟨_,rfl⟩
 obtain ⟨run,hrun⟩ : ∃ t : Fe,t = u - x:=⟨_,rfl⟩
 obtain ⟨zzz,hzzz⟩ : ∃ t : Fe,t = zz * z:=⟨_,rfl⟩
 obtain ⟨v,hv⟩ : ∃ t : Fe,t = Y * zzz:=⟨_,rfl⟩
 obtain ⟨rise,hrise⟩ : ∃ t : Fe,t = v - y:=⟨_,rfl⟩
 obtain ⟨sq,hsq⟩ : ∃ t : Fe,t = run * run:=⟨_,rfl⟩
 obtain ⟨cube,hcube⟩ : ∃ t : Fe,t = sq * run:=⟨_,rfl⟩
 obtain ⟨cross,hcross⟩ : ∃ t : Fe,t = x * sq:=⟨_,rfl⟩
 obtain ⟨rr,hrr⟩ : ∃ t : Fe,t = rise * rise:=⟨_,rfl⟩
 obtain ⟨r1,hr1⟩ : ∃ t : Fe,t = rr - cube:=⟨_,rfl⟩
 obtain ⟨c2,hc2⟩ : ∃ t : Fe,t = cross + cross:=⟨_,rfl⟩
 obtain ⟨x3,hx3⟩ : ∃ t : Fe,t = r1 - c2:=⟨_,rfl⟩
 obtain ⟨d,hd⟩ : ∃ t : Fe,t = cross - x3:=⟨_,rfl⟩
 obtain ⟨rd,hrd⟩ : ∃ t : Fe,t = rise * d:=⟨_,rfl⟩
 obtain ⟨yc,hyc⟩ : ∃ t : Fe,t = y * cube:=⟨_,rfl⟩
 obtain ⟨y3,hy3⟩ : ∃ t : Fe,t = rd - yc:=⟨_,rfl⟩
 obtain ⟨z3,hz3⟩ : ∃ t : Fe,t = z * run:=⟨_,rfl⟩
 have h1 : runOf x z X = run:=by subst hrun hu hzz; rfl
 rw [h1] at hr
 clear h1
 have hfin : plus3 x y z X Y = (x3,y3,z3):=by
  subst hz3 hy3 hyc hrd hd hx3 hc2 hr1 hrr hcross hcube hsq hrise hv hzzz hrun hu hzz
  rfl
 rw [hfin]
 clear hfin
 have kzz:=veil hzz
 have ku:=veil hu
 have krun:=veil hrun
 have kzzz:=veil hzzz
 have kv:=veil hv
 have krise:=veil hrise
 have ksq:=veil hsq
 have kcube:=veil hcube
 have kcross:=veil hcross
 have krr:=veil hrr
 have kr1:=veil hr1
 have kc2:=veil hc2
 have kx3:=veil hx3
 have kd:=veil hd
 have krd:=veil hrd
 have kyc:=veil hyc
 have ky3:=veil hy3
 have kz3:=veil hz3
 clear hz3 hy3 hyc hrd hd hx3 hc2 hr1 hrr hcross hcube hsq hrise hv hzzz hrun hu hzz
 have kz0:=veil hz
 have kr:=veil hr
 clear hz hr
 show Calls Tryd.prog 52 #[cv b,sv x.val y.val z.val,qv X.val Y.val false] w fun e w' => e = .returned (sv x3.val y3.val z3.val) ∧ Ext w w'
 unfold cv sv qv cc fv sc qc
 go_enter Tryd.func52,Tryd.ntmps52
 go_upto_region 1 with (fail)
 obtain ⟨hx,b0,b1,b2,b3⟩:=blocks4 w (.cells #[.func (.func 67) #[ptrTo b] #[],.func (.func 69) #[ptrTo b] #[],.func (.func 33) #[ptrTo b] #[],.func (.func 31) #[ptrTo b] #[]] 75) (.cells #[.int .u64 (wd (x.val) 0),.int .u64 (wd (x.val) 1),.int .u64 (wd (x.val) 2),.int .u64 (wd (x.val) 3),.int .u64 (wd (y.val) 0),.int .u64 (wd (y.val) 1),.int .u64 (wd (y.val) 2),.int .u64 (wd (y.val) 3),.int .u64 (wd (z.val) 0),.int .u64 (wd (z.val) 1),.int .u64 (wd (z.val) 2),.int .u64 (wd (z.val) 3)] 88) (.cells #[.int .u64 (wd (X.val) 0),.int .u64 (wd (X.val) 1),.int .u64 (wd (X.val) 2),.int .u64 (wd (X.val) 3),.int .u64 (wd (Y.val) 0),.int .u64 (wd (Y.val) 1),.int .u64 (wd (Y.val) 2),.int .u64 (wd (Y.val) 3),.bool (false)] 40) (.cells #[.int .u64 0,.int .u64 0,.int .u64 0,.int .u64 0,.int .u64 0,.int .u64 0,.int .u64 0,.int .u64 0,.int .u64 0,.int .u64 0,.int .u64 0,.int .u64 0] 88)
 generalize (((w.alloc (.cells #[.func (.func 67) #[ptrTo b] #[],.func (.func 69) #[ptrTo b] #[],.func (.func 33) #[ptrTo b] #[],.func (.func 31) #[ptrTo b] #[]] 75)).alloc (.cells #[.int .u64 (wd (x.val) 0),.int .u64 (wd (x.val) 1),.int .u64 (wd (x.val) 2),.int .u64 (wd (x.val) 3),.int .u64 (wd (y.val) 0),.int .u64 (wd (y.val) 1),.int .u64 (wd (y.val) 2),.int .u64 (wd (y.val) 3),.int .u64 (wd (z.val) 0),.int .u64 (wd (z.val) 1),.int .u64 (wd (z.val) 2),.int .u64 (wd (z.val) 3)] 88)).alloc (.cells #[.int .u64 (wd (X.val) 0),.int .u64 (wd (X.val) 1),.int .u64 (wd (X.val) 2),.int .u64 (wd (X.val) 3),.int .u64 (wd (Y.val) 0),.int .u64 (wd (Y.val) 1),.int .u64 (wd (Y.val) 2),.int .u64 (wd (Y.val) 3),.bool (false)] 40)).alloc (.cells #[.int .u64 0,.int .u64 0,.int .u64 0,.int .u64 0,.int .u64 0,.int .u64 0,.int .u64 0,.int .u64 0,.int .u64 0,.int .u64 0,.int .u64 0,.int .u64 0] 88) = w1 at *
 have b0 : w1.heap[w.heap.size]? = some (.cells (cc b) 75 (0,0)):=b0
 have b1 : w1.heap[w.heap.size + 1]? = some (.cells (sc x.val y.val z.val) 88 (0,0)):=b1
 have b2 : w1.heap[w.heap.size + 1 + 1]? = some (.cells (qc X.val Y.val false) 40 (0,0)):=b2
 have hf:=hF.ext hx
 clear hF
 refine' zaj (m:=2) (A:=_) (by kernel_rfl) ?h1 ?h2
 case h1 =>
  refine zaa (.pointer (some ⟨w.heap.size + 1 + 1,8,none⟩)) rfl (zad rfl rfl (fldT2 _ ·)) ?_;simp only [aP,lA,lZ,lS]
  refine zaa (.bool false) rfl (zai rfl rfl b2 rfl (zbr ·)) ?_;simp only [aP,lA,lZ,lS]
  exact zah
 refine zam rfl ?_
 intro w2 hE
 replace b0:=hE.block b0
 replace b1:=hE.block b1
 replace b2:=hE.block b2
 replace b3:=hE.block b3
 replace hf:=hf.ext hE
 replace hx:=hx.trans hE
 clear hE
 go_upto_region 3 with (fail)
 refine' zaj (m:=3) (A:=_) (by kernel_rfl) ?h2a ?h2b
 case h2a =>
  refine zaa (.pointer (some ⟨w.heap.size + 1,8,none⟩)) rfl (zad rfl rfl (fldS2 _ ·)) ?_;simp only [aP,lA,lZ,lS]
  refine zaa (nv z.val) rfl (zac rfl rfl b1 rfl uN rfl (iN _)) ?_;simp only [aP,lA,lZ,lS]
  refine zaa (.bool false) rfl (zaf (args:=[nv z.val]) rfl rfl (fun W => zab Tryd.func70 rfl rfl _ W) (fun W hW => isz_no kz0.out (zdq _) W)) ?_;simp only [aP,lA,lZ,lS]
  exact zah
 refine zam rfl ?_
 intro w3 hE
 replace b0:=hE.block b0
 replace b1:=hE.block b1
 replace b2:=hE.block b2
 replace b3:=hE.block b3
 replace hf:=hf.ext hE
 replace hx:=hx.trans hE
 clear hE
 go_upto_region 5 with (fail)
 refine' zaj (m:=7) (A:=_) (by kernel_rfl) ?h3a ?h3b
 case h3a =>
  refine zaa (.pointer (some ⟨w.heap.size,2,none⟩)) rfl (zad rfl rfl (fldK2 _ ·)) ?_;simp only [aP,lA,lZ,lS]
  refine zaa (fv 33 b) rfl (zai rfl rfl b0 rfl (zas ·)) ?_;simp only [aP,lA,lZ,lS]
  refine zaa (.pointer (some ⟨w.heap.size + 1,8,none⟩)) rfl (zad rfl rfl (fldS2 _ ·)) ?_;simp only [aP,lA,lZ,lS]
  refine zaa (nv z.val) rfl (zac rfl rfl b1 rfl uN rfl (iN _)) ?_;simp only [aP,lA,lZ,lS]
  refine zaa (.pointer (some ⟨w.heap.size + 1,8,none⟩)) rfl (zad rfl rfl (fldS2 _ ·)) ?_;simp only [aP,lA,lZ,lS]
  refine zaa (nv z.val) rfl (zac rfl rfl b1 rfl uN rfl (iN _)) ?_;simp only [aP,lA,lZ,lS]
  refine zaa (nv zz.val) rfl (zav (args:=[nv z.val,nv z.val]) rfl rfl rfl (zbg _ ·) (fun W hW => zbk kzz.out (hf.ext hW))) ?_;simp only [aP,lA,lZ,lS]
  exact zah
 refine zcm _ _ rfl rfl rfl rfl rfl rfl rfl (hzN ·) (fun _ => rfl) (fun _ => rfl) (iN _) rfl (zbe _) ?_
 intro gzz w4 hgzz bzz hE
 replace b0:=hE.block b0
 replace b1:=hE.block b1
 replace b2:=hE.block b2
 replace b3:=hE.block b3
 replace hf:=hf.ext hE
 replace hx:=hx.trans hE
 clear hE
 simp only [aP,lA,lZ,lS]
 clear hgzz
 go_upto_region 6 with (fail)
 refine' zbn (m:=11) (A:=_) 12 (by kernel_rfl) (by kernel_rfl) (by kernel_rfl) ?h4a ?h4b
 case h4a =>
  refine zaa (.pointer (some ⟨w.heap.size,1,none⟩)) rfl (zad rfl rfl (fldK1 _ ·)) ?_;simp only [aP,lA,lZ,lS]
  refine zaa (fv 69 b) rfl (zai rfl rfl b0 rfl (zas ·)) ?_;simp only [aP,lA,lZ,lS]
  refine zaa (.pointer (some ⟨w.heap.size,2,none⟩)) rfl (zad rfl rfl (fldK2 _ ·)) ?_;simp only [aP,lA,lZ,lS]
  refine zaa (fv 33 b) rfl (zai rfl rfl b0 rfl (zas ·)) ?_;simp only [aP,lA,lZ,lS]
  refine zaa (ptrTo (w.heap.size + 1 + 1)) rfl (zad rfl rfl (fldT0 _ ·)) ?_;simp only [aP,lA,lZ,lS]
  refine zaa (nv X.val) rfl (zac rfl rfl b2 rfl uN rfl (iN _)) ?_;simp only [aP,lA,lZ,lS]
  refine zaa (nv zz.val) rfl (zac rfl rfl bzz rfl uN rfl (iN _)) ?_;simp only [aP,lA,lZ,lS]
  refine zaa (nv u.val) rfl (zav (args:=[nv X.val,nv zz.val]) rfl rfl rfl (zbg _ ·) (fun W hW => zbk ku.out (hf.ext hW))) ?_;simp only [aP,lA,lZ,lS]
  refine zaa (ptrTo (w.heap.size + 1)) rfl (zad rfl rfl (fldS0 _ ·)) ?_;simp only [aP,lA,lZ,lS]
  refine zaa (nv x.val) rfl (zac rfl rfl b1 rfl uN rfl (iN _)) ?_;simp only [aP,lA,lZ,lS]
  refine zaa (nv run.val) rfl (zav (args:=[nv u.val,nv x.val]) rfl rfl rfl (zcx _ ·) (fun W hW => zdh krun.out (hf.ext hW))) ?_;simp only [aP,lA,lZ,lS]
  exact zah
 refine zcn _ _ rfl rfl rfl rfl rfl rfl rfl rfl rfl (by kernel_rfl) (by kernel_rfl) (by kernel_rfl) rfl rfl (hzN ·) (fun _ => rfl) (fun _ => rfl) (iN _) rfl (zbe _) ?_
 intro grun w5 hgrun brun hE
 refine NoPanic.normal ?_
 replace b0:=hE.block b0
 replace b1:=hE.block b1
 replace b2:=hE.block b2
 replace b3:=hE.block b3
 replace bzz:=hE.block bzz
 replace hf:=hf.ext hE
 replace hx:=hx.trans hE
 clear hE
 simp only [aP,lA,lZ,lS]
 clear hgrun
 go_upto_region 7 with (fail)
 refine' zbn (m:=16) (A:=_) 17 (by kernel_rfl) (by kernel_rfl) (by kernel_rfl) ?h5a ?h5b
 case h5a =>
  refine zaa (.pointer (some ⟨w.heap.size,1,none⟩)) rfl (zad rfl rfl (fldK1 _ ·)) ?_;simp only [aP,lA,lZ,lS]
  refine zaa (fv 69 b) rfl (zai rfl rfl b0 rfl (zas ·)) ?_;simp only [aP,lA,lZ,lS]
  refine zaa (.pointer (some ⟨w.heap.size,2,none⟩)) rfl (zad rfl rfl (fldK2 _ ·)) ?_;simp only [aP,lA,lZ,lS]
  refine zaa (fv 33 b) rfl (zai rfl rfl b0 rfl (zas ·)) ?_;simp only [aP,lA,lZ,lS]
  refine zaa (.pointer (some ⟨w.heap.size + 1 + 1,4,none⟩)) rfl (zad rfl rfl (fldT1 _ ·)) ?_;simp only [aP,lA,lZ,lS]
  refine zaa (nv Y.val) rfl (zac rfl rfl b2 rfl uN rfl (iN _)) ?_;simp only [aP,lA,lZ,lS]
  refine zaa (.pointer (some ⟨w.heap.size,2,none⟩)) rfl (zad rfl rfl (fldK2 _ ·)) ?_;simp only [aP,lA,lZ,lS]
  refine zaa (fv 33 b) rfl (zai rfl rfl b0 rfl (zas ·)) ?_;simp only [aP,lA,lZ,lS]
  refine zaa (nv zz.val) rfl (zac rfl rfl bzz rfl uN rfl (iN _)) ?_;simp only [aP,lA,lZ,lS]
  refine zaa (.pointer (some ⟨w.heap.size + 1,8,none⟩)) rfl (zad rfl rfl (fldS2 _ ·)) ?_;simp only [aP,lA,lZ,lS]
  refine zaa (nv z.val) rfl (zac rfl rfl b1 rfl uN rfl (iN _)) ?_;simp only [aP,lA,lZ,lS]
  refine zaa (nv zzz.val) rfl (zav (args:=[nv zz.val,nv z.val]) rfl rfl rfl (zbg _ ·) (fun W hW => zbk kzzz.out (hf.ext hW))) ?_;simp only [aP,lA,lZ,lS]
  refine zaa (nv v.val) rfl (zav (args:=[nv Y.val,nv zzz.val]) rfl rfl rfl (zbg _ ·) (fun W hW => zbk kv.out (hf.ext hW))) ?_;simp only [aP,lA,lZ,lS]
  refine zaa (.pointer (some ⟨w.heap.size + 1,4,none⟩)) rfl (zad rfl rfl (fldS1 _ ·)) ?_;simp only [aP,lA,lZ,lS]
  refine zaa (nv y.val) rfl (zac rfl rfl b1 rfl uN rfl (iN _)) ?_;simp only [aP,lA,lZ,lS]
  refine zaa (nv rise.val) rfl (zav (args:=[nv v.val,nv y.val]) rfl rfl rfl (zcx _ ·) (fun W hW => zdh krise.out (hf.ext hW))) ?_;simp only [aP,lA,lZ,lS]
  exact zah
 refine zcn _ _ rfl rfl rfl rfl rfl rfl rfl rfl rfl (by kernel_rfl) (by kernel_rfl) (by kernel_rfl) rfl rfl (hzN ·) (fun _ => rfl) (fun _ => rfl) (iN _) rfl (zbe _) ?_
 intro grise w6 hgrise brise hE
 refine NoPanic.normal ?_
 replace b0:=hE.block b0
 replace b1:=hE.block b1
 replace b3:=hE.block b3
 replace brun:=hE.block brun
 replace hf:=hf.ext hE
 replace hx:=hx.trans hE
 clear hE
 simp only [aP,lA,lZ,lS]
 clear hgrise
 go_upto_region 8 with (fail)
 refine' zaj (m:=2) (A:=_) (by kernel_rfl) ?h6a ?h6b
 case h6a =>
  refine zaa (nv run.val) rfl (zac rfl rfl brun rfl uN rfl (iN _)) ?_;simp only [aP,lA,lZ,lS]
  refine zaa (.bool false) rfl (zaf (args:=[nv run.val]) rfl rfl (fun W => zab Tryd.func70 rfl rfl _ W) (fun W hW => isz_no kr.out (zdq _) W)) ?_;simp only [aP,lA,lZ,lS]
  exact zah
 refine zam rfl ?_
 intro w7 hE
 replace b0:=hE.block b0
 replace b1:=hE.block b1
 replace b3:=hE.block b3
 replace brun:=hE.block brun
 replace brise:=hE.block brise
 replace hf:=hf.ext hE
 replace hx:=hx.trans hE
 clear hE
 go_upto_region 12 with (fail)
 refine' zaj (m:=5) (A:=_) (by kernel_rfl) ?h7a ?h7b
 case h7a =>
  refine zaa (.pointer (some ⟨w.heap.size,2,none⟩)) rfl (zad rfl rfl (fldK2 _ ·)) ?_;simp only [aP,lA,lZ,lS]
  refine zaa (fv 33 b) rfl (zai rfl rfl b0 rfl (zas ·)) ?_;simp only [aP,lA,lZ,lS]
  refine zaa (nv run.val) rfl (zac rfl rfl brun rfl uN rfl (iN _)) ?_;simp only [aP,lA,lZ,lS]
  refine zaa (nv run.val) rfl (zac rfl rfl brun rfl uN rfl (iN _)) ?_;simp only [aP,lA,lZ,lS]
  refine zaa (nv sq.val) rfl (zav (args:=[nv run.val,nv run.val]) rfl rfl rfl (zbg _ ·) (fun W hW => zbk ksq.out (hf.ext hW))) ?_;simp only [aP,lA,lZ,lS]
  exact zah
 refine zcm _ _ rfl rfl rfl rfl rfl rfl rfl (hzN ·) (fun _ => rfl) (fun _ => rfl) (iN _) rfl (zbe _) ?_
 intro gsq w8 hgsq bsq hE
 replace b0:=hE.block b0
 replace b1:=hE.block b1
 replace b3:=hE.block b3
 replace brun:=hE.block brun
 replace brise:=hE.block brise
 replace hf:=hf.ext hE
 replace hx:=hx.trans hE
 clear hE
 simp only [aP,lA,lZ,lS]
 clear hgsq
 go_upto_region 13 with (fail)
 refine' zaj (m:=5) (A:=_) (by kernel_rfl) ?h8a ?h8b
 case h8a =>
  refine zaa (.pointer (some ⟨w.heap.size,2,none⟩)) rfl (zad rfl rfl (fldK2 _ ·)) ?_;simp only [aP,lA,lZ,lS]
  refine zaa (fv 33 b) rfl (zai rfl rfl b0 rfl (zas ·)) ?_;simp only [aP,lA,lZ,lS]
  refine zaa (nv sq.val) rfl (zac rfl rfl bsq rfl uN rfl (iN _)) ?_;simp only [aP,lA,lZ,lS]
  refine zaa (nv run.val) rfl (zac rfl rfl brun rfl uN rfl (iN _)) ?_;simp only [aP,lA,lZ,lS]
  refine zaa (nv cube.val) rfl (zav (args:=[nv sq.val,nv run.val]) rfl rfl rfl (zbg _ ·) (fun W hW => zbk kcube.out (hf.ext hW))) ?_;simp only [aP,lA,lZ,lS]
  exact zah
 refine zcm _ _ rfl rfl rfl rfl rfl rfl rfl (hzN ·) (fun _ => rfl) (fun _ => rfl) (iN _) rfl (zbe _) ?_
 intro gcube w9 hgcube bcube hE
 replace b0:=hE.block b0
 replace b1:=hE.block b1
 replace b3:=hE.block b3
 replace brun:=hE.block brun
 replace brise:=hE.block brise
 replace bsq:=hE.block bsq
 replace hf:=hf.ext hE
 replace hx:=hx.trans hE
 clear hE
 simp only [aP,lA,lZ,lS]
 clear hgcube
 go_upto_region 14 with (fail)
 refine' zaj (m:=6) (A:=_) (by kernel_rfl) ?h9a ?h9b
 case h9a =>
  refine zaa (.pointer (some ⟨w.heap.size,2,none⟩)) rfl (zad rfl rfl (fldK2 _ ·)) ?_;simp only [aP,lA,lZ,lS]
  refine zaa (fv 33 b) rfl (zai rfl rfl b0 rfl (zas ·)) ?_;simp only [aP,lA,lZ,lS]
  refine zaa (ptrTo (w.heap.size + 1)) rfl (zad rfl rfl (fldS0 _ ·)) ?_;simp only [aP,lA,lZ,lS]
  refine zaa (nv x.val) rfl (zac rfl rfl b1 rfl uN rfl (iN _)) ?_;simp only [aP,lA,lZ,lS]
  refine zaa (nv sq.val) rfl (zac rfl rfl bsq rfl uN rfl (iN _)) ?_;simp only [aP,lA,lZ,lS]
  refine zaa (nv cross.val) rfl (zav (args:=[nv x.val,nv sq.val]) rfl rfl rfl (zbg _ ·) (fun W hW => zbk kcross.out (hf.ext hW))) ?_;simp only [aP,lA,lZ,lS]
  exact zah
 refine zcm _ _ rfl rfl rfl rfl rfl rfl rfl (hzN ·) (fun _ => rfl) (fun _ => rfl) (iN _) rfl (zbe _) ?_
 intro gcross w10 hgcross bcross hE
 replace b0:=hE.block b0
 replace b1:=hE.block b1
 replace b3:=hE.block b3
 replace brun:=hE.block brun
 replace brise:=hE.block brise
 replace bcube:=hE.block bcube
 replace hf:=hf.ext hE
 replace hx:=hx.trans hE
 clear hE
 simp only [aP,lA,lZ,lS]
 clear hgcross
 go_upto_region 15 with (fail)
 refine' zbn (m:=15) (A:=_) 16 (by kernel_rfl) (by kernel_rfl) (by kernel_rfl) ?h10a ?h10b
 case h10a =>
  refine zaa (.pointer (some ⟨w.heap.size,1,none⟩)) rfl (zad rfl rfl (fldK1 _ ·)) ?_;simp only [aP,lA,lZ,lS]
  refine zaa (fv 69 b) rfl (zai rfl rfl b0 rfl (zas ·)) ?_;simp only [aP,lA,lZ,lS]
  refine zaa (.pointer (some ⟨w.heap.size,1,none⟩)) rfl (zad rfl rfl (fldK1 _ ·)) ?_;simp only [aP,lA,lZ,lS]
  refine zaa (fv 69 b) rfl (zai rfl rfl b0 rfl (zas ·)) ?_;simp only [aP,lA,lZ,lS]
  refine zaa (.pointer (some ⟨w.heap.size,2,none⟩)) rfl (zad rfl rfl (fldK2 _ ·)) ?_;simp only [aP,lA,lZ,lS]
  refine zaa (fv 33 b) rfl (zai rfl rfl b0 rfl (zas ·)) ?_;simp only [aP,lA,lZ,lS]
  refine zaa (nv rise.val) rfl (zac rfl rfl brise rfl uN rfl (iN _)) ?_;simp only [aP,lA,lZ,lS]
  refine zaa (nv rise.val) rfl (zac rfl rfl brise rfl uN rfl (iN _)) ?_;simp only [aP,lA,lZ,lS]
  refine zaa (nv rr.val) rfl (zav (args:=[nv rise.val,nv rise.val]) rfl rfl rfl (zbg _ ·) (fun W hW => zbk krr.out (hf.ext hW))) ?_;simp only [aP,lA,lZ,lS]
  refine zaa (nv cube.val) rfl (zac rfl rfl bcube rfl uN rfl (iN _)) ?_;simp only [aP,lA,lZ,lS]
  refine zaa (nv r1.val) rfl (zav (args:=[nv rr.val,nv cube.val]) rfl rfl rfl (zcx _ ·) (fun W hW => zdh kr1.out (hf.ext hW))) ?_;simp only [aP,lA,lZ,lS]
  refine zaa (cv b) rfl (zac rfl rfl b0 rfl Tryd.underlying75 rfl (iK _)) ?_;simp only [aP,lA,lZ,lS]
  refine zaa (nv cross.val) rfl (zac rfl rfl bcross rfl uN rfl (iN _)) ?_;simp only [aP,lA,lZ,lS]
  refine zaa (nv c2.val) rfl (zaf (args:=[cv b,nv cross.val]) rfl rfl (fun W => zab Tryd.func78 rfl rfl _ W) (fun W hW => zde kc2.out (hf.ext hW))) ?_;simp only [aP,lA,lZ,lS]
  refine zaa (nv x3.val) rfl (zav (args:=[nv r1.val,nv c2.val]) rfl rfl rfl (zcx _ ·) (fun W hW => zdh kx3.out (hf.ext hW))) ?_;simp only [aP,lA,lZ,lS]
  exact zah
 refine zcn _ _ rfl rfl rfl rfl rfl rfl rfl rfl rfl (by kernel_rfl) (by kernel_rfl) (by kernel_rfl) rfl rfl (hzN ·) (fun _ => rfl) (fun _ => rfl) (iN _) rfl (zbe _) ?_
 intro gx3 w11 hgx3 bx3 hE
 refine NoPanic.normal ?_
 replace b0:=hE.block b0
 replace b1:=hE.block b1
 replace b3:=hE.block b3
 replace brun:=hE.block brun
 replace brise:=hE.block brise
 replace bcube:=hE.block bcube
 replace bcross:=hE.block bcross
 replace hf:=hf.ext hE
 replace hx:=hx.trans hE
 clear hE
 simp only [aP,lA,lZ,lS]
 clear hgx3
 go_upto_region 16 with (fail)
 refine' zbn (m:=26) (A:=_) 26 (by kernel_rfl) (by kernel_rfl) (by kernel_rfl) ?h11a ?h11b
 case h11a =>
  refine zaa (nv x3.val) rfl (zac rfl rfl bx3 rfl uN rfl (iN _)) ?_;simp only [aP,lA,lZ,lS]
  refine zaa (.pointer (some ⟨w.heap.size,1,none⟩)) rfl (zad rfl rfl (fldK1 _ ·)) ?_;simp only [aP,lA,lZ,lS]
  refine zaa (fv 69 b) rfl (zai rfl rfl b0 rfl (zas ·)) ?_;simp only [aP,lA,lZ,lS]
  refine zaa (.pointer (some ⟨w.heap.size,2,none⟩)) rfl (zad rfl rfl (fldK2 _ ·)) ?_;simp only [aP,lA,lZ,lS]
  refine zaa (fv 33 b) rfl (zai rfl rfl b0 rfl (zas ·)) ?_;simp only [aP,lA,lZ,lS]
  refine zaa (nv rise.val) rfl (zac rfl rfl brise rfl uN rfl (iN _)) ?_;simp only [aP,lA,lZ,lS]
  refine zaa (.pointer (some ⟨w.heap.size,1,none⟩)) rfl (zad rfl rfl (fldK1 _ ·)) ?_;simp only [aP,lA,lZ,lS]
  refine zaa (fv 69 b) rfl (zai rfl rfl b0 rfl (zas ·)) ?_;simp only [aP,lA,lZ,lS]
  refine zaa (nv cross.val) rfl (zac rfl rfl bcross rfl uN rfl (iN _)) ?_;simp only [aP,lA,lZ,lS]
  refine zaa (nv x3.val) rfl (zac rfl rfl bx3 rfl uN rfl (iN _)) ?_;simp only [aP,lA,lZ,lS]
  refine zaa (nv d.val) rfl (zav (args:=[nv cross.val,nv x3.val]) rfl rfl rfl (zcx _ ·) (fun W hW => zdh kd.out (hf.ext hW))) ?_;simp only [aP,lA,lZ,lS]
  refine zaa (nv rd.val) rfl (zav (args:=[nv rise.val,nv d.val]) rfl rfl rfl (zbg _ ·) (fun W hW => zbk krd.out (hf.ext hW))) ?_;simp only [aP,lA,lZ,lS]
  refine zaa (.pointer (some ⟨w.heap.size,2,none⟩)) rfl (zad rfl rfl (fldK2 _ ·)) ?_;simp only [aP,lA,lZ,lS]
  refine zaa (fv 33 b) rfl (zai rfl rfl b0 rfl (zas ·)) ?_;simp only [aP,lA,lZ,lS]
  refine zaa (.pointer (some ⟨w.heap.size + 1,4,none⟩)) rfl (zad rfl rfl (fldS1 _ ·)) ?_;simp only [aP,lA,lZ,lS]
  refine zaa (nv y.val) rfl (zac rfl rfl b1 rfl uN rfl (iN _)) ?_;simp only [aP,lA,lZ,lS]
  refine zaa (nv cube.val) rfl (zac rfl rfl bcube rfl uN rfl (iN _)) ?_;simp only [aP,lA,lZ,lS]
  refine zaa (nv yc.val) rfl (zav (args:=[nv y.val,nv cube.val]) rfl rfl rfl (zbg _ ·) (fun W hW => zbk kyc.out (hf.ext hW))) ?_;simp only [aP,lA,lZ,lS]
  refine zaa (nv y3.val) rfl (zav (args:=[nv rd.val,nv yc.val]) rfl rfl rfl (zcx _ ·) (fun W hW => zdh ky3.out (hf.ext hW))) ?_;simp only [aP,lA,lZ,lS]
  refine zaa (.pointer (some ⟨w.heap.size,2,none⟩)) rfl (zad rfl rfl (fldK2 _ ·)) ?_;simp only [aP,lA,lZ,lS]
  refine zaa (fv 33 b) rfl (zai rfl rfl b0 rfl (zas ·)) ?_;simp only [aP,lA,lZ,lS]
  refine zaa (.pointer (some ⟨w.heap.size + 1,8,none⟩)) rfl (zad rfl rfl (fldS2 _ ·)) ?_;simp only [aP,lA,lZ,lS]
  refine zaa (nv z.val) rfl (zac rfl rfl b1 rfl uN rfl (iN _)) ?_;simp only [aP,lA,lZ,lS]
  refine zaa (nv run.val) rfl (zac rfl rfl brun rfl uN rfl (iN _)) ?_;simp only [aP,lA,lZ,lS]
  refine zaa (nv z3.val) rfl (zav (args:=[nv z.val,nv run.val]) rfl rfl rfl (zbg _ ·) (fun W hW => zbk kz3.out (hf.ext hW))) ?_;simp only [aP,lA,lZ,lS]
  refine zaa (sv x3.val y3.val z3.val) rfl (zau (vs:=[(0,nv x3.val),(1,nv y3.val),(2,nv z3.val)]) rfl rfl (fun W => bldS W _ _ _)) ?_;simp only [aP,lA,lZ,lS]
  exact zah
 refine zfj _ rfl rfl rfl rfl rfl (by kernel_rfl) (by kernel_rfl) rfl rfl rfl b3 (iS _ _ _) rfl (zen _ _ _) ?_
 intro w12 hB hb
 refine NoPanic.normal ?_
 go_wp2
 exact bodyPost_ret (results_cell_row rfl _ _ (w.heap.size + 1 + 1 + 1) 88 (sc x3.val y3.val z3.val) (0,0) _ rfl hb Tryd.underlying88 rfl (by kernel_rfl)) rfl ⟨rfl,hx.new hB (by omega)⟩
end Go.Proofs.YtmfjigcdhijkjaaDoor
