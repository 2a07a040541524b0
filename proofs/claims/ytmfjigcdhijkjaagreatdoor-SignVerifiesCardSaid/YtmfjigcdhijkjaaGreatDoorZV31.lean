/-
  Of Y2.
-/
import Derived.Test.YtmfjigcdhijkjaaGreatDoorZV30
set_option maxRecDepth 1000000
set_option maxHeartbeats 20000000
namespace Go.Proofs.YtmfjigcdhijkjaaGreatDoor
open Go.RowKit
open Go.Act renaming put → aP
open List renaming setIfInBounds_toArray → lA, set_cons_zero → lZ, set_cons_succ → lS
theorem made_all {g D E K x r t u v s : Nat} {b : Bool} (hD : D < top) (hE : E < top) (hK : K ≠ 0 ∧ K < Pt.nn) (hx0 : x < top) (ht : t = Pt.iG Pt.nn K) (hr : r = x % Pt.nn) (hu : u = r * D % Pt.nn) (hv : v = (E % Pt.nn + u % Pt.nn) % Pt.nn) (hs : s = v * t % Pt.nn) (hb0 : (!decide (r = 0) && !decide (s = 0)) = b) {w : World} (hF : Fn w g) :
  Calls Tryz.prog 60 #[mv g D E,nv K,nv x] w fun e w' => e = .returned (.tuple #[gv r s,.bool b]) ∧ Ext w w':=by
 have kKt:=veil (Nat.lt_trans hK.2 zdi)
 have kD:=veil hD
 have kE:=veil hE
 have kK:=veil hK
 have kx0:=veil hx0
 have kt:=veil ht
 have kr:=veil hr
 have ku:=veil hu
 have kv:=veil hv
 have ks:=veil hs
 have kb0:=veil hb0
 clear hb0 hs hv hu hr ht hx0 hK hE hD
 unfold mv mc nv nc
 go_enter Tryz.func60,Tryz.ntmps60
 go_upto_region 1 with (fail)
 obtain ⟨hx,b0,b1,b2,b3⟩:=blocks4 w (.cells #[ptrTo g,.int .u64 (wd D 0),.int .u64 (wd D 1),.int .u64 (wd D 2),.int .u64 (wd D 3),.int .u64 (wd E 0),.int .u64 (wd E 1),.int .u64 (wd E 2),.int .u64 (wd E 3)] 55) (.cells #[.int .u64 (wd K 0),.int .u64 (wd K 1),.int .u64 (wd K 2),.int .u64 (wd K 3)] 24) (.cells #[.int .u64 (wd x 0),.int .u64 (wd x 1),.int .u64 (wd x 2),.int .u64 (wd x 3)] 24) (.cells #[.int .u64 0,.int .u64 0,.int .u64 0,.int .u64 0,.int .u64 0,.int .u64 0,.int .u64 0,.int .u64 0] 35)
 generalize (((w.alloc (.cells #[ptrTo g,.int .u64 (wd D 0),.int .u64 (wd D 1),.int .u64 (wd D 2),.int .u64 (wd D 3),.int .u64 (wd E 0),.int .u64 (wd E 1),.int .u64 (wd E 2),.int .u64 (wd E 3)] 55)).alloc (.cells #[.int .u64 (wd K 0),.int .u64 (wd K 1),.int .u64 (wd K 2),.int .u64 (wd K 3)] 24)).alloc (.cells #[.int .u64 (wd x 0),.int .u64 (wd x 1),.int .u64 (wd x 2),.int .u64 (wd x 3)] 24)).alloc (.cells #[.int .u64 0,.int .u64 0,.int .u64 0,.int .u64 0,.int .u64 0,.int .u64 0,.int .u64 0,.int .u64 0] 35) = w1 at *
 have b0 : w1.heap[w.heap.size]? = some (.cells (mc g D E) 55 (0,0)):=b0
 have b1 : w1.heap[w.heap.size + 1]? = some (.cells (nc K) 24 (0,0)):=b1
 have b2 : w1.heap[w.heap.size + 1 + 1]? = some (.cells (nc x) 24 (0,0)):=b2
 have hf:=hF.ext hx
 clear hF
 refine' zan (m:=7) (A:=_) (by kernel_rfl) ?h1 ?h2
 case h1 =>
  refine zaa (ptrTo w.heap.size) rfl (zae rfl rfl (fldM0 _ ·)) ?_
  refine zaa (ptrTo g) rfl (zap rfl rfl b0 rfl (zis ·)) ?_;simp only [aP,lA,lZ,lS]
  refine zaa (nv K) rfl (zac rfl rfl b1 rfl uN rfl (iN _)) ?_
  refine zaa (.tuple #[nv t,.nilIface]) rfl (zah (args:=[ptrTo g,nv K]) rfl rfl (fun W => zab Tryz.func33 rfl rfl _ W) (fun W hW => ninv_p kK.out.1 kK.out.2 kt.out (hf.ext hW))) ?_;simp only [aP,lA,lZ,lS]
  refine zaa (.tuple #[nv t,.nilIface]) rfl (zaf (.inl rfl) rfl) ?_
  refine zaa (nv t) rfl (zbb rfl rfl rfl) ?_;simp only [aP,lA,lZ,lS]
  refine zaa (.nilIface) rfl (zbb rfl rfl rfl) ?_;simp only [aP,lA,lZ,lS]
  exact zaj
 refine zcw _ _ rfl rfl rfl rfl rfl rfl rfl (hzN ·) (fun _ => rfl) (fun _ => rfl) (iN _) rfl (zbf _) ?_
 intro gt w2 hgt bt hE
 replace b0:=hE.block b0
 replace b2:=hE.block b2
 replace b3:=hE.block b3
 replace hf:=hf.ext hE
 replace hx:=hx.trans hE
 clear hE
 simp only [aP,lA,lZ,lS]
 clear hgt
 go_upto_region 2 with (fail)
 refine' zan (m:=4) (A:=_) (by kernel_rfl) ?h2a ?h2b
 case h2a =>
  refine zaa (ptrTo w.heap.size) rfl (zae rfl rfl (fldM0 _ ·)) ?_
  refine zaa (ptrTo g) rfl (zap rfl rfl b0 rfl (zis ·)) ?_;simp only [aP,lA,lZ,lS]
  refine zaa (nv x) rfl (zac rfl rfl b2 rfl uN rfl (iN _)) ?_
  refine zaa (nv r) rfl (zah (args:=[ptrTo g,nv x]) rfl rfl (fun W => zab Tryz.func37 rfl rfl _ W) (fun W hW => scut_calls kr.out kx0.out (hf.ext hW))) ?_;simp only [aP,lA,lZ,lS]
  exact zaj
 refine zci _ _ rfl rfl rfl rfl rfl rfl rfl (hzN ·) (fun _ => rfl) (fun _ => rfl) (iN _) rfl (zbf _) ?_
 intro gr w3 hgr br hE
 replace b0:=hE.block b0
 replace b3:=hE.block b3
 replace bt:=hE.block bt
 replace hf:=hf.ext hE
 replace hx:=hx.trans hE
 clear hE
 simp only [aP,lA,lZ,lS]
 clear hgr
 go_upto_region 3 with (fail)
 refine' zbn (m:=15) (A:=_) 16 (by kernel_rfl) (by kernel_rfl) (by kernel_rfl) ?h3a ?h3b
 case h3a =>
  refine zaa (ptrTo w.heap.size) rfl (zae rfl rfl (fldM0 _ ·)) ?_
  refine zaa (ptrTo g) rfl (zap rfl rfl b0 rfl (zis ·)) ?_;simp only [aP,lA,lZ,lS]
  refine zaa (ptrTo w.heap.size) rfl (zae rfl rfl (fldM0 _ ·)) ?_
  refine zaa (ptrTo g) rfl (zap rfl rfl b0 rfl (zis ·)) ?_;simp only [aP,lA,lZ,lS]
  refine zaa (.pointer (some ⟨w.heap.size,5,none⟩)) rfl (zae rfl rfl (fldM2 _ ·)) ?_
  refine zaa (nv E) rfl (zac rfl rfl b0 rfl uN rfl (iN _)) ?_;simp only [aP,lA,lZ,lS]
  refine zaa (ptrTo w.heap.size) rfl (zae rfl rfl (fldM0 _ ·)) ?_
  refine zaa (ptrTo g) rfl (zap rfl rfl b0 rfl (zis ·)) ?_;simp only [aP,lA,lZ,lS]
  refine zaa (nv r) rfl (zac rfl rfl br rfl uN rfl (iN _)) ?_
  refine zaa (.pointer (some ⟨w.heap.size,1,none⟩)) rfl (zae rfl rfl (fldM1 _ ·)) ?_;simp only [aP,lA,lZ,lS]
  refine zaa (nv D) rfl (zac rfl rfl b0 rfl uN rfl (iN _)) ?_
  refine zaa (nv u) rfl (zah (args:=[ptrTo g,nv r,nv D]) rfl rfl (fun W => zab Tryz.func35 rfl rfl _ W) (fun W hW => nmul_p ku.out (zec kr.out) kD.out (hf.ext hW))) ?_;simp only [aP,lA,lZ,lS]
  refine zaa (nv v) rfl (zah (args:=[ptrTo g,nv E,nv u]) rfl rfl (fun W => zab Tryz.func83 rfl rfl _ W) (fun W hW => nadd_p kv.out kE.out (zec ku.out) (hf.ext hW))) ?_
  refine zaa (nv t) rfl (zac rfl rfl bt rfl uN rfl (iN _)) ?_;simp only [aP,lA,lZ,lS]
  refine zaa (nv s) rfl (zah (args:=[ptrTo g,nv v,nv t]) rfl rfl (fun W => zab Tryz.func35 rfl rfl _ W) (fun W hW => nmul_p ks.out (zec kv.out) (zez kt.out) (hf.ext hW))) ?_;simp only [aP,lA,lZ,lS]
  exact zaj
 refine zcb _ _ rfl rfl rfl rfl rfl rfl rfl rfl rfl (by kernel_rfl) (by kernel_rfl) (by kernel_rfl) rfl rfl (hzN ·) (fun _ => rfl) (fun _ => rfl) (iN _) rfl (zbf _) ?_
 intro gs w4 hgs bs hE
 refine NoPanic.normal ?_
 replace b3:=hE.block b3
 replace br:=hE.block br
 replace hf:=hf.ext hE
 replace hx:=hx.trans hE
 clear hE
 simp only [aP,lA,lZ,lS]
 clear hgs
 go_upto_region 4 with (fail)
 have hgr : gr ≠ w.heap.size + 1 + 1 + 1:=by intro e; rw [e,b3] at br; injection br with br; injection br with _ br; exact absurd br (by decide)
 have hgs : gs ≠ w.heap.size + 1 + 1 + 1:=by intro e; rw [e,b3] at bs; injection bs with bs; injection bs with _ bs; exact absurd bs (by decide)
 cases hzr : decide (r = 0) with
 | true =>
  have kzr:=veil hzr
  obtain rfl : b = false:=by rw [← kb0.out,kzr.out]; rfl
  clear hzr
  have hbr:=(Array.getElem?_eq_some_iff.1 br).1
  have hbs:=(Array.getElem?_eq_some_iff.1 bs).1
  have hRlt:=(Array.getElem?_eq_some_iff.1 b3).1
  refine wp_region_noPanic ?_
  have hS:=But.of_below (r:=w.heap.size + 1 + 1 + 1) (Ext.drew w4)
  have hR:=(Ext.drew w4).block b3
  refine wp_region_held_drew (S:=fun W => But (w.heap.size + 1 + 1 + 1) w4 W) (by kernel_rfl) hS (fun hH => ?_)
  refine wpAnyH_take (i:=0) (v:=nv r) rfl (by kernel_rfl) (by kernel_rfl) (by decide +kernel) (fun _ _ _ h => h) (yieldsIf_load_mid (by rfl) _ _ rfl _ _ rfl (nc r).toList _ (fun W hW j v hv => by rw [cell_of_row W _ _ (nc r) 24 (0,0) ((hW.block _ hbr (fun e => hgr (Option.some.inj e))).trans br),Nat.zero_add]; simpa using hv) uN rfl (iN _)) hH ?_
  simp only [Act.put,List.setIfInBounds_toArray,List.set_cons_zero,List.set_cons_succ,List.getElem_toArray,List.getElem_cons_zero]
  refine wpAnyH_take (i:=1) (v:=nv s) rfl (by kernel_rfl) (by kernel_rfl) (by decide +kernel) (fun _ _ _ h => h) (yieldsIf_load_mid (by rfl) _ _ rfl _ _ rfl (nc s).toList _ (fun W hW j v hv => by rw [cell_of_row W _ _ (nc s) 24 (0,0) ((hW.block _ hbs (fun e => hgs (Option.some.inj e))).trans bs),Nat.zero_add]; simpa using hv) uN rfl (iN _)) hH ?_
  simp only [Act.put,List.setIfInBounds_toArray,List.set_cons_zero,List.set_cons_succ,List.getElem_toArray,List.getElem_cons_zero,List.getElem_cons_succ]
  refine wpAnyH_take (i:=2) (v:=gv r s) rfl (by kernel_rfl) (by kernel_rfl) (by decide +kernel) (fun _ _ _ h => h) (zgf (vs:=[(0,nv r),(1,nv s)]) (by rfl) rfl rfl (fun W => bldG W _ _)) hH ?_
  simp only [Act.put,List.setIfInBounds_toArray,List.set_cons_zero,List.set_cons_succ,List.getElem_toArray,List.getElem_cons_zero,List.getElem_cons_succ]
  refine wpAnyH_take (i:=3) (v:=nv r) rfl (by kernel_rfl) (by kernel_rfl) (by decide +kernel) (fun _ _ _ h => h) (yieldsIf_load_mid (by rfl) _ _ rfl _ _ rfl (nc r).toList _ (fun W hW j v hv => by rw [cell_of_row W _ _ (nc r) 24 (0,0) ((hW.block _ hbr (fun e => hgr (Option.some.inj e))).trans br),Nat.zero_add]; simpa using hv) uN rfl (iN _)) hH ?_
  simp only [Act.put,List.setIfInBounds_toArray,List.set_cons_zero,List.set_cons_succ,List.getElem_toArray,List.getElem_cons_zero,List.getElem_cons_succ]
  refine wpAnyH_ready (rs:=[4]) (by decide +kernel) (by simp) ?_
  refine AllReadyH.cons rfl (fun K hK => ?_) AllReadyH.nil
  go_simp
  refine (iz_is kzr.out (zec kr.out) _).mono ?_
  rintro e v1 ⟨rfl,hE⟩
  have hS:=hS.below hE
  have hR:=hE.block hR
  refine hK.out _ _ hS (fun hH => ?_)
  clear hK K hE
  try simp only [Act.put,List.setIfInBounds_toArray,List.set_cons_zero,List.set_cons_succ,List.getElem_toArray,List.getElem_cons_zero,List.getElem_cons_succ]
  refine wpAnyH_take (i:=5) (v:=.bool false) rfl (by kernel_rfl) (by kernel_rfl) (by decide +kernel) (fun _ _ _ h => h) (Or.inl ⟨by rfl,fun W hSw => (by dsimp only at hSw; go_simp)⟩) hH ?_
  simp only [Act.put,List.setIfInBounds_toArray,List.set_cons_zero,List.set_cons_succ,List.getElem_toArray,List.getElem_cons_zero,List.getElem_cons_succ]
  refine wpAnyH_take (i:=6) (v:=.bool false) rfl (by kernel_rfl) (by kernel_rfl) (by decide +kernel) (fun _ _ _ h => h) (Or.inl ⟨by rfl,fun W hSw => (by dsimp only at hSw; go_simp)⟩) hH ?_
  simp only [Act.put,List.setIfInBounds_toArray,List.set_cons_zero,List.set_cons_succ,List.getElem_toArray,List.getElem_cons_zero,List.getElem_cons_succ]
  refine wpAnyH_take (i:=7) (v:=undef) rfl (by kernel_rfl) (by kernel_rfl) (by decide +kernel) (fun _ _ _ h => h) (Or.inr ⟨by rfl,rfl⟩) hH ?_
  simp only [Act.put,List.setIfInBounds_toArray,List.set_cons_zero,List.set_cons_succ,List.getElem_toArray,List.getElem_cons_zero,List.getElem_cons_succ]
  refine wpAnyH_take (i:=8) (v:=undef) rfl (by kernel_rfl) (by kernel_rfl) (by decide +kernel) (fun _ _ _ h => h) (Or.inr ⟨by rfl,rfl⟩) hH ?_
  simp only [Act.put,List.setIfInBounds_toArray,List.set_cons_zero,List.set_cons_succ,List.getElem_toArray,List.getElem_cons_zero,List.getElem_cons_succ]
  refine wpAnyH_take (i:=9) (v:=undef) rfl (by kernel_rfl) (by kernel_rfl) (by decide +kernel) (fun _ _ _ h => h) (Or.inr ⟨by rfl,rfl⟩) hH ?_
  simp only [Act.put,List.setIfInBounds_toArray,List.set_cons_zero,List.set_cons_succ,List.getElem_toArray,List.getElem_cons_zero,List.getElem_cons_succ]
  refine wpAnyH_take (i:=10) (v:=.bool false) rfl (by kernel_rfl) (by kernel_rfl) (by decide +kernel) (fun _ _ _ h => h) (yif_pickB (by rfl) rfl rfl rfl) hH ?_
  simp only [Act.put,List.setIfInBounds_toArray,List.set_cons_zero,List.set_cons_succ,List.getElem_toArray,List.getElem_cons_zero,List.getElem_cons_succ]
  refine wpAnyH_ready (rs:=[11]) (by decide +kernel) (by simp) ?_
  refine AllReadyH.cons rfl (fun K hK => ?_) AllReadyH.nil
  refine wp_store_row 35 _ _ rfl (w.heap.size + 1 + 1 + 1) (gc r s) rfl rfl 35 _ hR (iSg _ _) (gz_size _ _) (zda _ _) ?_
  have hR:=setRow_heap _ _ _ (gc r s) 35 (0,0) hR
  have hS:=zdd hS (gc r s)
  refine hK.out _ _ hS (fun hH => ?_)
  clear hK K
  refine wpAnyH_ready (rs:=[12]) (by decide +kernel) (by simp) ?_
  refine AllReadyH.cons rfl (fun K hK => ?_) AllReadyH.nil
  go_simp
  refine hK.out _ _ hS (fun hH => ?_)
  clear hK K
  refine wpAnyH_done (by decide +kernel) ?_ _
  refine NoPanic.normal ?_
  go_wp2
  exact bodyPost_ret (zbs rfl _ _ (w.heap.size + 1 + 1 + 1) 35 (gc r s) (0,0) _ rfl hR Tryz.underlying35 rfl (iSg _ _)) rfl ⟨rfl,hx.new hS (by omega)⟩
 | false =>
  cases hzs : decide (s = 0) with
  | true =>
   have kzr:=veil hzr
   have kzs:=veil hzs
   obtain rfl : b = false:=by rw [← kb0.out,kzr.out,kzs.out]; rfl
   clear hzr hzs
   have hbr:=(Array.getElem?_eq_some_iff.1 br).1
   have hbs:=(Array.getElem?_eq_some_iff.1 bs).1
   have hRlt:=(Array.getElem?_eq_some_iff.1 b3).1
   refine wp_region_noPanic ?_
   have hS:=But.of_below (r:=w.heap.size + 1 + 1 + 1) (Ext.drew w4)
   have hR:=(Ext.drew w4).block b3
   refine wp_region_held_drew (S:=fun W => But (w.heap.size + 1 + 1 + 1) w4 W) (by kernel_rfl) hS (fun hH => ?_)
   refine wpAnyH_take (i:=0) (v:=nv r) rfl (by kernel_rfl) (by kernel_rfl) (by decide +kernel) (fun _ _ _ h => h) (yieldsIf_load_mid (by rfl) _ _ rfl _ _ rfl (nc r).toList _ (fun W hW j v hv => by rw [cell_of_row W _ _ (nc r) 24 (0,0) ((hW.block _ hbr (fun e => hgr (Option.some.inj e))).trans br),Nat.zero_add]; simpa using hv) uN rfl (iN _)) hH ?_
   simp only [Act.put,List.setIfInBounds_toArray,List.set_cons_zero,List.set_cons_succ,List.getElem_toArray,List.getElem_cons_zero]
   refine wpAnyH_take (i:=1) (v:=nv s) rfl (by kernel_rfl) (by kernel_rfl) (by decide +kernel) (fun _ _ _ h => h) (yieldsIf_load_mid (by rfl) _ _ rfl _ _ rfl (nc s).toList _ (fun W hW j v hv => by rw [cell_of_row W _ _ (nc s) 24 (0,0) ((hW.block _ hbs (fun e => hgs (Option.some.inj e))).trans bs),Nat.zero_add]; simpa using hv) uN rfl (iN _)) hH ?_
   simp only [Act.put,List.setIfInBounds_toArray,List.set_cons_zero,List.set_cons_succ,List.getElem_toArray,List.getElem_cons_zero,List.getElem_cons_succ]
   refine wpAnyH_take (i:=2) (v:=gv r s) rfl (by kernel_rfl) (by kernel_rfl) (by decide +kernel) (fun _ _ _ h => h) (zgf (vs:=[(0,nv r),(1,nv s)]) (by rfl) rfl rfl (fun W => bldG W _ _)) hH ?_
   simp only [Act.put,List.setIfInBounds_toArray,List.set_cons_zero,List.set_cons_succ,List.getElem_toArray,List.getElem_cons_zero,List.getElem_cons_succ]
   refine wpAnyH_take (i:=3) (v:=nv r) rfl (by kernel_rfl) (by kernel_rfl) (by decide +kernel) (fun _ _ _ h => h) (yieldsIf_load_mid (by rfl) _ _ rfl _ _ rfl (nc r).toList _ (fun W hW j v hv => by rw [cell_of_row W _ _ (nc r) 24 (0,0) ((hW.block _ hbr (fun e => hgr (Option.some.inj e))).trans br),Nat.zero_add]; simpa using hv) uN rfl (iN _)) hH ?_
   simp only [Act.put,List.setIfInBounds_toArray,List.set_cons_zero,List.set_cons_succ,List.getElem_toArray,List.getElem_cons_zero,List.getElem_cons_succ]
   refine wpAnyH_ready (rs:=[4]) (by decide +kernel) (by simp) ?_
   refine AllReadyH.cons rfl (fun K hK => ?_) AllReadyH.nil
   go_simp
   refine (iz_is kzr.out (zec kr.out) _).mono ?_
   rintro e v1 ⟨rfl,hE⟩
   have hS:=hS.below hE
   have hR:=hE.block hR
   refine hK.out _ _ hS (fun hH => ?_)
   clear hK K hE
   try simp only [Act.put,List.setIfInBounds_toArray,List.set_cons_zero,List.set_cons_succ,List.getElem_toArray,List.getElem_cons_zero,List.getElem_cons_succ]
   refine wpAnyH_take (i:=5) (v:=.bool true) rfl (by kernel_rfl) (by kernel_rfl) (by decide +kernel) (fun _ _ _ h => h) (Or.inl ⟨by rfl,fun W hSw => (by dsimp only at hSw; go_simp)⟩) hH ?_
   simp only [Act.put,List.setIfInBounds_toArray,List.set_cons_zero,List.set_cons_succ,List.getElem_toArray,List.getElem_cons_zero,List.getElem_cons_succ]
   refine wpAnyH_take (i:=6) (v:=.bool true) rfl (by kernel_rfl) (by kernel_rfl) (by decide +kernel) (fun _ _ _ h => h) (Or.inl ⟨by rfl,fun W hSw => (by dsimp only at hSw; go_simp)⟩) hH ?_
   simp only [Act.put,List.setIfInBounds_toArray,List.set_cons_zero,List.set_cons_succ,List.getElem_toArray,List.getElem_cons_zero,List.getElem_cons_succ]
   refine wpAnyH_take (i:=7) (v:=nv s) rfl (by kernel_rfl) (by kernel_rfl) (by decide +kernel) (fun _ _ _ h => h) (yieldsIf_load_mid (by rfl) _ _ rfl _ _ rfl (nc s).toList _ (fun W hW j v hv => by rw [cell_of_row W _ _ (nc s) 24 (0,0) ((hW.block _ hbs (fun e => hgs (Option.some.inj e))).trans bs),Nat.zero_add]; simpa using hv) uN rfl (iN _)) hH ?_
   simp only [Act.put,List.setIfInBounds_toArray,List.set_cons_zero,List.set_cons_succ,List.getElem_toArray,List.getElem_cons_zero,List.getElem_cons_succ]
   refine wpAnyH_ready (rs:=[8]) (by decide +kernel) (by simp) ?_
   refine AllReadyH.cons rfl (fun K hK => ?_) AllReadyH.nil
   go_simp
   refine (iz_is kzs.out (zec ks.out) _).mono ?_
   rintro e v2 ⟨rfl,hE⟩
   have hS:=hS.below hE
   have hR:=hE.block hR
   refine hK.out _ _ hS (fun hH => ?_)
   clear hK K hE
   try simp only [Act.put,List.setIfInBounds_toArray,List.set_cons_zero,List.set_cons_succ,List.getElem_toArray,List.getElem_cons_zero,List.getElem_cons_succ]
   refine wpAnyH_take (i:=9) (v:=.bool false) rfl (by kernel_rfl) (by kernel_rfl) (by decide +kernel) (fun _ _ _ h => h) (Or.inl ⟨by rfl,fun W hSw => (by dsimp only at hSw; go_simp)⟩) hH ?_
   simp only [Act.put,List.setIfInBounds_toArray,List.set_cons_zero,List.set_cons_succ,List.getElem_toArray,List.getElem_cons_zero,List.getElem_cons_succ]
   refine wpAnyH_take (i:=10) (v:=.bool false) rfl (by kernel_rfl) (by kernel_rfl) (by decide +kernel) (fun _ _ _ h => h) (yif_pickB (by rfl) rfl rfl rfl) hH ?_
   simp only [Act.put,List.setIfInBounds_toArray,List.set_cons_zero,List.set_cons_succ,List.getElem_toArray,List.getElem_cons_zero,List.getElem_cons_succ]
   refine wpAnyH_ready (rs:=[11]) (by decide +kernel) (by simp) ?_
   refine AllReadyH.cons rfl (fun K hK => ?_) AllReadyH.nil
   refine wp_store_row 35 _ _ rfl (w.heap.size + 1 + 1 + 1) (gc r s) rfl rfl 35 _ hR (iSg _ _) (gz_size _ _) (zda _ _) ?_
   have hR:=setRow_heap _ _ _ (gc r s) 35 (0,0) hR
   have hS:=zdd hS (gc r s)
   refine hK.out _ _ hS (fun hH => ?_)
   clear hK K
   refine wpAnyH_ready (rs:=[12]) (by decide +kernel) (by simp) ?_
   refine AllReadyH.cons rfl (fun K hK => ?_) AllReadyH.nil
   go_simp
   refine hK.out _ _ hS (fun hH => ?_)
   clear hK K
   refine wpAnyH_done (by decide +kernel) ?_ _
   refine NoPanic.normal ?_
   go_wp2
   exact bodyPost_ret (zbs rfl _ _ (w.heap.size + 1 + 1 + 1) 35 (gc r s) (0,0) _ rfl hR Tryz.underlying35 rfl (iSg _ _)) rfl ⟨rfl,hx.new hS (by omega)⟩
  | false =>
   have kzr:=veil hzr
   have kzs:=veil hzs
   obtain rfl : b = true:=by rw [← kb0.out,kzr.out,kzs.out]; rfl
   clear hzr hzs
   have hbr:=(Array.getElem?_eq_some_iff.1 br).1
   have hbs:=(Array.getElem?_eq_some_iff.1 bs).1
   have hRlt:=(Array.getElem?_eq_some_iff.1 b3).1
   refine wp_region_noPanic ?_
   have hS:=But.of_below (r:=w.heap.size + 1 + 1 + 1) (Ext.drew w4)
   have hR:=(Ext.drew w4).block b3
   refine wp_region_held_drew (S:=fun W => But (w.heap.size + 1 + 1 + 1) w4 W) (by kernel_rfl) hS (fun hH => ?_)
   refine wpAnyH_take (i:=0) (v:=nv r) rfl (by kernel_rfl) (by kernel_rfl) (by decide +kernel) (fun _ _ _ h => h) (yieldsIf_load_mid (by rfl) _ _ rfl _ _ rfl (nc r).toList _ (fun W hW j v hv => by rw [cell_of_row W _ _ (nc r) 24 (0,0) ((hW.block _ hbr (fun e => hgr (Option.some.inj e))).trans br),Nat.zero_add]; simpa using hv) uN rfl (iN _)) hH ?_
   simp only [Act.put,List.setIfInBounds_toArray,List.set_cons_zero,List.set_cons_succ,List.getElem_toArray,List.getElem_cons_zero]
   refine wpAnyH_take (i:=1) (v:=nv s) rfl (by kernel_rfl) (by kernel_rfl) (by decide +kernel) (fun _ _ _ h => h) (yieldsIf_load_mid (by rfl) _ _ rfl _ _ rfl (nc s).toList _ (fun W hW j v hv => by rw [cell_of_row W _ _ (nc s) 24 (0,0) ((hW.block _ hbs (fun e => hgs (Option.some.inj e))).trans bs),Nat.zero_add]; simpa using hv) uN rfl (iN _)) hH ?_
   simp only [Act.put,List.setIfInBounds_toArray,List.set_cons_zero,List.set_cons_succ,List.getElem_toArray,List.getElem_cons_zero,List.getElem_cons_succ]
   refine wpAnyH_take (i:=2) (v:=gv r s) rfl (by kernel_rfl) (by kernel_rfl) (by decide +kernel) (fun _ _ _ h => h) (zgf (vs:=[(0,nv r),(1,nv s)]) (by rfl) rfl rfl (fun W => bldG W _ _)) hH ?_
   simp only [Act.put,List.setIfInBounds_toArray,List.set_cons_zero,List.set_cons_succ,List.getElem_toArray,List.getElem_cons_zero,List.getElem_cons_succ]
   refine wpAnyH_take (i:=3) (v:=nv r) rfl (by kernel_rfl) (by kernel_rfl) (by decide +kernel) (fun _ _ _ h => h) (yieldsIf_load_mid (by rfl) _ _ rfl _ _ rfl (nc r).toList _ (fun W hW j v hv => by rw [cell_of_row W _ _ (nc r) 24 (0,0) ((hW.block _ hbr (fun e => hgr (Option.some.inj e))).trans br),Nat.zero_add]; simpa using hv) uN rfl (iN _)) hH ?_
   simp only [Act.put,List.setIfInBounds_toArray,List.set_cons_zero,List.set_cons_succ,List.getElem_toArray,List.getElem_cons_zero,List.getElem_cons_succ]
   refine wpAnyH_ready (rs:=[4]) (by decide +kernel) (by simp) ?_
   refine AllReadyH.cons rfl (fun K hK => ?_) AllReadyH.nil
   go_simp
   refine (iz_is kzr.out (zec kr.out) _).mono ?_
   rintro e v1 ⟨rfl,hE⟩
   have hS:=hS.below hE
   have hR:=hE.block hR
   refine hK.out _ _ hS (fun hH => ?_)
   clear hK K hE
   try simp only [Act.put,List.setIfInBounds_toArray,List.set_cons_zero,List.set_cons_succ,List.getElem_toArray,List.getElem_cons_zero,List.getElem_cons_succ]
   refine wpAnyH_take (i:=5) (v:=.bool true) rfl (by kernel_rfl) (by kernel_rfl) (by decide +kernel) (fun _ _ _ h => h) (Or.inl ⟨by rfl,fun W hSw => (by dsimp only at hSw; go_simp)⟩) hH ?_
   simp only [Act.put,List.setIfInBounds_toArray,List.set_cons_zero,List.set_cons_succ,List.getElem_toArray,List.getElem_cons_zero,List.getElem_cons_succ]
   refine wpAnyH_take (i:=6) (v:=.bool true) rfl (by kernel_rfl) (by kernel_rfl) (by decide +kernel) (fun _ _ _ h => h) (Or.inl ⟨by rfl,fun W hSw => (by dsimp only at hSw; go_simp)⟩) hH ?_
   simp only [Act.put,List.setIfInBounds_toArray,List.set_cons_zero,List.set_cons_succ,List.getElem_toArray,List.getElem_cons_zero,List.getElem_cons_succ]
   refine wpAnyH_take (i:=7) (v:=nv s) rfl (by kernel_rfl) (by kernel_rfl) (by decide +kernel) (fun _ _ _ h => h) (yieldsIf_load_mid (by rfl) _ _ rfl _ _ rfl (nc s).toList _ (fun W hW j v hv => by rw [cell_of_row W _ _ (nc s) 24 (0,0) ((hW.block _ hbs (fun e => hgs (Option.some.inj e))).trans bs),Nat.zero_add]; simpa using hv) uN rfl (iN _)) hH ?_
   simp only [Act.put,List.setIfInBounds_toArray,List.set_cons_zero,List.set_cons_succ,List.getElem_toArray,List.getElem_cons_zero,List.getElem_cons_succ]
   refine wpAnyH_ready (rs:=[8]) (by decide +kernel) (by simp) ?_
   refine AllReadyH.cons rfl (fun K hK => ?_) AllReadyH.nil
   go_simp
   refine (iz_is kzs.out (zec ks.out) _).mono ?_
   rintro e v2 ⟨rfl,hE⟩
   have hS:=hS.below hE
   have hR:=hE.block hR
   refine hK.out _ _ hS (fun hH => ?_)
   clear hK K hE
   try simp only [Act.put,List.setIfInBounds_toArray,List.set_cons_zero,List.set_cons_succ,List.getElem_toArray,List.getElem_cons_zero,List.getElem_cons_succ]
   refine wpAnyH_take (i:=9) (v:=.bool true) rfl (by kernel_rfl) (by kernel_rfl) (by decide +kernel) (fun _ _ _ h => h) (Or.inl ⟨by rfl,fun W hSw => (by dsimp only at hSw; go_simp)⟩) hH ?_
   simp only [Act.put,List.setIfInBounds_toArray,List.set_cons_zero,List.set_cons_succ,List.getElem_toArray,List.getElem_cons_zero,List.getElem_cons_succ]
   refine wpAnyH_take (i:=10) (v:=.bool true) rfl (by kernel_rfl) (by kernel_rfl) (by decide +kernel) (fun _ _ _ h => h) (yif_pickB (by rfl) rfl rfl rfl) hH ?_
   simp only [Act.put,List.setIfInBounds_toArray,List.set_cons_zero,List.set_cons_succ,List.getElem_toArray,List.getElem_cons_zero,List.getElem_cons_succ]
   refine wpAnyH_ready (rs:=[11]) (by decide +kernel) (by simp) ?_
   refine AllReadyH.cons rfl (fun K hK => ?_) AllReadyH.nil
   refine wp_store_row 35 _ _ rfl (w.heap.size + 1 + 1 + 1) (gc r s) rfl rfl 35 _ hR (iSg _ _) (gz_size _ _) (zda _ _) ?_
   have hR:=setRow_heap _ _ _ (gc r s) 35 (0,0) hR
   have hS:=zdd hS (gc r s)
   refine hK.out _ _ hS (fun hH => ?_)
   clear hK K
   refine wpAnyH_ready (rs:=[12]) (by decide +kernel) (by simp) ?_
   refine AllReadyH.cons rfl (fun K hK => ?_) AllReadyH.nil
   go_simp
   refine hK.out _ _ hS (fun hH => ?_)
   clear hK K
   refine wpAnyH_done (by decide +kernel) ?_ _
   refine NoPanic.normal ?_
   go_wp2
   exact bodyPost_ret (zbs rfl _ _ (w.heap.size + 1 + 1 + 1) 35 (gc r s) (0,0) _ rfl hR Tryz.underlying35 rfl (iSg _ _)) rfl ⟨rfl,hx.new hS (by omega)⟩
theorem mod_aux (n e u i : Nat) : (e % n + u % n % n) % n * i % n = i * ((e % n + u % n) % n) % n:=by rw [Nat.mod_mod,Nat.mul_comm]
theorem sOf_eq {D E K r t u v s : Nat} (ht : t = Pt.iG Pt.nn K) (hr : r = Pt.rOf K) (hu : u = r * D % Pt.nn) (hv : v = (E % Pt.nn + u % Pt.nn) % Pt.nn) (hs : s = v * t % Pt.nn) : s = Pt.sOf D E K:=by
 rw [hs,hv,hu,ht,hr]
 exact mod_aux Pt.nn E (Pt.rOf K * D) (Pt.iG Pt.nn K)
theorem mayB_mod {X M : Nat} (h : X = M % Pt.nn) : mayB X = !decide (X = 0):=by
 unfold mayB
 rw [decide_eq_true (mod_nn h),Bool.and_true]
 by_cases h0 : X = 0 <;> simp [h0]
theorem made_is {g D E K x : Nat} (hD : D < top) (hE : E < top) (hK : mayB K = true) (hx : x = Pt.pX (Pt.grp.mul K Pt.base).1) {r s : Nat} (hr : r = Pt.rOf K) (hs : s = Pt.sOf D E K) {b : Bool} (hb : (mayB r && mayB s) = b) {w : World} (hF : Fn w g) :
  Calls Tryz.prog 60 #[mv g D E,nv K,nv x] w fun e w' => e = .returned (.tuple #[gv r s,.bool b]) ∧ Ext w w':=by
 have hxt : x < top:=by rw [hx]; exact (p_top _).1
 have hr2 : r = x % Pt.nn:=by rw [hr,hx]; rfl
 have hs2 : s = (E % Pt.nn + (r * D % Pt.nn) % Pt.nn) % Pt.nn * Pt.iG Pt.nn K % Pt.nn:=by rw [hs]; exact (sOf_eq rfl hr rfl rfl rfl).symm
 have hK2 : K ≠ 0 ∧ K < Pt.nn:=⟨may_ne hK,zgp hK⟩
 rw [mayB_mod hr2,mayB_mod hs2] at hb
 exact made_all hD hE hK2 hxt rfl hr2 rfl rfl hs2 hb hF
end Go.Proofs.YtmfjigcdhijkjaaGreatDoor
