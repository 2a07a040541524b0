/-
  Of Y3 Y4 Y5 Y6 Y7 W3 KJ.
-/
import Derived.Test.YtihophdbkjhopaaGreatDoorZD19
import Derived.Test.YtihophdbkjhopaaGreatDoorZD4
import Derived.Test.YtihophdbkjhopaaGreatDoorZD9
import Derived.Test.YtihophdbkjhopaaGreatDoorZD12
import Derived.Test.YtihophdbkjhopaaGreatDoorZD2
import Derived.Test.YtihophdbkjhopaaGreatDoorZD15
set_option maxRecDepth 1000000
set_option maxHeartbeats 20000000
namespace Go.Proofs.YtihophdbkjhopaaGreatDoor
open Go.RowKit
open Go.Value renaming int → vI
open Go.IntKind renaming u64 → vU
open Go.Act renaming put → aP
open List renaming setIfInBounds_toArray → lA, set_cons_zero → lZ, set_cons_succ → lS
def sgc : Option (Nat × Nat) → Array Value
 | none => gc 0 0
 | some (r,s) => gc r s
theorem sgv_c (o : Option (Nat × Nat)) : sgv o = .agg (sgc o):=by cases o <;> rfl
theorem sgc_one (o : Option (Nat × Nat)) : (sgc o).all (·.oneCell') = true:=by cases o <;> exact zbu _ _
theorem iSo (o : Option (Nat × Nat)) : (Tryz.prog.info? 46).map (·.size) = some (sgc o).size:=by cases o <;> exact iSg _ _
def sge (o : Option (Nat × Nat)) : Value:=if o.isSome then .nilIface else .iface 37 (.int .i64 4)
theorem first_calls {D E g base : Nat} (hD : D < top) (hE : E < top) {xs : List Nat} (hmx : ∀ k ∈ xs,mayB k = true) (h0 : 0 < xs.length) (hn : xs.length ≤ 100) {w : World} {v : Value} (hF : Fn w g) (hO : OwnN w base v xs) :
  Calls Tryz.prog 59 #[mv g D E,v] w fun e w' => e = .returned (.tuple #[sgv (pick D E xs),sge (pick D E xs)]) ∧ Ext w w':=by
 obtain ⟨gL,cap,cur,rfl,bL,hcs⟩:=hO.blk h0
 obtain ⟨n,hnx⟩ : ∃ n,n = xs.length:=⟨_,rfl⟩
 rw [← hnx] at hn h0 ⊢
 have kCS:=veil (And.intro hcs (And.intro hmx hnx))
 have kN:=veil hn
 have kD:=veil hD
 have kE:=veil hE
 clear hO hmx hcs hnx hn hD hE
 unfold mv mc
 go_enter Tryz.func59,Tryz.ntmps59
 go_upto_region 1 with (fail)
 refine wp_via2 fun w1 hx b0 b1 => ?_
 have b0 : w1.heap[w.heap.size]? = some (.cells (mc g D E) 106 (0,0)):=b0
 have hf:=hF.ext hx
 clear hF
 replace bL:=hx.block bL
 have kX:=veil hx
 clear hx h0
 go_wp2
 go_loopw [14] (fun v14 wr => ∃ i : Nat,i ≤ n ∧ v14 = .int .i64 (i : Int) ∧ pick D E xs = pick D E (xs.drop i) ∧ Ext w1 wr)
  (fun v14 _ => n - (intOf v14).toNat)
 case atStart => exact ⟨0,by omega,rfl,rfl,Ext.refl _⟩
 case round =>
  obtain ⟨i,hi,rfl,hpk,hx⟩:=hrel
  replace b0:=hx.block b0
  replace b1:=hx.block b1
  replace bL:=hx.block bL
  replace hf:=hf.ext hx
  by_cases hlt : i < n
  ·
   have hn100 : n ≤ 100:=kN.out
   obtain ⟨K,hK⟩ : ∃ K,xs[i]? = some K:=⟨_,List.getElem?_eq_getElem (by rw [← kCS.out.2.2]; exact hlt)⟩
   have hmK:=kCS.out.2.1 K (List.mem_of_getElem? hK)
   have kK:=veil hmK
   have kil:=veil hlt
   have kcs:=veil (kCS.out.1 i K hK)
   have kdrop:=veil (drop_at hK)
   have kpick:=veil hpk
   obtain ⟨P,hP⟩ : ∃ P,P = Pt.grp.mul K Pt.base:=⟨_,rfl⟩
   have kP:=veil hP
   obtain ⟨r,hr⟩ : ∃ r,r = Pt.rOf K:=⟨_,rfl⟩
   obtain ⟨s,hs⟩ : ∃ s,s = Pt.sOf D E K:=⟨_,rfl⟩
   have kr:=veil hr
   have ks:=veil hs
   have hI : (i : Int) < (n : Int):=by omega
   clear hs hr hP hpk hmK hK
   go_upto_region 3 with (fail)
   refine' zby (m:=2) (A:=_) (by kernel_rfl) ?h1 ?h2
   case h1 =>
    refine zaa (.pointer (some ⟨gL,i * 4,none⟩)) rfl (made_index (sz:=4) rfl rfl rfl kil.out Tryz.underlying101 infoN4) ?_
    refine zaa (nv K) rfl (zan (cs:=(nc K).toList) rfl rfl bL kcs.out uN rfl (iN K)) ?_;simp only [aP,lA,lZ,lS]
    exact zcf
   refine prest_var _ _ rfl rfl rfl rfl rfl rfl rfl (hzN ·) (fun _ => rfl) (fun _ => rfl) (iN _) rfl (zdu _) ?_
   intro gk w2 hgk bk hE
   replace b0:=hE.block b0
   replace b1:=hE.block b1
   replace hf:=hf.ext hE
   replace hx:=hx.trans hE
   clear hE
   simp only [aP,lA,lZ,lS]
   clear hgk
   go_upto_region 4 with (fail)
   refine' wp_made (m:=5) (A:=_) 7 (by kernel_rfl) (by kernel_rfl) (by kernel_rfl) ?h2a ?h2b
   case h2a =>
    refine zaa (nv K) rfl (zan rfl rfl bk rfl uN rfl (iN _)) ?_
    refine zaa (qv Pt.gx Pt.gy false) rfl (zbc (args:=[]) rfl rfl (fun W => zaf Tryz.func54 rfl rfl _ W) (fun W hW => zie W)) ?_;simp only [aP,lA,lZ,lS]
    refine zaa (.tuple #[qv (Pt.pX P.1) (Pt.pY P.1) (Pt.pFar P.1),.nilIface]) rfl (zbc (args:=[nv K,qv Pt.gx Pt.gy false]) rfl rfl (fun W => zaf Tryz.func53 rfl rfl _ W) (fun W hW => mulb_is (Nat.lt_trans (zfu kK.out) zcp) kP.out W)) ?_
    refine zaa (.tuple #[qv (Pt.pX P.1) (Pt.pY P.1) (Pt.pFar P.1),.nilIface]) rfl (zbb (.inl rfl) rfl) ?_;simp only [aP,lA,lZ,lS]
    refine zaa (qv (Pt.pX P.1) (Pt.pY P.1) (Pt.pFar P.1)) rfl (zcg rfl rfl rfl) ?_;simp only [aP,lA,lZ,lS]
    exact zcf
   refine rest_var2 (v:=.nilIface) (vx:=.nilIface) _ _ _ _ rfl rfl rfl rfl rfl rfl rfl rfl rfl rfl rfl rfl rfl rfl rfl rfl (by decide) (by kernel_rfl) (by kernel_rfl) (by kernel_rfl) (by kernel_rfl) (by kernel_rfl) (by kernel_rfl) (by kernel_rfl) rfl rfl rfl rfl rfl rfl (hzT ·) (run_ext rfl rfl rfl) (fun _ => run_ext rfl rfl rfl) (fun _ => rfl) (fun _ => rfl) (fun _ => rfl) (fun _ => rfl) (fun _ => rfl) (iT _ _ _) rfl (qc_one _ _ _) ?_
   intro gp w3 hgp bp hE
   refine NoPanic.normal ?_
   replace b0:=hE.block b0
   replace b1:=hE.block b1
   replace bk:=hE.block bk
   replace hf:=hf.ext hE
   replace hx:=hx.trans hE
   clear hE
   simp only [aP,lA,lZ,lS]
   clear hgp
   go_upto_region 5 with (fail)
   cases hb : (mayB r && mayB s) with
   | false =>
    have kb:=veil hb
    clear hb
    refine' zby (m:=8) (A:=_) (by kernel_rfl) ?h3a ?h3b
    case h3a =>
     refine zaa (mv g D E) rfl (zan rfl rfl b0 rfl Tryz.underlying106 rfl (iMk _ _ _)) ?_
     refine zaa (nv K) rfl (zan rfl rfl bk rfl uN rfl (iN _)) ?_;simp only [aP,lA,lZ,lS]
     refine zaa (ptrTo gp) rfl (zbw rfl rfl (fldT0 _ ·)) ?_
     refine zaa (nv (Pt.pX P.1)) rfl (zan rfl rfl bp rfl uN rfl (iN _)) ?_;simp only [aP,lA,lZ,lS]
     refine zaa (.tuple #[gv r s,.bool false]) rfl (zbc (args:=[mv g D E,nv K,nv (Pt.pX P.1)]) rfl rfl (fun W => zaf Tryz.func115 rfl rfl _ W) (fun W hW => made_is kD.out kE.out kK.out (by rw [kP.out]) kr.out ks.out kb.out (hf.ext hW))) ?_
     refine zaa (.tuple #[gv r s,.bool false]) rfl (zbb (.inl rfl) rfl) ?_;simp only [aP,lA,lZ,lS]
     refine zaa (gv r s) rfl (zcg rfl rfl rfl) ?_
     refine zaa (.bool false) rfl (zcg rfl rfl rfl) ?_;simp only [aP,lA,lZ,lS]
     exact zcf
    refine zfr _ _ rfl rfl rfl rfl rfl rfl rfl (hzG ·) (fun _ => rfl) (fun _ => rfl) (iSg _ _) rfl (zbu _ _) ?_
    intro gs w4 hgs bs hE
    replace b0:=hE.block b0
    replace b1:=hE.block b1
    replace bk:=hE.block bk
    replace bp:=hE.block bp
    replace hf:=hf.ext hE
    replace hx:=hx.trans hE
    clear hE
    simp only [aP,lA,lZ,lS]
    clear hgs
    go_wp2
    go_roundw
    case rel =>
     exact ⟨i + 1,by omega,by go_num,by rw [kpick.out,kdrop.out,pick_no (by rw [← kr.out,← ks.out,kb.out])],hx⟩
    case measure => simp [intOf]; omega
   | true =>
    have kb:=veil hb
    clear hb
    refine' zby (m:=8) (A:=_) (by kernel_rfl) ?h4a ?h4b
    case h4a =>
     refine zaa (mv g D E) rfl (zan rfl rfl b0 rfl Tryz.underlying106 rfl (iMk _ _ _)) ?_
     refine zaa (nv K) rfl (zan rfl rfl bk rfl uN rfl (iN _)) ?_;simp only [aP,lA,lZ,lS]
     refine zaa (ptrTo gp) rfl (zbw rfl rfl (fldT0 _ ·)) ?_
     refine zaa (nv (Pt.pX P.1)) rfl (zan rfl rfl bp rfl uN rfl (iN _)) ?_;simp only [aP,lA,lZ,lS]
     refine zaa (.tuple #[gv r s,.bool true]) rfl (zbc (args:=[mv g D E,nv K,nv (Pt.pX P.1)]) rfl rfl (fun W => zaf Tryz.func115 rfl rfl _ W) (fun W hW => made_is kD.out kE.out kK.out (by rw [kP.out]) kr.out ks.out kb.out (hf.ext hW))) ?_
     refine zaa (.tuple #[gv r s,.bool true]) rfl (zbb (.inl rfl) rfl) ?_;simp only [aP,lA,lZ,lS]
     refine zaa (gv r s) rfl (zcg rfl rfl rfl) ?_
     refine zaa (.bool true) rfl (zcg rfl rfl rfl) ?_;simp only [aP,lA,lZ,lS]
     exact zcf
    refine zfr _ _ rfl rfl rfl rfl rfl rfl rfl (hzG ·) (fun _ => rfl) (fun _ => rfl) (iSg _ _) rfl (zbu _ _) ?_
    intro gs w4 hgs bs hE
    replace b1:=hE.block b1
    replace hf:=hf.ext hE
    replace hx:=hx.trans hE
    clear hE
    simp only [aP,lA,lZ,lS]
    clear hgs
    go_upto_region 7 with (fail)
    refine' zby (m:=1) (A:=_) (by kernel_rfl) ?h5a ?h5b
    case h5a =>
     refine zaa (gv r s) rfl (zan rfl rfl bs rfl Tryz.underlying46 rfl (iSg _ _)) ?_;simp only [aP,lA,lZ,lS]
     exact zcf
    refine zfs _ rfl rfl rfl rfl rfl rfl b1 (iSg _ _) rfl (zbu _ _) ?_
    intro w5 hB hb
    go_wp2
    have hmm:=kb.out
    rw [kr.out,ks.out,Bool.and_eq_true] at hmm
    have hpk : pick D E xs = some (r,s):=by rw [kpick.out,kdrop.out,kr.out,ks.out]; exact pick_yes hmm.1 hmm.2
    clear hmm
    rw [hpk]
    exact bodyPost_ret (zaz rfl _ _ (w.heap.size + 1) 46 (gc r s) (0,0) _ rfl hb Tryz.underlying46 rfl (iSg _ _)) rfl ⟨rfl,(kX.out.trans hx).new hB (by omega)⟩
  ·
   obtain rfl : i = n:=by omega
   have hpk : pick D E xs = none:=by rw [hpk,List.drop_eq_nil_of_le (by rw [← kCS.out.2.2]; exact Nat.le_refl _)]; rfl
   have kpk:=veil hpk
   clear hpk hi hlt
   go_upto_region 9 with (fail)
   refine' zby (m:=2) (A:=_) (by kernel_rfl) ?h6a ?h6b
   case h6a =>
    refine zaa (gv 0 0) rfl (zem rfl rfl (bldG0 ·)) ?_
    refine zaa (.iface 37 (.int .i64 4)) rfl (made_iface rfl (mkErr4 ·)) ?_;simp only [aP,lA,lZ,lS]
    exact zcf
   refine zfs _ rfl rfl rfl rfl rfl rfl b1 (iSg _ _) rfl (zbu _ _) ?_
   intro w2 hB hb
   go_wp2
   rw [kpk.out]
   exact bodyPost_ret (zaz rfl _ _ (w.heap.size + 1) 46 (gc 0 0) (0,0) _ rfl hb Tryz.underlying46 rfl (iSg _ _)) rfl ⟨rfl,(kX.out.trans hx).new hB (by omega)⟩
theorem spub_ok {D : Nat} (hm : mayB D = true) {P : Pt.Q} (hP : P = Pt.grp.mul D Pt.base) (w : World) :
  Calls Tryz.prog 22 #[nv D] w fun e w' => e = .returned (.tuple #[qv (Pt.pX P.1) (Pt.pY P.1) (Pt.pFar P.1),.nilIface]) ∧ Ext w w':=by
 have hD:=Nat.lt_trans (zfu hm) zcp
 have km:=veil hm
 have kP:=veil hP
 have kD:=veil hD
 clear hD hP hm
 unfold nv nc
 go_enter Tryz.func22,Tryz.ntmps22
 go_upto_region 1 with (fail)
 refine wp_via2 fun w1 hx b0 b1 => ?_
 have b0 : w1.heap[w.heap.size]? = some (.cells (nc D) 29 (0,0)):=b0
 refine' zby (m:=3) (A:=_) (by kernel_rfl) ?h1 ?h2
 case h1 =>
  refine zaa (nv D) rfl (zan rfl rfl b0 rfl uN rfl (iN _)) ?_
  refine zaa (.bool true) rfl (zbc (args:=[nv D]) rfl rfl (fun W => zaf Tryz.func52 rfl rfl _ W) (fun W hW => zey km.out kD.out W)) ?_;simp only [aP,lA,lZ,lS]
  refine zaa (.bool false) rfl (made_not' rfl rfl rfl) ?_;simp only [aP,lA,lZ,lS]
  exact zcf
 refine prest_done rfl ?_
 intro w2 hE
 replace b0:=hE.block b0
 replace b1:=hE.block b1
 replace hx:=hx.trans hE
 clear hE
 go_upto_region 3 with (fail)
 have hb0:=(Array.getElem?_eq_some_iff.1 b0).1
 have hRlt:=(Array.getElem?_eq_some_iff.1 b1).1
 refine wp_region_noPanic ?_
 have hS:=But.of_below (r:=w.heap.size + 1) (Ext.drew w2)
 have hR:=(Ext.drew w2).block b1
 refine wp_region_held_drew (S:=fun W => But (w.heap.size + 1) w2 W) (by kernel_rfl) hS (fun hH => ?_)
 refine wpAnyH_take (i:=0) (v:=nv D) rfl (by kernel_rfl) (by kernel_rfl) (by decide +kernel) (fun _ _ _ h => h) (yieldsIf_load_mid (by rfl) _ _ rfl _ _ rfl (nc D).toList _ (fun W hW j v hv => by rw [cell_of_row W _ _ (nc D) 29 (0,0) ((hW.block _ hb0 (by intro e; injection e; omega)).trans b0),Nat.zero_add]; simpa using hv) uN rfl (iN _)) hH ?_
 simp only [Act.put,List.setIfInBounds_toArray,List.set_cons_zero,List.set_cons_succ,List.getElem_toArray,List.getElem_cons_zero]
 refine wpAnyH_ready (rs:=[1]) (by decide +kernel) (by simp) ?_
 refine AllReadyH.cons rfl (fun K hK => ?_) AllReadyH.nil
 go_simp
 refine (zie _).mono ?_
 rintro e v1 ⟨rfl,hE⟩
 have hS:=hS.below hE
 have hR:=hE.block hR
 refine hK.out _ _ hS (fun hH => ?_)
 clear hK K hE
 try simp only [Act.put,List.setIfInBounds_toArray,List.set_cons_zero,List.set_cons_succ,List.getElem_toArray,List.getElem_cons_zero,List.getElem_cons_succ]
 refine wpAnyH_ready (rs:=[2]) (by decide +kernel) (by simp) ?_
 refine AllReadyH.cons rfl (fun K hK => ?_) AllReadyH.nil
 go_simp
 refine (mulb_is kD.out kP.out _).mono ?_
 rintro e v2 ⟨rfl,hE⟩
 have hS:=hS.below hE
 have hR:=hE.block hR
 refine hK.out _ _ hS (fun hH => ?_)
 clear hK K hE
 try simp only [Act.put,List.setIfInBounds_toArray,List.set_cons_zero,List.set_cons_succ,List.getElem_toArray,List.getElem_cons_zero,List.getElem_cons_succ]
 refine wpAnyH_take (i:=3) (v:=qv (Pt.pX P.1) (Pt.pY P.1) (Pt.pFar P.1)) rfl (by kernel_rfl) (by kernel_rfl) (by decide +kernel) (fun _ _ _ h => h) (Or.inl ⟨by rfl,fun W hSw => (by dsimp only at hSw; go_simp)⟩) hH ?_
 simp only [Act.put,List.setIfInBounds_toArray,List.set_cons_zero,List.set_cons_succ,List.getElem_toArray,List.getElem_cons_zero,List.getElem_cons_succ]
 refine wpAnyH_take (i:=4) (v:=.nilIface) rfl (by kernel_rfl) (by kernel_rfl) (by decide +kernel) (fun _ _ _ h => h) (Or.inl ⟨by rfl,fun W hSw => (by dsimp only at hSw; go_simp)⟩) hH ?_
 simp only [Act.put,List.setIfInBounds_toArray,List.set_cons_zero,List.set_cons_succ,List.getElem_toArray,List.getElem_cons_zero,List.getElem_cons_succ]
 refine wpAnyH_ready (rs:=[5]) (by decide +kernel) (by simp) ?_
 refine AllReadyH.cons rfl (fun K hK => ?_) AllReadyH.nil
 refine wp_store_row 44 _ _ rfl (w.heap.size + 1) (qc (Pt.pX P.1) (Pt.pY P.1) (Pt.pFar P.1)) rfl rfl 44 _ hR (iT _ _ _) (qz_size _ _ _) (qc_one _ _ _) ?_
 have hR:=setRow_heap _ _ _ (qc (Pt.pX P.1) (Pt.pY P.1) (Pt.pFar P.1)) 44 (0,0) hR
 have hS:=zci hS (qc (Pt.pX P.1) (Pt.pY P.1) (Pt.pFar P.1))
 refine hK.out _ _ hS (fun hH => ?_)
 clear hK K
 refine wpAnyH_ready (rs:=[6]) (by decide +kernel) (by simp) ?_
 refine AllReadyH.cons rfl (fun K hK => ?_) AllReadyH.nil
 go_simp
 refine hK.out _ _ hS (fun hH => ?_)
 clear hK K
 refine wpAnyH_done (by decide +kernel) ?_ _
 refine NoPanic.normal ?_
 go_wp2
 exact bodyPost_ret (zaz rfl _ _ (w.heap.size + 1) 44 (qc (Pt.pX P.1) (Pt.pY P.1) (Pt.pFar P.1)) (0,0) _ rfl hR Tryz.underlying44 rfl (iT _ _ _)) rfl ⟨rfl,hx.new hS (by omega)⟩
theorem ssign_bad {D : Nat} (hD : D < top) (hm : mayB D = false) (y : Nat → Nat) (w : World) :
  Calls Tryz.prog 26 #[nv D,dgv y] w fun e w' => e = .returned (.tuple #[gv 0 0,.iface 37 (.int .i64 1)]) ∧ Ext w w':=by
 have kD:=veil hD
 have km:=veil hm
 clear hm hD
 exact way1 Tryz.func26 [nv D,dgv y] (.call _ _ _ (fun W _ => zey km.out kD.out W) <|
  .ret _ fun _ h => ⟨rfl,h⟩) (by kernel_rfl)
theorem ssign_ok {D : Nat} (hm : mayB D = true) (y : Nat → Nat) (hy : ∀ j,y j < 256) {w : World} (hK : KT w) :
  Calls Tryz.prog 26 #[nv D,dgv y] w fun e w' => ∃ s o,Ends D (num32 y % Pt.nn) 16 s ∧ sigOf D (num32 y) (outN D (num32 y % Pt.nn) s) = o ∧ e = .returned (.tuple #[sgv o,sge o]) ∧ Ext w w':=by
 have hD:=Nat.lt_trans (zfu hm) zcp
 have KL:=veil (fun W (hW : KT W) => list_good D hD y hy 16 (by decide) hm W hW)
 obtain ⟨E,hE⟩ : ∃ E,E = num32 y:=⟨_,rfl⟩
 obtain ⟨M,hM⟩ : ∃ M,M = num32 y % Pt.nn:=⟨_,rfl⟩
 have kEt:=veil (show E < top from by rw [hE]; exact ziv hy)
 rw [← hM] at KL ⊢
 rw [← hE]
 have kE:=veil hE
 have kM:=veil hM
 have km:=veil hm
 have ky:=veil hy
 have kD:=veil hD
 have kK:=veil hK
 clear hK hD hy hm hM hE
 unfold nv nc dgv dgc
 go_enter Tryz.func26,Tryz.ntmps26
 go_upto_region 1 with (fail)
 refine wp_via3 fun w1 hx b0 b1 b2 => ?_
 have b0 : w1.heap[w.heap.size]? = some (.cells (nc D) 29 (0,0)):=b0
 have b1 : w1.heap[w.heap.size + 1]? = some (.cells (dgc y) 23 (0,0)):=b1
 refine' zby (m:=3) (A:=_) (by kernel_rfl) ?h1 ?h2
 case h1 =>
  refine zaa (nv D) rfl (zan rfl rfl b0 rfl uN rfl (iN _)) ?_
  refine zaa (.bool true) rfl (zbc (args:=[nv D]) rfl rfl (fun W => zaf Tryz.func52 rfl rfl _ W) (fun W hW => zey km.out kD.out W)) ?_;simp only [aP,lA,lZ,lS]
  refine zaa (.bool false) rfl (made_not' rfl rfl rfl) ?_;simp only [aP,lA,lZ,lS]
  exact zcf
 refine prest_done rfl ?_
 intro w2 hE
 replace b0:=hE.block b0
 replace b1:=hE.block b1
 replace b2:=hE.block b2
 replace hx:=hx.trans hE
 clear hE
 go_upto_region 3 with (fail)
 refine wp_region_lit ?_
 refine wpl_load rfl rfl rfl b0 rfl uN rfl (iN D) ?_
 simp only [aP,lA,lZ,lS]
 refine wpl_load rfl rfl rfl b1 rfl Tryz.underlying23 rfl (iDg y) ?_
 simp only [aP,lA,lZ,lS]
 refine wpl_fun (R:=fun t W' => ∃ v ev,t = .tuple #[v,ev] ∧ Res D M 16 W' w2.heap.size v ev ∧ Ext w2 W') (args:=[nv D,dgv y,.int .i64 16]) rfl rfl rfl (fun W => zaf Tryz.func57 rfl rfl _ W) ((KL.out w2 (kK.out.call hx)).mono fun e W' ⟨v,ev,he,hR,hE⟩ => ⟨_,he,v,ev,rfl,hR,hE⟩) ?_
 rintro t w3 ⟨v,ev,rfl,⟨s',hEn,hR⟩,hE⟩
 replace b0:=hE.block b0
 replace b1:=hE.block b1
 replace b2:=hE.block b2
 replace hx:=hx.trans hE
 clear hE
 simp only [aP,lA,lZ,lS]
 have kEn:=veil hEn
 clear hEn KL
 obtain ⟨xs,hxs⟩ : ∃ xs,xs = outN D M s':=⟨_,rfl⟩
 have kmx:=veil (show ∀ k ∈ xs,mayB k = true from fun k hk => by rw [hxs] at hk; exact (zis D M s' k hk).1)
 have kln:=veil (show xs.length ≤ 100 from by rw [hxs]; exact Nat.le_trans kEn.out.most (by decide))
 rw [← hxs] at hR
 have kxs:=veil hxs
 clear hxs
 rcases hR with ⟨h16,rfl,hO⟩ | ⟨h16,rfl,rfl⟩
 ·
  have hsg : sigOf D E xs = pick D E xs:=if_neg h16
  have ksg:=veil hsg
  have k0:=veil (show 0 < xs.length from by omega)
  clear hsg h16
  obtain ⟨o,ho⟩ : ∃ o,o = pick D E xs:=⟨_,rfl⟩
  have ko:=veil ho
  have KF:=veil (fun (W : World) (g : Nat) (hF : Fn W g) (hW : Ext w3 W) => first_calls (D:=D) (E:=E) kD.out kEt.out kmx.out k0.out kln.out hF (hO.ext hW))
  rw [← ho] at KF
  rw [sgv_c o] at KF
  obtain ⟨A,c,rfl,-⟩:=hO.form
  generalize xs.length = n at *
  clear ho hO
  go_upto_region 6 with (fail)
  go_wp2_with (first
   | ((with_reducible refine zab 23 ?_); refine wpList_load_row rfl 29 _ rfl w.heap.size rfl 29 (nc D) (0,0) _ b0 Tryz.underlying29 rfl (iN D) ?_)
   | ((with_reducible refine zab 24 ?_); refine wpList_load_row rfl 23 _ rfl (w.heap.size + 1) rfl 23 (dgc y) (0,0) _ b1 Tryz.underlying23 rfl (iDg y) ?_)
   | (go_at_call 58; refine (maker_calls (D:=D) ky.out kE.out _).mono ?_; rintro e w5 ⟨⟨g,rfl,hF⟩,hE5⟩)
   | (go_at_call 59; refine (KF.out w5 g hF hE5).mono ?_; rintro e w6 ⟨rfl,hE6⟩)
   | ((with_reducible refine zae ?_); refine wpList_store_row rfl 46 _ _ rfl (w.heap.size + 1 + 1) (sgc o) rfl rfl 46 _ (hE6.block (hE5.block b2)) (iSo o) (by cases o <;> rfl) (sgc_one o) ?_))
  exact bodyPost_ret (zaz rfl _ _ (w.heap.size + 1 + 1) 46 (sgc o) (0,0) _ rfl (setRow_heap w6 _ _ (sgc o) 46 (0,0) (hE6.block (hE5.block b2))) Tryz.underlying46 rfl (iSo o)) rfl ⟨s',o,kEn.out,by rw [← kxs.out,ksg.out,ko.out],by rw [sgv_c]; rfl,zam ((hx.trans hE5).trans hE6) (by omega) _⟩
 ·
  have hsg : sigOf D E xs = none:=if_pos h16
  have ksg:=veil hsg
  clear hsg h16
  go_upto_region 5 with (fail)
  refine' zby (m:=2) (A:=_) (by kernel_rfl) ?h2a ?h2b
  case h2a =>
   refine zaa (gv 0 0) rfl (zem rfl rfl (bldG0 ·)) ?_
   refine zaa (.iface 37 (.int .i64 4)) rfl (zbb (.inl rfl) rfl) ?_;simp only [aP,lA,lZ,lS]
   exact zcf
  refine zfs _ rfl rfl rfl rfl rfl rfl b2 (iSg _ _) rfl (zbu _ _) ?_
  intro w4 hB hb
  go_wp2
  exact bodyPost_ret (zaz rfl _ _ (w.heap.size + 1 + 1) 46 (gc 0 0) (0,0) _ rfl hb Tryz.underlying46 rfl (iSg _ _)) rfl ⟨s',none,kEn.out,by rw [← kxs.out]; exact ksg.out,rfl,hx.new hB (by omega)⟩
theorem sver_far {X Y R S : Nat} (hX : X < top) (hY : Y < top) (hR : R < top) (hS : S < top) (y : Nat → Nat) (w : World) :
  Calls Tryz.prog 43 #[qv X Y true,dgv y,gv R S] w fun e w' => e = .returned (.bool false) ∧ Ext w w':=by
 have kX:=veil hX
 have kY:=veil hY
 have kR:=veil hR
 have kS:=veil hS
 clear hS hR hY hX
 exact way1 Tryz.func43 [qv X Y true,dgv y,gv R S] (.ret _ fun _ h => ⟨rfl,h⟩) (by kernel_rfl)
theorem sver_off {X Y R S : Nat} (hX : X < top) (hY : Y < top) (hR : R < top) (hS : S < top) (hon : onB X Y false = false) (y : Nat → Nat) (w : World) :
  Calls Tryz.prog 43 #[qv X Y false,dgv y,gv R S] w fun e w' => e = .returned (.bool false) ∧ Ext w w':=by
 have kX:=veil hX
 have kY:=veil hY
 have kR:=veil hR
 have kS:=veil hS
 have kon:=veil hon
 clear hon hS hR hY hX
 exact way1 Tryz.func43 [qv X Y false,dgv y,gv R S] (.call _ _ _ (fun W _ => onp_is kon.out kX.out kY.out W) <|
  .ret _ fun _ h => ⟨rfl,h⟩) (by kernel_rfl)
theorem sver_r {X Y R S : Nat} (hX : X < top) (hY : Y < top) (hR : R < top) (hS : S < top) (hon : onB X Y false = true) (hr : mayB R = false) (y : Nat → Nat) (w : World) :
  Calls Tryz.prog 43 #[qv X Y false,dgv y,gv R S] w fun e w' => e = .returned (.bool false) ∧ Ext w w':=by
 have kX:=veil hX
 have kY:=veil hY
 have kR:=veil hR
 have kS:=veil hS
 have kon:=veil hon
 have kr:=veil hr
 clear hr hon hS hR hY hX
 exact way1 Tryz.func43 [qv X Y false,dgv y,gv R S] (.call _ _ _ (fun W _ => onp_is kon.out kX.out kY.out W) <|
  .call _ _ _ (fun W _ => zey kr.out kR.out W) <|
  .ret _ fun _ h => ⟨rfl,h⟩) (by kernel_rfl)
theorem sver_s {X Y R S : Nat} (hX : X < top) (hY : Y < top) (hR : R < top) (hS : S < top) (hon : onB X Y false = true) (hr : mayB R = true) (hs : mayB S = false) (y : Nat → Nat) (w : World) :
  Calls Tryz.prog 43 #[qv X Y false,dgv y,gv R S] w fun e w' => e = .returned (.bool false) ∧ Ext w w':=by
 have kX:=veil hX
 have kY:=veil hY
 have kR:=veil hR
 have kS:=veil hS
 have kon:=veil hon
 have kr:=veil hr
 have ks:=veil hs
 clear hs hr hon hS hR hY hX
 exact way1 Tryz.func43 [qv X Y false,dgv y,gv R S] (.call _ _ _ (fun W _ => onp_is kon.out kX.out kY.out W) <|
  .call _ _ _ (fun W _ => zey kr.out kR.out W) <|
  .call _ _ _ (fun W _ => zey ks.out kS.out W) <|
  .ret _ fun _ h => ⟨rfl,h⟩) (by kernel_rfl)
theorem sver_all (y : Nat → Nat) {p a b c : Pt.Q} {X Y R S t E u v m : Nat} {f : Bool} (hX : X < top) (hY : Y < top) (hR : R < top) (hS : S < top) (hon : onB X Y false = true) (hr : mayB R = true) (hs : mayB S = true) (hp : X = Pt.pX p.1 ∧ Y = Pt.pY p.1 ∧ false = Pt.pFar p.1) (hy : ∀ j,y j < 256) (hE : E = num32 y) (ht : t = Pt.iG Pt.nn S) (hu : u = E * t % Pt.nn) (hv : v = R * t % Pt.nn) (ha : a = Pt.grp.mul u Pt.base) (hb : b = Pt.grp.mul v p) (hc : c = Pt.grp.op a b) (hfar : Pt.pFar c.1 = f) (hm : m = Pt.pX c.1 % Pt.nn) (w : World) :
  Calls Tryz.prog 43 #[qv X Y false,dgv y,gv R S] w fun e w' => e = .returned (.bool (!f && decide (m = R))) ∧ Ext w w':=by
 obtain ⟨x,hx0⟩ : ∃ x,x = Pt.pX c.1:=⟨_,rfl⟩
 obtain ⟨z,hz0⟩ : ∃ z,z = Pt.pY c.1:=⟨_,rfl⟩
 have kEt:=veil (show E < top from by rw [hE]; exact ziv hy)
 have ksum:=fun W => sumof_calls (w:=W) (mul_top hu) (mul_top hv) hp ha hb hc
 rw [← hx0,← hz0,hfar] at ksum
 have KS:=veil ksum
 have km:=veil (show m = x % Pt.nn ∧ x < top ∧ m < top from ⟨by rw [hx0]; exact hm,by rw [hx0]; exact (p_top _).1,by rw [hm]; exact Nat.lt_trans (Nat.mod_lt _ (Nat.lt_trans (by decide) nn_odd.2)) zcp⟩)
 have kX:=veil hX
 have kY:=veil hY
 have kR:=veil hR
 have kS:=veil hS
 have kon:=veil hon
 have kr:=veil hr
 have ks:=veil hs
 have ky:=veil hy
 have kE:=veil hE
 have kt:=veil ht
 have ku:=veil hu
 have kv:=veil hv
 clear hv hu ht hE hy hs hr hon hS hR hY hX
 clear ksum hp ha hb hc hfar hm hx0 hz0
 cases f
 ·
  exact way1 Tryz.func43 [qv X Y false,dgv y,gv R S] (.call _ _ _ (fun W _ => onp_is kon.out kX.out kY.out W) <| .call _ _ _ (fun W _ => zey kr.out kR.out W) <| .call _ _ _ (fun W _ => zey ks.out kS.out W) <| hMod fun g =>
   .call _ _ _ (fun W hW => ninv_p (may_ne ks.out) (zfu ks.out) kt.out hW.2) <| .call _ _ _ (fun W _ => zgp ky.out kE.out W) <| .call _ _ _ (fun W hW => nmul_p ku.out kEt.out (zjd kt.out) hW.2) <|
   .call _ _ _ (fun W hW => nmul_p kv.out kR.out (zjd kt.out) hW.2) <| .call _ _ _ (fun W _ => KS.out W) <| .call _ _ _ (fun W hW => scut_calls km.out.1 km.out.2.1 hW.2) <|
   .ins 60 (binK .eql 29 (.tmp 57) (.tmp 59) (nv m) (nv R)) (.bool (decide (m = R))) (fun W _ => zdt (gN _ _ _ _ _ W) (eql_num km.out.2.2 kR.out W)) <| .ret _ fun _ h => ⟨rfl,h.1⟩) (by kernel_rfl)
 ·
  exact way1 Tryz.func43 [qv X Y false,dgv y,gv R S] (.call _ _ _ (fun W _ => onp_is kon.out kX.out kY.out W) <| .call _ _ _ (fun W _ => zey kr.out kR.out W) <| .call _ _ _ (fun W _ => zey ks.out kS.out W) <| hMod fun g =>
   .call _ _ _ (fun W hW => ninv_p (may_ne ks.out) (zfu ks.out) kt.out hW.2) <| .call _ _ _ (fun W _ => zgp ky.out kE.out W) <| .call _ _ _ (fun W hW => nmul_p ku.out kEt.out (zjd kt.out) hW.2) <|
   .call _ _ _ (fun W hW => nmul_p kv.out kR.out (zjd kt.out) hW.2) <| .call _ _ _ (fun W _ => KS.out W) <| .ret _ fun _ h => ⟨rfl,h.1⟩) (by kernel_rfl)
theorem sver_no {X Y R S : Nat} {f : Bool} (hX : X < top) (hY : Y < top) (hR : R < top) (hS : S < top) (h : onB X Y f = false) (y : Nat → Nat) (w : World) :
  Calls Tryz.prog 43 #[qv X Y f,dgv y,gv R S] w fun e w' => e = .returned (.bool false) ∧ Ext w w':=by
 cases f with
 | true => exact sver_far hX hY hR hS y w
 | false => exact sver_off hX hY hR hS h y w
theorem mod_mul_l (E t : Nat) : E * t % Pt.nn = E % Pt.nn * t % Pt.nn:=by
 have h1:=Nat.mul_mod E t Pt.nn
 have h2:=Nat.mul_mod (E % Pt.nn) t Pt.nn
 rw [Nat.mod_mod] at h2
 rw [h1,h2]
theorem sver_yes (p : Pt.Q) {R S : Nat} (hR : R < top) (hS : S < top) (y : Nat → Nat) (hy : ∀ j,y j < 256) (w : World) :
  Calls Tryz.prog 43 #[pv p,dgv y,gv R S] w fun e w' => e = .returned (.bool (Pt.verB p (num32 y) R S)) ∧ Ext w w':=by
 have hon:=onB_of p
 have hX:=(p_top p.1).1
 have hY:=(p_top p.1).2
 have hsum : Pt.sumOf p (num32 y) R S = Pt.grp.op (Pt.grp.mul (num32 y * Pt.iG Pt.nn S % Pt.nn) Pt.base) (Pt.grp.mul (R * Pt.iG Pt.nn S % Pt.nn) p):=by
  unfold Pt.sumOf
  rw [← mod_mul_l]
 unfold pv Pt.verB
 rw [inR_may,inR_may]
 cases hf : Pt.pFar p.1 with
 | true => exact sver_far hX hY hR hS y w
 | false =>
  rw [hf] at hon
  cases hr : mayB R with
  | false => exact sver_r hX hY hR hS hon hr y w
  | true =>
   cases hs : mayB S with
   | false => exact sver_s hX hY hR hS hon hr hs y w
   | true =>
    refine (sver_all (p:=p) (m:=Pt.pX (Pt.sumOf p (num32 y) R S).1 % Pt.nn) y hX hY hR hS hon hr hs ⟨rfl,rfl,hf.symm⟩ hy rfl rfl rfl rfl rfl rfl hsum rfl rfl w).mono ?_
    rintro e w' ⟨rfl,hE⟩
    exact ⟨by simp only [Bool.not_false,Bool.true_and],hE⟩
theorem bsv_oneY (X : Nat) : ∀ j,(bsv X j).oneCell' = true:=fun j => by simp [bsv,Value.oneCell']
theorem sbytes_calls (R S : Nat) (w : World) :
  Calls Tryz.prog 28 #[gv R S] w fun e w' => (∃ v,e = .returned v ∧ Own w' w.heap.size 5 v 64 (ptB R S)) ∧ Ext w w':=by
 have kb:=fun X W => bytes_calls X W
 have KB:=veil kb
 clear kb
 unfold gv gc
 go_enter Tryz.func28,Tryz.ntmps28
 go_upto_region 1 with (fail)
 refine zif fun w1 hx b0 => ?_
 have b0 : w1.heap[w.heap.size]? = some (.cells (gc R S) 46 (0,0)):=b0
 refine wp_region_noPanic ?_
 refine wp_region_held_drew (S:=fun W => Ext w1 W) (by kernel_rfl) (Ext.drew _) (fun hH => ?_)
 have hS : ∀ W,Ext w1 W → W.rangeAt w.heap.size 0 (nc R).toList:=fun W hW j v hv => by
  rw [cell_of_row W _ _ (gc R S) 46 (0,0) (hW.block b0),Nat.zero_add]
  have hj : j < 4:=(List.getElem?_eq_some_iff.1 hv).1
  rw [← hv]
  match j,hj with
  | 0,_ => rfl
  | 1,_ => rfl
  | 2,_ => rfl
  | 3,_ => rfl
 have hS4 : ∀ W,Ext w1 W → W.rangeAt w.heap.size 4 (nc S).toList:=fun W hW j v hv => by
  rw [cell_of_row W _ _ (gc R S) 46 (0,0) (hW.block b0)]
  have hj : j < 4:=(List.getElem?_eq_some_iff.1 hv).1
  rw [← hv]
  match j,hj with
  | 0,_ => rfl
  | 1,_ => rfl
  | 2,_ => rfl
  | 3,_ => rfl
 refine wpAnyH_take (i:=0) (v:=ptrTo w.heap.size) rfl (by kernel_rfl) (by kernel_rfl) (by decide +kernel) (fun _ _ _ h => h) (Or.inl ⟨by rfl,fun W hSw => (by dsimp only at hSw; go_simp)⟩) hH ?_
 refine wpAnyH_take (i:=1) (v:=nv R) rfl (by kernel_rfl) (by kernel_rfl) (by decide +kernel) (fun _ _ _ h => h) (yieldsIf_load_mid (by rfl) _ _ rfl _ _ rfl (nc R).toList _ hS uN rfl (iN R)) hH ?_
 refine wpAnyH_take (i:=3) (v:=.pointer (some ⟨w.heap.size,4,none⟩)) rfl (by kernel_rfl) (by kernel_rfl) (by decide +kernel) (fun _ _ _ h => h) (Or.inl ⟨by rfl,fun W hSw => (by dsimp only at hSw; go_simp)⟩) hH ?_
 refine wpAnyH_take (i:=4) (v:=nv S) rfl (by kernel_rfl) (by kernel_rfl) (by decide +kernel) (fun _ _ _ h => h) (yieldsIf_load_mid (by rfl) _ _ rfl _ _ rfl (nc S).toList _ hS4 uN rfl (iN S)) hH ?_
 refine wpAnyH_ready (rs:=[2]) (by decide +kernel) (by simp) ?_
 refine AllReadyH.cons rfl (fun K hK => ?_) AllReadyH.nil
 go_simp
 refine (KB.out R _).mono ?_
 rintro e w3 ⟨g1,rfl,hg1,r1,hE1⟩
 have hE1 : Ext _ w3:=hE1
 refine hK.out _ _ (hH.trans hE1) (fun hH => ?_)
 clear hK K hE1
 refine wpAnyH_ready (rs:=[5]) (by decide +kernel) (by simp) ?_
 refine AllReadyH.cons rfl (fun K hK => ?_) AllReadyH.nil
 go_simp
 refine (KB.out S _).mono ?_
 rintro e w4 ⟨g2,rfl,hg2,r2,hE2⟩
 have hE2 : Ext w3 w4:=hE2
 have r1:=Ext.row r1 hE2
 refine hK.out _ _ (hH.trans hE2) (fun hH => ?_)
 clear hK K hE2
 refine wpAnyH_ready (rs:=[6]) (by decide +kernel) (by simp) ?_
 refine AllReadyH.cons rfl (fun K hK => ?_) AllReadyH.nil
 go_simp
 have hb4:=zad w4 (.cells #[.slice (some ⟨g1,0,none⟩) 32 32,.slice (some ⟨g2,0,none⟩) 32 32] 24)
 have r1:=r1.alloc (.cells #[.slice (some ⟨g1,0,none⟩) 32 32,.slice (some ⟨g2,0,none⟩) 32 32] 24)
 have r2:=r2.alloc (.cells #[.slice (some ⟨g1,0,none⟩) 32 32,.slice (some ⟨g2,0,none⟩) 32 32] 24)
 refine hK.out _ _ (hH.trans (Ext.alloc _ _)) (fun hH => ?_)
 clear hK K
 refine wpAnyH_ready (rs:=[7]) (by decide +kernel) (by simp) ?_
 refine AllReadyH.cons rfl (fun K hK => ?_) AllReadyH.nil
 go_simp
 refine (concat_calls w4.heap.size g1 g2 32 32 (bsv R) (bsv S) (bsv_oneY R) (bsv_oneY S) _ hb4 r1 r2).mono ?_
 rintro e w5 ⟨⟨v,rfl,ho⟩,hE5⟩
 have ho : Own w5 w.heap.size 5 v 64 (ptB R S):=ho.base_le (Nat.le_trans (Below.size hx) (Below.size hH))
 refine hK.out _ _ (hH.trans hE5) (fun hH => ?_)
 clear hK K hE5
 refine wpAnyH_ready (rs:=[8]) (by decide +kernel) (by simp) ?_
 refine AllReadyH.cons rfl (fun K hK => ?_) AllReadyH.nil
 go_simp
 refine hK.out _ _ hH (fun hH => ?_)
 clear hK K
 refine wpAnyH_done (by decide +kernel) ?_ _
 refine NoPanic.normal ?_
 go_wp2
 go_ret
 exact ⟨⟨_,rfl,ho⟩,hx.trans hH⟩
theorem le_lo (y : Nat → Nat) : lev (fun k => y (32 - 1 - k)) 32 = be32 y 0:=by
 unfold be32
 simp only [Nat.zero_add]
theorem le_hi (y : Nat → Nat) : lev (fun k => y (32 + (32 - 1 - k))) 32 = be32 y 32:=rfl
theorem ofl_lo {b o c : Nat} {y : Nat → Nat} (hy : ∀ j,y j < 256) {w : World} (hlt : b < w.heap.size) (hcell : ∀ j,j < 64 → w.cell? ⟨b,o + j,none⟩ = some (.int .u8 (y j : Nat))) (W : World) (hW : Ext w W) : Calls Tryz.prog 74 #[.slice (some ⟨b,o,none⟩) 32 c] W fun e W' => e = .returned (.tuple #[nv (be32 y 0),.nilIface]) ∧ Ext W W':=by
 have h:=ziu b o 32 c y hy (by decide) W (Nat.lt_of_lt_of_le hlt (Below.size hW)) (fun j hj => (Below.cell (p:=⟨b,o + j,none⟩) hW hlt).trans (hcell j (by omega)))
 rw [le_lo] at h
 exact h
theorem ofl_hi {b o c : Nat} {y : Nat → Nat} (hy : ∀ j,y j < 256) {w : World} (hlt : b < w.heap.size) (hcell : ∀ j,j < 64 → w.cell? ⟨b,o + j,none⟩ = some (.int .u8 (y j : Nat))) (W : World) (hW : Ext w W) : Calls Tryz.prog 74 #[.slice (some ⟨b,o + 32,none⟩) 32 (c - 32)] W fun e W' => e = .returned (.tuple #[nv (be32 y 32),.nilIface]) ∧ Ext W W':=by
 have h:=ziu b (o + 32) 32 (c - 32) (fun j => y (32 + j)) (fun j => hy _) (by decide) W (Nat.lt_of_lt_of_le hlt (Below.size hW)) (fun j hj => by
  rw [Nat.add_assoc]
  exact (Below.cell (p:=⟨b,o + (32 + j),none⟩) hW hlt).trans (hcell (32 + j) (by omega)))
 rw [le_hi] at h
 exact h
theorem cut_lo (b o : Nat) {c : Nat} (hc : 64 ≤ c) (W : World) : (Instr.sliceAt 24 (.slice (some ⟨b,o,none⟩) 64 c) none (some (.int .i64 32)) none).run Tryz.prog W = .ok (.slice (some ⟨b,o,none⟩) 32 c) W:=by
 have h:=cut_to (some ⟨b,o,none⟩) 64 c 32 (by omega) W
 unfold cutA at h
 by_cases h0 : c = 0
 ·
  omega
 ·
  simpa [Addr.add_mid,h0] using h
theorem cut_hi (b o : Nat) {c : Nat} (hc : 64 ≤ c) (W : World) : (Instr.sliceAt 24 (.slice (some ⟨b,o,none⟩) 64 c) (some (.int .i64 32)) none none).run Tryz.prog W = .ok (.slice (some ⟨b,o + 32,none⟩) 32 (c - 32)) W:=by
 have h:=cut_from (some ⟨b,o,none⟩) 64 c 32 (by omega) W
 unfold cutA at h
 rw [if_neg (by omega)] at h
 simpa [Addr.add_mid] using h
theorem sparse_no (A : Option Addr) (n c : Nat) (hn : n ≠ 64) (w : World) :
  Calls Tryz.prog 39 #[.slice A n c] w fun e w' => e = .returned (.tuple #[gv 0 0,.iface 37 (.int .i64 2)]) ∧ Ext w w':=by
 have hn2 : ¬ (n : Int) = 64:=by omega
 clear hn
 exact way1 Tryz.func39 [.slice A n c] (.ins 10 (binK .neq 3 (.tmp 9) (.const (.int .i64 64)) (.int .i64 n) (.int .i64 64)) _ (fun W _ => neq_run hn2 W) <| .ret _ fun _ h => ⟨rfl,h⟩) (by kernel_rfl)
theorem sparse_64 (b o c : Nat) (y : Nat → Nat) (hy : ∀ j,y j < 256) (hc : 64 ≤ c) (w : World) (hlt : b < w.heap.size) (hcell : ∀ j,j < 64 → w.cell? ⟨b,o + j,none⟩ = some (.int .u8 (y j : Nat))) :
  Calls Tryz.prog 39 #[.slice (some ⟨b,o,none⟩) 64 c] w fun e w' => e = .returned (.tuple #[gv (be32 y 0) (be32 y 32),.nilIface]) ∧ Ext w w':=by
 have kx:=fun (W : World) (hW : Ext w W) => ofl_lo (c:=c) hy hlt hcell W hW
 have ky:=fun (W : World) (hW : Ext w W) => ofl_hi (c:=c) hy hlt hcell W hW
 have q1:=cut_lo b o hc
 have q2:=cut_hi b o hc
 clear hy hc hlt hcell
 generalize be32 y 0 = PX at *
 generalize be32 y 32 = PY at *
 have KX:=veil kx
 have KY:=veil ky
 have Q1:=veil q1
 have Q2:=veil q2
 clear q1 q2 kx ky
 exact way1 Tryz.func39 [.slice (some ⟨b,o,none⟩) 64 c] (.ins 15 (Instr.sliceAt 24 (.slice (some ⟨b,o,none⟩) 64 c) none (some (.int .i64 32)) none) _ (fun W _ => Q1.out W) <|
  .call _ _ _ (fun W hW => KX.out W hW) <|
  .ins 21 (Instr.sliceAt 24 (.slice (some ⟨b,o,none⟩) 64 c) (some (.int .i64 32)) none none) _ (fun W _ => Q2.out W) <|
  .call _ _ _ (fun W hW => KY.out W hW) <|
  .ret _ fun _ h => ⟨rfl,h⟩) (by kernel_rfl)
theorem on_q_is (q : Pt.Q) (w : World) : Calls Tryz.prog 77 #[pv q] w fun e w' => e = .returned (.bool true) ∧ Ext w w':=by
 have h:=on_is (Pt.pX q.1) (Pt.pY q.1) (Pt.pFar q.1) (p_top q.1).1 (p_top q.1).2 w
 rw [onB_of] at h
 exact h
theorem code_sum (A : Option Addr) (m c : Nat) (bs : List Nat) (w : World) (hK : KT w) (hm : m = bs.length) (hmc : m ≤ c) (hle : m ≤ 100000) (hS : Bs w A bs) : Calls Tryz.prog 27 #[.slice A m c] w fun e w' => e = .returned (dgv (dgL bs)) ∧ Ext w w':=by
 subst hm
 exact sum_calls A bs.length c (fun j => bs.getD j 0) hS.1.getD hmc (by omega) w hK (src_bs hS)
theorem code_sign_bad (D : Nat) (y : Nat → Nat) (w : World) (hD : D < top) (hm : mayB D = false) : Calls Tryz.prog 26 #[nv D,dgv y] w fun e w' => e = .returned (.tuple #[gv 0 0,.iface 37 (.int .i64 1)]) ∧ Ext w w':=ssign_bad hD hm y w
theorem code_sign_ok (D : Nat) (y : Nat → Nat) (w : World) (hK : KT w) (hm : mayB D = true) (hy : ∀ j,y j < 256) : Calls Tryz.prog 26 #[nv D,dgv y] w fun e w' => e = .returned (.tuple #[sgw (sgL D y),if (sgL D y).isSome then .nilIface else .iface 37 (.int .i64 4)]) ∧ Ext w w' :=
 (ssign_ok hm y hy hK).mono fun e w' ⟨s,o,h2,ho,he,hE⟩ => by
  obtain rfl:=sgL_of h2 ho
  rw [sgw_is]
  exact ⟨he,hE⟩
theorem code_ver (X Y : Nat) (f : Bool) (y : Nat → Nat) (R S : Nat) (w : World) (hX : X < top) (hY : Y < top) (hR : R < top) (hS : S < top) (hy : ∀ j,y j < 256) : Calls Tryz.prog 43 #[qv X Y f,dgv y,gv R S] w fun e w' => e = .returned (.bool (vfL X Y f y R S)) ∧ Ext w w':=by
 cases h : onB X Y f with
 | false =>
  rw [vfL_off h]
  exact sver_no hX hY hR hS h y w
 | true =>
  obtain ⟨p,rfl,rfl,rfl⟩:=onB_some h
  rw [vfL_on]
  exact sver_yes p hR hS y hy w
theorem code_pub (D : Nat) (w : World) (hm : mayB D = true) : Calls Tryz.prog 22 #[nv D] w fun e w' => e = .returned (.tuple #[qv (pubL D).1 (pubL D).2 false,.nilIface]) ∧ Ext w w':=by
 rw [pub_q hm]
 exact spub_ok hm rfl w
theorem code_on (D : Nat) (w : World) (hm : mayB D = true) : Calls Tryz.prog 77 #[qv (pubL D).1 (pubL D).2 false] w fun e w' => e = .returned (.bool true) ∧ Ext w w':=by
 rw [pub_q hm]
 exact on_q_is _ w
theorem code_bytes (r s : Nat) (w : World) : Calls Tryz.prog 28 #[gv r s] w fun e w' => ∃ A c,e = .returned (.slice A 64 c) ∧ 64 ≤ c ∧ Bs w' A (sigB r s) ∧ Fresh w A (sigB r s) ∧ Ext w w' :=
 (sbytes_calls r s w).mono fun e w' ⟨⟨v,he,o⟩,hE⟩ => by
  obtain ⟨A,c2,hv,h1,h2,h3⟩:=own_sig o
  rw [hv] at he
  exact ⟨A,c2,he,h1,h2,h3,hE⟩
theorem code_parse_no (A : Option Addr) (m c : Nat) (w : World) (hm : m ≠ 64) : Calls Tryz.prog 39 #[.slice A m c] w fun e w' => e = .returned (.tuple #[gv 0 0,.iface 37 (.int .i64 2)]) ∧ Ext w w':=sparse_no A m c hm w
theorem code_parse_64 (A : Option Addr) (m c : Nat) (bs : List Nat) (w : World) (hm : m = bs.length) (h64 : m = 64) (hc : m ≤ c) (hS : Bs w A bs) : Calls Tryz.prog 39 #[.slice A m c] w fun e w' => e = .returned (.tuple #[gv (sigR bs) (sigS bs),.nilIface]) ∧ Ext w w':=by
 subst h64
 obtain ⟨b,o,rfl,hb,hcl⟩:=hS.2.resolve_left (by omega)
 have e1 : be32 (fun j => bs.getD j 0) 0 = sigR bs:=lev_valB (bs:=bs.take 32) (hS.1.take 32) (by rw [List.length_take]; omega) fun k hk => by
  simp only [List.getD_eq_getElem?_getD,List.getElem?_take_of_lt (show 32 - 1 - k < 32 by omega),Nat.zero_add]
 have e2 : be32 (fun j => bs.getD j 0) 32 = sigS bs:=lev_valB (bs:=bs.drop 32) (hS.1.drop 32) (by rw [List.length_drop]; omega) fun k hk => by
  simp only [List.getD_eq_getElem?_getD,List.getElem?_drop]
 refine (sparse_64 b o c (fun j => bs.getD j 0) hS.1.getD hc w hb fun j hj => hcl j (by omega)).mono fun e w' ⟨he,hE⟩ => ⟨?_,hE⟩
 rw [he,e1,e2]
theorem codeL : CodeL where
 sum:=code_sum
 sign_bad:=code_sign_bad
 sign_ok:=code_sign_ok
 ver:=code_ver
 pub:=code_pub
 on:=code_on
 bytes:=code_bytes
 parse_odd:=code_parse_no
 parse_64:=code_parse_64
end Go.Proofs.YtihophdbkjhopaaGreatDoor
