/-
  Of Y3 Y4.
-/
import Derived.Test.YtmfjigcdhijkjaaDoorZB38
set_option maxRecDepth 1000000
set_option maxHeartbeats 20000000
namespace Go.Proofs.YtmfjigcdhijkjaaDoor
open Go.RowKit
open Go.Act renaming put → aP
open List renaming setIfInBounds_toArray → lA, set_cons_zero → lZ, set_cons_succ → lS
def sgc : Option (Nat × Nat) → Array Value
 | none => gc 0 0
 | some (r,s) => gc r s
theorem sgv_c (o : Option (Nat × Nat)) : sgv o = .agg (sgc o):=by cases o <;> rfl
theorem sgc_one (o : Option (Nat × Nat)) : (sgc o).all (·.oneCell') = true:=by cases o <;> exact zbu _ _
theorem iSo (o : Option (Nat × Nat)) : (Tryd.prog.info? 26).map (·.size) = some (sgc o).size:=by cases o <;> exact iSg _ _
def sge (o : Option (Nat × Nat)) : Value:=if o.isSome then .nilIface else .iface 34 (.int .i64 4)
theorem first_calls {D E g base : Nat} (hD : D < top) (hE : E < top) {xs : List Nat} (hmx : ∀ k ∈ xs,mayB k = true) (h0 : 0 < xs.length) (hn : xs.length ≤ 100) {w : World} {v : Value} (hF : Fn w g) (hO : OwnN w base v xs) :
  Calls Tryd.prog 29 #[mv g D E,v] w fun e w' => e = .returned (.tuple #[sgv (pick D E xs),sge (pick D E xs)]) ∧ Ext w w':=by
 obtain ⟨gL,cap,cur,rfl,bL,hcs⟩:=hO.blk h0
 obtain ⟨n,hnx⟩ : ∃ n,n = xs.length:=⟨_,rfl⟩
 rw [← hnx] at hn h0 ⊢
 have kCS:=veil (And.intro hcs (And.intro hmx hnx))
 have kN:=veil hn
 have kD:=veil hD
 have kE:=veil hE
 clear hO hmx hcs hnx hn hD hE
 unfold mv mc
 go_enter Tryd.func29,Tryd.ntmps29
 go_upto_region 1 with (fail)
 obtain ⟨hx,b0,b1⟩:=blocks2 w (.cells #[ptrTo g,.int .u64 (wd D 0),.int .u64 (wd D 1),.int .u64 (wd D 2),.int .u64 (wd D 3),.int .u64 (wd E 0),.int .u64 (wd E 1),.int .u64 (wd E 2),.int .u64 (wd E 3)] 65) (.cells #[.int .u64 0,.int .u64 0,.int .u64 0,.int .u64 0,.int .u64 0,.int .u64 0,.int .u64 0,.int .u64 0] 26)
 generalize (w.alloc (.cells #[ptrTo g,.int .u64 (wd D 0),.int .u64 (wd D 1),.int .u64 (wd D 2),.int .u64 (wd D 3),.int .u64 (wd E 0),.int .u64 (wd E 1),.int .u64 (wd E 2),.int .u64 (wd E 3)] 65)).alloc (.cells #[.int .u64 0,.int .u64 0,.int .u64 0,.int .u64 0,.int .u64 0,.int .u64 0,.int .u64 0,.int .u64 0] 26) = w1 at *
 have b0 : w1.heap[w.heap.size]? = some (.cells (mc g D E) 65 (0,0)):=b0
 have hf:=hF.ext hx
 clear hF
 replace bL:=hx.block bL
 have kX:=veil hx
 clear hx h0
 go_wp2
 go_loopw [14] (fun v14 wr => ∃ i : Nat,i ≤ n ∧ v14 = .int .i64 (i : Int) ∧ pick D E xs = pick D E (xs.drop i) ∧ Ext w1 wr)
  (fun v14 _ => n - (intOf v14).toNat)
 case atStart => exact ⟨0,by omega,rfl,rfl,Ext.refl _⟩
 case round =>
  obtain ⟨i,hi,rfl,hpk,hx⟩:=hrel
  replace b0:=hx.block b0
  replace b1:=hx.block b1
  replace bL:=hx.block bL
  replace hf:=hf.ext hx
  by_cases hlt : i < n
  ·
   have hn100 : n ≤ 100:=kN.out
   obtain ⟨K,hK⟩ : ∃ K,xs[i]? = some K:=⟨_,List.getElem?_eq_getElem (by rw [← kCS.out.2.2]; exact hlt)⟩
   have hmK:=kCS.out.2.1 K (List.mem_of_getElem? hK)
   have kK:=veil hmK
   have kil:=veil hlt
   have kcs:=veil (kCS.out.1 i K hK)
   have kdrop:=veil (drop_at hK)
   have kpick:=veil hpk
   obtain ⟨P,hP⟩ : ∃ P,P = Pt.grp.mul K Pt.base:=⟨_,rfl⟩
   have kP:=veil hP
   obtain ⟨r,hr⟩ : ∃ r,r = Pt.rOf K:=⟨_,rfl⟩
   obtain ⟨s,hs⟩ : ∃ s,s = Pt.sOf D E K:=⟨_,rfl⟩
   have kr:=veil hr
   have ks:=veil hs
   have hI : (i : Int) < (n : Int):=by omega
   clear hs hr hP hpk hmK hK
   go_upto_region 3 with (fail)
   refine' zaj (m:=2) (A:=_) (by kernel_rfl) ?h1 ?h2
   case h1 =>
    refine zaa (.pointer (some ⟨gL,i * 4,none⟩)) rfl (made_index (sz:=4) rfl rfl rfl kil.out Tryd.underlying60 infoN4) ?_;simp only [aP,lA,lZ,lS]
    refine zaa (nv K) rfl (zac (cs:=(nc K).toList) rfl rfl bL kcs.out uN rfl (iN K)) ?_;simp only [aP,lA,lZ,lS]
    exact zah
   refine zcm _ _ rfl rfl rfl rfl rfl rfl rfl (hzN ·) (fun _ => rfl) (fun _ => rfl) (iN _) rfl (zbe _) ?_
   intro gk w2 hgk bk hE
   replace b0:=hE.block b0
   replace b1:=hE.block b1
   replace hf:=hf.ext hE
   replace hx:=hx.trans hE
   clear hE
   simp only [aP,lA,lZ,lS]
   clear hgk
   go_upto_region 4 with (fail)
   refine' zbn (m:=5) (A:=_) 7 (by kernel_rfl) (by kernel_rfl) (by kernel_rfl) ?h2a ?h2b
   case h2a =>
    refine zaa (nv K) rfl (zac rfl rfl bk rfl uN rfl (iN _)) ?_;simp only [aP,lA,lZ,lS]
    refine zaa (qv Pt.gx Pt.gy false) rfl (zaf (args:=[]) rfl rfl (fun W => zab Tryd.func26 rfl rfl _ W) (fun W hW => zgu W)) ?_;simp only [aP,lA,lZ,lS]
    refine zaa (.tuple #[qv (Pt.pX P.1) (Pt.pY P.1) (Pt.pFar P.1),.nilIface]) rfl (zaf (args:=[nv K,qv Pt.gx Pt.gy false]) rfl rfl (fun W => zab Tryd.func25 rfl rfl _ W) (fun W hW => mulb_is (Nat.lt_trans (zfx kK.out) zcs) kP.out W)) ?_;simp only [aP,lA,lZ,lS]
    refine zaa (.tuple #[qv (Pt.pX P.1) (Pt.pY P.1) (Pt.pFar P.1),.nilIface]) rfl (zae (.inl rfl) rfl) ?_;simp only [aP,lA,lZ,lS]
    refine zaa (qv (Pt.pX P.1) (Pt.pY P.1) (Pt.pFar P.1)) rfl (zar rfl rfl rfl) ?_;simp only [aP,lA,lZ,lS]
    exact zah
   refine zdu (v:=.nilIface) (vx:=.nilIface) _ _ _ _ rfl rfl rfl rfl rfl rfl rfl rfl rfl rfl rfl rfl rfl rfl rfl rfl (by decide) (by kernel_rfl) (by kernel_rfl) (by kernel_rfl) (by kernel_rfl) (by kernel_rfl) (by kernel_rfl) (by kernel_rfl) rfl rfl rfl rfl rfl rfl (hzT ·) (zby rfl rfl rfl) (fun _ => zby rfl rfl rfl) (fun _ => rfl) (fun _ => rfl) (fun _ => rfl) (fun _ => rfl) (fun _ => rfl) (iT _ _ _) rfl (zdd _ _ _) ?_
   intro gp w3 hgp bp hE
   refine NoPanic.normal ?_
   replace b0:=hE.block b0
   replace b1:=hE.block b1
   replace bk:=hE.block bk
   replace hf:=hf.ext hE
   replace hx:=hx.trans hE
   clear hE
   simp only [aP,lA,lZ,lS]
   clear hgp
   go_upto_region 5 with (fail)
   cases hb : (mayB r && mayB s) with
   | false =>
    have kb:=veil hb
    clear hb
    refine' zaj (m:=8) (A:=_) (by kernel_rfl) ?h3a ?h3b
    case h3a =>
     refine zaa (mv g D E) rfl (zac rfl rfl b0 rfl Tryd.underlying65 rfl (iMk _ _ _)) ?_;simp only [aP,lA,lZ,lS]
     refine zaa (nv K) rfl (zac rfl rfl bk rfl uN rfl (iN _)) ?_;simp only [aP,lA,lZ,lS]
     refine zaa (ptrTo gp) rfl (zad rfl rfl (fldT0 _ ·)) ?_;simp only [aP,lA,lZ,lS]
     refine zaa (nv (Pt.pX P.1)) rfl (zac rfl rfl bp rfl uN rfl (iN _)) ?_;simp only [aP,lA,lZ,lS]
     refine zaa (.tuple #[gv r s,.bool false]) rfl (zaf (args:=[mv g D E,nv K,nv (Pt.pX P.1)]) rfl rfl (fun W => zab Tryd.func58 rfl rfl _ W) (fun W hW => made_is kD.out kE.out kK.out (by rw [kP.out]) kr.out ks.out kb.out (hf.ext hW))) ?_;simp only [aP,lA,lZ,lS]
     refine zaa (.tuple #[gv r s,.bool false]) rfl (zae (.inl rfl) rfl) ?_;simp only [aP,lA,lZ,lS]
     refine zaa (gv r s) rfl (zar rfl rfl rfl) ?_;simp only [aP,lA,lZ,lS]
     refine zaa (.bool false) rfl (zar rfl rfl rfl) ?_;simp only [aP,lA,lZ,lS]
     exact zah
    refine zbf _ _ rfl rfl rfl rfl rfl rfl rfl (hzG ·) (fun _ => rfl) (fun _ => rfl) (iSg _ _) rfl (zbu _ _) ?_
    intro gs w4 hgs bs hE
    replace b0:=hE.block b0
    replace b1:=hE.block b1
    replace bk:=hE.block bk
    replace bp:=hE.block bp
    replace hf:=hf.ext hE
    replace hx:=hx.trans hE
    clear hE
    simp only [aP,lA,lZ,lS]
    clear hgs
    go_wp2
    go_roundw
    case rel =>
     exact ⟨i + 1,by omega,by go_num,by rw [kpick.out,kdrop.out,pick_no (by rw [← kr.out,← ks.out,kb.out])],hx⟩
    case measure => simp [intOf]; omega
   | true =>
    have kb:=veil hb
    clear hb
    refine' zaj (m:=8) (A:=_) (by kernel_rfl) ?h4a ?h4b
    case h4a =>
     refine zaa (mv g D E) rfl (zac rfl rfl b0 rfl Tryd.underlying65 rfl (iMk _ _ _)) ?_;simp only [aP,lA,lZ,lS]
     refine zaa (nv K) rfl (zac rfl rfl bk rfl uN rfl (iN _)) ?_;simp only [aP,lA,lZ,lS]
     refine zaa (ptrTo gp) rfl (zad rfl rfl (fldT0 _ ·)) ?_;simp only [aP,lA,lZ,lS]
     refine zaa (nv (Pt.pX P.1)) rfl (zac rfl rfl bp rfl uN rfl (iN _)) ?_;simp only [aP,lA,lZ,lS]
     refine zaa (.tuple #[gv r s,.bool true]) rfl (zaf (args:=[mv g D E,nv K,nv (Pt.pX P.1)]) rfl rfl (fun W => zab Tryd.func58 rfl rfl _ W) (fun W hW => made_is kD.out kE.out kK.out (by rw [kP.out]) kr.out ks.out kb.out (hf.ext hW))) ?_;simp only [aP,lA,lZ,lS]
     refine zaa (.tuple #[gv r s,.bool true]) rfl (zae (.inl rfl) rfl) ?_;simp only [aP,lA,lZ,lS]
     refine zaa (gv r s) rfl (zar rfl rfl rfl) ?_;simp only [aP,lA,lZ,lS]
     refine zaa (.bool true) rfl (zar rfl rfl rfl) ?_;simp only [aP,lA,lZ,lS]
     exact zah
    refine zbf _ _ rfl rfl rfl rfl rfl rfl rfl (hzG ·) (fun _ => rfl) (fun _ => rfl) (iSg _ _) rfl (zbu _ _) ?_
    intro gs w4 hgs bs hE
    replace b1:=hE.block b1
    replace hf:=hf.ext hE
    replace hx:=hx.trans hE
    clear hE
    simp only [aP,lA,lZ,lS]
    clear hgs
    go_upto_region 7 with (fail)
    refine' zaj (m:=1) (A:=_) (by kernel_rfl) ?h5a ?h5b
    case h5a =>
     refine zaa (gv r s) rfl (zac rfl rfl bs rfl Tryd.underlying26 rfl (iSg _ _)) ?_;simp only [aP,lA,lZ,lS]
     exact zah
    refine zcr _ rfl rfl rfl rfl rfl rfl b1 (iSg _ _) rfl (zbu _ _) ?_
    intro w5 hB hb
    go_wp2
    have hmm:=kb.out
    rw [kr.out,ks.out,Bool.and_eq_true] at hmm
    have hpk : pick D E xs = some (r,s):=by rw [kpick.out,kdrop.out,kr.out,ks.out]; exact pick_yes hmm.1 hmm.2
    clear hmm
    rw [hpk]
    exact bodyPost_ret (zba rfl _ _ (w.heap.size + 1) 26 (gc r s) (0,0) _ rfl hb Tryd.underlying26 rfl (iSg _ _)) rfl ⟨rfl,(kX.out.trans hx).new hB (by omega)⟩
  ·
   obtain rfl : i = n:=by omega
   have hpk : pick D E xs = none:=by rw [hpk,List.drop_eq_nil_of_le (by rw [← kCS.out.2.2]; exact Nat.le_refl _)]; rfl
   have kpk:=veil hpk
   clear hpk hi hlt
   go_upto_region 9 with (fail)
   refine' zaj (m:=2) (A:=_) (by kernel_rfl) ?h6a ?h6b
   case h6a =>
    refine zaa (gv 0 0) rfl (zau rfl rfl (bldG0 ·)) ?_;simp only [aP,lA,lZ,lS]
    refine zaa (.iface 34 (.int .i64 4)) rfl (zeu rfl (mkErr4 ·)) ?_;simp only [aP,lA,lZ,lS]
    exact zah
   refine zcr _ rfl rfl rfl rfl rfl rfl b1 (iSg _ _) rfl (zbu _ _) ?_
   intro w2 hB hb
   go_wp2
   rw [kpk.out]
   exact bodyPost_ret (zba rfl _ _ (w.heap.size + 1) 26 (gc 0 0) (0,0) _ rfl hb Tryd.underlying26 rfl (iSg _ _)) rfl ⟨rfl,(kX.out.trans hx).new hB (by omega)⟩
theorem spub_bad {D : Nat} (hD : D < top) (hm : mayB D = false) (w : World) :
  Calls Tryd.prog 11 #[nv D] w fun e w' => e = .returned (.tuple #[qv 0 0 false,.iface 34 (.int .i64 1)]) ∧ Ext w w':=by
 have kD:=veil hD
 have km:=veil hm
 clear hm hD
 unfold nv nc
 go_enter Tryd.func11,Tryd.ntmps11
 go_upto_region 1 with (fail)
 obtain ⟨hx,b0,b1⟩:=blocks2 w (.cells #[.int .u64 (wd D 0),.int .u64 (wd D 1),.int .u64 (wd D 2),.int .u64 (wd D 3)] 24) (.cells #[.int .u64 0,.int .u64 0,.int .u64 0,.int .u64 0,.int .u64 0,.int .u64 0,.int .u64 0,.int .u64 0,.bool false] 40)
 generalize (w.alloc (.cells #[.int .u64 (wd D 0),.int .u64 (wd D 1),.int .u64 (wd D 2),.int .u64 (wd D 3)] 24)).alloc (.cells #[.int .u64 0,.int .u64 0,.int .u64 0,.int .u64 0,.int .u64 0,.int .u64 0,.int .u64 0,.int .u64 0,.bool false] 40) = w1 at *
 have b0 : w1.heap[w.heap.size]? = some (.cells (nc D) 24 (0,0)):=b0
 refine' zaj (m:=3) (A:=_) (by kernel_rfl) ?h1 ?h2
 case h1 =>
  refine zaa (nv D) rfl (zac rfl rfl b0 rfl uN rfl (iN _)) ?_;simp only [aP,lA,lZ,lS]
  refine zaa (.bool false) rfl (zaf (args:=[nv D]) rfl rfl (fun W => zab Tryd.func24 rfl rfl _ W) (fun W hW => zep km.out kD.out W)) ?_;simp only [aP,lA,lZ,lS]
  refine zaa (.bool true) rfl (zaz rfl rfl rfl) ?_;simp only [aP,lA,lZ,lS]
  exact zah
 refine zam rfl ?_
 intro w2 hE
 replace b1:=hE.block b1
 replace hx:=hx.trans hE
 clear hE
 go_upto_region 2 with (fail)
 refine' zaj (m:=2) (A:=_) (by kernel_rfl) ?h2a ?h2b
 case h2a =>
  refine zaa (qv 0 0 false) rfl (zau rfl rfl (bldT0 ·)) ?_;simp only [aP,lA,lZ,lS]
  refine zaa (.iface 34 (.int .i64 1)) rfl (zeu rfl (mkErr1 ·)) ?_;simp only [aP,lA,lZ,lS]
  exact zah
 refine zcr _ rfl rfl rfl rfl rfl rfl b1 (iT _ _ _) rfl (zdd _ _ _) ?_
 intro w3 hB hb
 go_wp2
 exact bodyPost_ret (zba rfl _ _ (w.heap.size + 1) 40 (qc 0 0 false) (0,0) _ rfl hb Tryd.underlying40 rfl (iT _ _ _)) rfl ⟨rfl,hx.new hB (by omega)⟩
theorem spub_ok {D : Nat} (hm : mayB D = true) {P : Pt.Q} (hP : P = Pt.grp.mul D Pt.base) (w : World) :
  Calls Tryd.prog 11 #[nv D] w fun e w' => e = .returned (.tuple #[qv (Pt.pX P.1) (Pt.pY P.1) (Pt.pFar P.1),.nilIface]) ∧ Ext w w':=by
 have hD:=Nat.lt_trans (zfx hm) zcs
 have km:=veil hm
 have kP:=veil hP
 have kD:=veil hD
 clear hD hP hm
 unfold nv nc
 go_enter Tryd.func11,Tryd.ntmps11
 go_upto_region 1 with (fail)
 obtain ⟨hx,b0,b1⟩:=blocks2 w (.cells #[.int .u64 (wd D 0),.int .u64 (wd D 1),.int .u64 (wd D 2),.int .u64 (wd D 3)] 24) (.cells #[.int .u64 0,.int .u64 0,.int .u64 0,.int .u64 0,.int .u64 0,.int .u64 0,.int .u64 0,.int .u64 0,.bool false] 40)
 generalize (w.alloc (.cells #[.int .u64 (wd D 0),.int .u64 (wd D 1),.int .u64 (wd D 2),.int .u64 (wd D 3)] 24)).alloc (.cells #[.int .u64 0,.int .u64 0,.int .u64 0,.int .u64 0,.int .u64 0,.int .u64 0,.int .u64 0,.int .u64 0,.bool false] 40) = w1 at *
 have b0 : w1.heap[w.heap.size]? = some (.cells (nc D) 24 (0,0)):=b0
 refine' zaj (m:=3) (A:=_) (by kernel_rfl) ?h1 ?h2
 case h1 =>
  refine zaa (nv D) rfl (zac rfl rfl b0 rfl uN rfl (iN _)) ?_;simp only [aP,lA,lZ,lS]
  refine zaa (.bool true) rfl (zaf (args:=[nv D]) rfl rfl (fun W => zab Tryd.func24 rfl rfl _ W) (fun W hW => zep km.out kD.out W)) ?_;simp only [aP,lA,lZ,lS]
  refine zaa (.bool false) rfl (zaz rfl rfl rfl) ?_;simp only [aP,lA,lZ,lS]
  exact zah
 refine zam rfl ?_
 intro w2 hE
 replace b0:=hE.block b0
 replace b1:=hE.block b1
 replace hx:=hx.trans hE
 clear hE
 go_upto_region 3 with (fail)
 have hb0:=(Array.getElem?_eq_some_iff.1 b0).1
 have hRlt:=(Array.getElem?_eq_some_iff.1 b1).1
 refine wp_region_noPanic ?_
 have hS:=But.of_below (r:=w.heap.size + 1) (Ext.drew w2)
 have hR:=(Ext.drew w2).block b1
 refine wp_region_held_drew (S:=fun W => But (w.heap.size + 1) w2 W) (by kernel_rfl) hS (fun hH => ?_)
 refine wpAnyH_take (i:=0) (v:=nv D) rfl (by kernel_rfl) (by kernel_rfl) (by decide +kernel) (fun _ _ _ h => h) (yieldsIf_load_mid (by rfl) _ _ rfl _ _ rfl (nc D).toList _ (fun W hW j v hv => by rw [cell_of_row W _ _ (nc D) 24 (0,0) ((hW.block _ hb0 (by intro e; injection e; omega)).trans b0),Nat.zero_add]; simpa using hv) uN rfl (iN _)) hH ?_
 simp only [Act.put,List.setIfInBounds_toArray,List.set_cons_zero,List.set_cons_succ,List.getElem_toArray,List.getElem_cons_zero]
 refine wpAnyH_ready (rs:=[1]) (by decide +kernel) (by simp) ?_
 refine AllReadyH.cons rfl (fun K hK => ?_) AllReadyH.nil
 go_simp
 refine (zgu _).mono ?_
 rintro e v1 ⟨rfl,hE⟩
 have hS:=hS.below hE
 have hR:=hE.block hR
 refine hK.out _ _ hS (fun hH => ?_)
 clear hK K hE
 try simp only [Act.put,List.setIfInBounds_toArray,List.set_cons_zero,List.set_cons_succ,List.getElem_toArray,List.getElem_cons_zero,List.getElem_cons_succ]
 refine wpAnyH_ready (rs:=[2]) (by decide +kernel) (by simp) ?_
 refine AllReadyH.cons rfl (fun K hK => ?_) AllReadyH.nil
 go_simp
 refine (mulb_is kD.out kP.out _).mono ?_
 rintro e v2 ⟨rfl,hE⟩
 have hS:=hS.below hE
 have hR:=hE.block hR
 refine hK.out _ _ hS (fun hH => ?_)
 clear hK K hE
 try simp only [Act.put,List.setIfInBounds_toArray,List.set_cons_zero,List.set_cons_succ,List.getElem_toArray,List.getElem_cons_zero,List.getElem_cons_succ]
 refine wpAnyH_take (i:=3) (v:=qv (Pt.pX P.1) (Pt.pY P.1) (Pt.pFar P.1)) rfl (by kernel_rfl) (by kernel_rfl) (by decide +kernel) (fun _ _ _ h => h) (Or.inl ⟨by rfl,fun W hSw => (by dsimp only at hSw; go_simp)⟩) hH ?_
 simp only [Act.put,List.setIfInBounds_toArray,List.set_cons_zero,List.set_cons_succ,List.getElem_toArray,List.getElem_cons_zero,List.getElem_cons_succ]
 refine wpAnyH_take (i:=4) (v:=.nilIface) rfl (by kernel_rfl) (by kernel_rfl) (by decide +kernel) (fun _ _ _ h => h) (Or.inl ⟨by rfl,fun W hSw => (by dsimp only at hSw; go_simp)⟩) hH ?_
 simp only [Act.put,List.setIfInBounds_toArray,List.set_cons_zero,List.set_cons_succ,List.getElem_toArray,List.getElem_cons_zero,List.getElem_cons_succ]
 refine wpAnyH_ready (rs:=[5]) (by decide +kernel) (by simp) ?_
 refine AllReadyH.cons rfl (fun K hK => ?_) AllReadyH.nil
 refine wp_store_row 40 _ _ rfl (w.heap.size + 1) (qc (Pt.pX P.1) (Pt.pY P.1) (Pt.pFar P.1)) rfl rfl 40 _ hR (iT _ _ _) (qz_size _ _ _) (zdd _ _ _) ?_
 have hR:=setRow_heap _ _ _ (qc (Pt.pX P.1) (Pt.pY P.1) (Pt.pFar P.1)) 40 (0,0) hR
 have hS:=zct hS (qc (Pt.pX P.1) (Pt.pY P.1) (Pt.pFar P.1))
 refine hK.out _ _ hS (fun hH => ?_)
 clear hK K
 refine wpAnyH_ready (rs:=[6]) (by decide +kernel) (by simp) ?_
 refine AllReadyH.cons rfl (fun K hK => ?_) AllReadyH.nil
 go_simp
 refine hK.out _ _ hS (fun hH => ?_)
 clear hK K
 refine wpAnyH_done (by decide +kernel) ?_ _
 refine NoPanic.normal ?_
 go_wp2
 exact bodyPost_ret (zba rfl _ _ (w.heap.size + 1) 40 (qc (Pt.pX P.1) (Pt.pY P.1) (Pt.pFar P.1)) (0,0) _ rfl hR Tryd.underlying40 rfl (iT _ _ _)) rfl ⟨rfl,hx.new hS (by omega)⟩
theorem ssign_bad {D : Nat} (hD : D < top) (hm : mayB D = false) (y : Nat → Nat) (w : World) :
  Calls Tryd.prog 12 #[nv D,dgv y] w fun e w' => e = .returned (.tuple #[gv 0 0,.iface 34 (.int .i64 1)]) ∧ Ext w w':=by
 have kD:=veil hD
 have km:=veil hm
 clear hm hD
 unfold nv nc dgv dgc
 go_enter Tryd.func12,Tryd.ntmps12
 go_upto_region 1 with (fail)
 obtain ⟨hx,b0,b1,b2⟩:=blocks3 w (.cells #[.int .u64 (wd D 0),.int .u64 (wd D 1),.int .u64 (wd D 2),.int .u64 (wd D 3)] 24) (.cells (arrOf 32 fun i => .int .u8 (y i : Nat)) 38) (.cells #[.int .u64 0,.int .u64 0,.int .u64 0,.int .u64 0,.int .u64 0,.int .u64 0,.int .u64 0,.int .u64 0] 26)
 generalize ((w.alloc (.cells #[.int .u64 (wd D 0),.int .u64 (wd D 1),.int .u64 (wd D 2),.int .u64 (wd D 3)] 24)).alloc (.cells (arrOf 32 fun i => .int .u8 (y i : Nat)) 38)).alloc (.cells #[.int .u64 0,.int .u64 0,.int .u64 0,.int .u64 0,.int .u64 0,.int .u64 0,.int .u64 0,.int .u64 0] 26) = w1 at *
 have b0 : w1.heap[w.heap.size]? = some (.cells (nc D) 24 (0,0)):=b0
 have b1 : w1.heap[w.heap.size + 1]? = some (.cells (dgc y) 38 (0,0)):=b1
 refine' zaj (m:=3) (A:=_) (by kernel_rfl) ?h1 ?h2
 case h1 =>
  refine zaa (nv D) rfl (zac rfl rfl b0 rfl uN rfl (iN _)) ?_;simp only [aP,lA,lZ,lS]
  refine zaa (.bool false) rfl (zaf (args:=[nv D]) rfl rfl (fun W => zab Tryd.func24 rfl rfl _ W) (fun W hW => zep km.out kD.out W)) ?_;simp only [aP,lA,lZ,lS]
  refine zaa (.bool true) rfl (zaz rfl rfl rfl) ?_;simp only [aP,lA,lZ,lS]
  exact zah
 refine zam rfl ?_
 intro w2 hE
 replace b2:=hE.block b2
 replace hx:=hx.trans hE
 clear hE
 go_upto_region 2 with (fail)
 refine' zaj (m:=2) (A:=_) (by kernel_rfl) ?h2a ?h2b
 case h2a =>
  refine zaa (gv 0 0) rfl (zau rfl rfl (bldG0 ·)) ?_;simp only [aP,lA,lZ,lS]
  refine zaa (.iface 34 (.int .i64 1)) rfl (zeu rfl (mkErr1 ·)) ?_;simp only [aP,lA,lZ,lS]
  exact zah
 refine zcr _ rfl rfl rfl rfl rfl rfl b2 (iSg _ _) rfl (zbu _ _) ?_
 intro w3 hB hb
 go_wp2
 exact bodyPost_ret (zba rfl _ _ (w.heap.size + 1 + 1) 26 (gc 0 0) (0,0) _ rfl hb Tryd.underlying26 rfl (iSg _ _)) rfl ⟨rfl,hx.new hB (by omega)⟩
theorem ssign_ok {D : Nat} (hm : mayB D = true) (y : Nat → Nat) (hy : ∀ j,y j < 256) {w : World} (hK : KT w) :
  Calls Tryd.prog 12 #[nv D,dgv y] w fun e w' => ∃ s o,Ends D (num32 y % Pt.nn) 16 s ∧ sigOf D (num32 y) (outN D (num32 y % Pt.nn) s) = o ∧ e = .returned (.tuple #[sgv o,sge o]) ∧ Ext w w':=by
 have hD:=Nat.lt_trans (zfx hm) zcs
 have KL:=veil (fun W (hW : KT W) => list_good D hD y hy 16 (by decide) hm W hW)
 obtain ⟨E,hE⟩ : ∃ E,E = num32 y:=⟨_,rfl⟩
 obtain ⟨M,hM⟩ : ∃ M,M = num32 y % Pt.nn:=⟨_,rfl⟩
 have kEt:=veil (show E < top from by rw [hE]; exact zfv hy)
 rw [← hM] at KL ⊢
 rw [← hE]
 have kE:=veil hE
 have kM:=veil hM
 have km:=veil hm
 have ky:=veil hy
 have kD:=veil hD
 have kK:=veil hK
 clear hK hD hy hm hM hE
 unfold nv nc dgv dgc
 go_enter Tryd.func12,Tryd.ntmps12
 go_upto_region 1 with (fail)
 obtain ⟨hx,b0,b1,b2⟩:=blocks3 w (.cells #[.int .u64 (wd D 0),.int .u64 (wd D 1),.int .u64 (wd D 2),.int .u64 (wd D 3)] 24) (.cells (arrOf 32 fun i => .int .u8 (y i : Nat)) 38) (.cells #[.int .u64 0,.int .u64 0,.int .u64 0,.int .u64 0,.int .u64 0,.int .u64 0,.int .u64 0,.int .u64 0] 26)
 generalize ((w.alloc (.cells #[.int .u64 (wd D 0),.int .u64 (wd D 1),.int .u64 (wd D 2),.int .u64 (wd D 3)] 24)).alloc (.cells (arrOf 32 fun i => .int .u8 (y i : Nat)) 38)).alloc (.cells #[.int .u64 0,.int .u64 0,.int .u64 0,.int .u64 0,.int .u64 0,.int .u64 0,.int .u64 0,.int .u64 0] 26) = w1 at *
 have b0 : w1.heap[w.heap.size]? = some (.cells (nc D) 24 (0,0)):=b0
 have b1 : w1.heap[w.heap.size + 1]? = some (.cells (dgc y) 38 (0,0)):=b1
 refine' zaj (m:=3) (A:=_) (by kernel_rfl) ?h1 ?h2
 case h1 =>
  refine zaa (nv D) rfl (zac rfl rfl b0 rfl uN rfl (iN _)) ?_;simp only [aP,lA,lZ,lS]
  refine zaa (.bool true) rfl (zaf (args:=[nv D]) rfl rfl (fun W => zab Tryd.func24 rfl rfl _ W) (fun W hW => zep km.out kD.out W)) ?_;simp only [aP,lA,lZ,lS]
  refine zaa (.bool false) rfl (zaz rfl rfl rfl) ?_;simp only [aP,lA,lZ,lS]
  exact zah
 refine zam rfl ?_
 intro w2 hE
 replace b0:=hE.block b0
 replace b1:=hE.block b1
 replace b2:=hE.block b2
 replace hx:=hx.trans hE
 clear hE
 go_upto_region 3 with (fail)
 refine wp_region_lit ?_
 refine zez rfl rfl rfl b0 rfl uN rfl (iN D) ?_
 simp only [aP,lA,lZ,lS]
 refine zez rfl rfl rfl b1 rfl Tryd.underlying38 rfl (iDg y) ?_
 simp only [aP,lA,lZ,lS]
 refine zef (R:=fun t W' => ∃ v ev,t = .tuple #[v,ev] ∧ Res D M 16 W' w2.heap.size v ev ∧ Ext w2 W') (args:=[nv D,dgv y,.int .i64 16]) rfl rfl rfl (fun W => zab Tryd.func27 rfl rfl _ W) ((KL.out w2 (kK.out.call hx)).mono fun e W' ⟨v,ev,he,hR,hE⟩ => ⟨_,he,v,ev,rfl,hR,hE⟩) ?_
 rintro t w3 ⟨v,ev,rfl,⟨s',hEn,hR⟩,hE⟩
 replace b0:=hE.block b0
 replace b1:=hE.block b1
 replace b2:=hE.block b2
 replace hx:=hx.trans hE
 clear hE
 simp only [aP,lA,lZ,lS]
 have kEn:=veil hEn
 clear hEn KL
 obtain ⟨xs,hxs⟩ : ∃ xs,xs = outN D M s':=⟨_,rfl⟩
 have kmx:=veil (show ∀ k ∈ xs,mayB k = true from fun k hk => by rw [hxs] at hk; exact (zgz D M s' k hk).1)
 have kln:=veil (show xs.length ≤ 100 from by rw [hxs]; exact Nat.le_trans kEn.out.most (by decide))
 rw [← hxs] at hR
 have kxs:=veil hxs
 clear hxs
 rcases hR with ⟨h16,rfl,hO⟩ | ⟨h16,rfl,rfl⟩
 ·
  have hsg : sigOf D E xs = pick D E xs:=if_neg h16
  have ksg:=veil hsg
  have k0:=veil (show 0 < xs.length from by omega)
  clear hsg h16
  obtain ⟨o,ho⟩ : ∃ o,o = pick D E xs:=⟨_,rfl⟩
  have ko:=veil ho
  have KF:=veil (fun (W : World) (g : Nat) (hF : Fn W g) (hW : Ext w3 W) => first_calls (D:=D) (E:=E) kD.out kEt.out kmx.out k0.out kln.out hF (hO.ext hW))
  rw [← ho] at KF
  rw [sgv_c o] at KF
  obtain ⟨A,c,rfl,-⟩:=hO.form
  generalize xs.length = n at *
  clear ho hO
  go_upto_region 6 with (fail)
  go_wp2_with (first
   | ((with_reducible refine zbw 23 ?_); refine wpList_load_row rfl 24 _ rfl w.heap.size rfl 24 (nc D) (0,0) _ b0 Tryd.underlying24 rfl (iN D) ?_)
   | ((with_reducible refine zbw 24 ?_); refine wpList_load_row rfl 38 _ rfl (w.heap.size + 1) rfl 38 (dgc y) (0,0) _ b1 Tryd.underlying38 rfl (iDg y) ?_)
   | (go_at_call 28; refine (maker_calls (D:=D) ky.out kE.out _).mono ?_; rintro e w5 ⟨⟨g,rfl,hF⟩,hE5⟩)
   | (go_at_call 29; refine (KF.out w5 g hF hE5).mono ?_; rintro e w6 ⟨rfl,hE6⟩)
   | ((with_reducible refine zck ?_); refine wpList_store_row rfl 26 _ _ rfl (w.heap.size + 1 + 1) (sgc o) rfl rfl 26 _ (hE6.block (hE5.block b2)) (iSo o) (by cases o <;> rfl) (sgc_one o) ?_))
  exact bodyPost_ret (zba rfl _ _ (w.heap.size + 1 + 1) 26 (sgc o) (0,0) _ rfl (setRow_heap w6 _ _ (sgc o) 26 (0,0) (hE6.block (hE5.block b2))) Tryd.underlying26 rfl (iSo o)) rfl ⟨s',o,kEn.out,by rw [← kxs.out,ksg.out,ko.out],by rw [sgv_c]; rfl,zci ((hx.trans hE5).trans hE6) (by omega) _⟩
 ·
  have hsg : sigOf D E xs = none:=if_pos h16
  have ksg:=veil hsg
  clear hsg h16
  go_upto_region 5 with (fail)
  refine' zaj (m:=2) (A:=_) (by kernel_rfl) ?h2a ?h2b
  case h2a =>
   refine zaa (gv 0 0) rfl (zau rfl rfl (bldG0 ·)) ?_;simp only [aP,lA,lZ,lS]
   refine zaa (.iface 34 (.int .i64 4)) rfl (zae (.inl rfl) rfl) ?_;simp only [aP,lA,lZ,lS]
   exact zah
  refine zcr _ rfl rfl rfl rfl rfl rfl b2 (iSg _ _) rfl (zbu _ _) ?_
  intro w4 hB hb
  go_wp2
  exact bodyPost_ret (zba rfl _ _ (w.heap.size + 1 + 1) 26 (gc 0 0) (0,0) _ rfl hb Tryd.underlying26 rfl (iSg _ _)) rfl ⟨s',none,kEn.out,by rw [← kxs.out]; exact ksg.out,rfl,hx.new hB (by omega)⟩
end Go.Proofs.YtmfjigcdhijkjaaDoor
