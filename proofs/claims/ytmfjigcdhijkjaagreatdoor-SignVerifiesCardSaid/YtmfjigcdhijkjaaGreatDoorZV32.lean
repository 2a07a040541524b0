/-
  Of Y3 Y4.
-/
import Derived.Test.YtmfjigcdhijkjaaGreatDoorZV31
set_option maxRecDepth 1000000
set_option maxHeartbeats 20000000
namespace Go.Proofs.YtmfjigcdhijkjaaGreatDoor
open Go.RowKit
open Go.Act renaming put → aP
open List renaming setIfInBounds_toArray → lA, set_cons_zero → lZ, set_cons_succ → lS
def sgc : Option (Nat × Nat) → Array Value
 | none => gc 0 0
 | some (r,s) => gc r s
theorem sgv_c (o : Option (Nat × Nat)) : sgv o = .agg (sgc o):=by cases o <;> rfl
theorem sgc_one (o : Option (Nat × Nat)) : (sgc o).all (·.oneCell') = true:=by cases o <;> exact zda _ _
theorem iSo (o : Option (Nat × Nat)) : (Tryz.prog.info? 35).map (·.size) = some (sgc o).size:=by cases o <;> exact iSg _ _
def sge (o : Option (Nat × Nat)) : Value:=if o.isSome then .nilIface else .iface 39 (.int .i64 4)
theorem first_calls {D E g base : Nat} (hD : D < top) (hE : E < top) {xs : List Nat} (hmx : ∀ k ∈ xs,mayB k = true) (h0 : 0 < xs.length) (hn : xs.length ≤ 100) {w : World} {v : Value} (hF : Fn w g) (hO : OwnN w base v xs) :
  Calls Tryz.prog 20 #[mv g D E,v] w fun e w' => e = .returned (.tuple #[sgv (pick D E xs),sge (pick D E xs)]) ∧ Ext w w':=by
 obtain ⟨gL,cap,cur,rfl,bL,hcs⟩:=hO.blk h0
 obtain ⟨n,hnx⟩ : ∃ n,n = xs.length:=⟨_,rfl⟩
 rw [← hnx] at hn h0 ⊢
 have kCS:=veil (And.intro hcs (And.intro hmx hnx))
 have kN:=veil hn
 have kD:=veil hD
 have kE:=veil hE
 clear hO hmx hcs hnx hn hD hE
 unfold mv mc
 go_enter Tryz.func20,Tryz.ntmps20
 go_upto_region 1 with (fail)
 obtain ⟨hx,b0,b1⟩:=blocks2 w (.cells #[ptrTo g,.int .u64 (wd D 0),.int .u64 (wd D 1),.int .u64 (wd D 2),.int .u64 (wd D 3),.int .u64 (wd E 0),.int .u64 (wd E 1),.int .u64 (wd E 2),.int .u64 (wd E 3)] 55) (.cells #[.int .u64 0,.int .u64 0,.int .u64 0,.int .u64 0,.int .u64 0,.int .u64 0,.int .u64 0,.int .u64 0] 35)
 generalize (w.alloc (.cells #[ptrTo g,.int .u64 (wd D 0),.int .u64 (wd D 1),.int .u64 (wd D 2),.int .u64 (wd D 3),.int .u64 (wd E 0),.int .u64 (wd E 1),.int .u64 (wd E 2),.int .u64 (wd E 3)] 55)).alloc (.cells #[.int .u64 0,.int .u64 0,.int .u64 0,.int .u64 0,.int .u64 0,.int .u64 0,.int .u64 0,.int .u64 0] 35) = w1 at *
 have b0 : w1.heap[w.heap.size]? = some (.cells (mc g D E) 55 (0,0)):=b0
 have hf:=hF.ext hx
 clear hF
 replace bL:=hx.block bL
 have kX:=veil hx
 clear hx h0
 go_wp2
 go_loopw [14] (fun v14 wr => ∃ i : Nat,i ≤ n ∧ v14 = .int .i64 (i : Int) ∧ pick D E xs = pick D E (xs.drop i) ∧ Ext w1 wr)
  (fun v14 _ => n - (intOf v14).toNat)
 case atStart => exact ⟨0,by omega,rfl,rfl,Ext.refl _⟩
 case round =>
  obtain ⟨i,hi,rfl,hpk,hx⟩:=hrel
  replace b0:=hx.block b0
  replace b1:=hx.block b1
  replace bL:=hx.block bL
  replace hf:=hf.ext hx
  by_cases hlt : i < n
  ·
   have hn100 : n ≤ 100:=kN.out
   obtain ⟨K,hK⟩ : ∃ K,xs[i]? = some K:=⟨_,List.getElem?_eq_getElem (by rw [← kCS.out.2.2]; exact hlt)⟩
   have hmK:=kCS.out.2.1 K (List.mem_of_getElem? hK)
   have kK:=veil hmK
   have kil:=veil hlt
   have kcs:=veil (kCS.out.1 i K hK)
   have kdrop:=veil (drop_at hK)
   have kpick:=veil hpk
   obtain ⟨P,hP⟩ : ∃ P,P = Pt.grp.mul K Pt.base:=⟨_,rfl⟩
   have kP:=veil hP
   obtain ⟨r,hr⟩ : ∃ r,r = Pt.rOf K:=⟨_,rfl⟩
   obtain ⟨s,hs⟩ : ∃ s,s = Pt.sOf D E K:=⟨_,rfl⟩
   have kr:=veil hr
   have ks:=veil hs
   have hI : (i : Int) < (n : Int):=by omega
   clear hs hr hP hpk hmK hK
   go_upto_region 3 with (fail)
   refine' zan (m:=2) (A:=_) (by kernel_rfl) ?h1 ?h2
   case h1 =>
    refine zaa (.pointer (some ⟨gL,i * 4,none⟩)) rfl (made_index (sz:=4) rfl rfl rfl kil.out Tryz.underlying50 infoN4) ?_
    refine zaa (nv K) rfl (zac (cs:=(nc K).toList) rfl rfl bL kcs.out uN rfl (iN K)) ?_;simp only [aP,lA,lZ,lS]
    exact zaj
   refine zci _ _ rfl rfl rfl rfl rfl rfl rfl (hzN ·) (fun _ => rfl) (fun _ => rfl) (iN _) rfl (zbf _) ?_
   intro gk w2 hgk bk hE
   replace b0:=hE.block b0
   replace b1:=hE.block b1
   replace hf:=hf.ext hE
   replace hx:=hx.trans hE
   clear hE
   simp only [aP,lA,lZ,lS]
   clear hgk
   go_upto_region 4 with (fail)
   refine' zbn (m:=5) (A:=_) 7 (by kernel_rfl) (by kernel_rfl) (by kernel_rfl) ?h2a ?h2b
   case h2a =>
    refine zaa (nv K) rfl (zac rfl rfl bk rfl uN rfl (iN _)) ?_
    refine zaa (qv Pt.gx Pt.gy false) rfl (zah (args:=[]) rfl rfl (fun W => zab Tryz.func17 rfl rfl _ W) (fun W hW => base_calls W)) ?_;simp only [aP,lA,lZ,lS]
    refine zaa (.tuple #[qv (Pt.pX P.1) (Pt.pY P.1) (Pt.pFar P.1),.nilIface]) rfl (zah (args:=[nv K,qv Pt.gx Pt.gy false]) rfl rfl (fun W => zab Tryz.func16 rfl rfl _ W) (fun W hW => mulb_is (Nat.lt_trans (zgp kK.out) zdi) kP.out W)) ?_
    refine zaa (.tuple #[qv (Pt.pX P.1) (Pt.pY P.1) (Pt.pFar P.1),.nilIface]) rfl (zaf (.inl rfl) rfl) ?_;simp only [aP,lA,lZ,lS]
    refine zaa (qv (Pt.pX P.1) (Pt.pY P.1) (Pt.pFar P.1)) rfl (zbb rfl rfl rfl) ?_;simp only [aP,lA,lZ,lS]
    exact zaj
   refine zei (v:=.nilIface) (vx:=.nilIface) _ _ _ _ rfl rfl rfl rfl rfl rfl rfl rfl rfl rfl rfl rfl rfl rfl rfl rfl (by decide) (by kernel_rfl) (by kernel_rfl) (by kernel_rfl) (by kernel_rfl) (by kernel_rfl) (by kernel_rfl) (by kernel_rfl) rfl rfl rfl rfl rfl rfl (hzT ·) (zce rfl rfl rfl) (fun _ => zce rfl rfl rfl) (fun _ => rfl) (fun _ => rfl) (fun _ => rfl) (fun _ => rfl) (fun _ => rfl) (iT _ _ _) rfl (zdh _ _ _) ?_
   intro gp w3 hgp bp hE
   refine NoPanic.normal ?_
   replace b0:=hE.block b0
   replace b1:=hE.block b1
   replace bk:=hE.block bk
   replace hf:=hf.ext hE
   replace hx:=hx.trans hE
   clear hE
   simp only [aP,lA,lZ,lS]
   clear hgp
   go_upto_region 5 with (fail)
   cases hb : (mayB r && mayB s) with
   | false =>
    have kb:=veil hb
    clear hb
    refine' zan (m:=8) (A:=_) (by kernel_rfl) ?h3a ?h3b
    case h3a =>
     refine zaa (mv g D E) rfl (zac rfl rfl b0 rfl Tryz.underlying55 rfl (iMk _ _ _)) ?_
     refine zaa (nv K) rfl (zac rfl rfl bk rfl uN rfl (iN _)) ?_;simp only [aP,lA,lZ,lS]
     refine zaa (ptrTo gp) rfl (zae rfl rfl (fldT0 _ ·)) ?_
     refine zaa (nv (Pt.pX P.1)) rfl (zac rfl rfl bp rfl uN rfl (iN _)) ?_;simp only [aP,lA,lZ,lS]
     refine zaa (.tuple #[gv r s,.bool false]) rfl (zah (args:=[mv g D E,nv K,nv (Pt.pX P.1)]) rfl rfl (fun W => zab Tryz.func60 rfl rfl _ W) (fun W hW => made_is kD.out kE.out kK.out (by rw [kP.out]) kr.out ks.out kb.out (hf.ext hW))) ?_
     refine zaa (.tuple #[gv r s,.bool false]) rfl (zaf (.inl rfl) rfl) ?_;simp only [aP,lA,lZ,lS]
     refine zaa (gv r s) rfl (zbb rfl rfl rfl) ?_
     refine zaa (.bool false) rfl (zbb rfl rfl rfl) ?_;simp only [aP,lA,lZ,lS]
     exact zaj
    refine zcw _ _ rfl rfl rfl rfl rfl rfl rfl (hzG ·) (fun _ => rfl) (fun _ => rfl) (iSg _ _) rfl (zda _ _) ?_
    intro gs w4 hgs bs hE
    replace b0:=hE.block b0
    replace b1:=hE.block b1
    replace bk:=hE.block bk
    replace bp:=hE.block bp
    replace hf:=hf.ext hE
    replace hx:=hx.trans hE
    clear hE
    simp only [aP,lA,lZ,lS]
    clear hgs
    go_wp2
    go_roundw
    case rel =>
     exact ⟨i + 1,by omega,by go_num,by rw [kpick.out,kdrop.out,pick_no (by rw [← kr.out,← ks.out,kb.out])],hx⟩
    case measure => simp [intOf]; omega
   | true =>
    have kb:=veil hb
    clear hb
    refine' zan (m:=8) (A:=_) (by kernel_rfl) ?h4a ?h4b
    case h4a =>
     refine zaa (mv g D E) rfl (zac rfl rfl b0 rfl Tryz.underlying55 rfl (iMk _ _ _)) ?_
     refine zaa (nv K) rfl (zac rfl rfl bk rfl uN rfl (iN _)) ?_;simp only [aP,lA,lZ,lS]
     refine zaa (ptrTo gp) rfl (zae rfl rfl (fldT0 _ ·)) ?_
     refine zaa (nv (Pt.pX P.1)) rfl (zac rfl rfl bp rfl uN rfl (iN _)) ?_;simp only [aP,lA,lZ,lS]
     refine zaa (.tuple #[gv r s,.bool true]) rfl (zah (args:=[mv g D E,nv K,nv (Pt.pX P.1)]) rfl rfl (fun W => zab Tryz.func60 rfl rfl _ W) (fun W hW => made_is kD.out kE.out kK.out (by rw [kP.out]) kr.out ks.out kb.out (hf.ext hW))) ?_
     refine zaa (.tuple #[gv r s,.bool true]) rfl (zaf (.inl rfl) rfl) ?_;simp only [aP,lA,lZ,lS]
     refine zaa (gv r s) rfl (zbb rfl rfl rfl) ?_
     refine zaa (.bool true) rfl (zbb rfl rfl rfl) ?_;simp only [aP,lA,lZ,lS]
     exact zaj
    refine zcw _ _ rfl rfl rfl rfl rfl rfl rfl (hzG ·) (fun _ => rfl) (fun _ => rfl) (iSg _ _) rfl (zda _ _) ?_
    intro gs w4 hgs bs hE
    replace b1:=hE.block b1
    replace hf:=hf.ext hE
    replace hx:=hx.trans hE
    clear hE
    simp only [aP,lA,lZ,lS]
    clear hgs
    go_upto_region 7 with (fail)
    refine' zan (m:=1) (A:=_) (by kernel_rfl) ?h5a ?h5b
    case h5a =>
     refine zaa (gv r s) rfl (zac rfl rfl bs rfl Tryz.underlying35 rfl (iSg _ _)) ?_;simp only [aP,lA,lZ,lS]
     exact zaj
    refine zey _ rfl rfl rfl rfl rfl rfl b1 (iSg _ _) rfl (zda _ _) ?_
    intro w5 hB hb
    go_wp2
    have hmm:=kb.out
    rw [kr.out,ks.out,Bool.and_eq_true] at hmm
    have hpk : pick D E xs = some (r,s):=by rw [kpick.out,kdrop.out,kr.out,ks.out]; exact pick_yes hmm.1 hmm.2
    clear hmm
    rw [hpk]
    exact bodyPost_ret (zbs rfl _ _ (w.heap.size + 1) 35 (gc r s) (0,0) _ rfl hb Tryz.underlying35 rfl (iSg _ _)) rfl ⟨rfl,(kX.out.trans hx).new hB (by omega)⟩
  ·
   obtain rfl : i = n:=by omega
   have hpk : pick D E xs = none:=by rw [hpk,List.drop_eq_nil_of_le (by rw [← kCS.out.2.2]; exact Nat.le_refl _)]; rfl
   have kpk:=veil hpk
   clear hpk hi hlt
   go_upto_region 9 with (fail)
   refine' zan (m:=2) (A:=_) (by kernel_rfl) ?h6a ?h6b
   case h6a =>
    refine zaa (gv 0 0) rfl (zbc rfl rfl (bldG0 ·)) ?_
    refine zaa (.iface 39 (.int .i64 4)) rfl (made_iface rfl (mkErr4 ·)) ?_;simp only [aP,lA,lZ,lS]
    exact zaj
   refine zey _ rfl rfl rfl rfl rfl rfl b1 (iSg _ _) rfl (zda _ _) ?_
   intro w2 hB hb
   go_wp2
   rw [kpk.out]
   exact bodyPost_ret (zbs rfl _ _ (w.heap.size + 1) 35 (gc 0 0) (0,0) _ rfl hb Tryz.underlying35 rfl (iSg _ _)) rfl ⟨rfl,(kX.out.trans hx).new hB (by omega)⟩
theorem ssign_ok {D : Nat} (hm : mayB D = true) (y : Nat → Nat) (hy : ∀ j,y j < 256) {w : World} (hK : KT w) :
  Calls Tryz.prog 7 #[nv D,dgv y] w fun e w' => ∃ s o,Ends D (num32 y % Pt.nn) 16 s ∧ sigOf D (num32 y) (outN D (num32 y % Pt.nn) s) = o ∧ e = .returned (.tuple #[sgv o,sge o]) ∧ Ext w w':=by
 have hD:=Nat.lt_trans (zgp hm) zdi
 have KL:=veil (fun W (hW : KT W) => list_good D hD y hy 16 (by decide) hm W hW)
 obtain ⟨E,hE⟩ : ∃ E,E = num32 y:=⟨_,rfl⟩
 obtain ⟨M,hM⟩ : ∃ M,M = num32 y % Pt.nn:=⟨_,rfl⟩
 have kEt:=veil (show E < top from by rw [hE]; exact zga hy)
 rw [← hM] at KL ⊢
 rw [← hE]
 have kE:=veil hE
 have kM:=veil hM
 have km:=veil hm
 have ky:=veil hy
 have kD:=veil hD
 have kK:=veil hK
 clear hK hD hy hm hM hE
 unfold nv nc dgv dgc
 go_enter Tryz.func7,Tryz.ntmps7
 go_upto_region 1 with (fail)
 obtain ⟨hx,b0,b1,b2⟩:=blocks3 w (.cells #[.int .u64 (wd D 0),.int .u64 (wd D 1),.int .u64 (wd D 2),.int .u64 (wd D 3)] 24) (.cells (arrOf 32 fun i => .int .u8 (y i : Nat)) 26) (.cells #[.int .u64 0,.int .u64 0,.int .u64 0,.int .u64 0,.int .u64 0,.int .u64 0,.int .u64 0,.int .u64 0] 35)
 generalize ((w.alloc (.cells #[.int .u64 (wd D 0),.int .u64 (wd D 1),.int .u64 (wd D 2),.int .u64 (wd D 3)] 24)).alloc (.cells (arrOf 32 fun i => .int .u8 (y i : Nat)) 26)).alloc (.cells #[.int .u64 0,.int .u64 0,.int .u64 0,.int .u64 0,.int .u64 0,.int .u64 0,.int .u64 0,.int .u64 0] 35) = w1 at *
 have b0 : w1.heap[w.heap.size]? = some (.cells (nc D) 24 (0,0)):=b0
 have b1 : w1.heap[w.heap.size + 1]? = some (.cells (dgc y) 26 (0,0)):=b1
 refine' zan (m:=3) (A:=_) (by kernel_rfl) ?h1 ?h2
 case h1 =>
  refine zaa (nv D) rfl (zac rfl rfl b0 rfl uN rfl (iN _)) ?_
  refine zaa (.bool true) rfl (zah (args:=[nv D]) rfl rfl (fun W => zab Tryz.func15 rfl rfl _ W) (fun W hW => zgv km.out kD.out W)) ?_;simp only [aP,lA,lZ,lS]
  refine zaa (.bool false) rfl (zax rfl rfl rfl) ?_;simp only [aP,lA,lZ,lS]
  exact zaj
 refine zak rfl ?_
 intro w2 hE
 replace b0:=hE.block b0
 replace b1:=hE.block b1
 replace b2:=hE.block b2
 replace hx:=hx.trans hE
 clear hE
 go_upto_region 3 with (fail)
 refine wp_region_lit ?_
 refine zie rfl rfl rfl b0 rfl uN rfl (iN D) ?_
 simp only [aP,lA,lZ,lS]
 refine zie rfl rfl rfl b1 rfl Tryz.underlying26 rfl (iDg y) ?_
 simp only [aP,lA,lZ,lS]
 refine zgg (R:=fun t W' => ∃ v ev,t = .tuple #[v,ev] ∧ Res D M 16 W' w2.heap.size v ev ∧ Ext w2 W') (args:=[nv D,dgv y,.int .i64 16]) rfl rfl rfl (fun W => zab Tryz.func18 rfl rfl _ W) ((KL.out w2 (kK.out.call hx)).mono fun e W' ⟨v,ev,he,hR,hE⟩ => ⟨_,he,v,ev,rfl,hR,hE⟩) ?_
 rintro t w3 ⟨v,ev,rfl,⟨s',hEn,hR⟩,hE⟩
 replace b0:=hE.block b0
 replace b1:=hE.block b1
 replace b2:=hE.block b2
 replace hx:=hx.trans hE
 clear hE
 simp only [aP,lA,lZ,lS]
 have kEn:=veil hEn
 clear hEn KL
 obtain ⟨xs,hxs⟩ : ∃ xs,xs = outN D M s':=⟨_,rfl⟩
 have kmx:=veil (show ∀ k ∈ xs,mayB k = true from fun k hk => by rw [hxs] at hk; exact (outN_may D M s' k hk).1)
 have kln:=veil (show xs.length ≤ 100 from by rw [hxs]; exact Nat.le_trans kEn.out.most (by decide))
 rw [← hxs] at hR
 have kxs:=veil hxs
 clear hxs
 rcases hR with ⟨h16,rfl,hO⟩ | ⟨h16,rfl,rfl⟩
 ·
  have hsg : sigOf D E xs = pick D E xs:=if_neg h16
  have ksg:=veil hsg
  have k0:=veil (show 0 < xs.length from by omega)
  clear hsg h16
  obtain ⟨o,ho⟩ : ∃ o,o = pick D E xs:=⟨_,rfl⟩
  have ko:=veil ho
  have KF:=veil (fun (W : World) (g : Nat) (hF : Fn W g) (hW : Ext w3 W) => first_calls (D:=D) (E:=E) kD.out kEt.out kmx.out k0.out kln.out hF (hO.ext hW))
  rw [← ho] at KF
  rw [sgv_c o] at KF
  obtain ⟨A,c,rfl,-⟩:=hO.form
  generalize xs.length = n at *
  clear ho hO
  go_upto_region 6 with (fail)
  go_wp2_with (first
   | ((with_reducible refine zbk 23 ?_); refine wpList_load_row rfl 24 _ rfl w.heap.size rfl 24 (nc D) (0,0) _ b0 Tryz.underlying24 rfl (iN D) ?_)
   | ((with_reducible refine zbk 24 ?_); refine wpList_load_row rfl 26 _ rfl (w.heap.size + 1) rfl 26 (dgc y) (0,0) _ b1 Tryz.underlying26 rfl (iDg y) ?_)
   | (go_at_call 19; refine (maker_calls (D:=D) ky.out kE.out _).mono ?_; rintro e w5 ⟨⟨g,rfl,hF⟩,hE5⟩)
   | (go_at_call 20; refine (KF.out w5 g hF hE5).mono ?_; rintro e w6 ⟨rfl,hE6⟩)
   | ((with_reducible refine zbw ?_); refine wpList_store_row rfl 35 _ _ rfl (w.heap.size + 1 + 1) (sgc o) rfl rfl 35 _ (hE6.block (hE5.block b2)) (iSo o) (by cases o <;> rfl) (sgc_one o) ?_))
  exact bodyPost_ret (zbs rfl _ _ (w.heap.size + 1 + 1) 35 (sgc o) (0,0) _ rfl (setRow_heap w6 _ _ (sgc o) 35 (0,0) (hE6.block (hE5.block b2))) Tryz.underlying35 rfl (iSo o)) rfl ⟨s',o,kEn.out,by rw [← kxs.out,ksg.out,ko.out],by rw [sgv_c]; rfl,zcs ((hx.trans hE5).trans hE6) (by omega) _⟩
 ·
  have hsg : sigOf D E xs = none:=if_pos h16
  have ksg:=veil hsg
  clear hsg h16
  go_upto_region 5 with (fail)
  refine' zan (m:=2) (A:=_) (by kernel_rfl) ?h2a ?h2b
  case h2a =>
   refine zaa (gv 0 0) rfl (zbc rfl rfl (bldG0 ·)) ?_
   refine zaa (.iface 39 (.int .i64 4)) rfl (zaf (.inl rfl) rfl) ?_;simp only [aP,lA,lZ,lS]
   exact zaj
  refine zey _ rfl rfl rfl rfl rfl rfl b2 (iSg _ _) rfl (zda _ _) ?_
  intro w4 hB hb
  go_wp2
  exact bodyPost_ret (zbs rfl _ _ (w.heap.size + 1 + 1) 35 (gc 0 0) (0,0) _ rfl hb Tryz.underlying35 rfl (iSg _ _)) rfl ⟨s',none,kEn.out,by rw [← kxs.out]; exact ksg.out,rfl,hx.new hB (by omega)⟩
end Go.Proofs.YtmfjigcdhijkjaaGreatDoor
