/-
  Of Y4 Y6 KJ.
-/
import Derived.Test.YtedehdbajiaaiaaGreatDoorZB30
import Derived.Test.YtedehdbajiaaiaaGreatDoorZB16
import Derived.Test.YtedehdbajiaaiaaGreatDoorZB18
import Derived.Test.YtedehdbajiaaiaaGreatDoorZB2
import Derived.Test.YtedehdbajiaaiaaGreatDoorZB10
import Derived.Test.YtedehdbajiaaiaaGreatDoorZB12
import Derived.Test.YtedehdbajiaaiaaGreatDoorZB22
import Derived.Test.YtedehdbajiaaiaaGreatDoorZB9
import Derived.Test.YtedehdbajiaaiaaGreatDoorZB15
import Derived.Test.YtedehdbajiaaiaaGreatDoorZB29
set_option maxRecDepth 1000000
set_option maxHeartbeats 20000000
namespace Go.Proofs.YtedehdbajiaaiaaGreatDoor
open Go.RowKit
open Go.Value renaming int → vI
open Go.IntKind renaming u64 → vU
open Go.Act renaming put → aP
open List renaming setIfInBounds_toArray → lA, set_cons_zero → lZ, set_cons_succ → lS
theorem ssign_bad {D : Nat} (hD : D < top) (hm : mayB D = false) (y : Nat → Nat) (w : World) :
  Calls Tryz.prog 25 #[nv D,dgv y] w fun e w' => e = .returned (.tuple #[gv 0 0,.iface 35 (.int .i64 1)]) ∧ Ext w w':=by
 have kD:=veil hD
 have km:=veil hm
 clear hm hD
 unfold nv nc dgv dgc
 go_enter Tryz.func25,Tryz.ntmps25
 go_upto_region 1 with (fail)
 refine zek fun w1 hx b0 b1 b2 => ?_
 have b0 : w1.heap[w.heap.size]? = some (.cells (nc D) 26 (0,0)):=b0
 have b1 : w1.heap[w.heap.size + 1]? = some (.cells (dgc y) 43 (0,0)):=b1
 refine' zaq (m:=3) (A:=_) (by kernel_rfl) ?h1 ?h2
 case h1 =>
  refine zaa (nv D) rfl (zad rfl rfl b0 rfl uN rfl (iN _)) ?_
  refine zaa (.bool false) rfl (zam (args:=[nv D]) rfl rfl (fun W => zae Tryz.func52 rfl rfl _ W) (fun W hW => rng_is km.out kD.out W)) ?_;simp only [aP,lA,lZ,lS]
  refine zaa (.bool true) rfl (zfi rfl rfl rfl) ?_;simp only [aP,lA,lZ,lS]
  exact zan
 refine zau rfl ?_
 intro w2 hE
 replace b2:=hE.block b2
 replace hx:=hx.trans hE
 clear hE
 go_upto_region 2 with (fail)
 refine' zaq (m:=2) (A:=_) (by kernel_rfl) ?h2a ?h2b
 case h2a =>
  refine zaa (gv 0 0) rfl (zba rfl rfl (bldG0 ·)) ?_
  refine zaa (.iface 35 (.int .i64 1)) rfl (made_iface rfl (mkErr1 ·)) ?_;simp only [aP,lA,lZ,lS]
  exact zan
 refine zdk _ rfl rfl rfl rfl rfl rfl b2 (iSg _ _) rfl (zcp _ _) ?_
 intro w3 hB hb
 go_wp2
 exact bodyPost_ret (zbf rfl _ _ (w.heap.size + 1 + 1) 39 (gc 0 0) (0,0) _ rfl hb Tryz.underlying39 rfl (iSg _ _)) rfl ⟨rfl,hx.new hB (by omega)⟩
theorem ssign_ok {D : Nat} (hm : mayB D = true) (y : Nat → Nat) (hy : ∀ j,y j < 256) {w : World} (hK : KT w) :
  Calls Tryz.prog 25 #[nv D,dgv y] w fun e w' => ∃ s o,Ends D (num32 y % Pt.nn) 16 s ∧ sigOf D (num32 y) (outN D (num32 y % Pt.nn) s) = o ∧ e = .returned (.tuple #[sgv o,sge o]) ∧ Ext w w':=by
 have hD:=Nat.lt_trans (zhw hm) zcf
 have KL:=veil (fun W (hW : KT W) => list_good D hD y hy 16 (by decide) hm W hW)
 obtain ⟨E,hE⟩ : ∃ E,E = num32 y:=⟨_,rfl⟩
 obtain ⟨M,hM⟩ : ∃ M,M = num32 y % Pt.nn:=⟨_,rfl⟩
 have kEt:=veil (show E < top from by rw [hE]; exact zhu hy)
 rw [← hM] at KL ⊢
 rw [← hE]
 have kE:=veil hE
 have kM:=veil hM
 have km:=veil hm
 have ky:=veil hy
 have kD:=veil hD
 have kK:=veil hK
 clear hK hD hy hm hM hE
 unfold nv nc dgv dgc
 go_enter Tryz.func25,Tryz.ntmps25
 go_upto_region 1 with (fail)
 refine zek fun w1 hx b0 b1 b2 => ?_
 have b0 : w1.heap[w.heap.size]? = some (.cells (nc D) 26 (0,0)):=b0
 have b1 : w1.heap[w.heap.size + 1]? = some (.cells (dgc y) 43 (0,0)):=b1
 refine' zaq (m:=3) (A:=_) (by kernel_rfl) ?h1 ?h2
 case h1 =>
  refine zaa (nv D) rfl (zad rfl rfl b0 rfl uN rfl (iN _)) ?_
  refine zaa (.bool true) rfl (zam (args:=[nv D]) rfl rfl (fun W => zae Tryz.func52 rfl rfl _ W) (fun W hW => rng_is km.out kD.out W)) ?_;simp only [aP,lA,lZ,lS]
  refine zaa (.bool false) rfl (zfi rfl rfl rfl) ?_;simp only [aP,lA,lZ,lS]
  exact zan
 refine zau rfl ?_
 intro w2 hE
 replace b0:=hE.block b0
 replace b1:=hE.block b1
 replace b2:=hE.block b2
 replace hx:=hx.trans hE
 clear hE
 go_upto_region 3 with (fail)
 refine wp_region_lit ?_
 refine wpl_load rfl rfl rfl b0 rfl uN rfl (iN D) ?_
 simp only [aP,lA,lZ,lS]
 refine wpl_load rfl rfl rfl b1 rfl Tryz.underlying43 rfl (iDg y) ?_
 simp only [aP,lA,lZ,lS]
 refine wpl_fun (R:=fun t W' => ∃ v ev,t = .tuple #[v,ev] ∧ Res D M 16 W' w2.heap.size v ev ∧ Ext w2 W') (args:=[nv D,dgv y,.int .i64 16]) rfl rfl rfl (fun W => zae Tryz.func58 rfl rfl _ W) ((KL.out w2 (kK.out.call hx)).mono fun e W' ⟨v,ev,he,hR,hE⟩ => ⟨_,he,v,ev,rfl,hR,hE⟩) ?_
 rintro t w3 ⟨v,ev,rfl,⟨s',hEn,hR⟩,hE⟩
 replace b0:=hE.block b0
 replace b1:=hE.block b1
 replace b2:=hE.block b2
 replace hx:=hx.trans hE
 clear hE
 simp only [aP,lA,lZ,lS]
 have kEn:=veil hEn
 clear hEn KL
 obtain ⟨xs,hxs⟩ : ∃ xs,xs = outN D M s':=⟨_,rfl⟩
 have kmx:=veil (show ∀ k ∈ xs,mayB k = true from fun k hk => by rw [hxs] at hk; exact (zju D M s' k hk).1)
 have kln:=veil (show xs.length ≤ 100 from by rw [hxs]; exact Nat.le_trans kEn.out.most (by decide))
 rw [← hxs] at hR
 have kxs:=veil hxs
 clear hxs
 rcases hR with ⟨h16,rfl,hO⟩ | ⟨h16,rfl,rfl⟩
 ·
  have hsg : sigOf D E xs = pick D E xs:=if_neg h16
  have ksg:=veil hsg
  have k0:=veil (show 0 < xs.length from by omega)
  clear hsg h16
  obtain ⟨o,ho⟩ : ∃ o,o = pick D E xs:=⟨_,rfl⟩
  have ko:=veil ho
  have KF:=veil (fun (W : World) (g : Nat) (hF : Fn W g) (hW : Ext w3 W) => first_calls (D:=D) (E:=E) kD.out kEt.out kmx.out k0.out kln.out hF (hO.ext hW))
  rw [← ho] at KF
  rw [sgv_c o] at KF
  obtain ⟨A,c,rfl,-⟩:=hO.form
  generalize xs.length = n at *
  clear ho hO
  go_upto_region 6 with (fail)
  go_wp2_with (first
   | ((with_reducible refine zar 23 ?_); refine wpList_load_row rfl 26 _ rfl w.heap.size rfl 26 (nc D) (0,0) _ b0 Tryz.underlying26 rfl (iN D) ?_)
   | ((with_reducible refine zar 24 ?_); refine wpList_load_row rfl 43 _ rfl (w.heap.size + 1) rfl 43 (dgc y) (0,0) _ b1 Tryz.underlying43 rfl (iDg y) ?_)
   | (go_at_call 59; refine (maker_calls (D:=D) ky.out kE.out _).mono ?_; rintro e w5 ⟨⟨g,rfl,hF⟩,hE5⟩)
   | (go_at_call 60; refine (KF.out w5 g hF hE5).mono ?_; rintro e w6 ⟨rfl,hE6⟩)
   | ((with_reducible refine zbb ?_); refine wpList_store_row rfl 39 _ _ rfl (w.heap.size + 1 + 1) (sgc o) rfl rfl 39 _ (hE6.block (hE5.block b2)) (iSo o) (by cases o <;> rfl) (sgc_one o) ?_))
  exact bodyPost_ret (zbf rfl _ _ (w.heap.size + 1 + 1) 39 (sgc o) (0,0) _ rfl (setRow_heap w6 _ _ (sgc o) 39 (0,0) (hE6.block (hE5.block b2))) Tryz.underlying39 rfl (iSo o)) rfl ⟨s',o,kEn.out,by rw [← kxs.out,ksg.out,ko.out],by rw [sgv_c]; rfl,zca ((hx.trans hE5).trans hE6) (by omega) _⟩
 ·
  have hsg : sigOf D E xs = none:=if_pos h16
  have ksg:=veil hsg
  clear hsg h16
  go_upto_region 5 with (fail)
  refine' zaq (m:=2) (A:=_) (by kernel_rfl) ?h2a ?h2b
  case h2a =>
   refine zaa (gv 0 0) rfl (zba rfl rfl (bldG0 ·)) ?_
   refine zaa (.iface 35 (.int .i64 4)) rfl (zap (.inl rfl) rfl) ?_;simp only [aP,lA,lZ,lS]
   exact zan
  refine zdk _ rfl rfl rfl rfl rfl rfl b2 (iSg _ _) rfl (zcp _ _) ?_
  intro w4 hB hb
  go_wp2
  exact bodyPost_ret (zbf rfl _ _ (w.heap.size + 1 + 1) 39 (gc 0 0) (0,0) _ rfl hb Tryz.underlying39 rfl (iSg _ _)) rfl ⟨s',none,kEn.out,by rw [← kxs.out]; exact ksg.out,rfl,hx.new hB (by omega)⟩
theorem bsv_one (X : Nat) : ∀ j,(bsv X j).oneCell' = true:=fun j => by simp [bsv,Value.oneCell']
theorem sbytes_calls (R S : Nat) (w : World) :
  Calls Tryz.prog 27 #[gv R S] w fun e w' => (∃ v,e = .returned v ∧ Own w' w.heap.size 5 v 64 (ptB R S)) ∧ Ext w w':=by
 have kb:=fun X W => bytes_calls X W
 have KB:=veil kb
 clear kb
 unfold gv gc
 go_enter Tryz.func27,Tryz.ntmps27
 go_upto_region 1 with (fail)
 refine zdj fun w1 hx b0 => ?_
 have b0 : w1.heap[w.heap.size]? = some (.cells (gc R S) 39 (0,0)):=b0
 refine wp_region_noPanic ?_
 refine wp_region_held_drew (S:=fun W => Ext w1 W) (by kernel_rfl) (Ext.drew _) (fun hH => ?_)
 have hS : ∀ W,Ext w1 W → W.rangeAt w.heap.size 0 (nc R).toList:=fun W hW j v hv => by
  rw [cell_of_row W _ _ (gc R S) 39 (0,0) (hW.block b0),Nat.zero_add]
  have hj : j < 4:=(List.getElem?_eq_some_iff.1 hv).1
  rw [← hv]
  match j,hj with
  | 0,_ => rfl
  | 1,_ => rfl
  | 2,_ => rfl
  | 3,_ => rfl
 have hS4 : ∀ W,Ext w1 W → W.rangeAt w.heap.size 4 (nc S).toList:=fun W hW j v hv => by
  rw [cell_of_row W _ _ (gc R S) 39 (0,0) (hW.block b0)]
  have hj : j < 4:=(List.getElem?_eq_some_iff.1 hv).1
  rw [← hv]
  match j,hj with
  | 0,_ => rfl
  | 1,_ => rfl
  | 2,_ => rfl
  | 3,_ => rfl
 refine wpAnyH_take (i:=0) (v:=ptrTo w.heap.size) rfl (by kernel_rfl) (by kernel_rfl) (by decide +kernel) (fun _ _ _ h => h) (Or.inl ⟨by rfl,fun W hSw => (by dsimp only at hSw; go_simp)⟩) hH ?_
 refine wpAnyH_take (i:=1) (v:=nv R) rfl (by kernel_rfl) (by kernel_rfl) (by decide +kernel) (fun _ _ _ h => h) (yieldsIf_load_mid (by rfl) _ _ rfl _ _ rfl (nc R).toList _ hS uN rfl (iN R)) hH ?_
 refine wpAnyH_take (i:=3) (v:=.pointer (some ⟨w.heap.size,4,none⟩)) rfl (by kernel_rfl) (by kernel_rfl) (by decide +kernel) (fun _ _ _ h => h) (Or.inl ⟨by rfl,fun W hSw => (by dsimp only at hSw; go_simp)⟩) hH ?_
 refine wpAnyH_take (i:=4) (v:=nv S) rfl (by kernel_rfl) (by kernel_rfl) (by decide +kernel) (fun _ _ _ h => h) (yieldsIf_load_mid (by rfl) _ _ rfl _ _ rfl (nc S).toList _ hS4 uN rfl (iN S)) hH ?_
 refine wpAnyH_ready (rs:=[2]) (by decide +kernel) (by simp) ?_
 refine AllReadyH.cons rfl (fun K hK => ?_) AllReadyH.nil
 go_simp
 refine (KB.out R _).mono ?_
 rintro e w3 ⟨g1,rfl,hg1,r1,hE1⟩
 have hE1 : Ext _ w3:=hE1
 refine hK.out _ _ (hH.trans hE1) (fun hH => ?_)
 clear hK K hE1
 refine wpAnyH_ready (rs:=[5]) (by decide +kernel) (by simp) ?_
 refine AllReadyH.cons rfl (fun K hK => ?_) AllReadyH.nil
 go_simp
 refine (KB.out S _).mono ?_
 rintro e w4 ⟨g2,rfl,hg2,r2,hE2⟩
 have hE2 : Ext w3 w4:=hE2
 have r1:=Ext.row r1 hE2
 refine hK.out _ _ (hH.trans hE2) (fun hH => ?_)
 clear hK K hE2
 refine wpAnyH_ready (rs:=[6]) (by decide +kernel) (by simp) ?_
 refine AllReadyH.cons rfl (fun K hK => ?_) AllReadyH.nil
 go_simp
 have hb4:=zaz w4 (.cells #[.slice (some ⟨g1,0,none⟩) 32 32,.slice (some ⟨g2,0,none⟩) 32 32] 29)
 have r1:=r1.alloc (.cells #[.slice (some ⟨g1,0,none⟩) 32 32,.slice (some ⟨g2,0,none⟩) 32 32] 29)
 have r2:=r2.alloc (.cells #[.slice (some ⟨g1,0,none⟩) 32 32,.slice (some ⟨g2,0,none⟩) 32 32] 29)
 refine hK.out _ _ (hH.trans (Ext.alloc _ _)) (fun hH => ?_)
 clear hK K
 refine wpAnyH_ready (rs:=[7]) (by decide +kernel) (by simp) ?_
 refine AllReadyH.cons rfl (fun K hK => ?_) AllReadyH.nil
 go_simp
 refine (concat_calls w4.heap.size g1 g2 32 32 (bsv R) (bsv S) (bsv_one R) (bsv_one S) _ hb4 r1 r2).mono ?_
 rintro e w5 ⟨⟨v,rfl,ho⟩,hE5⟩
 have ho : Own w5 w.heap.size 5 v 64 (ptB R S):=ho.base_le (Nat.le_trans (Below.size hx) (Below.size hH))
 refine hK.out _ _ (hH.trans hE5) (fun hH => ?_)
 clear hK K hE5
 refine wpAnyH_ready (rs:=[8]) (by decide +kernel) (by simp) ?_
 refine AllReadyH.cons rfl (fun K hK => ?_) AllReadyH.nil
 go_simp
 refine hK.out _ _ hH (fun hH => ?_)
 clear hK K
 refine wpAnyH_done (by decide +kernel) ?_ _
 refine NoPanic.normal ?_
 go_wp2
 go_ret
 exact ⟨⟨_,rfl,ho⟩,hx.trans hH⟩
theorem code_sum (A : Option Addr) (m c : Nat) (bs : List Nat) (w : World) (hK : KT w) (hm : m = bs.length) (hmc : m ≤ c) (hle : m ≤ 100000) (hS : Bs w A bs) : Calls Tryz.prog 26 #[.slice A m c] w fun e w' => e = .returned (dgv (dgL bs)) ∧ Ext w w':=by
 subst hm
 exact sum_calls A bs.length c (fun j => bs.getD j 0) hS.1.getD hmc (by omega) w hK (src_bs hS)
theorem code_sign_bad (D : Nat) (y : Nat → Nat) (w : World) (hD : D < top) (hm : mayB D = false) : Calls Tryz.prog 25 #[nv D,dgv y] w fun e w' => e = .returned (.tuple #[gv 0 0,.iface 35 (.int .i64 1)]) ∧ Ext w w':=ssign_bad hD hm y w
theorem code_sign_ok (D : Nat) (y : Nat → Nat) (w : World) (hK : KT w) (hm : mayB D = true) (hy : ∀ j,y j < 256) : Calls Tryz.prog 25 #[nv D,dgv y] w fun e w' => e = .returned (.tuple #[sgw (sgL D y),if (sgL D y).isSome then .nilIface else .iface 35 (.int .i64 4)]) ∧ Ext w w' :=
 (ssign_ok hm y hy hK).mono fun e w' ⟨s,o,h2,ho,he,hE⟩ => by
  obtain rfl:=sgL_of h2 ho
  rw [sgw_is]
  exact ⟨he,hE⟩
theorem code_bytes (r s : Nat) (w : World) : Calls Tryz.prog 27 #[gv r s] w fun e w' => ∃ A c,e = .returned (.slice A 64 c) ∧ 64 ≤ c ∧ Bs w' A (sigB r s) ∧ Fresh w A (sigB r s) ∧ Ext w w' :=
 (sbytes_calls r s w).mono fun e w' ⟨⟨v,he,o⟩,hE⟩ => by
  obtain ⟨A,c2,hv,h1,h2,h3⟩:=own_sig o
  rw [hv] at he
  exact ⟨A,c2,he,h1,h2,h3,hE⟩
theorem codeL : CodeL where
 sum:=code_sum
 sign_bad:=code_sign_bad
 sign_ok:=code_sign_ok
 bytes:=code_bytes
end Go.Proofs.YtedehdbajiaaiaaGreatDoor
