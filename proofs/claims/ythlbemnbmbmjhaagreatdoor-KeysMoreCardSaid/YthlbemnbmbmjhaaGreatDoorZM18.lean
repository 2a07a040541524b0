/-
  Of E3 E4 E5 UC UE UF UG.
-/
import Derived.Deep.MidRow
import Derived.Laws.BytesString
import Derived.Test.YthlbemnbmbmjhaaGreatDoorZM4
import Derived.Test.YthlbemnbmbmjhaaGreatDoorZM11
import Derived.Test.YthlbemnbmbmjhaaGreatDoorZM17
import Derived.Test.YthlbemnbmbmjhaaGreatDoorZM2
import Derived.Test.YthlbemnbmbmjhaaGreatDoorZM16
import Derived.Test.YthlbemnbmbmjhaaGreatDoorZM6
set_option maxRecDepth 1000000
set_option maxHeartbeats 20000000
namespace Go.Proofs.YthlbemnbmbmjhaaGreatDoor
open Go.RowKit
open Go.Value renaming int → vI
open Go.IntKind renaming u64 → vU
open Go.Act renaming put → aP
open List renaming setIfInBounds_toArray → lA, set_cons_zero → lZ, set_cons_succ → lS
theorem bsv_one (X : Nat) : ∀ j,(bsv X j).oneCell' = true:=fun j => by simp [bsv,Value.oneCell']
theorem bytes_yes (q : Pt.Q) (hf : Pt.pFar q.1 = false) (w : World) :
  Calls Tryz.prog 48 #[qvP q.1] w fun e w' => (∃ v,e = .returned (.tuple #[v,.nilIface]) ∧ Own w' w.heap.size 5 v 64 (ptB (Pt.pX q.1) (Pt.pY q.1))) ∧ Ext w w':=by
 have KO:=veil (pOn_yes q)
 have kb:=fun X W => bytes_calls X W
 have KB:=veil kb
 clear kb
 unfold qvP at KO ⊢
 rw [hf] at KO ⊢
 clear hf
 generalize Pt.pX q.1 = X at KO ⊢
 generalize Pt.pY q.1 = Y at KO ⊢
 unfold qv qc
 go_enter Tryz.func48,Tryz.ntmps48
 go_upto_region 1 with (fail)
 refine zck fun w1 hx b0 => ?_
 have b0 : w1.heap[w.heap.size]? = some (.cells (qc X Y false) 29 (0,0)):=b0
 refine' zby (m:=7) (A:=_) ?h1 ?h2
 case h1 =>
  refine zaa (.pointer (some ⟨w.heap.size,8,none⟩)) rfl (zak rfl rfl (fldT2 _ ·)) ?_
  refine zaa (.bool false) rfl (zba rfl rfl b0 rfl (zbq ·)) ?_;simp only [aP,lA,lZ,lS]
  refine zaa (.bool false) rfl (zae (.inl rfl) rfl) ?_
  refine zah (qv X Y false) rfl (zac rfl rfl b0 rfl Tryz.underlying29 rfl (iT _ _ _)) ?_;simp only [aP,lA,lZ,lS]
  refine zah (.bool true) rfl (zag (args:=[qv X Y false]) rfl rfl (fun W => zab Tryz.func47 rfl rfl _ W) (fun W hW => KO.out W)) ?_
  refine zah (.bool false) rfl (zbc rfl rfl rfl) ?_;simp only [aP,lA,lZ,lS]
  refine zaa (.bool false) rfl (zav rfl rfl rfl) ?_;simp only [aP,lA,lZ,lS]
  exact zar
 refine zay rfl ?_
 intro w2 hE
 replace b0:=hE.block b0
 replace hx:=hx.trans hE
 clear hE
 go_upto_region 3 with (fail)
 clear KO
 refine wp_region_noPanic ?_
 refine wp_region_held_drew (S:=fun W => Ext w2 W) (by kernel_rfl) (Ext.drew _) (fun hH => ?_)
 have hS : ∀ W,Ext w2 W → W.rangeAt w.heap.size 0 (nc X).toList:=fun W hW j v hv => by
  rw [cell_of_row W _ _ (qc X Y false) 29 (0,0) (hW.block b0),Nat.zero_add]
  have hj : j < 4:=(List.getElem?_eq_some_iff.1 hv).1
  rw [← hv]
  match j,hj with
  | 0,_ => rfl
  | 1,_ => rfl
  | 2,_ => rfl
  | 3,_ => rfl
 have hS4 : ∀ W,Ext w2 W → W.rangeAt w.heap.size 4 (nc Y).toList:=fun W hW j v hv => by
  rw [cell_of_row W _ _ (qc X Y false) 29 (0,0) (hW.block b0)]
  have hj : j < 4:=(List.getElem?_eq_some_iff.1 hv).1
  rw [← hv]
  match j,hj with
  | 0,_ => rfl
  | 1,_ => rfl
  | 2,_ => rfl
  | 3,_ => rfl
 refine wpAnyH_take (i:=0) (v:=ptrTo w.heap.size) rfl (by kernel_rfl) (by kernel_rfl) (by decide +kernel) (fun _ _ _ h => h) (Or.inl ⟨by rfl,fun W hSw => (by dsimp only at hSw; go_simp)⟩) hH ?_
 refine wpAnyH_take (i:=1) (v:=nv X) rfl (by kernel_rfl) (by kernel_rfl) (by decide +kernel) (fun _ _ _ h => h) (yieldsIf_load_mid (by rfl) _ _ rfl _ _ rfl (nc X).toList _ hS uN rfl (iN X)) hH ?_
 refine wpAnyH_take (i:=3) (v:=.pointer (some ⟨w.heap.size,4,none⟩)) rfl (by kernel_rfl) (by kernel_rfl) (by decide +kernel) (fun _ _ _ h => h) (Or.inl ⟨by rfl,fun W hSw => (by dsimp only at hSw; go_simp)⟩) hH ?_
 refine wpAnyH_take (i:=4) (v:=nv Y) rfl (by kernel_rfl) (by kernel_rfl) (by decide +kernel) (fun _ _ _ h => h) (yieldsIf_load_mid (by rfl) _ _ rfl _ _ rfl (nc Y).toList _ hS4 uN rfl (iN Y)) hH ?_
 refine wpAnyH_ready (rs:=[2]) (by decide +kernel) (by simp) ?_
 refine AllReadyH.cons rfl (fun K hK => ?_) AllReadyH.nil
 go_simp
 refine (KB.out X _).mono ?_
 rintro e w3 ⟨g1,rfl,hg1,r1,hE1⟩
 have hE1 : Ext _ w3:=hE1
 refine hK.out _ _ (hH.trans hE1) (fun hH => ?_)
 clear hK K hE1
 refine wpAnyH_ready (rs:=[5]) (by decide +kernel) (by simp) ?_
 refine AllReadyH.cons rfl (fun K hK => ?_) AllReadyH.nil
 go_simp
 refine (KB.out Y _).mono ?_
 rintro e w4 ⟨g2,rfl,hg2,r2,hE2⟩
 have hE2 : Ext w3 w4:=hE2
 have r1:=Ext.row r1 hE2
 refine hK.out _ _ (hH.trans hE2) (fun hH => ?_)
 clear hK K hE2
 refine wpAnyH_ready (rs:=[6]) (by decide +kernel) (by simp) ?_
 refine AllReadyH.cons rfl (fun K hK => ?_) AllReadyH.nil
 go_simp
 have hb4:=zaj w4 (.cells #[.slice (some ⟨g1,0,none⟩) 32 32,.slice (some ⟨g2,0,none⟩) 32 32] 33)
 have r1:=r1.alloc (.cells #[.slice (some ⟨g1,0,none⟩) 32 32,.slice (some ⟨g2,0,none⟩) 32 32] 33)
 have r2:=r2.alloc (.cells #[.slice (some ⟨g1,0,none⟩) 32 32,.slice (some ⟨g2,0,none⟩) 32 32] 33)
 refine hK.out _ _ (hH.trans (Ext.alloc _ _)) (fun hH => ?_)
 clear hK K
 refine wpAnyH_ready (rs:=[7]) (by decide +kernel) (by simp) ?_
 refine AllReadyH.cons rfl (fun K hK => ?_) AllReadyH.nil
 go_simp
 refine (concat_calls w4.heap.size g1 g2 32 32 (bsv X) (bsv Y) (bsv_one X) (bsv_one Y) _ hb4 r1 r2).mono ?_
 rintro e w5 ⟨⟨v,rfl,ho⟩,hE5⟩
 have ho : Own w5 w.heap.size 5 v 64 (ptB X Y):=ho.base_le (Nat.le_trans (Below.size hx) (Below.size hH))
 refine hK.out _ _ (hH.trans hE5) (fun hH => ?_)
 clear hK K hE5
 refine wpAnyH_ready (rs:=[8]) (by decide +kernel) (by simp) ?_
 refine AllReadyH.cons rfl (fun K hK => ?_) AllReadyH.nil
 go_simp
 refine hK.out _ _ hH (fun hH => ?_)
 clear hK K
 refine wpAnyH_ready (rs:=[9]) (by decide +kernel) (by simp) ?_
 refine AllReadyH.cons rfl (fun K hK => ?_) AllReadyH.nil
 go_simp
 refine hK.out _ _ hH (fun hH => ?_)
 clear hK K
 refine wpAnyH_done (by decide +kernel) ?_ _
 refine NoPanic.normal ?_
 go_wp2
 go_ret2
 exact ⟨⟨_,rfl,ho⟩,hx.trans hH⟩
theorem bytes_far (X Y : Nat) (w : World) :
  Calls Tryz.prog 48 #[qv X Y true] w fun e w' => e = .returned (.tuple #[.slice none 0 0,.iface 39 (.int .i64 1)]) ∧ Ext w w':=by
 unfold qv qc
 go_enter Tryz.func48,Tryz.ntmps48
 go_upto_region 1 with (fail)
 refine zck fun w1 hx b0 => ?_
 have b0 : w1.heap[w.heap.size]? = some (.cells (qc X Y true) 29 (0,0)):=b0
 refine' zby (m:=7) (A:=_) ?h1 ?h2
 case h1 =>
  refine zaa (.pointer (some ⟨w.heap.size,8,none⟩)) rfl (zak rfl rfl (fldT2 _ ·)) ?_
  refine zaa (.bool true) rfl (zba rfl rfl b0 rfl (zbq ·)) ?_;simp only [aP,lA,lZ,lS]
  refine zaa (.bool true) rfl (zae (.inl rfl) rfl) ?_
  refine zaw rfl ?_;simp only [aP,lA,lZ,lS]
  refine zaw rfl ?_
  refine zaw rfl ?_;simp only [aP,lA,lZ,lS]
  refine zaa (.bool true) rfl (zav rfl rfl rfl) ?_;simp only [aP,lA,lZ,lS]
  exact zar
 refine zay rfl ?_
 intro w2 hE
 replace hx:=hx.trans hE
 clear hE
 go_upto_region 2 with (fail)
 go_wp2
 go_ret2
 exact ⟨rfl,hx⟩
theorem bytes_off (X Y : Nat) (haX : X < top) (haY : Y < top) (haB : onB X Y false = false) (w : World) :
  Calls Tryz.prog 48 #[qv X Y false] w fun e w' => e = .returned (.tuple #[.slice none 0 0,.iface 39 (.int .i64 1)]) ∧ Ext w w':=by
 have kaX:=veil haX
 have kaY:=veil haY
 have kaB:=veil haB
 clear haX haY haB
 unfold qv qc
 go_enter Tryz.func48,Tryz.ntmps48
 go_upto_region 1 with (fail)
 refine zck fun w1 hx b0 => ?_
 have b0 : w1.heap[w.heap.size]? = some (.cells (qc X Y false) 29 (0,0)):=b0
 refine' zby (m:=7) (A:=_) ?h1 ?h2
 case h1 =>
  refine zaa (.pointer (some ⟨w.heap.size,8,none⟩)) rfl (zak rfl rfl (fldT2 _ ·)) ?_
  refine zaa (.bool false) rfl (zba rfl rfl b0 rfl (zbq ·)) ?_;simp only [aP,lA,lZ,lS]
  refine zaa (.bool false) rfl (zae (.inl rfl) rfl) ?_
  refine zah (qv X Y false) rfl (zac rfl rfl b0 rfl Tryz.underlying29 rfl (iT _ _ _)) ?_;simp only [aP,lA,lZ,lS]
  refine zah (.bool false) rfl (zag (args:=[qv X Y false]) rfl rfl (fun W => zab Tryz.func47 rfl rfl _ W) (fun W hW => pOn_no kaX.out kaY.out kaB.out W)) ?_
  refine zah (.bool true) rfl (zbc rfl rfl rfl) ?_;simp only [aP,lA,lZ,lS]
  refine zaa (.bool true) rfl (zav rfl rfl rfl) ?_;simp only [aP,lA,lZ,lS]
  exact zar
 refine zay rfl ?_
 intro w2 hE
 replace hx:=hx.trans hE
 clear hE
 go_upto_region 2 with (fail)
 go_wp2
 go_ret2
 exact ⟨rfl,hx⟩
theorem parse_on (b o c : Nat) (y : Nat → Nat) (hy : ∀ j,y j < 256) (hc : 64 ≤ c) (w : World) (hlt : b < w.heap.size) (hcell : ∀ j,j < 64 → w.cell? ⟨b,o + j,none⟩ = some (.int .u8 (y j : Nat))) (h : onB (be32 y 0) (be32 y 32) false = true) :
  Calls Tryz.prog 57 #[.slice (some ⟨b,o,none⟩) 64 c] w fun e w' => e = .returned (.tuple #[qv (be32 y 0) (be32 y 32) false,.nilIface]) ∧ Ext w w':=by
 have lX:=be32_lt hy 0
 have lY:=be32_lt hy 32
 have eX : lev (fun k => y (32 - 1 - k)) 32 = be32 y 0:=by unfold be32; simp only [Nat.zero_add]
 have eY : lev (fun k => y (32 + (32 - 1 - k))) 32 = be32 y 32:=rfl
 have KX:=veil (show ∀ W,Ext w W → Calls Tryz.prog 81 #[.slice (some ⟨b,o,none⟩) 32 c] W fun e W' => e = .returned (.tuple #[nv (be32 y 0),.nilIface]) ∧ Ext W W' from fun W hW => by
  rw [← eX]
  exact zgb b o 32 c y hy (by omega) W (Nat.lt_of_lt_of_le hlt (Below.size hW)) (fun j hj => (Below.cell (p:=⟨b,o + j,none⟩) hW hlt).trans (hcell j (by omega))))
 have KY:=veil (show ∀ W,Ext w W → Calls Tryz.prog 81 #[.slice (some ⟨b,o + 32,none⟩) 32 (c - 32)] W fun e W' => e = .returned (.tuple #[nv (be32 y 32),.nilIface]) ∧ Ext W W' from fun W hW => by
  rw [← eY]
  exact zgb b (o + 32) 32 (c - 32) (fun j => y (32 + j)) (fun j => hy _) (by omega) W (Nat.lt_of_lt_of_le hlt (Below.size hW)) (fun j hj => by
   have:=(Below.cell (p:=⟨b,o + (32 + j),none⟩) hW hlt).trans (hcell (32 + j) (by omega))
   rw [← Nat.add_assoc] at this
   exact this))
 have kO:=fun W => on_is (be32 y 0) (be32 y 32) false lX lY W
 rw [h] at kO
 have KO:=veil kO
 clear kO h eX eY lX lY hcell
 generalize be32 y 0 = X at *
 generalize be32 y 32 = Y at *
 have q1 : ∀ W,(Instr.sliceAt 33 (.slice (some ⟨b,o,none⟩) 64 c) none (some (.int .i64 32)) none).run Tryz.prog W = .ok (.slice (some ⟨b,o,none⟩) 32 c) W:=fun W => by
  have h:=cut_to (some ⟨b,o,none⟩) 64 c 32 (by omega) W
  unfold cutA at h
  rw [if_neg (by omega)] at h
  simpa [Addr.add_mid] using h
 have q2 : ∀ W,(Instr.sliceAt 33 (.slice (some ⟨b,o,none⟩) 64 c) (some (.int .i64 32)) none none).run Tryz.prog W = .ok (.slice (some ⟨b,o + 32,none⟩) 32 (c - 32)) W:=fun W => by
  have h:=zjg (some ⟨b,o,none⟩) 64 c 32 (by omega) W
  unfold cutA at h
  rw [if_neg (by omega)] at h
  simpa [Addr.add_mid] using h
 have Q1:=veil q1
 have Q2:=veil q2
 clear q1 q2 hy hc
 go_enter Tryz.func57,Tryz.ntmps57
 go_upto_region 3 with (fail)
 refine zck fun w1 hx b0 => ?_
 refine' zau (m:=6) (A:=_) (by kernel_rfl) ?h1 ?h2
 case h1 =>
  refine zaa (.slice (some ⟨b,o,none⟩) 64 c) rfl (zae (.inl rfl) rfl) ?_
  refine zaa (.slice (some ⟨b,o,none⟩) 32 c) rfl (zdb rfl rfl Q1.out) ?_;simp only [aP,lA,lZ,lS]
  refine zaa (.tuple #[nv X,.nilIface]) rfl (zag (args:=[.slice (some ⟨b,o,none⟩) 32 c]) rfl rfl (fun W => zab Tryz.func81 rfl rfl _ W) (fun W hW => KX.out W (hx.trans hW))) ?_
  refine zaa (.tuple #[nv X,.nilIface]) rfl (zae (.inl rfl) rfl) ?_;simp only [aP,lA,lZ,lS]
  refine zaa (nv X) rfl (zbe rfl rfl rfl) ?_
  refine zaa (.nilIface) rfl (zbe rfl rfl rfl) ?_;simp only [aP,lA,lZ,lS]
  exact zar
 refine zbu _ _ rfl rfl rfl rfl rfl rfl rfl (hzN ·) (fun _ => rfl) (fun _ => rfl) (iN _) (hsN _) (zed _) ?_
 intro gm1 w2 hgm1 bm1 hE
 replace b0:=hE.block b0
 replace hx:=hx.trans hE
 clear hE
 simp only [aP,lA,lZ,lS]
 clear hgm1
 go_upto_region 4 with (fail)
 refine' zau (m:=6) (A:=_) (by kernel_rfl) ?h2a ?h2b
 case h2a =>
  refine zaa (.slice (some ⟨b,o,none⟩) 64 c) rfl (zae (.inl rfl) rfl) ?_
  refine zaa (.slice (some ⟨b,o + 32,none⟩) 32 (c - 32)) rfl (zdb rfl rfl Q2.out) ?_;simp only [aP,lA,lZ,lS]
  refine zaa (.tuple #[nv Y,.nilIface]) rfl (zag (args:=[.slice (some ⟨b,o + 32,none⟩) 32 (c - 32)]) rfl rfl (fun W => zab Tryz.func81 rfl rfl _ W) (fun W hW => KY.out W (hx.trans hW))) ?_
  refine zaa (.tuple #[nv Y,.nilIface]) rfl (zae (.inl rfl) rfl) ?_;simp only [aP,lA,lZ,lS]
  refine zaa (nv Y) rfl (zbe rfl rfl rfl) ?_
  refine zaa (.nilIface) rfl (zbe rfl rfl rfl) ?_;simp only [aP,lA,lZ,lS]
  exact zar
 refine zbu _ _ rfl rfl rfl rfl rfl rfl rfl (hzN ·) (fun _ => rfl) (fun _ => rfl) (iN _) (hsN _) (zed _) ?_
 intro gm2 w3 hgm2 bm2 hE
 replace b0:=hE.block b0
 replace bm1:=hE.block bm1
 replace hx:=hx.trans hE
 clear hE
 simp only [aP,lA,lZ,lS]
 clear hgm2
 go_upto_region 5 with (fail)
 refine' zau (m:=3) (A:=_) (by kernel_rfl) ?h3a ?h3b
 case h3a =>
  refine zaa (nv X) rfl (zac rfl rfl bm1 rfl uN rfl (iN _)) ?_
  refine zaa (nv Y) rfl (zac rfl rfl bm2 rfl uN rfl (iN _)) ?_;simp only [aP,lA,lZ,lS]
  refine zaa (qv X Y false) rfl (zbv (vs:=[(0,nv X),(1,nv Y)]) rfl rfl (fun W => bldT W _ _)) ?_;simp only [aP,lA,lZ,lS]
  exact zar
 refine prest_var _ _ rfl rfl rfl rfl rfl rfl rfl (hzT ·) (fun _ => rfl) (fun _ => rfl) (iT _ _ _) (hsT _ _ _) (zcr _ _ _) ?_
 intro gm3 w4 hgm3 bm3 hE
 replace b0:=hE.block b0
 replace hx:=hx.trans hE
 clear hE
 simp only [aP,lA,lZ,lS]
 clear hgm3
 go_upto_region 6 with (fail)
 refine' zau (m:=3) (A:=_) (by kernel_rfl) ?h4a ?h4b
 case h4a =>
  refine zaa (qv X Y false) rfl (zac rfl rfl bm3 rfl Tryz.underlying29 rfl (iT _ _ _)) ?_
  refine zaa (.bool true) rfl (zag (args:=[qv X Y false]) rfl rfl (fun W => zab Tryz.func47 rfl rfl _ W) (fun W hW => KO.out W)) ?_;simp only [aP,lA,lZ,lS]
  refine zaa (.bool false) rfl (zbc rfl rfl rfl) ?_;simp only [aP,lA,lZ,lS]
  exact zar
 refine zay rfl ?_
 intro w5 hE
 replace b0:=hE.block b0
 replace bm3:=hE.block bm3
 replace hx:=hx.trans hE
 clear hE
 go_upto_region 8 with (fail)
 refine' zau (m:=1) (A:=_) (by kernel_rfl) ?h5a ?h5b
 case h5a =>
  refine zaa (qv X Y false) rfl (zac rfl rfl bm3 rfl Tryz.underlying29 rfl (iT _ _ _)) ?_;simp only [aP,lA,lZ,lS]
  exact zar
 refine zcv _ rfl rfl rfl rfl rfl rfl b0 (iT _ _ _) (hsT _ _ _) (zcr _ _ _) ?_
 intro w6 hB hb
 go_wp2
 exact bodyPost_ret (zbm rfl _ _ (w.heap.size) 29 (qc X Y false) (0,0) _ rfl hb Tryz.underlying29 rfl (iT _ _ _)) rfl ⟨rfl,hx.new hB (by omega)⟩
theorem parse_off (b o c : Nat) (y : Nat → Nat) (hy : ∀ j,y j < 256) (hc : 64 ≤ c) (w : World) (hlt : b < w.heap.size) (hcell : ∀ j,j < 64 → w.cell? ⟨b,o + j,none⟩ = some (.int .u8 (y j : Nat))) (h : onB (be32 y 0) (be32 y 32) false = false) :
  Calls Tryz.prog 57 #[.slice (some ⟨b,o,none⟩) 64 c] w fun e w' => e = .returned (.tuple #[qv 0 0 false,.iface 39 (.int .i64 2)]) ∧ Ext w w':=by
 have lX:=be32_lt hy 0
 have lY:=be32_lt hy 32
 have eX : lev (fun k => y (32 - 1 - k)) 32 = be32 y 0:=by unfold be32; simp only [Nat.zero_add]
 have eY : lev (fun k => y (32 + (32 - 1 - k))) 32 = be32 y 32:=rfl
 have KX:=veil (show ∀ W,Ext w W → Calls Tryz.prog 81 #[.slice (some ⟨b,o,none⟩) 32 c] W fun e W' => e = .returned (.tuple #[nv (be32 y 0),.nilIface]) ∧ Ext W W' from fun W hW => by
  rw [← eX]
  exact zgb b o 32 c y hy (by omega) W (Nat.lt_of_lt_of_le hlt (Below.size hW)) (fun j hj => (Below.cell (p:=⟨b,o + j,none⟩) hW hlt).trans (hcell j (by omega))))
 have KY:=veil (show ∀ W,Ext w W → Calls Tryz.prog 81 #[.slice (some ⟨b,o + 32,none⟩) 32 (c - 32)] W fun e W' => e = .returned (.tuple #[nv (be32 y 32),.nilIface]) ∧ Ext W W' from fun W hW => by
  rw [← eY]
  exact zgb b (o + 32) 32 (c - 32) (fun j => y (32 + j)) (fun j => hy _) (by omega) W (Nat.lt_of_lt_of_le hlt (Below.size hW)) (fun j hj => by
   have:=(Below.cell (p:=⟨b,o + (32 + j),none⟩) hW hlt).trans (hcell (32 + j) (by omega))
   rw [← Nat.add_assoc] at this
   exact this))
 have kO:=fun W => on_is (be32 y 0) (be32 y 32) false lX lY W
 rw [h] at kO
 have KO:=veil kO
 clear kO h eX eY lX lY hcell
 generalize be32 y 0 = X at *
 generalize be32 y 32 = Y at *
 have q1 : ∀ W,(Instr.sliceAt 33 (.slice (some ⟨b,o,none⟩) 64 c) none (some (.int .i64 32)) none).run Tryz.prog W = .ok (.slice (some ⟨b,o,none⟩) 32 c) W:=fun W => by
  have h:=cut_to (some ⟨b,o,none⟩) 64 c 32 (by omega) W
  unfold cutA at h
  rw [if_neg (by omega)] at h
  simpa [Addr.add_mid] using h
 have q2 : ∀ W,(Instr.sliceAt 33 (.slice (some ⟨b,o,none⟩) 64 c) (some (.int .i64 32)) none none).run Tryz.prog W = .ok (.slice (some ⟨b,o + 32,none⟩) 32 (c - 32)) W:=fun W => by
  have h:=zjg (some ⟨b,o,none⟩) 64 c 32 (by omega) W
  unfold cutA at h
  rw [if_neg (by omega)] at h
  simpa [Addr.add_mid] using h
 have Q1:=veil q1
 have Q2:=veil q2
 clear q1 q2 hy hc
 go_enter Tryz.func57,Tryz.ntmps57
 go_upto_region 3 with (fail)
 refine zck fun w1 hx b0 => ?_
 refine' zau (m:=6) (A:=_) (by kernel_rfl) ?h1 ?h2
 case h1 =>
  refine zaa (.slice (some ⟨b,o,none⟩) 64 c) rfl (zae (.inl rfl) rfl) ?_
  refine zaa (.slice (some ⟨b,o,none⟩) 32 c) rfl (zdb rfl rfl Q1.out) ?_;simp only [aP,lA,lZ,lS]
  refine zaa (.tuple #[nv X,.nilIface]) rfl (zag (args:=[.slice (some ⟨b,o,none⟩) 32 c]) rfl rfl (fun W => zab Tryz.func81 rfl rfl _ W) (fun W hW => KX.out W (hx.trans hW))) ?_
  refine zaa (.tuple #[nv X,.nilIface]) rfl (zae (.inl rfl) rfl) ?_;simp only [aP,lA,lZ,lS]
  refine zaa (nv X) rfl (zbe rfl rfl rfl) ?_
  refine zaa (.nilIface) rfl (zbe rfl rfl rfl) ?_;simp only [aP,lA,lZ,lS]
  exact zar
 refine zbu _ _ rfl rfl rfl rfl rfl rfl rfl (hzN ·) (fun _ => rfl) (fun _ => rfl) (iN _) (hsN _) (zed _) ?_
 intro gm1 w2 hgm1 bm1 hE
 replace b0:=hE.block b0
 replace hx:=hx.trans hE
 clear hE
 simp only [aP,lA,lZ,lS]
 clear hgm1
 go_upto_region 4 with (fail)
 refine' zau (m:=6) (A:=_) (by kernel_rfl) ?h2a ?h2b
 case h2a =>
  refine zaa (.slice (some ⟨b,o,none⟩) 64 c) rfl (zae (.inl rfl) rfl) ?_
  refine zaa (.slice (some ⟨b,o + 32,none⟩) 32 (c - 32)) rfl (zdb rfl rfl Q2.out) ?_;simp only [aP,lA,lZ,lS]
  refine zaa (.tuple #[nv Y,.nilIface]) rfl (zag (args:=[.slice (some ⟨b,o + 32,none⟩) 32 (c - 32)]) rfl rfl (fun W => zab Tryz.func81 rfl rfl _ W) (fun W hW => KY.out W (hx.trans hW))) ?_
  refine zaa (.tuple #[nv Y,.nilIface]) rfl (zae (.inl rfl) rfl) ?_;simp only [aP,lA,lZ,lS]
  refine zaa (nv Y) rfl (zbe rfl rfl rfl) ?_
  refine zaa (.nilIface) rfl (zbe rfl rfl rfl) ?_;simp only [aP,lA,lZ,lS]
  exact zar
 refine zbu _ _ rfl rfl rfl rfl rfl rfl rfl (hzN ·) (fun _ => rfl) (fun _ => rfl) (iN _) (hsN _) (zed _) ?_
 intro gm2 w3 hgm2 bm2 hE
 replace b0:=hE.block b0
 replace bm1:=hE.block bm1
 replace hx:=hx.trans hE
 clear hE
 simp only [aP,lA,lZ,lS]
 clear hgm2
 go_upto_region 5 with (fail)
 refine' zau (m:=3) (A:=_) (by kernel_rfl) ?h3a ?h3b
 case h3a =>
  refine zaa (nv X) rfl (zac rfl rfl bm1 rfl uN rfl (iN _)) ?_
  refine zaa (nv Y) rfl (zac rfl rfl bm2 rfl uN rfl (iN _)) ?_;simp only [aP,lA,lZ,lS]
  refine zaa (qv X Y false) rfl (zbv (vs:=[(0,nv X),(1,nv Y)]) rfl rfl (fun W => bldT W _ _)) ?_;simp only [aP,lA,lZ,lS]
  exact zar
 refine prest_var _ _ rfl rfl rfl rfl rfl rfl rfl (hzT ·) (fun _ => rfl) (fun _ => rfl) (iT _ _ _) (hsT _ _ _) (zcr _ _ _) ?_
 intro gm3 w4 hgm3 bm3 hE
 replace b0:=hE.block b0
 replace hx:=hx.trans hE
 clear hE
 simp only [aP,lA,lZ,lS]
 clear hgm3
 go_upto_region 6 with (fail)
 refine' zau (m:=3) (A:=_) (by kernel_rfl) ?h4a ?h4b
 case h4a =>
  refine zaa (qv X Y false) rfl (zac rfl rfl bm3 rfl Tryz.underlying29 rfl (iT _ _ _)) ?_
  refine zaa (.bool false) rfl (zag (args:=[qv X Y false]) rfl rfl (fun W => zab Tryz.func47 rfl rfl _ W) (fun W hW => KO.out W)) ?_;simp only [aP,lA,lZ,lS]
  refine zaa (.bool true) rfl (zbc rfl rfl rfl) ?_;simp only [aP,lA,lZ,lS]
  exact zar
 refine zay rfl ?_
 intro w5 hE
 replace b0:=hE.block b0
 replace hx:=hx.trans hE
 clear hE
 go_upto_region 7 with (fail)
 refine' zau (m:=2) (A:=_) (by kernel_rfl) ?h5a ?h5b
 case h5a =>
  refine zaa (qv 0 0 false) rfl (zbv rfl rfl (bldT0 ·)) ?_
  refine zaa (.iface 39 (.int .i64 2)) rfl (zic rfl (mkErr2 ·)) ?_;simp only [aP,lA,lZ,lS]
  exact zar
 refine zcv _ rfl rfl rfl rfl rfl rfl b0 (iT _ _ _) (hsT _ _ _) (zcr _ _ _) ?_
 intro w6 hB hb
 go_wp2
 exact bodyPost_ret (zbm rfl _ _ (w.heap.size) 29 (qc 0 0 false) (0,0) _ rfl hb Tryz.underlying29 rfl (iT _ _ _)) rfl ⟨rfl,hx.new hB (by omega)⟩
theorem parse_no (A : Option Addr) (n c : Nat) (hn : n ≠ 64) (w : World) :
  Calls Tryz.prog 57 #[.slice A n c] w fun e w' => e = .returned (.tuple #[qv 0 0 false,.iface 39 (.int .i64 2)]) ∧ Ext w w':=by
 have hn2 : ¬ (n : Int) = 64:=by omega
 clear hn
 go_enter Tryz.func57,Tryz.ntmps57
 go_upto_region 2 with (fail)
 refine zck fun w1 hx b0 => ?_
 refine' zau (m:=2) (A:=_) (by kernel_rfl) ?h1 ?h2
 case h1 =>
  refine zaa (qv 0 0 false) rfl (zbv rfl rfl (bldT0 ·)) ?_
  refine zaa (.iface 39 (.int .i64 2)) rfl (zic rfl (mkErr2 ·)) ?_;simp only [aP,lA,lZ,lS]
  exact zar
 refine zcv _ rfl rfl rfl rfl rfl rfl b0 (iT _ _ _) (hsT _ _ _) (zcr _ _ _) ?_
 intro w2 hB hb
 go_wp2
 exact bodyPost_ret (zbm rfl _ _ (w.heap.size) 29 (qc 0 0 false) (0,0) _ rfl hb Tryz.underlying29 rfl (iT _ _ _)) rfl ⟨rfl,hx.new hB (by omega)⟩
theorem bytes_err (X Y : Nat) (f : Bool) (hX : X < top) (hY : Y < top) (h : onB X Y f = false) (w : World) : Calls Tryz.prog 48 #[qv X Y f] w fun e w' => e = .returned (.tuple #[.slice none 0 0,.iface 39 (.int .i64 1)]) ∧ Ext w w':=by
 cases f with
 | true => exact bytes_far X Y w
 | false => exact bytes_off X Y hX hY h w
theorem pbytes_on {X Y : Nat} (h : onB X Y false = true) (w : World) : Calls Tryz.prog 48 #[qv X Y false] w fun e w' => ∃ A c,e = .returned (.tuple #[.slice A 64 c,.nilIface]) ∧ 64 ≤ c ∧ Bs w' A (sigB X Y) ∧ Ext w w':=by
 obtain ⟨q,rfl,rfl,hf⟩:=onB_some h
 have k:=bytes_yes q hf.symm w
 unfold qvP at k
 rw [← hf] at k
 exact k.mono fun e w' ⟨⟨v,he,o⟩,hE⟩ => by
  obtain ⟨A,c,hv,h1,h2,_⟩:=own_sig o
  exact ⟨A,c,by rw [he,hv],h1,h2,hE⟩
theorem pbytes_off (k : Ky) (hx : k.x < top) (hy : k.y < top) (h : offK k = true) (w : World) : Calls Tryz.prog 48 #[qv k.x k.y k.f] w fun e w' => e = .returned (.tuple #[.slice none 0 0,.iface 39 (.int .i64 1)]) ∧ Ext w w':=by
 unfold offK at h
 cases hf : k.f with
 | true => exact bytes_far k.x k.y w
 | false =>
  rw [hf,Bool.false_or,Bool.not_eq_true'] at h
  exact bytes_err k.x k.y false hx hy h w
theorem offK_no {k : Ky} (h : offK k = false) : k.f = false ∧ onB k.x k.y false = true:=by
 unfold offK at h
 rw [Bool.or_eq_false_iff,Bool.not_eq_false'] at h
 obtain ⟨h1,h2⟩:=h
 rw [h1] at h2
 exact ⟨h1,h2⟩
theorem vs_key {w : World} {g t : Nat} {A0 A1 A2 A3 : Option Addr} {c0 c1 c2 c3 : Nat} {x0 x1 x2 x3 : List Nat} {fr : Nat × Nat}
  (l0 : x0.length = 8) (l1 : x1.length = 64) (l2 : x2.length = 8) (l3 : x3.length = 8)
  (hg : w.heap[g]? = some (.cells #[.slice A0 8 c0,.slice A1 64 c1,.slice A2 8 c2,.slice A3 8 c3] t fr))
  (h0 : 8 ≤ c0 ∧ Bs w A0 x0) (h1 : 64 ≤ c1 ∧ Bs w A1 x1) (h2 : 8 ≤ c2 ∧ Bs w A2 x2) (h3 : 8 ≤ c3 ∧ Bs w A3 x3) : Vs w (.slice (some ⟨g,0,none⟩) 4 4) [x0,x1,x2,x3] :=
 vs_row (l:=[x0,x1,x2,x3]) hg (Nat.le_refl _) fun i hi => by
  match i,hi with
  | 0,_ => exact ⟨A0,c0,by show some (Value.slice A0 8 c0) = some (.slice A0 x0.length c0); rw [l0],by show x0.length ≤ _; rw [l0]; exact h0.1,h0.2⟩
  | 1,_ => exact ⟨A1,c1,by show some (Value.slice A1 64 c1) = some (.slice A1 x1.length c1); rw [l1],by show x1.length ≤ _; rw [l1]; exact h1.1,h1.2⟩
  | 2,_ => exact ⟨A2,c2,by show some (Value.slice A2 8 c2) = some (.slice A2 x2.length c2); rw [l2],by show x2.length ≤ _; rw [l2]; exact h2.1,h2.2⟩
  | 3,_ => exact ⟨A3,c3,by show some (Value.slice A3 8 c3) = some (.slice A3 x3.length c3); rw [l3],by show x3.length ≤ _; rw [l3]; exact h3.1,h3.2⟩
theorem kyB_flat (i a b : Int) (x y : Nat) (f : Bool) : [numB i,sigB x y,numB a,numB b].flatten = kyB ⟨i,x,y,f,a,b⟩:=by simp [kyB]
theorem Fresh.back {w W : World} {A : Option Addr} {bs : List Nat} (h : Fresh W A bs) (hE : Ext w W) : Fresh w A bs:=h.imp id fun h b o e => Nat.le_trans (Below.size hE) (h b o e)
def KatV (w : World) (k : Ky) (v : Value) (W : World) : Prop:=∃ A c,v = .slice A 88 c ∧ 88 ≤ c ∧ Bs W A (kyB k) ∧ Fresh w A (kyB k)
theorem concat_key {w : World} {i a b : Int} {x y : Nat} (f : Bool) {v : Value} {W : World} (hE : Ext w W) (hV : Vs W v [numB i,sigB x y,numB a,numB b]) :
  Calls Tryz.prog 49 #[v] W fun e w' => ∃ v,e = .returned v ∧ Ext W w' ∧ KatV w ⟨i,x,y,f,a,b⟩ v w':=by
 have hl : [numB i,sigB x y,numB a,numB b].flatten.length = 88:=by rw [kyB_flat i a b x y f,zdp]
 refine (concatB_calls v _ (by simp) (by rw [hl]; decide) (by rw [hl]; decide) W hV).mono fun e w' ⟨A,c,he,hc,hB,hF,hE2⟩ => ?_
 rw [hl] at he hc
 rw [kyB_flat i a b x y f] at hB hF
 exact ⟨_,he,hE2,A,c,rfl,hc,hB,hF.back hE⟩
theorem bytesOf_off (k : Ky) (hx : k.x < top) (hy : k.y < top) (h : offK k = true) (w : World) :
  Calls Tryz.prog 26 #[.agg (kyC k).toArray] w fun e w' => e = .returned (.tuple #[.slice none 0 0,.iface 39 (.int .i64 1)]) ∧ Ext w w':=by
 have KB:=veil (fun W => pbytes_off k hx hy h W)
 have k1 : ∀ w,(binOp .neq 35 (.iface 39 (.int .i64 1)) .nilIface).run Tryz.prog w = .ok (.bool true) w:=fun w => by kernel_rfl
 clear hx hy h
 obtain ⟨C,hC⟩ : ∃ C,C = (kyC k).toArray:=⟨_,rfl⟩
 rw [← hC]
 have HC:=veil hC
 clear hC
 go_enter Tryz.func26,Tryz.ntmps26
 go_upto_region 1 with (fail)
 obtain ⟨g,hg⟩ : ∃ g,g = w.heap.size:=⟨_,rfl⟩
 have h0:=zaj w (.cells C 55)
 have hE0:=Ext.alloc w (.cells C 55)
 generalize w.alloc (.cells C 55) = w0 at *
 rw [← hg] at h0 ⊢
 rw [HC.out] at h0
 have HQ:=veil (ky_q (zef h0))
 simp only [Nat.zero_add] at HQ
 have HE:=veil hE0
 clear h0 hE0 hg
 go_wp2_with (first
  | ((with_reducible refine zam 8 ?_); refine wpList_load_mid rfl 29 _ rfl g 1 rfl _ _ HQ.out Tryz.underlying29 rfl (iT k.x k.y k.f) ?_)
  | (go_at_call 48; refine (KB.out _).mono ?_; rintro e w1 ⟨rfl,hE1⟩))
 go_ret2
 exact ⟨rfl,HE.out.trans hE1⟩
theorem bytesOf_on (k : Ky) (h : offK k = false) (hi : 0 ≤ k.i ∧ k.i ≤ 9223372036854775807) (ha : 0 ≤ k.a ∧ k.a ≤ 9223372036854775807) (hb : 0 ≤ k.b ∧ k.b ≤ 9223372036854775807) (w : World) :
  Calls Tryz.prog 26 #[.agg (kyC k).toArray] w fun e w' => ∃ A c,e = .returned (.tuple #[.slice A 88 c,.nilIface]) ∧ 88 ≤ c ∧ Bs w' A (kyB k) ∧ Fresh w A (kyB k) ∧ Ext w w':=by
 obtain ⟨hf,ho⟩:=offK_no h
 have k3 : ∀ w,(binOp .neq 35 .nilIface .nilIface).run Tryz.prog w = .ok (.bool false) w:=fun w => by kernel_rfl
 clear h
 obtain ⟨i,x,y,f,a,b⟩:=k
 simp only at hf ho hi ha hb
 subst hf
 have KB:=veil (fun W => pbytes_on ho W)
 have HN:=veil (And.intro hi (And.intro ha hb))
 clear ho hi ha hb
 obtain ⟨C,hC⟩ : ∃ C,C = (kyC ⟨i,x,y,false,a,b⟩).toArray:=⟨_,rfl⟩
 rw [← hC]
 have HC:=veil hC
 clear hC
 go_enter Tryz.func26,Tryz.ntmps26
 go_upto_region 1 with (fail)
 obtain ⟨g,hg⟩ : ∃ g,g = w.heap.size:=⟨_,rfl⟩
 have h0:=zaj w (.cells C 55)
 have hE0:=Ext.alloc w (.cells C 55)
 generalize w.alloc (.cells C 55) = w0 at *
 rw [← hg] at h0 ⊢
 rw [HC.out] at h0
 have HQ:=veil (ky_q (zef h0))
 simp only [Nat.zero_add] at HQ
 have HE:=veil (And.intro hE0 (zef h0))
 clear h0 hE0 hg
 go_upto_region 4 with (first
  | ((with_reducible refine zam 8 ?_); refine wpList_load_mid rfl 29 _ rfl g 1 rfl _ _ HQ.out Tryz.underlying29 rfl (iT x y false) ?_)
  | (go_at_call 48; refine (KB.out _).mono ?_; rintro e w1 ⟨A1,c1,rfl,hc1,hB1,hE1⟩))
 have hr:=zcf hE1 (World.block_lt_of_cell? _ _ (ky_i HE.out.2)) HE.out.2
 have c0:=ky_i hr
 have c10:=ky_a hr
 have c11:=ky_b hr
 simp only [Nat.zero_add] at c0 c10 c11
 have H1:=veil (And.intro (HE.out.1.trans hE1) (And.intro hc1 hB1))
 clear hr hE1 hc1 hB1 HQ KB HE k3
 refine zdf 14 [(true,[0,1,3,4,5,7,8]),(false,[2]),(false,[6]),(false,[9]),(false,[10]),(false,[11]),(true,[12,13])] (by kernel_rfl) (by kernel_rfl) fun Q' hQ' => ?_
 refine' zbz (A:=_) _ rfl (by kernel_rfl) ?_ ?_
 rotate_left
 ·
  intro D hD hN'
  have e0:=hD.cell c0
  have e1:=hD.cell c10
  have e2:=hD.cell c11
  simp only [pickI,consO,List.getElem?_cons_zero,List.getElem?_cons_succ]
  repeat (go_big_quiet_step (fail))
  exact zcz
 refine zce (R:=NumV i) _ rfl rfl rfl rfl rfl (zbw Tryz.func50 rfl rfl _) (fun W _ => numV i HN.out.1 W) ?_
 rintro _ W2 hE2 ⟨A0,d0,rfl,hd0,hB0⟩
 simp only [aP,lA,lZ,lS]
 refine zce (R:=NumV a) _ rfl rfl rfl rfl rfl (zbw Tryz.func50 rfl rfl _) (fun W _ => numV a HN.out.2.1 W) ?_
 rintro _ W3 hE3 ⟨A2,d2,rfl,hd2,hB2⟩
 simp only [aP,lA,lZ,lS]
 refine zce (R:=NumV b) _ rfl rfl rfl rfl rfl (zbw Tryz.func50 rfl rfl _) (fun W _ => numV b HN.out.2.2 W) ?_
 rintro _ W4 hE4 ⟨A3,d3,rfl,hd3,hB3⟩
 simp only [aP,lA,lZ,lS]
 refine zgj (vs:=[(0,.slice A0 8 d0),(1,.slice A1 64 c1),(2,.slice A2 8 d2),(3,.slice A3 8 d3)]) (C:=#[.slice A0 8 d0,.slice A1 64 c1,.slice A2 8 d2,.slice A3 8 d3]) (e:=33) _ rfl rfl rfl rfl rfl (fun W => by simp [Instr.buildSlice,go_sem]) ?_
 intro g7 W7 hg7 hgb7 hE7
 simp only [aP,lA,lZ,lS]
 have hE27:=hE2.trans (hE3.trans (hE4.trans hE7))
 have hV:=vs_key (zbb i) (zff x y) (zbb a) (zbb b) hgb7 ⟨hd0,hB0.ext (hE3.trans (hE4.trans hE7))⟩ ⟨H1.out.2.1,H1.out.2.2.ext hE27⟩ ⟨hd2,hB2.ext (hE4.trans hE7)⟩ ⟨hd3,hB3.ext hE7⟩
 have HV:=veil (And.intro hV (H1.out.1.trans hE27))
 refine zce (R:=KatV w ⟨i,x,y,false,a,b⟩) _ rfl rfl rfl rfl rfl (zbw Tryz.func49 rfl rfl _) (fun W hW => concat_key false (HV.out.2.trans hW) (HV.out.1.ext hW)) ?_
 rintro _ W8 hE8 ⟨A8,d8,rfl,hd8,hB8,hF8⟩
 simp only [aP,lA,lZ,lS]
 refine' zbz (A:=_) _ rfl (by kernel_rfl) ?_ ?_
 rotate_left
 ·
  intro D hD hN'
  simp only [pickI,consO,List.getElem?_cons_zero,List.getElem?_cons_succ]
  repeat (go_big_quiet_step (fail))
  exact zcz
 refine zct hQ' fun W9 hE9 => ?_
 have hEnd:=(HV.out.2.trans hE8).trans hE9
 have HB:=veil (And.intro (hB8.ext hE9) hF8)
 clear hV hE27 hE2 hE3 hE4 hE7 hE8 hE9 hB0 hB2 hB3 hB8 hF8 hgb7 hg7 HV H1
 go_wp2
 go_ret2
 exact ⟨A8,d8,rfl,hd8,HB.out.1,HB.out.2,hEnd⟩
theorem zgv {g k : Nat} (hne : k ≠ g) : ∀ (vs : List Value) (o : Nat) (w : World),(w.setCells g o vs).heap[k]? = w.heap[k]?
 | [],_,_ => rfl
 | _ :: r,o,_ => (zgv hne r (o + 1) _).trans (Below.heap_setCell _ _ _ _ hne)
theorem Bs.off {w : World} {A : Option Addr} {bs : List Nat} {g o : Nat} {vs : List Value} (h : Bs w A bs) (hne : ∀ b o,A = some ⟨b,o,none⟩ → b ≠ g) : Bs (w.setCells g o vs) A bs :=
 ⟨h.1,h.2.imp id fun ⟨b,o',e,hb,hc⟩ => by
  have hk:=zgv (hne b o' e) vs o w
  have hs : b < (w.setCells g o vs).heap.size:=by
   rw [Array.getElem?_eq_getElem hb] at hk
   exact (Array.getElem?_eq_some_iff.1 hk).1
  exact ⟨b,o',e,hs,fun j hj => (World.cell?_of_block (a:=⟨b,o' + j,none⟩) hk).trans (hc j hj)⟩⟩
def LaidK (g : Nat) (w : World) (l : List Ky) (f : Nat → Value) (i : Nat) : Prop:=∀ j,j < i → f (j * 2) = .int .i64 ((j : Int) + 1) ∧ ∃ A c,f (j * 2 + 1) = .slice A 88 c ∧ 88 ≤ c ∧ Bs w A (kyB (l.getD j ky0)) ∧ ∀ b o,A = some ⟨b,o,none⟩ → b ≠ g
theorem LaidK.ext {g : Nat} {w w' : World} {l : List Ky} {f : Nat → Value} {i : Nat} (h : LaidK g w l f i) (k : Ext w w') : LaidK g w' l f i:=fun j hj => by
 obtain ⟨h1,A,c,h2,h3,h4,h5⟩:=h j hj
 exact ⟨h1,A,c,h2,h3,h4.ext k,h5⟩
theorem LaidK.step {g : Nat} {w : World} {l : List Ky} {f : Nat → Value} {i c : Nat} {A : Option Addr} (h : LaidK g w l f i) (hc : 88 ≤ c) (hB : Bs w A (kyB (l.getD i ky0))) (hne : ∀ b o,A = some ⟨b,o,none⟩ → b ≠ g) :
  LaidK g (w.setCells g (i * 2) [.int .i64 ((i : Int) + 1),.slice A 88 c]) l (fun j => if j = i * 2 + 1 then .slice A 88 c else if j = i * 2 then .int .i64 ((i : Int) + 1) else f j) (i + 1):=fun j hj => by
 by_cases e : j = i
 ·
  subst e
  exact ⟨by simp only; rw [if_neg (by omega),if_pos trivial],A,c,by simp only; rw [if_pos trivial],hc,hB.off hne,hne⟩
 ·
  obtain ⟨h1,A',c',h2,h3,h4,h5⟩:=h j (by omega)
  refine ⟨?_,A',c',?_,h3,h4.off h5,h5⟩
  ·
   simp only
   rw [if_neg (by omega),if_neg (by omega)]
   exact h1
  ·
   simp only
   rw [if_neg (by omega),if_neg (by omega)]
   exact h2
theorem LaidK.fl {g n : Nat} {w : World} {l : List Ky} {f : Nat → Value} (h : LaidK g w l f n) (hn : n = l.length) (hp : Pre w g 64 (n * 2) f) : Fl w (.slice (some ⟨g,0,none⟩) n n) (kyFs 1 l):=by
 subst hn
 refine ⟨kyFs_byt 1 l,some ⟨g,0,none⟩,l.length,by rw [zbr],by rw [zbr]; exact Nat.le_refl _,.inr ⟨g,0,rfl,hp.lt,fun i hi => ?_⟩⟩
 rw [zbr] at hi
 obtain ⟨h1,A,c,h2,h3,h4,_⟩:=h i hi
 obtain ⟨e1,e2⟩:=zgt 1 l i hi
 rw [e1,e2,zdp]
 refine ⟨?_,A,c,?_,h3,h4⟩
 ·
  rw [Nat.zero_add,hp.cell (by omega),h1,show (i : Int) + 1 = 1 + (i : Int) by omega]
 ·
  rw [Nat.zero_add,hp.cell (by omega),h2]
theorem ordK_each {l : List Ky} (h : ordK l = true) {j : Nat} (hj : j < l.length) : 1 ≤ (l.getD j ky0).i ∧ (l.getD j ky0).i ≤ 2147483647 ∧ 0 ≤ (l.getD j ky0).a ∧ (l.getD j ky0).a ≤ (l.getD j ky0).b ∧ (l.getD j ky0).b ≤ 1073741824:=by
 have h:=of_decide_eq_true h
 obtain ⟨_,h2,h3,h4,h5⟩:=h.2 j hj
 exact ⟨okO_pos j fun q hq => h.2 q (by omega),h2,h3,h4,h5⟩
theorem kbytes_calls (v : Value) (l : List Ky) (w : World) (hF : Ks w v l) (hT : TopK l) (hL : l.length ≤ 1000000) :
  Calls Tryz.prog 12 #[v] w fun e w' => ∃ x ev,e = .returned (.tuple #[x,ev]) ∧ Ext w w' ∧ KBytesA w' l x ev:=by
 have KO:=veil (zfm v l w hF (by omega))
 cases ho : ordK l with
 | false =>
  rw [ho] at KO
  have HM:=veil (show mayK l = false by rw [zgr,ho]; rfl)
  clear hF hT hL ho
  go_enter Tryz.func12,Tryz.ntmps12
  go_wp2_with (go_at_call 23; refine KO.out.mono ?_; rintro e w1 ⟨rfl,hE1⟩)
  go_ret2
  exact ⟨_,_,rfl,hE1,.inl ⟨HM.out,⟨none,0,rfl⟩,rfl⟩⟩
 | true =>
  rw [ho] at KO
  obtain ⟨AL,c,rfl,hc,hx⟩:=hF
  obtain ⟨n,hn⟩ : ∃ n,n = l.length:=⟨_,rfl⟩
  rw [← hn] at hx hc hL KO ⊢
  have HR:=veil (And.intro hn (And.intro ho hT))
  have HX:=veil hx
  clear hx hn ho hT
  have hmk:=hmk_fd n (by omega)
  go_enter Tryz.func12,Tryz.ntmps12
  go_upto_region 3 with (go_at_call 23; refine KO.out.mono ?_; rintro e w1 ⟨rfl,hE1⟩)
  have hp0:=pre_new w1 (madeCells #[.int .i64 0,.slice none 0 0] (n * 2)) 64 (n * 2) (size_madeCells _ _).symm
  have hE0:=Ext.alloc w1 (.cells (madeCells #[.int .i64 0,.slice none 0 0] (n * 2)) 64)
  have H0:=veil (And.intro hp0 hE0)
  have HE1:=veil hE1
  clear hp0 hE0 hE1 KO
  go_upto_region 4 with (fail)
  obtain ⟨g,hg⟩ : ∃ g,g = w1.heap.size:=⟨_,rfl⟩
  generalize w1.alloc (.cells (madeCells #[.int .i64 0,.slice none 0 0] (n * 2)) 64) = w2 at *
  rw [← hg] at H0 ⊢
  have HG:=veil (show w1.heap.size ≤ g by omega)
  clear hg hmk
  go_wp2
  go_loopw [5,6,7,8,18] (fun _ _ _ _ v wr => ∃ i : Nat,i ≤ n ∧ v = .int .i64 (i : Int) ∧ (∃ f,Pre wr g 64 (n * 2) f ∧ LaidK g wr l f i) ∧ (∀ j,j < i → offK (l.getD j ky0) = false) ∧ Ext w1 wr)
   (fun _ _ _ _ v _ => n - (intOf v).toNat)
  case atStart => exact ⟨0,by omega,rfl,⟨_,H0.out.1,fun j hj => by omega⟩,fun j hj => by omega,H0.out.2⟩
  case round =>
   obtain ⟨i,hi,rfl,⟨f,hp,hl⟩,hall,hE⟩:=hrel
   by_cases hlt : i < n
   ·
    have hd1 : decide ((i : Int) < (n : Int)) = true:=by simp; omega
    have hii : (i : Int) < (n : Int):=by omega
    obtain ⟨b,o,hAL,hb,hcl⟩:=HX.out.resolve_left (by omega)
    have hil : i < l.length:=by have:=HR.out.1; omega
    have HRG:=veil (zcf (HE1.out.trans hE) hb (hcl i _ (zee hil)))
    have hkt:=HR.out.2.2 (l.getD i ky0) (List.mem_of_getElem? (zee hil))
    have heach:=ordK_each HR.out.2.1 hil
    obtain ⟨k,hk⟩ : ∃ k,k = l.getD i ky0:=⟨_,rfl⟩
    rw [← hk] at HRG hkt heach
    have HL:=veil (And.intro hp (And.intro hl (And.intro hall (And.intro hE hk))))
    have HKT:=veil (And.intro hkt heach)
    subst hAL
    clear hp hl hall hE hcl hb hk hkt heach
    go_upto_region 7 with (first
     | ((with_reducible refine zam 22 ?_); refine wpList_load_mid rfl 55 _ rfl b _ rfl (kyC k) _ HRG.out Tryz.underlying55 rfl (iKy k) ?_)
     | ((with_reducible refine zan ?_); refine wpList_store_row rfl 55 _ _ rfl wr.heap.size (kyC k).toArray rfl rfl 55 _ (zaj wr _) (iKyA k) (ziy k) (ziz k) ?_; rw [World.setRow_alloc_new]))
    have hgb:=zaj wr (.cells (kyC k).toArray 55)
    have hEW:=Ext.alloc wr (.cells (kyC k).toArray 55)
    generalize wr.alloc (.cells (kyC k).toArray 55) = W at *
    generalize wr.heap.size = gf at *
    have HW:=veil (And.intro hgb hEW)
    clear hgb hEW HRG
    cases hoff : offK k with
    | true =>
     have KB:=veil (fun W => bytesOf_off k HKT.out.1.1 HKT.out.1.2 hoff W)
     have k1 : ∀ w,(binOp .neq 35 (.iface 39 (.int .i64 1)) .nilIface).run Tryz.prog w = .ok (.bool true) w:=fun w => by kernel_rfl
     have HM:=veil (show mayK l = false by
      cases hm : mayK l with
      | false => rfl
      | true =>
       rw [zgr,Bool.and_eq_true,Bool.not_eq_true'] at hm
       have:=any_off hm.2 hil
       rw [← HL.out.2.2.2.2,hoff] at this
       cases this)
     clear hoff hil
     go_wp2_with (first
      | ((with_reducible refine zam 24 ?_); refine wpList_load_row rfl 55 _ rfl gf rfl 55 (kyC k).toArray (0,0) _ HW.out.1 Tryz.underlying55 rfl (iKyA k) ?_)
      | (go_at_call 26; refine (KB.out _).mono ?_; rintro e w3 ⟨rfl,hE3⟩))
     go_ret2
     exact ⟨_,_,rfl,HE1.out.trans (HL.out.2.2.2.1.trans (HW.out.2.trans hE3)),.inl ⟨HM.out,⟨none,0,rfl⟩,rfl⟩⟩
    | false =>
     have KB:=veil (fun W => bytesOf_on k hoff ⟨by have:=HKT.out.2; omega,by have:=HKT.out.2; omega⟩ ⟨by have:=HKT.out.2; omega,by have:=HKT.out.2; omega⟩ ⟨by have:=HKT.out.2; omega,by have:=HKT.out.2; omega⟩ W)
     have k3 : ∀ w,(binOp .neq 35 .nilIface .nilIface).run Tryz.prog w = .ok (.bool false) w:=fun w => by kernel_rfl
     have hnext : ∀ j,j < i + 1 → offK (l.getD j ky0) = false:=fun j hj => by
      by_cases e : j = i
      ·
       subst e
       rw [← HL.out.2.2.2.2]
       exact hoff
      ·
       exact HL.out.2.2.1 j (by omega)
     have HN:=veil hnext
     clear hoff hil hnext
     go_upto_region 10 with (first
      | ((with_reducible refine zam 24 ?_); refine wpList_load_row rfl 55 _ rfl gf rfl 55 (kyC k).toArray (0,0) _ HW.out.1 Tryz.underlying55 rfl (iKyA k) ?_)
      | (go_at_call 26; refine (KB.out _).mono ?_; rintro e w3 ⟨A3,c3,rfl,hc3,hB3,hF3,hE3⟩))
     have hE13:=HW.out.2.trans hE3
     have hlt0:=HL.out.1.lt
     have hp3:=HL.out.1.below hE13 hlt0
     have hne : ∀ b o,A3 = some ⟨b,o,none⟩ → b ≠ g:=fun b o e => by
      have hW2:=Below.size HW.out.2
      rcases hF3 with h | h
      ·
       rw [zdp] at h; omega
      ·
       have:=h b o e; omega
     have hB4 : Bs w3 A3 (kyB (l.getD i ky0)):=by rw [← HL.out.2.2.2.2]; exact hB3
     have HS:=veil (And.intro (LaidK.step (HL.out.2.1.ext hE13) hc3 hB4 hne) (And.intro hp3 (HL.out.2.2.2.1.trans hE13)))
     have HT:=veil (hp3.there (i:=i * 2) (by omega))
     clear hE13 hlt0 hp3 hne hB4 hB3 hF3 hE3 hc3 KB k3
     go_wp2_with ((with_reducible refine zan ?_); refine wpList_store_mid rfl 64 _ _ rfl g (i * 2) _ rfl rfl HT.out infoF2 zia ?_)
     go_roundw
     case rel => exact ⟨i + 1,by omega,by go_num,⟨_,HS.out.2.1.two (i * 2) _ _,HS.out.1⟩,HN.out,zap (zap HS.out.2.2 HG.out _) HG.out _⟩
     case measure => simp [intOf]; omega
   ·
    obtain rfl : i = n:=by omega
    have hd1 : decide ((i : Int) < (i : Int)) = false:=by simp
    have h32:=(of_decide_eq_true HR.out.2.1).1
    have KP:=veil (code8.put _ _ wr (hl.fl HR.out.1 hp) (by rw [zbr]; omega))
    have HM:=veil (show mayK l = true by
     rw [zgr,HR.out.2.1,Bool.true_and,Bool.not_eq_true',List.any_eq_false]
     intro k hk
     obtain ⟨j,hj,rfl⟩:=List.mem_iff_getElem.1 hk
     have:=hall j (by have:=HR.out.1; omega)
     rw [List.getD_eq_getElem?_getD,List.getElem?_eq_getElem hj] at this
     simpa using this)
    have HE:=veil (And.intro hE h32)
    clear hl hp hE hall h32
    go_wp2_with (go_at_call 27; refine KP.out.mono ?_; rintro e w3 ⟨x,ev,rfl,hE3,hA⟩)
    go_ret2
    refine ⟨_,_,rfl,HE1.out.trans (HE.out.1.trans hE3),?_⟩
    rcases hA with ⟨h,_⟩ | ⟨_,rfl,A,c,rfl,hc,hB⟩
    ·
     rw [kyFs_may (by have:=HE.out.2; omega)] at h
     cases h
    ·
     exact .inr ⟨HM.out,⟨A,c,rfl,hc,hB⟩,rfl⟩
theorem pparse_bs {A : Option Addr} {c : Nat} {bs : List Nat} (hl : bs.length = 64) (hc : 64 ≤ c) (w : World) (hS : Bs w A bs) :
  Calls Tryz.prog 57 #[.slice A 64 c] w fun e w' => ∃ X Y ev,e = .returned (.tuple #[.agg (qc X Y false),ev]) ∧ Ext w w' ∧ ((onB (sigR bs) (sigS bs) false = true ∧ X = sigR bs ∧ Y = sigS bs ∧ ev = .nilIface) ∨ (onB (sigR bs) (sigS bs) false = false ∧ ev = .iface 39 (.int .i64 2))):=by
 obtain ⟨b,o,rfl,hb,hcl⟩:=hS.2.resolve_left (by omega)
 cases h : onB (sigR bs) (sigS bs) false with
 | true =>
  have h2:=h
  rw [← be32_sigR hS.1 hl,← be32_sigS hS.1 hl] at h2
  refine (parse_on b o c (fun j => bs.getD j 0) hS.1.getD hc w hb (fun j hj => hcl j (by omega)) h2).mono fun e w' ⟨he,hE⟩ => ⟨_,_,_,he,hE,.inl ⟨rfl,be32_sigR hS.1 hl,be32_sigS hS.1 hl,rfl⟩⟩
 | false =>
  have h2:=h
  rw [← be32_sigR hS.1 hl,← be32_sigS hS.1 hl] at h2
  refine (parse_off b o c (fun j => bs.getD j 0) hS.1.getD hc w hb (fun j hj => hcl j (by omega)) h2).mono fun e w' ⟨he,hE⟩ => ⟨_,_,_,he,hE,.inr ⟨rfl,rfl⟩⟩
def KZ : Array Value:=#[.int .i64 0,vI vU 0,vI vU 0,vI vU 0,vI vU 0,vI vU 0,vI vU 0,vI vU 0,vI vU 0,.bool false,.int .i64 0,.int .i64 0]
theorem iKZ : (Tryz.prog.info? 55).map (·.size) = some KZ.size:=by kernel_rfl
theorem kz_one : KZ.all (·.oneCell') = true:=by simp [KZ,Value.oneCell']
theorem kz_size (k : Ky) : KZ.size = (kyC k).toArray.size:=ziy k
def KOneA (bs : List Nat) (C : Array Value) (ev : Value) : Prop:=(keyOf bs = none ∧ C = KZ ∧ ev = .iface 39 (.int .i64 2)) ∨ (∃ k,keyOf bs = some k ∧ k.x < top ∧ k.y < top ∧ C = (kyC k).toArray ∧ ev = .nilIface)
theorem keyOf_no {D : List Nat} (h : ¬ (D.length = 88 ∧ onB (sigR ((D.drop 8).take 64)) (sigS ((D.drop 8).take 64)) false = true ∧ 0 ≤ ofB (D.take 8) ∧ 0 ≤ ofB ((D.drop 72).take 8) ∧ 0 ≤ ofB (D.drop 80))) : keyOf D = none:=by
 unfold keyOf
 rw [if_neg h]
theorem ofV {A : Option Addr} {m c : Nat} {bs : List Nat} {N : Int} (hN : N = ofB bs) (hm : m = bs.length) (hmc : m ≤ c) {w : World} (hS : Bs w A bs) (h : 0 ≤ N) : Calls Tryz.prog 56 #[.slice A m c] w fun e w' => e = .returned (.tuple #[.int .i64 N,.nilIface]) ∧ Ext w w':=by
 subst hN
 exact of_yes hm hmc hS h
theorem ofE {A : Option Addr} {m c : Nat} {bs : List Nat} {N : Int} (hN : N = ofB bs) (hm : m = bs.length) (hmc : m ≤ c) {w : World} (hS : Bs w A bs) (h : ¬ 0 ≤ N) : Calls Tryz.prog 56 #[.slice A m c] w fun e w' => e = .returned (.tuple #[.int .i64 0,.iface 39 (.int .i64 2)]) ∧ Ext w w':=by
 subst hN
 exact of_no hm hmc hS (by omega)
theorem parseOne_calls (A : Option Addr) (m c : Nat) (bs : List Nat) (hm : m = bs.length) (hmc : m ≤ c) (w : World) (hS : Bs w A bs) :
  Calls Tryz.prog 32 #[.slice A m c] w fun e w' => ∃ C ev,e = .returned (.tuple #[.agg C,ev]) ∧ Ext w w' ∧ KOneA bs C ev:=by
 have k2:=neNil2
 have k3:=neNilN
 have HS:=veil (And.intro hm (And.intro hmc hS))
 have hnone : ¬ (bs.length = 88 ∧ onB (sigR ((bs.drop 8).take 64)) (sigS ((bs.drop 8).take 64)) false = true ∧ 0 ≤ ofB (bs.take 8) ∧ 0 ≤ ofB ((bs.drop 72).take 8) ∧ 0 ≤ ofB (bs.drop 80)) → keyOf bs = none:=keyOf_no
 have HNO:=veil hnone
 clear hm hS hnone
 go_enter Tryz.func32,Tryz.ntmps32
 go_upto_region 1 with (fail)
 obtain ⟨g,hg⟩ : ∃ g,g = w.heap.size:=⟨_,rfl⟩
 obtain ⟨w0,hw0⟩ : ∃ W,W = w.alloc (.cells KZ 55):=⟨_,rfl⟩
 have h0:=zaj w (.cells KZ 55)
 have hE0:=Ext.alloc w (.cells KZ 55)
 rw [← hw0] at hE0
 rw [← hw0,← hg] at h0
 have H0:=veil (And.intro hE0 (And.intro h0 (show w.heap.size ≤ g by omega)))
 unfold KZ at hw0
 rw [← hw0,← hg]
 clear hw0 hg h0 hE0
 by_cases h88 : m = 88
 ·
  subst h88
  obtain ⟨D1,hD1⟩ : ∃ x,x = (bs.drop 8).take 64:=⟨_,rfl⟩
  obtain ⟨D2,hD2⟩ : ∃ x,x = bs.take 8:=⟨_,rfl⟩
  obtain ⟨D3,hD3⟩ : ∃ x,x = (bs.drop 72).take 8:=⟨_,rfl⟩
  obtain ⟨D4,hD4⟩ : ∃ x,x = bs.drop 80:=⟨_,rfl⟩
  have hl:=HS.out.1.symm
  have l1 : D1.length = 64:=by rw [hD1,List.length_take,List.length_drop,hl]; rfl
  have l2 : D2.length = 8:=by rw [hD2,List.length_take,hl]; rfl
  have l3 : D3.length = 8:=by rw [hD3,List.length_take,List.length_drop,hl]; rfl
  have l4 : D4.length = 8:=by rw [hD4,List.length_drop,hl]
  have hks : onB (sigR D1) (sigS D1) false = true → 0 ≤ ofB D2 → 0 ≤ ofB D3 → 0 ≤ ofB D4 → keyOf bs = some ⟨ofB D2,sigR D1,sigS D1,false,ofB D3,ofB D4⟩:=fun p1 p2 p3 p4 => by
   rw [hD1] at p1
   rw [hD2] at p2
   rw [hD3] at p3
   rw [hD4] at p4
   unfold keyOf
   rw [if_pos ⟨hl,p1,p2,p3,p4⟩,hD1,hD2,hD3,hD4]
  have hk8 : 8 ≤ c:=by omega
  have hk72 : 8 + 64 ≤ c:=by omega
  have hk80 : 72 + 8 ≤ c:=by omega
  rw [← hD1,← hD2,← hD3,← hD4] at HNO
  have HB2:=veil (fun W (hW : Ext w W) => (show Bs W A D2 by rw [hD2]; exact bs_take (HS.out.2.2.ext hW) 8))
  have HB1:=veil (fun W (hW : Ext w W) => (show Bs W (cutA A 8 c) D1 by rw [hD1]; exact (HS.out.2.2.ext hW).cut 8 (n:=64) (by rw [hl]; decide) (by rw [hl]; exact hmc)))
  have HB3:=veil (fun W (hW : Ext w W) => (show Bs W (cutA A 72 c) D3 by rw [hD3]; exact (HS.out.2.2.ext hW).cut 72 (n:=8) (by rw [hl]; decide) (by rw [hl]; exact hmc)))
  have HB4:=veil (fun W (hW : Ext w W) => (show Bs W (cutA A 80 c) D4 by rw [hD4]; exact bs_drop (HS.out.2.2.ext hW) 80 (by rw [hl]; decide) (by rw [hl]; exact hmc)))
  have HK:=veil hks
  have HLN:=veil (And.intro l1 (And.intro l2.symm (And.intro l3.symm l4.symm)))
  clear hD1 hD2 hD3 hD4 l1 l2 l3 l4 hks hl
  obtain ⟨N2,hN2⟩ : ∃ x,x = ofB D2:=⟨_,rfl⟩
  obtain ⟨N3,hN3⟩ : ∃ x,x = ofB D3:=⟨_,rfl⟩
  obtain ⟨N4,hN4⟩ : ∃ x,x = ofB D4:=⟨_,rfl⟩
  rw [← hN2,← hN3,← hN4] at HNO HK
  have HN:=veil (And.intro hN2 (And.intro hN3 hN4))
  clear hN2 hN3 hN4
  by_cases q2 : 0 ≤ N2
  ·
   have K2:=veil (fun W (hW : Ext w W) => ofV HN.out.1 HLN.out.2.1 hk8 (HB2.out W hW) q2)
   go_upto_region 6 with (first
    | ((with_reducible refine zam 16 ?_); refine zbf (.slice A 8 c) rfl (zeh rfl rfl rfl (cut_to_b A _ c 8 hk8 _ rfl)) ?_)
    | (go_at_call 56; refine (K2.out _ H0.out.1).mono ?_; rintro e w1 ⟨rfl,hE1⟩))
   have KP:=veil (pparse_bs HLN.out.1 (show 64 ≤ c - 8 by omega) w1 (HB1.out w1 (H0.out.1.trans hE1)))
   have H1:=veil (And.intro (H0.out.1.trans hE1) (hE1.block H0.out.2.1))
   clear hE1 K2
   go_upto_region 7 with (first
    | ((with_reducible refine zam 26 ?_); refine zbf (.slice (cutA A 8 c) 64 (c - 8)) rfl (zfg rfl rfl rfl rfl (cut_mid A _ c 8 64 hk72 _ rfl rfl)) ?_)
    | (go_at_call 57; refine KP.out.mono ?_; rintro e w2 ⟨X,Y,ev,rfl,hE2,hon⟩)
    | ((with_reducible refine zam 6 ?_); refine zda (zs:=PZ) _ _ rfl rfl rfl rfl rfl rfl (fun _ => rfl) (fun _ => rfl) (fun _ => rfl) (iT X Y false) (zis (some ⟨0,X,Y,false,0,0⟩)) (zcr X Y false) ?_; intro g6 W6 hg6 h6 hE6))
   have hE26:=hE2.trans hE6
   have H2:=veil (And.intro (H1.out.1.trans hE26) (And.intro (hE26.block H1.out.2) h6))
   clear hE2 hE6 hE26 h6 KP H1
   rcases hon with ⟨hon,rfl,rfl,rfl⟩ | ⟨hon,rfl⟩
   ·
    obtain ⟨X,hX⟩ : ∃ x,x = sigR D1:=⟨_,rfl⟩
    obtain ⟨Y,hY⟩ : ∃ x,x = sigS D1:=⟨_,rfl⟩
    rw [← hX,← hY] at hon HK H2 HNO
    have HON:=veil hon
    clear hX hY hon
    by_cases q3 : 0 ≤ N3
    ·
     have K3:=veil (fun W (hW : Ext w W) => ofV HN.out.2.1 HLN.out.2.2.1 (show 8 ≤ c - 72 by omega) (HB3.out W hW) q3)
     go_upto_region 12 with (first
      | ((with_reducible refine zam 36 ?_); refine zbf (.slice (cutA A 72 c) 8 (c - 72)) rfl (zfg rfl rfl rfl rfl (cut_mid A _ c 72 8 hk80 _ rfl rfl)) ?_)
      | (go_at_call 56; refine (K3.out _ H2.out.1).mono ?_; rintro e w3 ⟨rfl,hE3⟩))
     have H3:=veil (And.intro (H2.out.1.trans hE3) (And.intro (hE3.block H2.out.2.1) (hE3.block H2.out.2.2)))
     clear hE3 K3 H2
     by_cases q4 : 0 ≤ N4
     ·
      have K4:=veil (fun W (hW : Ext w W) => ofV HN.out.2.2 HLN.out.2.2.2 (show 8 ≤ c - 80 by omega) (HB4.out W hW) q4)
      go_upto_region 15 with (first
       | ((with_reducible refine zam 46 ?_); refine zbf (.slice (cutA A 80 c) 8 (c - 80)) rfl (zcn rfl rfl rfl (cut_from8 A 88 c 80 (by decide) _ rfl)) ?_)
       | (go_at_call 56; refine (K4.out _ H3.out.1).mono ?_; rintro e w4 ⟨rfl,hE4⟩))
      have H4:=veil (And.intro (H3.out.1.trans hE4) (And.intro (hE4.block H3.out.2.1) (hE4.block H3.out.2.2)))
      clear hE4 K4 H3
      have hkey:=HK.out HON.out q2 q3 q4
      have HKY:=veil (And.intro hkey (onB_top HON.out))
      have HBL:=veil (fun W => bldKy ⟨N2,X,Y,false,N3,N4⟩ W)
      clear hkey HK HNO
      obtain ⟨ky,hky⟩ : ∃ k : Ky,k = ⟨N2,X,Y,false,N3,N4⟩:=⟨_,rfl⟩
      have HKK:=veil hky
      clear hky
      refine wp_region_list ?_
      refine zbf (.int .i64 N2) rfl rfl ?_
      simp only [aP,lA,lZ,lS]
      refine wpList_load_row rfl 29 _ rfl g6 rfl 29 (qc X Y false) (0,0) _ H4.out.2.2 Tryz.underlying29 rfl (iT _ _ _) ?_
      simp only [aP,lA,lZ,lS]
      refine zbf (.int .i64 N3) rfl rfl ?_
      simp only [aP,lA,lZ,lS]
      refine zbf (.int .i64 N4) rfl rfl ?_
      simp only [aP,lA,lZ,lS]
      refine zbf (.agg (kyC ky).toArray) rfl (zgk (vs:=[(0,.int .i64 N2),(1,.agg (qc X Y false)),(2,.int .i64 N3),(3,.int .i64 N4)]) rfl rfl (by rw [HKK.out]; exact HBL.out _)) ?_
      simp only [aP,lA,lZ,lS]
      refine wpList_store_row rfl 55 _ _ rfl g (kyC ky).toArray rfl rfl 55 _ H4.out.2.1 (iKyA ky) (kz_size ky) (ziz ky) ?_
      simp only [Act.put]
      refine zbf .nilIface rfl rfl ?_
      simp only [aP,lA,lZ,lS]
      refine wpList_nil ?_
      go_wp2
      refine bodyPost_ret (zax rfl _ _ g 55 (kyC ky).toArray (0,0) _ rfl (setRow_heap w4 g _ (kyC ky).toArray 55 (0,0) H4.out.2.1) Tryz.underlying55 rfl (iKyA ky)) rfl ⟨_,_,rfl,zas H4.out.1 H0.out.2.2 _,.inr ⟨_,HKY.out.1,HKY.out.2.1,HKY.out.2.2,by rw [HKK.out],rfl⟩⟩
     ·
      have K4:=veil (fun W (hW : Ext w W) => ofE HN.out.2.2 HLN.out.2.2.2 (show 8 ≤ c - 80 by omega) (HB4.out W hW) q4)
      have hr:=HNO.out (fun h => q4 h.2.2.2.2)
      go_upto_region 14 with (first
       | ((with_reducible refine zam 46 ?_); refine zbf (.slice (cutA A 80 c) 8 (c - 80)) rfl (zcn rfl rfl rfl (cut_from8 A 88 c 80 (by decide) _ rfl)) ?_)
       | (go_at_call 56; refine (K4.out _ H3.out.1).mono ?_; rintro e w4 ⟨rfl,hE4⟩))
      have H4:=veil (And.intro (H3.out.1.trans hE4) (hE4.block H3.out.2.1))
      clear hE4 K4 H3
      go_wp2_with ((with_reducible refine zan ?_); refine wpList_store_row rfl 55 _ _ rfl g KZ rfl rfl 55 _ H4.out.2 iKZ rfl kz_one ?_)
      refine bodyPost_ret (zax rfl _ _ g 55 KZ (0,0) _ rfl (setRow_heap w4 g _ KZ 55 (0,0) H4.out.2) Tryz.underlying55 rfl iKZ) rfl ⟨_,_,rfl,zas H4.out.1 H0.out.2.2 _,.inl ⟨hr,rfl,rfl⟩⟩
    ·
     have K3:=veil (fun W (hW : Ext w W) => ofE HN.out.2.1 HLN.out.2.2.1 (show 8 ≤ c - 72 by omega) (HB3.out W hW) q3)
     have hr:=HNO.out (fun h => q3 h.2.2.2.1)
     go_upto_region 11 with (first
      | ((with_reducible refine zam 36 ?_); refine zbf (.slice (cutA A 72 c) 8 (c - 72)) rfl (zfg rfl rfl rfl rfl (cut_mid A _ c 72 8 hk80 _ rfl rfl)) ?_)
      | (go_at_call 56; refine (K3.out _ H2.out.1).mono ?_; rintro e w3 ⟨rfl,hE3⟩))
     have H3:=veil (And.intro (H2.out.1.trans hE3) (hE3.block H2.out.2.1))
     clear hE3 K3 H2
     go_wp2_with ((with_reducible refine zan ?_); refine wpList_store_row rfl 55 _ _ rfl g KZ rfl rfl 55 _ H3.out.2 iKZ rfl kz_one ?_)
     refine bodyPost_ret (zax rfl _ _ g 55 KZ (0,0) _ rfl (setRow_heap w3 g _ KZ 55 (0,0) H3.out.2) Tryz.underlying55 rfl iKZ) rfl ⟨_,_,rfl,zas H3.out.1 H0.out.2.2 _,.inl ⟨hr,rfl,rfl⟩⟩
   ·
    have hr:=HNO.out (fun h => by rw [hon] at h; exact absurd h.2.1 (by decide))
    go_wp2_with ((with_reducible refine zan ?_); refine wpList_store_row rfl 55 _ _ rfl g KZ rfl rfl 55 _ H2.out.2.1 iKZ rfl kz_one ?_)
    refine bodyPost_ret (zax rfl _ _ g 55 KZ (0,0) _ rfl (setRow_heap W6 g _ KZ 55 (0,0) H2.out.2.1) Tryz.underlying55 rfl iKZ) rfl ⟨_,_,rfl,zas H2.out.1 H0.out.2.2 _,.inl ⟨hr,rfl,rfl⟩⟩
  ·
   have K2:=veil (fun W (hW : Ext w W) => ofE HN.out.1 HLN.out.2.1 hk8 (HB2.out W hW) q2)
   have hr:=HNO.out (fun h => q2 h.2.2.1)
   go_upto_region 5 with (first
    | ((with_reducible refine zam 16 ?_); refine zbf (.slice A 8 c) rfl (zeh rfl rfl rfl (cut_to_b A _ c 8 hk8 _ rfl)) ?_)
    | (go_at_call 56; refine (K2.out _ H0.out.1).mono ?_; rintro e w1 ⟨rfl,hE1⟩))
   have H1:=veil (And.intro (H0.out.1.trans hE1) (hE1.block H0.out.2.1))
   clear hE1 K2
   go_wp2_with ((with_reducible refine zan ?_); refine wpList_store_row rfl 55 _ _ rfl g KZ rfl rfl 55 _ H1.out.2 iKZ rfl kz_one ?_)
   refine bodyPost_ret (zax rfl _ _ g 55 KZ (0,0) _ rfl (setRow_heap w1 g _ KZ 55 (0,0) H1.out.2) Tryz.underlying55 rfl iKZ) rfl ⟨_,_,rfl,zas H1.out.1 H0.out.2.2 _,.inl ⟨hr,rfl,rfl⟩⟩
 ·
  have hr:=HNO.out (fun h => h88 (HS.out.1.trans h.1))
  have f1 : ((m : Int) == 88) = false:=by simp; omega
  have f2 : ¬ ((m : Int) = 88):=by omega
  clear h88
  go_wp2_with ((with_reducible refine zan ?_); refine wpList_store_row rfl 55 _ _ rfl g KZ rfl rfl 55 _ H0.out.2.1 iKZ rfl kz_one ?_)
  refine bodyPost_ret (zax rfl _ _ g 55 KZ (0,0) _ rfl (setRow_heap w0 g _ KZ 55 (0,0) H0.out.2.1) Tryz.underlying55 rfl iKZ) rfl ⟨_,_,rfl,zas H0.out.1 H0.out.2.2 _,.inl ⟨hr,rfl,rfl⟩⟩
theorem hmk_ky (n : Nat) (hn : n ≤ 1000000) (W : World) : (Instr.makeSlice 22 (.int .i64 (n : Int)) (.int .i64 (n : Int))).run Tryz.prog W = .ok (.slice (some ⟨W.heap.size,0,none⟩) n n) (W.alloc (.cells (madeCells KZ (n * 12)) 55)):=by
 obtain ⟨i,hi,hz,hsz,hby⟩:=zfi infoKy96
 have h:=run_make (P:=Tryz.prog) W 22 55 i _ Tryz.underlying22 hi hz .i64 .i64 (n : Int) (n : Int) (by omega) (Int.le_refl _) (by rw [hby]; omega) (by omega)
 simp only [Int.toNat_natCast,hsz,Value.cells] at h
 exact h
theorem Pre.thereN {w : World} {g t n : Nat} {f : Nat → Value} (p : Pre w g t n f) {i m : Nat} (hi : i + m ≤ n) : w.there g i m:=fun j hj => ⟨by rw [p.cell (show i + j < n by omega)]; rfl,p.frozen _⟩
theorem Pre.cells {g t n : Nat} : ∀ (vs : List Value) (o : Nat) {w : World} {f : Nat → Value},Pre w g t n f → ∃ h,Pre (w.setCells g o vs) g t n h
 | [],_,_,f,p => ⟨f,p⟩
 | v :: r,o,_,_,p => Pre.cells r (o + 1) (p.set o v)
theorem zjd {w : World} {g : Nat} : ∀ (vs : List Value) (o : Nat) {W : World},Ext w W → w.heap.size ≤ g → Ext w (W.setCells g o vs)
 | [],_,_,h,_ => h
 | v :: r,o,_,h,hg => zjd r (o + 1) (zap h hg v) hg
theorem keyOf_off {D : List Nat} {k : Ky} (h : keyOf D = some k) : offK k = false:=by
 unfold keyOf at h
 split at h
 ·
  rename_i hh
  injection h with h
  subst h
  unfold offK
  rw [hh.2.1]
  rfl
 ·
  cases h
def LaidP (w : World) (g : Nat) (pre : List Ky) : Prop:=∀ j k,pre[j]? = some k → w.rangeAt g (j * 12) (kyC k)
theorem LaidP.ext {w w' : World} {g : Nat} {pre : List Ky} (h : LaidP w g pre) (k : Ext w w') (hg : g < w.heap.size) : LaidP w' g pre:=fun j x hj => zcf k hg (h j x hj)
theorem LaidP.step {w : World} {g i : Nat} {pre : List Ky} {k : Ky} (h : LaidP w g pre) (hi : pre.length = i) (ht : w.there g (i * 12) 12) : LaidP (w.setCells g (i * 12) (kyC k)) g (pre ++ [k]):=fun j x hj => by
 by_cases e : j < pre.length
 ·
  rw [List.getElem?_append_left e] at hj
  exact World.rangeAt_setCells_apart (h j x hj) g (i * 12) (kyC k) (.inr (.inl (by rw [zcs]; omega)))
 ·
  rw [List.getElem?_append_right (by omega)] at hj
  have hj0 : j - pre.length = 0:=by
   have:=(List.getElem?_eq_some_iff.1 hj).1
   simpa using this
  rw [hj0] at hj
  obtain rfl : k = x:=by simpa using hj
  obtain rfl : j = i:=by omega
  exact World.rangeAt_setCells_same w g (j * 12) (kyC k) (by rw [zcs]; exact ht)
theorem LaidP.ks {w : World} {g n : Nat} {pre : List Ky} (h : LaidP w g pre) (hn : pre.length = n) (hg : g < w.heap.size) : Ks w (.slice (some ⟨g,0,none⟩) n n) pre :=
 ⟨_,n,by rw [hn],by omega,.inr ⟨g,0,rfl,hg,fun i x hi => by rw [Nat.zero_add]; exact h i x hi⟩⟩
theorem any_no {pre : List Ky} (h : ∀ k ∈ pre,offK k = false) : pre.any offK = false:=by
 rw [List.any_eq_false]
 intro k hk
 rw [h k hk]
 decide
theorem kone_cells {bs : List Nat} {C : Array Value} {ev : Value} (h : KOneA bs C ev) : C.size = 12 ∧ (Tryz.prog.info? 55).map (·.size) = some C.size ∧ C.all (·.oneCell') = true:=by
 rcases h with ⟨_,rfl,_⟩ | ⟨k,_,_,_,rfl,_⟩
 ·
  exact ⟨rfl,iKZ,kz_one⟩
 ·
  exact ⟨by rw [List.size_toArray,zcs],iKyA k,ziz k⟩
theorem kparse_calls (A : Option Addr) (m c : Nat) (bs : List Nat) (hm : m = bs.length) (hmc : m ≤ c) (hle : m ≤ 100000000) (w : World) (hS : Bs w A bs) :
  Calls Tryz.prog 14 #[.slice A m c] w fun e w' => ∃ x ev,e = .returned (.tuple #[x,ev]) ∧ Ext w w' ∧ KParseA w' bs x ev:=by
 have KG:=veil (code8.get A m c bs w hm hmc hle hS)
 have k2:=neNil2
 have k3:=neNilN
 clear hm hmc hS hle
 go_enter Tryz.func14,Tryz.ntmps14
 go_upto_region 2 with (go_at_call 31; refine KG.out.mono ?_; rintro e w1 ⟨x,y,rfl,hE1,hA⟩)
 rcases hA with ⟨hn,⟨A2,c2,rfl⟩,rfl⟩ | ⟨fs,hs,rfl,hF⟩
 ·
  have hr : keysOf bs = none:=by
   unfold keysOf
   rw [hn]
   rfl
  clear KG
  go_wp2
  go_ret2
  exact ⟨_,_,rfl,hE1,.inl ⟨hr,⟨none,0,rfl⟩,rfl⟩⟩
 ·
  have hget:=keysOf_get hs
  have h64:=ziv (zgw hs).2
  obtain ⟨hB,AL,cl,rfl,hcl,hx⟩:=hF
  obtain ⟨n,hn⟩ : ∃ n,n = fs.length:=⟨_,rfl⟩
  rw [← hn] at hx hcl h64 ⊢
  have hmk:=hmk_ky n (by omega)
  have hp0:=pre_new w1 (madeCells KZ (n * 12)) 55 (n * 12) (size_madeCells _ _).symm
  have hE2:=Ext.alloc w1 (.cells (madeCells KZ (n * 12)) 55)
  have HX:=veil (And.intro hx (And.intro hn (And.intro hget hE1)))
  have H0:=veil (And.intro hp0 hE2)
  clear KG hx hn hget hE1 hs hB hcl hp0 hE2
  go_upto_region 5 with (fail)
  obtain ⟨g,hg⟩ : ∃ g,g = w1.heap.size:=⟨_,rfl⟩
  generalize w1.alloc (.cells (madeCells KZ (n * 12)) 55) = w2 at *
  rw [← hg] at H0 ⊢
  have HG:=veil (show w1.heap.size ≤ g by omega)
  clear hg hmk
  go_wp2
  go_loopw [5,7,8,22] (fun _ _ _ u wr => ∃ (i : Nat) (pre : List Ky),i ≤ n ∧ u = .int .i64 (i : Int) ∧ (∃ f,Pre wr g 55 (n * 12) f) ∧ LaidP wr g pre ∧ pre.length = i ∧ TopK pre ∧ (∀ k ∈ pre,offK k = false) ∧ keysF 1 fs = (keysF ((i : Int) + 1) (fs.drop i)).map (pre ++ ·) ∧ Ext w1 wr)
   (fun _ _ _ u _ => n - (intOf u).toNat)
  case atStart => exact ⟨0,[],by omega,rfl,⟨_,H0.out.1⟩,fun j k hj => by (simp at hj),rfl,fun k hk => by (cases hk),fun k hk => by (cases hk),by simp,H0.out.2⟩
  case round =>
   obtain ⟨i,pre,hi,rfl,⟨f,hp⟩,hl,hpl,hT,hoff,hk,hE⟩:=hrel
   by_cases hlt : i < n
   ·
    have hd1 : decide ((i : Int) < (n : Int)) = true:=by simp; omega
    have hii : (i : Int) < (n : Int):=by omega
    have hil : i < fs.length:=by have:=HX.out.2.1; omega
    obtain ⟨b,o,hAL,hb,hcl⟩:=HX.out.1.resolve_left (by omega)
    obtain ⟨h1,A',k',h2,h3,h4⟩:=hcl i (by omega)
    have c0:=(hE.cell hb).trans h1
    have c1:=(hE.cell hb).trans h2
    have hno : ¬ (tgF fs i = (i : Int) + 1 ∧ (keyOf (bsF fs i)).isSome = true) → keysOf bs = none:=fun h => by
     rw [HX.out.2.2.1,keysF_no hil hk h]
     rfl
    have HNO:=veil hno
    have hyes : ∀ k,tgF fs i = (i : Int) + 1 → keyOf (bsF fs i) = some k → keysF 1 fs = (keysF (((i + 1 : Nat) : Int) + 1) (fs.drop (i + 1))).map ((pre ++ [k]) ++ ·):=fun k ht hk' => keysF_yes hil hk ht hk'
    have HY:=veil hyes
    have HS:=veil (And.intro hp (And.intro hl (And.intro hpl (And.intro hT (And.intro hoff (And.intro hE (h4.ext hE)))))))
    clear h1 h2 h4 hl hp hpl hT hoff hk hE hcl hno hyes hil
    generalize tgF fs i = T at *
    generalize bsF fs i = D at *
    obtain ⟨L,hL⟩ : ∃ L,L = D.length:=⟨_,rfl⟩
    rw [← hL] at c1 h3
    have HRG:=veil (rng_fd c0 c1)
    have HL:=veil (And.intro hL h3)
    clear c0 c1 hL h3
    subst hAL
    go_upto_region 8 with (first
     | ((with_reducible refine zam 26 ?_); refine wpList_load_mid rfl 64 _ rfl b _ rfl _ _ HRG.out Tryz.underlying64 rfl infoF2 ?_)
     | ((with_reducible refine zan ?_); refine wpList_store_row rfl 64 _ _ rfl wr.heap.size #[.int .i64 T,.slice A' L k'] rfl rfl 64 _ (zaj wr _) infoF2 rfl zia ?_; rw [World.setRow_alloc_new]))
    obtain ⟨d0,d1⟩:=zfw (zaj wr (.cells #[.int .i64 T,.slice A' L k'] 64))
    have hEW:=Ext.alloc wr (.cells #[.int .i64 T,.slice A' L k'] 64)
    have HW:=veil hEW
    generalize wr.alloc (.cells #[.int .i64 T,.slice A' L k'] 64) = W at *
    generalize wr.heap.size = gf at *
    clear hEW HRG
    by_cases g1 : T = (i : Int) + 1
    ·
     have f1 : (T == (i : Int) + 1) = true:=by simp [g1]
     have KP:=veil (parseOne_calls A' L k' D HL.out.1 HL.out.2 W (HS.out.2.2.2.2.2.2.ext HW.out))
     have HT:=veil g1
     subst g1
     go_upto_region 11 with (first
      | (go_at_call 32; refine KP.out.mono ?_; rintro e w3 ⟨C,ev,rfl,hE3,hA⟩; have hc12:=veil (kone_cells hA); have hp3:=veil (HS.out.1.below (HW.out.trans hE3) HS.out.1.lt); have HT3:=veil (hp3.out.thereN (i:=i * 12) (m:=C.size) (by rw [hc12.out.1]; omega)))
      | ((with_reducible refine zan ?_); refine wpList_store_mid rfl 55 _ _ rfl g (i * 12) C rfl rfl HT3.out hc12.out.2.1 hc12.out.2.2 ?_))
     have hE4 : Ext w1 (w3.setCells g (i * 12) C.toList):=zjd _ _ (HS.out.2.2.2.2.2.1.trans (HW.out.trans hE3)) HG.out
     rcases hA with ⟨hn,rfl,rfl⟩ | ⟨k,hk,hkx,hky,rfl,rfl⟩
     ·
      have hr:=HNO.out (fun h => by rw [hn] at h; exact absurd h.2 (by decide))
      have HR:=veil (And.intro hr (HX.out.2.2.2.trans hE4))
      clear hr hE4 HNO HY hn d0 d1 hE3 hp3 hc12 HT3 KP
      generalize w3.setCells g (i * 12) KZ.toList = w4 at *
      go_wp2
      go_ret2
      exact ⟨_,_,rfl,HR.out.2,.inl ⟨HR.out.1,⟨none,0,rfl⟩,rfl⟩⟩
     ·
      have h12 : w3.there g (i * 12) 12:=hp3.out.thereN (by omega)
      have hl4 : LaidP (w3.setCells g (i * 12) (kyC k)) g (pre ++ [k]):=(HS.out.2.1.ext (HW.out.trans hE3) HS.out.1.lt).step HS.out.2.2.1 h12
      have hp4:=hp3.out.cells (kyC k) (i * 12)
      have HR:=veil (And.intro hl4 (And.intro hp4 (And.intro (HY.out k HT.out hk) hE4)))
      have HK:=veil (And.intro hkx (And.intro hky (keyOf_off hk)))
      clear hl4 hp4 h12 hE4 HNO HY hk hkx hky d0 d1 hE3 hp3 hc12 HT3 KP
      go_wp2
      go_roundw
      case rel =>
       refine ⟨i + 1,pre ++ [k],by omega,by go_num,HR.out.2.1,HR.out.1,by rw [List.length_append,HS.out.2.2.1]; rfl,fun x hx => ?_,fun x hx => ?_,HR.out.2.2.1,HR.out.2.2.2⟩
       ·
        rcases List.mem_append.1 hx with hx | hx
        ·
         exact HS.out.2.2.2.1 x hx
        ·
         rw [List.mem_singleton.1 hx]
         exact ⟨HK.out.1,HK.out.2.1⟩
       ·
        rcases List.mem_append.1 hx with hx | hx
        ·
         exact HS.out.2.2.2.2.1 x hx
        ·
         rw [List.mem_singleton.1 hx]
         exact HK.out.2.2
      case measure => simp [intOf]; omega
    ·
     have f1 : (T == (i : Int) + 1) = false:=by simp [g1]
     have hr:=HNO.out (fun h => g1 h.1)
     have HR:=veil (And.intro hr (HX.out.2.2.2.trans (HS.out.2.2.2.2.2.1.trans HW.out)))
     clear hr HNO HY
     go_wp2
     go_ret2
     exact ⟨_,_,rfl,HR.out.2,.inl ⟨HR.out.1,⟨none,0,rfl⟩,rfl⟩⟩
   ·
    obtain rfl : i = n:=by omega
    have hd1 : decide ((i : Int) < (i : Int)) = false:=by simp
    have hend : keysF 1 fs = some pre:=keysF_end (by rw [← HX.out.2.1]; exact hk)
    have hks:=hl.ks hpl hp.lt
    have KM:=veil (zfm _ pre wr hks (by omega))
    have hmo : mayK pre = ordK pre:=by rw [zgr,any_no hoff]; simp
    have hkeys : keysOf bs = (some pre).filter mayK:=by rw [HX.out.2.2.1,hend]
    have HP:=veil (And.intro hks hE)
    clear hp hl hT hk hE hend hks hpl hoff
    cases hord : ordK pre with
    | false =>
     rw [hord] at KM hmo
     have HR:=veil (show keysOf bs = none by rw [hkeys]; simp [hmo])
     clear hmo hord hkeys
     go_wp2_with (go_at_call 23; refine KM.out.mono ?_; rintro e w3 ⟨rfl,hE3⟩)
     go_ret2
     exact ⟨_,_,rfl,HX.out.2.2.2.trans (HP.out.2.trans hE3),.inl ⟨HR.out,⟨none,0,rfl⟩,rfl⟩⟩
    | true =>
     rw [hord] at KM hmo
     have HR:=veil (show keysOf bs = some pre by rw [hkeys]; simp [hmo])
     clear hmo hord hkeys
     go_wp2_with (go_at_call 23; refine KM.out.mono ?_; rintro e w3 ⟨rfl,hE3⟩)
     go_ret2
     exact ⟨_,_,rfl,HX.out.2.2.2.trans (HP.out.2.trans hE3),.inr ⟨pre,HR.out,HP.out.1.ext hE3,rfl⟩⟩
end Go.Proofs.YthlbemnbmbmjhaaGreatDoor
