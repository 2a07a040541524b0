/-
  Of Y1 Y2 Y3 Y4.
-/
import Derived.Test.YtedehdbajiaaiaaGreatDoorZK21
set_option maxRecDepth 1000000
set_option maxHeartbeats 20000000
namespace Go.Proofs.YtedehdbajiaaiaaGreatDoor
open Go.RowKit
open Go.Value renaming int → vI
open Go.IntKind renaming u64 → vU
open Go.Act renaming put → aP
open List renaming setIfInBounds_toArray → lA, set_cons_zero → lZ, set_cons_succ → lS
theorem iz_yes (w : World) :
  Calls Tryz.prog 93 #[nv 0] w fun e w' => e = .returned (.bool true) ∧ Ext w w':=by
 unfold nv nc
 go_enter Tryz.func93,Tryz.ntmps93
 go_upto_region 1 with (fail)
 refine zdj fun w1 hx b0 => ?_
 have b0 : w1.heap[w.heap.size]? = some (.cells (nc 0) 26 (0,0)):=b0
 refine' zak (m:=4) (A:=_) (by kernel_rfl) ?h1 ?h2
 case h1 =>
  refine zaa (nv 0) rfl (zac rfl rfl b0 rfl uN rfl (iN _)) ?_
  refine zaa (nv 0) rfl (zbb rfl rfl (bldN0 ·)) ?_;simp only [aP,lA,lZ,lS]
  refine zaa (.bool true) rfl (zgy rfl rfl rfl (gN _ _ _ _ _) eqN) ?_
  refine zaa (.bool true) rfl (zah (.inr rfl) rfl) ?_;simp only [aP,lA,lZ,lS]
  exact zaj
 refine zaq rfl ?_
 intro w2 hE
 replace hx:=hx.trans hE
 clear hE
 go_wp2
 go_ret
 exact ⟨rfl,hx⟩
theorem iz_no {X : Nat} (hX : X < top) (h0 : X ≠ 0) (w : World) :
  Calls Tryz.prog 93 #[nv X] w fun e w' => e = .returned (.bool false) ∧ Ext w w':=by
 have kX:=veil hX
 have k0:=veil h0
 clear h0 hX
 unfold nv nc
 go_enter Tryz.func93,Tryz.ntmps93
 go_upto_region 1 with (fail)
 refine zdj fun w1 hx b0 => ?_
 have b0 : w1.heap[w.heap.size]? = some (.cells (nc X) 26 (0,0)):=b0
 refine' zak (m:=4) (A:=_) (by kernel_rfl) ?h1 ?h2
 case h1 =>
  refine zaa (nv X) rfl (zac rfl rfl b0 rfl uN rfl (iN _)) ?_
  refine zaa (nv 0) rfl (zbb rfl rfl (bldN0 ·)) ?_;simp only [aP,lA,lZ,lS]
  refine zaa (.bool false) rfl (zgy rfl rfl rfl (gN _ _ _ _ _) (eqN0 kX.out k0.out ·)) ?_
  refine zaa (.bool false) rfl (zah (.inr rfl) rfl) ?_;simp only [aP,lA,lZ,lS]
  exact zaj
 refine zaq rfl ?_
 intro w2 hE
 replace hx:=hx.trans hE
 clear hE
 go_wp2
 go_ret
 exact ⟨rfl,hx⟩
theorem iz_is {X : Nat} {b : Bool} (hb : decide (X = 0) = b) (hX : X < top) (w : World) :
  Calls Tryz.prog 93 #[nv X] w fun e w' => e = .returned (.bool b) ∧ Ext w w':=by
 subst hb
 by_cases h : X = 0
 ·
  subst h
  exact iz_yes w
 ·
  rw [decide_eq_false h]
  exact iz_no hX h w
theorem rng_zero (w : World) :
  Calls Tryz.prog 52 #[nv 0] w fun e w' => e = .returned (.bool false) ∧ Ext w w':=by
 unfold nv nc
 go_enter Tryz.func52,Tryz.ntmps52
 go_upto_region 1 with (fail)
 refine zdj fun w1 hx b0 => ?_
 have b0 : w1.heap[w.heap.size]? = some (.cells (nc 0) 26 (0,0)):=b0
 refine' zdf (m:=10) (A:=_) 10 (by kernel_rfl) (by kernel_rfl) ?h1 ?h2
 case h1 =>
  refine zaa (nv 0) rfl (zac rfl rfl b0 rfl uN rfl (iN _)) ?_
  refine zaa (.bool true) rfl (zaf (args:=[nv 0]) rfl rfl (fun W => zab Tryz.func93 rfl rfl _ W) (fun W hW => iz_yes W)) ?_;simp only [aP,lA,lZ,lS]
  refine zaa (.bool false) rfl (zbh rfl rfl rfl) ?_
  refine zaa (.bool false) rfl (zah (.inl rfl) rfl) ?_;simp only [aP,lA,lZ,lS]
  refine zay rfl ?_
  refine zay rfl ?_;simp only [aP,lA,lZ,lS]
  refine zay rfl ?_
  refine zay rfl ?_;simp only [aP,lA,lZ,lS]
  refine zaa (.bool false) rfl (zaz rfl rfl rfl) ?_
  refine zaa (.bool false) rfl (zah (.inr rfl) rfl) ?_;simp only [aP,lA,lZ,lS]
  exact zaj
 refine zcj rfl (by kernel_rfl) ?_
 intro w2 hE
 refine NoPanic.normal ?_
 replace hx:=hx.trans hE
 clear hE
 go_wp2
 go_ret
 exact ⟨rfl,hx⟩
theorem rng_in {X : Nat} (hX : X < top) (h0 : X ≠ 0) (hl : X < Pt.nn) (w : World) :
  Calls Tryz.prog 52 #[nv X] w fun e w' => e = .returned (.bool true) ∧ Ext w w':=by
 have kX:=veil hX
 have k0:=veil h0
 have kl:=veil hl
 clear hl h0 hX
 unfold nv nc
 go_enter Tryz.func52,Tryz.ntmps52
 go_upto_region 1 with (fail)
 refine zdj fun w1 hx b0 => ?_
 have b0 : w1.heap[w.heap.size]? = some (.cells (nc X) 26 (0,0)):=b0
 refine' zdf (m:=10) (A:=_) 10 (by kernel_rfl) (by kernel_rfl) ?h1 ?h2
 case h1 =>
  refine zaa (nv X) rfl (zac rfl rfl b0 rfl uN rfl (iN _)) ?_
  refine zaa (.bool false) rfl (zaf (args:=[nv X]) rfl rfl (fun W => zab Tryz.func93 rfl rfl _ W) (fun W hW => iz_no kX.out k0.out W)) ?_;simp only [aP,lA,lZ,lS]
  refine zaa (.bool true) rfl (zbh rfl rfl rfl) ?_
  refine zaa (.bool true) rfl (zah (.inl rfl) rfl) ?_;simp only [aP,lA,lZ,lS]
  refine zam (nv X) rfl (zac rfl rfl b0 rfl uN rfl (iN _)) ?_
  refine zam (nv Pt.nn) rfl (zaf (args:=[]) rfl rfl (fun W => zab Tryz.func95 rfl rfl _ W) (fun W hW => pN_is W)) ?_;simp only [aP,lA,lZ,lS]
  refine zam (.int .i64 (cmpN X Pt.nn)) rfl (zaf (args:=[nv X,nv Pt.nn]) rfl rfl (fun W => zab Tryz.func94 rfl rfl _ W) (fun W hW => zfv X Pt.nn kX.out zdp W)) ?_
  refine zam (.bool true) rfl (ziy rfl rfl (cmpL kl.out)) ?_;simp only [aP,lA,lZ,lS]
  refine zaa (.bool true) rfl (zaz rfl rfl rfl) ?_
  refine zaa (.bool true) rfl (zah (.inr rfl) rfl) ?_;simp only [aP,lA,lZ,lS]
  exact zaj
 refine zcj rfl (by kernel_rfl) ?_
 intro w2 hE
 refine NoPanic.normal ?_
 replace hx:=hx.trans hE
 clear hE
 go_wp2
 go_ret
 exact ⟨rfl,hx⟩
theorem rng_out {X : Nat} (hX : X < top) (h0 : X ≠ 0) (hl : ¬ X < Pt.nn) (w : World) :
  Calls Tryz.prog 52 #[nv X] w fun e w' => e = .returned (.bool false) ∧ Ext w w':=by
 have kX:=veil hX
 have k0:=veil h0
 have kl:=veil hl
 clear hl h0 hX
 unfold nv nc
 go_enter Tryz.func52,Tryz.ntmps52
 go_upto_region 1 with (fail)
 refine zdj fun w1 hx b0 => ?_
 have b0 : w1.heap[w.heap.size]? = some (.cells (nc X) 26 (0,0)):=b0
 refine' zdf (m:=10) (A:=_) 10 (by kernel_rfl) (by kernel_rfl) ?h1 ?h2
 case h1 =>
  refine zaa (nv X) rfl (zac rfl rfl b0 rfl uN rfl (iN _)) ?_
  refine zaa (.bool false) rfl (zaf (args:=[nv X]) rfl rfl (fun W => zab Tryz.func93 rfl rfl _ W) (fun W hW => iz_no kX.out k0.out W)) ?_;simp only [aP,lA,lZ,lS]
  refine zaa (.bool true) rfl (zbh rfl rfl rfl) ?_
  refine zaa (.bool true) rfl (zah (.inl rfl) rfl) ?_;simp only [aP,lA,lZ,lS]
  refine zam (nv X) rfl (zac rfl rfl b0 rfl uN rfl (iN _)) ?_
  refine zam (nv Pt.nn) rfl (zaf (args:=[]) rfl rfl (fun W => zab Tryz.func95 rfl rfl _ W) (fun W hW => pN_is W)) ?_;simp only [aP,lA,lZ,lS]
  refine zam (.int .i64 (cmpN X Pt.nn)) rfl (zaf (args:=[nv X,nv Pt.nn]) rfl rfl (fun W => zab Tryz.func94 rfl rfl _ W) (fun W hW => zfv X Pt.nn kX.out zdp W)) ?_
  refine zam (.bool false) rfl (ziy rfl rfl (cmpG kl.out)) ?_;simp only [aP,lA,lZ,lS]
  refine zaa (.bool false) rfl (zaz rfl rfl rfl) ?_
  refine zaa (.bool false) rfl (zah (.inr rfl) rfl) ?_;simp only [aP,lA,lZ,lS]
  exact zaj
 refine zcj rfl (by kernel_rfl) ?_
 intro w2 hE
 refine NoPanic.normal ?_
 replace hx:=hx.trans hE
 clear hE
 go_wp2
 go_ret
 exact ⟨rfl,hx⟩
theorem zfn {X : Nat} {b : Bool} (hb : mayB X = b) (hX : X < top) (w : World) :
  Calls Tryz.prog 52 #[nv X] w fun e w' => e = .returned (.bool b) ∧ Ext w w':=by
 subst hb
 unfold mayB
 by_cases h0 : X = 0
 ·
  subst h0
  exact rng_zero w
 ·
  by_cases hl : X < Pt.nn
  ·
   rw [decide_eq_true h0,decide_eq_true hl]
   exact rng_in hX h0 hl w
  ·
   rw [decide_eq_true h0,decide_eq_false hl]
   exact rng_out hX h0 hl w
theorem zgc (w : World) :
  Calls Tryz.prog 86 #[] w fun e w' => (∃ b,e = .returned (ptrTo b) ∧ w.heap.size ≤ b ∧ Fn w' b) ∧ Ext w w':=by
 go_enter Tryz.func86,Tryz.ntmps86
 go_upto_region 1 with (fail)
 have HN:=veil (pN_is w)
 go_wp2_with (first
  | (go_at_call 95; refine HN.out.mono ?_; rintro e w5 ⟨rfl,hb5⟩)
  | (go_at_call 102; refine (new_good Pt.nn nn_odd.1 nn_odd.2 zdp w5).mono ?_; rintro e w6 ⟨⟨b,N,Q,hok,hfb,hge,rfl⟩,hb6⟩))
 go_ret
 exact ⟨⟨b,rfl,Nat.le_trans (Below.size hb5) hge,N,Q,hok,hfb⟩,hb5.trans hb6⟩
theorem zgu {y : Nat → Nat} (hy : ∀ j,y j < 256) {X : Nat} (hX : X = num32 y) (w : World) :
  Calls Tryz.prog 90 #[dgv y] w fun e w' => e = .returned (nv X) ∧ Ext w w':=by
 have ky:=veil hy
 have kX:=veil hX
 clear hX hy
 unfold nv nc dgv dgc
 go_enter Tryz.func90,Tryz.ntmps90
 go_upto_region 1 with (fail)
 refine zdt fun w1 hx b0 b1 => ?_
 have b0 : w1.heap[w.heap.size]? = some (.cells (dgc y) 43 (0,0)):=b0
 refine' zak (m:=5) (A:=_) (by kernel_rfl) ?h1 ?h2
 case h1 =>
  refine zaa (.slice (some ⟨w.heap.size,0,none⟩) 32 32) rfl (zif rfl rfl (sliceD _ ·)) ?_
  refine zaa (.tuple #[nv X,.nilIface]) rfl (zaf (args:=[.slice (some ⟨w.heap.size,0,none⟩) 32 32]) rfl rfl (fun W => zab Tryz.func83 rfl rfl _ W) (fun W hW => ofl_is ky.out kX.out W (hW.block b0))) ?_;simp only [aP,lA,lZ,lS]
  refine zaa (.tuple #[nv X,.nilIface]) rfl (zah (.inl rfl) rfl) ?_
  refine zaa (nv X) rfl (zbi rfl rfl rfl) ?_;simp only [aP,lA,lZ,lS]
  refine zaa (.nilIface) rfl (zbi rfl rfl rfl) ?_;simp only [aP,lA,lZ,lS]
  exact zaj
 refine zcb _ _ rfl rfl rfl rfl rfl rfl rfl (hzN ·) (fun _ => rfl) (fun _ => rfl) (iN _) rfl (zbf _) ?_
 intro gx w2 hgx bx hE
 replace b1:=hE.block b1
 replace hx:=hx.trans hE
 clear hE
 simp only [aP,lA,lZ,lS]
 clear hgx
 go_upto_region 2 with (fail)
 refine' zak (m:=1) (A:=_) (by kernel_rfl) ?h2a ?h2b
 case h2a =>
  refine zaa (nv X) rfl (zac rfl rfl bx rfl uN rfl (iN _)) ?_;simp only [aP,lA,lZ,lS]
  exact zaj
 refine zbk _ rfl rfl rfl rfl rfl rfl b1 (iN _) rfl (zbf _) ?_
 intro w3 hB hb
 go_wp2
 exact bodyPost_ret (results_cell_row rfl _ _ (w.heap.size + 1) 26 (nc X) (0,0) _ rfl hb Tryz.underlying26 rfl (by kernel_rfl)) rfl ⟨rfl,hx.new hB (by omega)⟩
theorem scut_calls {b X Z : Nat} (hZ : Z = X % Pt.nn) (hX : X < top) {w : World} (hF : Fn w b) :
  Calls Tryz.prog 91 #[ptrTo b,nv X] w fun e w' => e = .returned (nv Z) ∧ Ext w w':=by
 have kZ:=veil hZ
 have kX:=veil hX
 clear hX hZ
 unfold nv nc
 go_enter Tryz.func91,Tryz.ntmps91
 go_upto_region 1 with (fail)
 refine zdt fun w1 hx b0 b1 => ?_
 have b0 : w1.heap[w.heap.size]? = some (.cells (nc X) 26 (0,0)):=b0
 have hf:=hF.ext hx
 clear hF
 refine' zak (m:=4) (A:=_) (by kernel_rfl) ?h1 ?h2
 case h1 =>
  refine zaa (ptrTo b) rfl (zah (.inl rfl) rfl) ?_
  refine zaa (nv X) rfl (zac rfl rfl b0 rfl uN rfl (iN _)) ?_;simp only [aP,lA,lZ,lS]
  refine zaa (nv 0) rfl (zbb rfl rfl (bldN0 ·)) ?_
  refine zaa (nv Z) rfl (zaf (args:=[ptrTo b,nv X,nv 0]) rfl rfl (fun W => zab Tryz.func104 rfl rfl _ W) (fun W hW => ncut_p kZ.out kX.out (hf.ext hW))) ?_;simp only [aP,lA,lZ,lS]
  exact zaj
 refine zbk _ rfl rfl rfl rfl rfl rfl b1 (iN _) rfl (zbf _) ?_
 intro w2 hB hb
 go_wp2
 exact bodyPost_ret (results_cell_row rfl _ _ (w.heap.size + 1) 26 (nc Z) (0,0) _ rfl hb Tryz.underlying26 rfl (by kernel_rfl)) rfl ⟨rfl,hx.new hB (by omega)⟩
theorem sumof_calls {u v X Y : Nat} {f : Bool} {p a b c : Pt.Q} (hu : u < top) (hv : v < top) (hp : X = Pt.pX p.1 ∧ Y = Pt.pY p.1 ∧ f = Pt.pFar p.1) (ha : a = Pt.grp.mul u Pt.base) (hb : b = Pt.grp.mul v p) (hc : c = Pt.grp.op a b) (w : World) :
  Calls Tryz.prog 88 #[nv u,nv v,qv X Y f] w fun e w' => e = .returned (qv (Pt.pX c.1) (Pt.pY c.1) (Pt.pFar c.1)) ∧ Ext w w':=by
 have ku:=veil hu
 have kv:=veil hv
 have kp:=veil hp
 have ka:=veil ha
 have kb:=veil hb
 have kc:=veil hc
 clear hc hb ha hp hv hu
 unfold nv nc qv qc
 go_enter Tryz.func88,Tryz.ntmps88
 go_upto_region 1 with (fail)
 refine zfx fun w1 hx b0 b1 b2 b3 => ?_
 have b0 : w1.heap[w.heap.size]? = some (.cells (nc u) 26 (0,0)):=b0
 have b1 : w1.heap[w.heap.size + 1]? = some (.cells (nc v) 26 (0,0)):=b1
 have b2 : w1.heap[w.heap.size + 1 + 1]? = some (.cells (qc X Y f) 48 (0,0)):=b2
 refine' zbr (m:=5) (A:=_) 7 (by kernel_rfl) (by kernel_rfl) (by kernel_rfl) ?h1 ?h2
 case h1 =>
  refine zaa (nv u) rfl (zac rfl rfl b0 rfl uN rfl (iN _)) ?_
  refine zaa (qv Pt.gx Pt.gy false) rfl (zaf (args:=[]) rfl rfl (fun W => zab Tryz.func54 rfl rfl _ W) (fun W hW => zik W)) ?_;simp only [aP,lA,lZ,lS]
  refine zaa (.tuple #[qv (Pt.pX a.1) (Pt.pY a.1) (Pt.pFar a.1),.nilIface]) rfl (zaf (args:=[nv u,qv Pt.gx Pt.gy false]) rfl rfl (fun W => zab Tryz.func53 rfl rfl _ W) (fun W hW => mulb_is ku.out ka.out W)) ?_
  refine zaa (.tuple #[qv (Pt.pX a.1) (Pt.pY a.1) (Pt.pFar a.1),.nilIface]) rfl (zah (.inl rfl) rfl) ?_;simp only [aP,lA,lZ,lS]
  refine zaa (qv (Pt.pX a.1) (Pt.pY a.1) (Pt.pFar a.1)) rfl (zbi rfl rfl rfl) ?_;simp only [aP,lA,lZ,lS]
  exact zaj
 refine rest_var2 (v:=.nilIface) (vx:=.nilIface) _ _ _ _ rfl rfl rfl rfl rfl rfl rfl rfl rfl rfl rfl rfl rfl rfl rfl rfl (by decide) (by kernel_rfl) (by kernel_rfl) (by kernel_rfl) (by kernel_rfl) (by kernel_rfl) (by kernel_rfl) (by kernel_rfl) rfl rfl rfl rfl rfl rfl (hzT ·) (run_ext rfl rfl rfl) (fun _ => run_ext rfl rfl rfl) (fun _ => rfl) (fun _ => rfl) (fun _ => rfl) (fun _ => rfl) (fun _ => rfl) (iT _ _ _) rfl (zdr _ _ _) ?_
 intro ga w2 hga ba hE
 refine NoPanic.normal ?_
 replace b1:=hE.block b1
 replace b2:=hE.block b2
 replace b3:=hE.block b3
 replace hx:=hx.trans hE
 clear hE
 simp only [aP,lA,lZ,lS]
 clear hga
 go_upto_region 2 with (fail)
 refine' zak (m:=6) (A:=_) (by kernel_rfl) ?h2a ?h2b
 case h2a =>
  refine zaa (nv v) rfl (zac rfl rfl b1 rfl uN rfl (iN _)) ?_
  refine zaa (qv X Y f) rfl (zac rfl rfl b2 rfl Tryz.underlying48 rfl (iT _ _ _)) ?_;simp only [aP,lA,lZ,lS]
  refine zaa (.tuple #[qv (Pt.pX b.1) (Pt.pY b.1) (Pt.pFar b.1),.nilIface]) rfl (zaf (args:=[nv v,qv X Y f]) rfl rfl (fun W => zab Tryz.func53 rfl rfl _ W) (fun W hW => mulq_is kv.out kp.out kb.out W)) ?_
  refine zaa (.tuple #[qv (Pt.pX b.1) (Pt.pY b.1) (Pt.pFar b.1),.nilIface]) rfl (zah (.inl rfl) rfl) ?_;simp only [aP,lA,lZ,lS]
  refine zaa (qv (Pt.pX b.1) (Pt.pY b.1) (Pt.pFar b.1)) rfl (zbi rfl rfl rfl) ?_
  refine zaa (.nilIface) rfl (zbi rfl rfl rfl) ?_;simp only [aP,lA,lZ,lS]
  exact zaj
 refine zcb _ _ rfl rfl rfl rfl rfl rfl rfl (hzT ·) (fun _ => rfl) (fun _ => rfl) (iT _ _ _) rfl (zdr _ _ _) ?_
 intro gb w3 hgb bb hE
 replace b3:=hE.block b3
 replace ba:=hE.block ba
 replace hx:=hx.trans hE
 clear hE
 simp only [aP,lA,lZ,lS]
 clear hgb
 go_upto_region 3 with (fail)
 refine' zak (m:=6) (A:=_) (by kernel_rfl) ?h3a ?h3b
 case h3a =>
  refine zaa (qv (Pt.pX a.1) (Pt.pY a.1) (Pt.pFar a.1)) rfl (zac rfl rfl ba rfl Tryz.underlying48 rfl (iT _ _ _)) ?_
  refine zaa (qv (Pt.pX b.1) (Pt.pY b.1) (Pt.pFar b.1)) rfl (zac rfl rfl bb rfl Tryz.underlying48 rfl (iT _ _ _)) ?_;simp only [aP,lA,lZ,lS]
  refine zaa (.tuple #[qv (Pt.pX c.1) (Pt.pY c.1) (Pt.pFar c.1),.nilIface]) rfl (zaf (args:=[qv (Pt.pX a.1) (Pt.pY a.1) (Pt.pFar a.1),qv (Pt.pX b.1) (Pt.pY b.1) (Pt.pFar b.1)]) rfl rfl (fun W => zab Tryz.func134 rfl rfl _ W) (fun W hW => addq_is kc.out W)) ?_
  refine zaa (.tuple #[qv (Pt.pX c.1) (Pt.pY c.1) (Pt.pFar c.1),.nilIface]) rfl (zah (.inl rfl) rfl) ?_;simp only [aP,lA,lZ,lS]
  refine zaa (qv (Pt.pX c.1) (Pt.pY c.1) (Pt.pFar c.1)) rfl (zbi rfl rfl rfl) ?_
  refine zaa (.nilIface) rfl (zbi rfl rfl rfl) ?_;simp only [aP,lA,lZ,lS]
  exact zaj
 refine zcb _ _ rfl rfl rfl rfl rfl rfl rfl (hzT ·) (fun _ => rfl) (fun _ => rfl) (iT _ _ _) rfl (zdr _ _ _) ?_
 intro gc w4 hgc bc hE
 replace b3:=hE.block b3
 replace hx:=hx.trans hE
 clear hE
 simp only [aP,lA,lZ,lS]
 clear hgc
 go_upto_region 4 with (fail)
 refine' zak (m:=1) (A:=_) (by kernel_rfl) ?h4a ?h4b
 case h4a =>
  refine zaa (qv (Pt.pX c.1) (Pt.pY c.1) (Pt.pFar c.1)) rfl (zac rfl rfl bc rfl Tryz.underlying48 rfl (iT _ _ _)) ?_;simp only [aP,lA,lZ,lS]
  exact zaj
 refine zbk _ rfl rfl rfl rfl rfl rfl b3 (iT _ _ _) rfl (zdr _ _ _) ?_
 intro w5 hB hb
 go_wp2
 exact bodyPost_ret (results_cell_row rfl _ _ (w.heap.size + 1 + 1 + 1) 48 (qc (Pt.pX c.1) (Pt.pY c.1) (Pt.pFar c.1)) (0,0) _ rfl hb Tryz.underlying48 rfl (by kernel_rfl)) rfl ⟨rfl,hx.new hB (by omega)⟩
theorem maker_calls {D E : Nat} {y : Nat → Nat} (hy : ∀ j,y j < 256) (hE : E = num32 y) (w : World) :
  Calls Tryz.prog 59 #[nv D,dgv y] w fun e w' => (∃ g,e = .returned (mv g D E) ∧ Fn w' g) ∧ Ext w w':=by
 have ky:=veil hy
 have kE:=veil hE
 clear hE hy
 unfold nv nc dgv dgc
 go_enter Tryz.func59,Tryz.ntmps59
 go_upto_region 1 with (fail)
 refine zcs fun w1 hx b0 b1 b2 => ?_
 have b0 : w1.heap[w.heap.size]? = some (.cells (nc D) 26 (0,0)):=b0
 have b1 : w1.heap[w.heap.size + 1]? = some (.cells (dgc y) 43 (0,0)):=b1
 have hb0:=(Array.getElem?_eq_some_iff.1 b0).1
 have hb1:=(Array.getElem?_eq_some_iff.1 b1).1
 have hb2:=(Array.getElem?_eq_some_iff.1 b2).1
 refine wp_region_noPanic ?_
 refine wp_region_held_drew (S:=fun W => But (w.heap.size + 1 + 1) w1 W) (by kernel_rfl) (But.of_below (Ext.drew w1)) (fun hH => ?_)
 refine wpAnyH_take (i:=1) (v:=nv D) rfl (by kernel_rfl) (by kernel_rfl) (by decide +kernel) (fun _ _ _ h => h) (yieldsIf_load_mid (by rfl) _ _ rfl _ _ rfl (nc D).toList _ (fun W hW j v hv => by rw [cell_of_row W _ _ (nc D) 26 (0,0) ((hW.block _ hb0 (by intro e; injection e; omega)).trans b0),Nat.zero_add]; simpa using hv) uN rfl (iN D)) hH ?_
 refine wpAnyH_take (i:=2) (v:=dgv y) rfl (by kernel_rfl) (by kernel_rfl) (by decide +kernel) (fun _ _ _ h => h) (yieldsIf_load_mid (by rfl) _ _ rfl _ _ rfl (dgc y).toList _ (fun W hW j v hv => by rw [cell_of_row W _ _ (dgc y) 43 (0,0) ((hW.block _ hb1 (by intro e; injection e; omega)).trans b1),Nat.zero_add]; simpa using hv) Tryz.underlying43 rfl (iDg y)) hH ?_
 refine wpAnyH_ready (rs:=[0]) (by decide +kernel) (by simp) ?_
 refine AllReadyH.cons rfl (fun K hK => ?_) AllReadyH.nil
 go_simp
 refine (zgc _).mono ?_
 rintro e w3 ⟨⟨g,rfl,hg,hF⟩,hE1⟩
 have hX : Ext w1 w3:=(Ext.drew w1).trans hE1
 have hg2 : w1.heap.size ≤ g:=hg
 refine hK.out _ _ (But.of_below hX) (fun hH => ?_)
 clear hK K hE1 hg
 refine wpAnyH_ready (rs:=[3]) (by decide +kernel) (by simp) ?_
 refine AllReadyH.cons rfl (fun K hK => ?_) AllReadyH.nil
 go_simp
 refine (zgu ky.out kE.out _).mono ?_
 rintro e w4 ⟨rfl,hE2⟩
 have hF:=hF.ext hE2
 have hX:=hX.trans hE2
 refine hK.out _ _ (But.of_below hX) (fun hH => ?_)
 clear hK K hE2
 refine wpAnyH_take (i:=4) (v:=mv g D E) rfl (by kernel_rfl) (by kernel_rfl) (by decide +kernel) (fun _ _ _ h => h) (zfw (vs:=[(0,ptrTo g),(1,nv D),(2,nv E)]) (by rfl) rfl rfl (fun W => bldM g W D E)) hH ?_
 refine wpAnyH_ready (rs:=[5]) (by decide +kernel) (by simp) ?_
 refine AllReadyH.cons rfl (fun K hK => ?_) AllReadyH.nil
 refine wp_store_row 111 _ _ rfl (w.heap.size + 1 + 1) (mc g D E) rfl rfl 111 _ (hX.block b2) (iMk _ _ _) rfl (mc_one _ _ _) ?_
 have hB:=zcc (But.refl (w.heap.size + 1 + 1) w4) (mc g D E)
 have hb:=setRow_heap w4 _ _ (mc g D E) 111 (0,0) (hX.block b2)
 have hF:=hF.but hB (by omega)
 refine hK.out _ _ (zcc (But.of_below hX) _) (fun hH => ?_)
 clear hK K
 refine wpAnyH_done (by decide +kernel) ?_ _
 refine NoPanic.normal ?_
 go_wp2
 exact bodyPost_ret (results_cell_row rfl _ _ (w.heap.size + 1 + 1) 111 (mc g D E) (0,0) _ rfl hb Tryz.underlying111 rfl (iMk _ _ _)) rfl ⟨⟨g,rfl,hF⟩,hx.new hH (by omega)⟩
theorem made_all {g D E K x r t u v s : Nat} {b : Bool} (hD : D < top) (hE : E < top) (hK : K ≠ 0 ∧ K < Pt.nn) (hx0 : x < top) (ht : t = Pt.iG Pt.nn K) (hr : r = x % Pt.nn) (hu : u = r * D % Pt.nn) (hv : v = (E % Pt.nn + u % Pt.nn) % Pt.nn) (hs : s = v * t % Pt.nn) (hb0 : (!decide (r = 0) && !decide (s = 0)) = b) {w : World} (hF : Fn w g) :
  Calls Tryz.prog 115 #[mv g D E,nv K,nv x] w fun e w' => e = .returned (.tuple #[gv r s,.bool b]) ∧ Ext w w':=by
 have kKt:=veil (Nat.lt_trans hK.2 zdp)
 have kD:=veil hD
 have kE:=veil hE
 have kK:=veil hK
 have kx0:=veil hx0
 have kt:=veil ht
 have kr:=veil hr
 have ku:=veil hu
 have kv:=veil hv
 have ks:=veil hs
 have kb0:=veil hb0
 clear hb0 hs hv hu hr ht hx0 hK hE hD
 unfold mv mc nv nc
 go_enter Tryz.func115,Tryz.ntmps115
 go_upto_region 1 with (fail)
 refine zfx fun w1 hx b0 b1 b2 b3 => ?_
 have b0 : w1.heap[w.heap.size]? = some (.cells (mc g D E) 111 (0,0)):=b0
 have b1 : w1.heap[w.heap.size + 1]? = some (.cells (nc K) 26 (0,0)):=b1
 have b2 : w1.heap[w.heap.size + 1 + 1]? = some (.cells (nc x) 26 (0,0)):=b2
 have hf:=hF.ext hx
 clear hF
 refine' zak (m:=7) (A:=_) (by kernel_rfl) ?h1 ?h2
 case h1 =>
  refine zaa (ptrTo w.heap.size) rfl (zad rfl rfl (fldM0 _ ·)) ?_
  refine zaa (ptrTo g) rfl (zae rfl rfl b0 rfl (zja ·)) ?_;simp only [aP,lA,lZ,lS]
  refine zaa (nv K) rfl (zac rfl rfl b1 rfl uN rfl (iN _)) ?_
  refine zaa (.tuple #[nv t,.nilIface]) rfl (zaf (args:=[ptrTo g,nv K]) rfl rfl (fun W => zab Tryz.func87 rfl rfl _ W) (fun W hW => ninv_p kK.out.1 kK.out.2 kt.out (hf.ext hW))) ?_;simp only [aP,lA,lZ,lS]
  refine zaa (.tuple #[nv t,.nilIface]) rfl (zah (.inl rfl) rfl) ?_
  refine zaa (nv t) rfl (zbi rfl rfl rfl) ?_;simp only [aP,lA,lZ,lS]
  refine zaa (.nilIface) rfl (zbi rfl rfl rfl) ?_;simp only [aP,lA,lZ,lS]
  exact zaj
 refine zcb _ _ rfl rfl rfl rfl rfl rfl rfl (hzN ·) (fun _ => rfl) (fun _ => rfl) (iN _) rfl (zbf _) ?_
 intro gt w2 hgt bt hE
 replace b0:=hE.block b0
 replace b2:=hE.block b2
 replace b3:=hE.block b3
 replace hf:=hf.ext hE
 replace hx:=hx.trans hE
 clear hE
 simp only [aP,lA,lZ,lS]
 clear hgt
 go_upto_region 2 with (fail)
 refine' zak (m:=4) (A:=_) (by kernel_rfl) ?h2a ?h2b
 case h2a =>
  refine zaa (ptrTo w.heap.size) rfl (zad rfl rfl (fldM0 _ ·)) ?_
  refine zaa (ptrTo g) rfl (zae rfl rfl b0 rfl (zja ·)) ?_;simp only [aP,lA,lZ,lS]
  refine zaa (nv x) rfl (zac rfl rfl b2 rfl uN rfl (iN _)) ?_
  refine zaa (nv r) rfl (zaf (args:=[ptrTo g,nv x]) rfl rfl (fun W => zab Tryz.func91 rfl rfl _ W) (fun W hW => scut_calls kr.out kx0.out (hf.ext hW))) ?_;simp only [aP,lA,lZ,lS]
  exact zaj
 refine zck _ _ rfl rfl rfl rfl rfl rfl rfl (hzN ·) (fun _ => rfl) (fun _ => rfl) (iN _) rfl (zbf _) ?_
 intro gr w3 hgr br hE
 replace b0:=hE.block b0
 replace b3:=hE.block b3
 replace bt:=hE.block bt
 replace hf:=hf.ext hE
 replace hx:=hx.trans hE
 clear hE
 simp only [aP,lA,lZ,lS]
 clear hgr
 go_upto_region 3 with (fail)
 refine' zbr (m:=15) (A:=_) 16 (by kernel_rfl) (by kernel_rfl) (by kernel_rfl) ?h3a ?h3b
 case h3a =>
  refine zaa (ptrTo w.heap.size) rfl (zad rfl rfl (fldM0 _ ·)) ?_
  refine zaa (ptrTo g) rfl (zae rfl rfl b0 rfl (zja ·)) ?_;simp only [aP,lA,lZ,lS]
  refine zaa (ptrTo w.heap.size) rfl (zad rfl rfl (fldM0 _ ·)) ?_
  refine zaa (ptrTo g) rfl (zae rfl rfl b0 rfl (zja ·)) ?_;simp only [aP,lA,lZ,lS]
  refine zaa (.pointer (some ⟨w.heap.size,5,none⟩)) rfl (zad rfl rfl (fldM2 _ ·)) ?_
  refine zaa (nv E) rfl (zac rfl rfl b0 rfl uN rfl (iN _)) ?_;simp only [aP,lA,lZ,lS]
  refine zaa (ptrTo w.heap.size) rfl (zad rfl rfl (fldM0 _ ·)) ?_
  refine zaa (ptrTo g) rfl (zae rfl rfl b0 rfl (zja ·)) ?_;simp only [aP,lA,lZ,lS]
  refine zaa (nv r) rfl (zac rfl rfl br rfl uN rfl (iN _)) ?_
  refine zaa (.pointer (some ⟨w.heap.size,1,none⟩)) rfl (zad rfl rfl (fldM1 _ ·)) ?_;simp only [aP,lA,lZ,lS]
  refine zaa (nv D) rfl (zac rfl rfl b0 rfl uN rfl (iN _)) ?_
  refine zaa (nv u) rfl (zaf (args:=[ptrTo g,nv r,nv D]) rfl rfl (fun W => zab Tryz.func89 rfl rfl _ W) (fun W hW => nmul_p ku.out (zeg kr.out) kD.out (hf.ext hW))) ?_;simp only [aP,lA,lZ,lS]
  refine zaa (nv v) rfl (zaf (args:=[ptrTo g,nv E,nv u]) rfl rfl (fun W => zab Tryz.func104 rfl rfl _ W) (fun W hW => nadd_p kv.out kE.out (zeg ku.out) (hf.ext hW))) ?_
  refine zaa (nv t) rfl (zac rfl rfl bt rfl uN rfl (iN _)) ?_;simp only [aP,lA,lZ,lS]
  refine zaa (nv s) rfl (zaf (args:=[ptrTo g,nv v,nv t]) rfl rfl (fun W => zab Tryz.func89 rfl rfl _ W) (fun W hW => nmul_p ks.out (zeg kv.out) (zjb kt.out) (hf.ext hW))) ?_;simp only [aP,lA,lZ,lS]
  exact zaj
 refine zci _ _ rfl rfl rfl rfl rfl rfl rfl rfl rfl (by kernel_rfl) (by kernel_rfl) (by kernel_rfl) rfl rfl (hzN ·) (fun _ => rfl) (fun _ => rfl) (iN _) rfl (zbf _) ?_
 intro gs w4 hgs bs hE
 refine NoPanic.normal ?_
 replace b3:=hE.block b3
 replace br:=hE.block br
 replace hf:=hf.ext hE
 replace hx:=hx.trans hE
 clear hE
 simp only [aP,lA,lZ,lS]
 clear hgs
 go_upto_region 4 with (fail)
 have hgr : gr ≠ w.heap.size + 1 + 1 + 1:=by intro e; rw [e,b3] at br; injection br with br; injection br with _ br; exact absurd br (by decide)
 have hgs : gs ≠ w.heap.size + 1 + 1 + 1:=by intro e; rw [e,b3] at bs; injection bs with bs; injection bs with _ bs; exact absurd bs (by decide)
 cases hzr : decide (r = 0) with
 | true =>
  have kzr:=veil hzr
  obtain rfl : b = false:=by rw [← kb0.out,kzr.out]; rfl
  clear hzr
  have hbr:=(Array.getElem?_eq_some_iff.1 br).1
  have hbs:=(Array.getElem?_eq_some_iff.1 bs).1
  have hRlt:=(Array.getElem?_eq_some_iff.1 b3).1
  refine wp_region_noPanic ?_
  have hS:=But.of_below (r:=w.heap.size + 1 + 1 + 1) (Ext.drew w4)
  have hR:=(Ext.drew w4).block b3
  refine wp_region_held_drew (S:=fun W => But (w.heap.size + 1 + 1 + 1) w4 W) (by kernel_rfl) hS (fun hH => ?_)
  refine wpAnyH_take (i:=0) (v:=nv r) rfl (by kernel_rfl) (by kernel_rfl) (by decide +kernel) (fun _ _ _ h => h) (yieldsIf_load_mid (by rfl) _ _ rfl _ _ rfl (nc r).toList _ (fun W hW j v hv => by rw [cell_of_row W _ _ (nc r) 26 (0,0) ((hW.block _ hbr (fun e => hgr (Option.some.inj e))).trans br),Nat.zero_add]; simpa using hv) uN rfl (iN _)) hH ?_
  simp only [Act.put,List.setIfInBounds_toArray,List.set_cons_zero,List.set_cons_succ,List.getElem_toArray,List.getElem_cons_zero]
  refine wpAnyH_take (i:=1) (v:=nv s) rfl (by kernel_rfl) (by kernel_rfl) (by decide +kernel) (fun _ _ _ h => h) (yieldsIf_load_mid (by rfl) _ _ rfl _ _ rfl (nc s).toList _ (fun W hW j v hv => by rw [cell_of_row W _ _ (nc s) 26 (0,0) ((hW.block _ hbs (fun e => hgs (Option.some.inj e))).trans bs),Nat.zero_add]; simpa using hv) uN rfl (iN _)) hH ?_
  simp only [Act.put,List.setIfInBounds_toArray,List.set_cons_zero,List.set_cons_succ,List.getElem_toArray,List.getElem_cons_zero,List.getElem_cons_succ]
  refine wpAnyH_take (i:=2) (v:=gv r s) rfl (by kernel_rfl) (by kernel_rfl) (by decide +kernel) (fun _ _ _ h => h) (zfw (vs:=[(0,nv r),(1,nv s)]) (by rfl) rfl rfl (fun W => bldG W _ _)) hH ?_
  simp only [Act.put,List.setIfInBounds_toArray,List.set_cons_zero,List.set_cons_succ,List.getElem_toArray,List.getElem_cons_zero,List.getElem_cons_succ]
  refine wpAnyH_take (i:=3) (v:=nv r) rfl (by kernel_rfl) (by kernel_rfl) (by decide +kernel) (fun _ _ _ h => h) (yieldsIf_load_mid (by rfl) _ _ rfl _ _ rfl (nc r).toList _ (fun W hW j v hv => by rw [cell_of_row W _ _ (nc r) 26 (0,0) ((hW.block _ hbr (fun e => hgr (Option.some.inj e))).trans br),Nat.zero_add]; simpa using hv) uN rfl (iN _)) hH ?_
  simp only [Act.put,List.setIfInBounds_toArray,List.set_cons_zero,List.set_cons_succ,List.getElem_toArray,List.getElem_cons_zero,List.getElem_cons_succ]
  refine wpAnyH_ready (rs:=[4]) (by decide +kernel) (by simp) ?_
  refine AllReadyH.cons rfl (fun K hK => ?_) AllReadyH.nil
  go_simp
  refine (iz_is kzr.out (zeg kr.out) _).mono ?_
  rintro e v1 ⟨rfl,hE⟩
  have hS:=hS.below hE
  have hR:=hE.block hR
  refine hK.out _ _ hS (fun hH => ?_)
  clear hK K hE
  try simp only [Act.put,List.setIfInBounds_toArray,List.set_cons_zero,List.set_cons_succ,List.getElem_toArray,List.getElem_cons_zero,List.getElem_cons_succ]
  refine wpAnyH_take (i:=5) (v:=.bool false) rfl (by kernel_rfl) (by kernel_rfl) (by decide +kernel) (fun _ _ _ h => h) (Or.inl ⟨by rfl,fun W hSw => (by dsimp only at hSw; go_simp)⟩) hH ?_
  simp only [Act.put,List.setIfInBounds_toArray,List.set_cons_zero,List.set_cons_succ,List.getElem_toArray,List.getElem_cons_zero,List.getElem_cons_succ]
  refine wpAnyH_take (i:=6) (v:=.bool false) rfl (by kernel_rfl) (by kernel_rfl) (by decide +kernel) (fun _ _ _ h => h) (Or.inl ⟨by rfl,fun W hSw => (by dsimp only at hSw; go_simp)⟩) hH ?_
  simp only [Act.put,List.setIfInBounds_toArray,List.set_cons_zero,List.set_cons_succ,List.getElem_toArray,List.getElem_cons_zero,List.getElem_cons_succ]
  refine wpAnyH_take (i:=7) (v:=undef) rfl (by kernel_rfl) (by kernel_rfl) (by decide +kernel) (fun _ _ _ h => h) (Or.inr ⟨by rfl,rfl⟩) hH ?_
  simp only [Act.put,List.setIfInBounds_toArray,List.set_cons_zero,List.set_cons_succ,List.getElem_toArray,List.getElem_cons_zero,List.getElem_cons_succ]
  refine wpAnyH_take (i:=8) (v:=undef) rfl (by kernel_rfl) (by kernel_rfl) (by decide +kernel) (fun _ _ _ h => h) (Or.inr ⟨by rfl,rfl⟩) hH ?_
  simp only [Act.put,List.setIfInBounds_toArray,List.set_cons_zero,List.set_cons_succ,List.getElem_toArray,List.getElem_cons_zero,List.getElem_cons_succ]
  refine wpAnyH_take (i:=9) (v:=undef) rfl (by kernel_rfl) (by kernel_rfl) (by decide +kernel) (fun _ _ _ h => h) (Or.inr ⟨by rfl,rfl⟩) hH ?_
  simp only [Act.put,List.setIfInBounds_toArray,List.set_cons_zero,List.set_cons_succ,List.getElem_toArray,List.getElem_cons_zero,List.getElem_cons_succ]
  refine wpAnyH_take (i:=10) (v:=.bool false) rfl (by kernel_rfl) (by kernel_rfl) (by decide +kernel) (fun _ _ _ h => h) (yif_pickB (by rfl) rfl rfl rfl) hH ?_
  simp only [Act.put,List.setIfInBounds_toArray,List.set_cons_zero,List.set_cons_succ,List.getElem_toArray,List.getElem_cons_zero,List.getElem_cons_succ]
  refine wpAnyH_ready (rs:=[11]) (by decide +kernel) (by simp) ?_
  refine AllReadyH.cons rfl (fun K hK => ?_) AllReadyH.nil
  refine wp_store_row 39 _ _ rfl (w.heap.size + 1 + 1 + 1) (gc r s) rfl rfl 39 _ hR (iSg _ _) (gz_size _ _) (zcf _ _) ?_
  have hR:=setRow_heap _ _ _ (gc r s) 39 (0,0) hR
  have hS:=zcc hS (gc r s)
  refine hK.out _ _ hS (fun hH => ?_)
  clear hK K
  refine wpAnyH_ready (rs:=[12]) (by decide +kernel) (by simp) ?_
  refine AllReadyH.cons rfl (fun K hK => ?_) AllReadyH.nil
  go_simp
  refine hK.out _ _ hS (fun hH => ?_)
  clear hK K
  refine wpAnyH_done (by decide +kernel) ?_ _
  refine NoPanic.normal ?_
  go_wp2
  exact bodyPost_ret (zbd rfl _ _ (w.heap.size + 1 + 1 + 1) 39 (gc r s) (0,0) _ rfl hR Tryz.underlying39 rfl (iSg _ _)) rfl ⟨rfl,hx.new hS (by omega)⟩
 | false =>
  cases hzs : decide (s = 0) with
  | true =>
   have kzr:=veil hzr
   have kzs:=veil hzs
   obtain rfl : b = false:=by rw [← kb0.out,kzr.out,kzs.out]; rfl
   clear hzr hzs
   have hbr:=(Array.getElem?_eq_some_iff.1 br).1
   have hbs:=(Array.getElem?_eq_some_iff.1 bs).1
   have hRlt:=(Array.getElem?_eq_some_iff.1 b3).1
   refine wp_region_noPanic ?_
   have hS:=But.of_below (r:=w.heap.size + 1 + 1 + 1) (Ext.drew w4)
   have hR:=(Ext.drew w4).block b3
   refine wp_region_held_drew (S:=fun W => But (w.heap.size + 1 + 1 + 1) w4 W) (by kernel_rfl) hS (fun hH => ?_)
   refine wpAnyH_take (i:=0) (v:=nv r) rfl (by kernel_rfl) (by kernel_rfl) (by decide +kernel) (fun _ _ _ h => h) (yieldsIf_load_mid (by rfl) _ _ rfl _ _ rfl (nc r).toList _ (fun W hW j v hv => by rw [cell_of_row W _ _ (nc r) 26 (0,0) ((hW.block _ hbr (fun e => hgr (Option.some.inj e))).trans br),Nat.zero_add]; simpa using hv) uN rfl (iN _)) hH ?_
   simp only [Act.put,List.setIfInBounds_toArray,List.set_cons_zero,List.set_cons_succ,List.getElem_toArray,List.getElem_cons_zero]
   refine wpAnyH_take (i:=1) (v:=nv s) rfl (by kernel_rfl) (by kernel_rfl) (by decide +kernel) (fun _ _ _ h => h) (yieldsIf_load_mid (by rfl) _ _ rfl _ _ rfl (nc s).toList _ (fun W hW j v hv => by rw [cell_of_row W _ _ (nc s) 26 (0,0) ((hW.block _ hbs (fun e => hgs (Option.some.inj e))).trans bs),Nat.zero_add]; simpa using hv) uN rfl (iN _)) hH ?_
   simp only [Act.put,List.setIfInBounds_toArray,List.set_cons_zero,List.set_cons_succ,List.getElem_toArray,List.getElem_cons_zero,List.getElem_cons_succ]
   refine wpAnyH_take (i:=2) (v:=gv r s) rfl (by kernel_rfl) (by kernel_rfl) (by decide +kernel) (fun _ _ _ h => h) (zfw (vs:=[(0,nv r),(1,nv s)]) (by rfl) rfl rfl (fun W => bldG W _ _)) hH ?_
   simp only [Act.put,List.setIfInBounds_toArray,List.set_cons_zero,List.set_cons_succ,List.getElem_toArray,List.getElem_cons_zero,List.getElem_cons_succ]
   refine wpAnyH_take (i:=3) (v:=nv r) rfl (by kernel_rfl) (by kernel_rfl) (by decide +kernel) (fun _ _ _ h => h) (yieldsIf_load_mid (by rfl) _ _ rfl _ _ rfl (nc r).toList _ (fun W hW j v hv => by rw [cell_of_row W _ _ (nc r) 26 (0,0) ((hW.block _ hbr (fun e => hgr (Option.some.inj e))).trans br),Nat.zero_add]; simpa using hv) uN rfl (iN _)) hH ?_
   simp only [Act.put,List.setIfInBounds_toArray,List.set_cons_zero,List.set_cons_succ,List.getElem_toArray,List.getElem_cons_zero,List.getElem_cons_succ]
   refine wpAnyH_ready (rs:=[4]) (by decide +kernel) (by simp) ?_
   refine AllReadyH.cons rfl (fun K hK => ?_) AllReadyH.nil
   go_simp
   refine (iz_is kzr.out (zeg kr.out) _).mono ?_
   rintro e v1 ⟨rfl,hE⟩
   have hS:=hS.below hE
   have hR:=hE.block hR
   refine hK.out _ _ hS (fun hH => ?_)
   clear hK K hE
   try simp only [Act.put,List.setIfInBounds_toArray,List.set_cons_zero,List.set_cons_succ,List.getElem_toArray,List.getElem_cons_zero,List.getElem_cons_succ]
   refine wpAnyH_take (i:=5) (v:=.bool true) rfl (by kernel_rfl) (by kernel_rfl) (by decide +kernel) (fun _ _ _ h => h) (Or.inl ⟨by rfl,fun W hSw => (by dsimp only at hSw; go_simp)⟩) hH ?_
   simp only [Act.put,List.setIfInBounds_toArray,List.set_cons_zero,List.set_cons_succ,List.getElem_toArray,List.getElem_cons_zero,List.getElem_cons_succ]
   refine wpAnyH_take (i:=6) (v:=.bool true) rfl (by kernel_rfl) (by kernel_rfl) (by decide +kernel) (fun _ _ _ h => h) (Or.inl ⟨by rfl,fun W hSw => (by dsimp only at hSw; go_simp)⟩) hH ?_
   simp only [Act.put,List.setIfInBounds_toArray,List.set_cons_zero,List.set_cons_succ,List.getElem_toArray,List.getElem_cons_zero,List.getElem_cons_succ]
   refine wpAnyH_take (i:=7) (v:=nv s) rfl (by kernel_rfl) (by kernel_rfl) (by decide +kernel) (fun _ _ _ h => h) (yieldsIf_load_mid (by rfl) _ _ rfl _ _ rfl (nc s).toList _ (fun W hW j v hv => by rw [cell_of_row W _ _ (nc s) 26 (0,0) ((hW.block _ hbs (fun e => hgs (Option.some.inj e))).trans bs),Nat.zero_add]; simpa using hv) uN rfl (iN _)) hH ?_
   simp only [Act.put,List.setIfInBounds_toArray,List.set_cons_zero,List.set_cons_succ,List.getElem_toArray,List.getElem_cons_zero,List.getElem_cons_succ]
   refine wpAnyH_ready (rs:=[8]) (by decide +kernel) (by simp) ?_
   refine AllReadyH.cons rfl (fun K hK => ?_) AllReadyH.nil
   go_simp
   refine (iz_is kzs.out (zeg ks.out) _).mono ?_
   rintro e v2 ⟨rfl,hE⟩
   have hS:=hS.below hE
   have hR:=hE.block hR
   refine hK.out _ _ hS (fun hH => ?_)
   clear hK K hE
   try simp only [Act.put,List.setIfInBounds_toArray,List.set_cons_zero,List.set_cons_succ,List.getElem_toArray,List.getElem_cons_zero,List.getElem_cons_succ]
   refine wpAnyH_take (i:=9) (v:=.bool false) rfl (by kernel_rfl) (by kernel_rfl) (by decide +kernel) (fun _ _ _ h => h) (Or.inl ⟨by rfl,fun W hSw => (by dsimp only at hSw; go_simp)⟩) hH ?_
   simp only [Act.put,List.setIfInBounds_toArray,List.set_cons_zero,List.set_cons_succ,List.getElem_toArray,List.getElem_cons_zero,List.getElem_cons_succ]
   refine wpAnyH_take (i:=10) (v:=.bool false) rfl (by kernel_rfl) (by kernel_rfl) (by decide +kernel) (fun _ _ _ h => h) (yif_pickB (by rfl) rfl rfl rfl) hH ?_
   simp only [Act.put,List.setIfInBounds_toArray,List.set_cons_zero,List.set_cons_succ,List.getElem_toArray,List.getElem_cons_zero,List.getElem_cons_succ]
   refine wpAnyH_ready (rs:=[11]) (by decide +kernel) (by simp) ?_
   refine AllReadyH.cons rfl (fun K hK => ?_) AllReadyH.nil
   refine wp_store_row 39 _ _ rfl (w.heap.size + 1 + 1 + 1) (gc r s) rfl rfl 39 _ hR (iSg _ _) (gz_size _ _) (zcf _ _) ?_
   have hR:=setRow_heap _ _ _ (gc r s) 39 (0,0) hR
   have hS:=zcc hS (gc r s)
   refine hK.out _ _ hS (fun hH => ?_)
   clear hK K
   refine wpAnyH_ready (rs:=[12]) (by decide +kernel) (by simp) ?_
   refine AllReadyH.cons rfl (fun K hK => ?_) AllReadyH.nil
   go_simp
   refine hK.out _ _ hS (fun hH => ?_)
   clear hK K
   refine wpAnyH_done (by decide +kernel) ?_ _
   refine NoPanic.normal ?_
   go_wp2
   exact bodyPost_ret (zbd rfl _ _ (w.heap.size + 1 + 1 + 1) 39 (gc r s) (0,0) _ rfl hR Tryz.underlying39 rfl (iSg _ _)) rfl ⟨rfl,hx.new hS (by omega)⟩
  | false =>
   have kzr:=veil hzr
   have kzs:=veil hzs
   obtain rfl : b = true:=by rw [← kb0.out,kzr.out,kzs.out]; rfl
   clear hzr hzs
   have hbr:=(Array.getElem?_eq_some_iff.1 br).1
   have hbs:=(Array.getElem?_eq_some_iff.1 bs).1
   have hRlt:=(Array.getElem?_eq_some_iff.1 b3).1
   refine wp_region_noPanic ?_
   have hS:=But.of_below (r:=w.heap.size + 1 + 1 + 1) (Ext.drew w4)
   have hR:=(Ext.drew w4).block b3
   refine wp_region_held_drew (S:=fun W => But (w.heap.size + 1 + 1 + 1) w4 W) (by kernel_rfl) hS (fun hH => ?_)
   refine wpAnyH_take (i:=0) (v:=nv r) rfl (by kernel_rfl) (by kernel_rfl) (by decide +kernel) (fun _ _ _ h => h) (yieldsIf_load_mid (by rfl) _ _ rfl _ _ rfl (nc r).toList _ (fun W hW j v hv => by rw [cell_of_row W _ _ (nc r) 26 (0,0) ((hW.block _ hbr (fun e => hgr (Option.some.inj e))).trans br),Nat.zero_add]; simpa using hv) uN rfl (iN _)) hH ?_
   simp only [Act.put,List.setIfInBounds_toArray,List.set_cons_zero,List.set_cons_succ,List.getElem_toArray,List.getElem_cons_zero]
   refine wpAnyH_take (i:=1) (v:=nv s) rfl (by kernel_rfl) (by kernel_rfl) (by decide +kernel) (fun _ _ _ h => h) (yieldsIf_load_mid (by rfl) _ _ rfl _ _ rfl (nc s).toList _ (fun W hW j v hv => by rw [cell_of_row W _ _ (nc s) 26 (0,0) ((hW.block _ hbs (fun e => hgs (Option.some.inj e))).trans bs),Nat.zero_add]; simpa using hv) uN rfl (iN _)) hH ?_
   simp only [Act.put,List.setIfInBounds_toArray,List.set_cons_zero,List.set_cons_succ,List.getElem_toArray,List.getElem_cons_zero,List.getElem_cons_succ]
   refine wpAnyH_take (i:=2) (v:=gv r s) rfl (by kernel_rfl) (by kernel_rfl) (by decide +kernel) (fun _ _ _ h => h) (zfw (vs:=[(0,nv r),(1,nv s)]) (by rfl) rfl rfl (fun W => bldG W _ _)) hH ?_
   simp only [Act.put,List.setIfInBounds_toArray,List.set_cons_zero,List.set_cons_succ,List.getElem_toArray,List.getElem_cons_zero,List.getElem_cons_succ]
   refine wpAnyH_take (i:=3) (v:=nv r) rfl (by kernel_rfl) (by kernel_rfl) (by decide +kernel) (fun _ _ _ h => h) (yieldsIf_load_mid (by rfl) _ _ rfl _ _ rfl (nc r).toList _ (fun W hW j v hv => by rw [cell_of_row W _ _ (nc r) 26 (0,0) ((hW.block _ hbr (fun e => hgr (Option.some.inj e))).trans br),Nat.zero_add]; simpa using hv) uN rfl (iN _)) hH ?_
   simp only [Act.put,List.setIfInBounds_toArray,List.set_cons_zero,List.set_cons_succ,List.getElem_toArray,List.getElem_cons_zero,List.getElem_cons_succ]
   refine wpAnyH_ready (rs:=[4]) (by decide +kernel) (by simp) ?_
   refine AllReadyH.cons rfl (fun K hK => ?_) AllReadyH.nil
   go_simp
   refine (iz_is kzr.out (zeg kr.out) _).mono ?_
   rintro e v1 ⟨rfl,hE⟩
   have hS:=hS.below hE
   have hR:=hE.block hR
   refine hK.out _ _ hS (fun hH => ?_)
   clear hK K hE
   try simp only [Act.put,List.setIfInBounds_toArray,List.set_cons_zero,List.set_cons_succ,List.getElem_toArray,List.getElem_cons_zero,List.getElem_cons_succ]
   refine wpAnyH_take (i:=5) (v:=.bool true) rfl (by kernel_rfl) (by kernel_rfl) (by decide +kernel) (fun _ _ _ h => h) (Or.inl ⟨by rfl,fun W hSw => (by dsimp only at hSw; go_simp)⟩) hH ?_
   simp only [Act.put,List.setIfInBounds_toArray,List.set_cons_zero,List.set_cons_succ,List.getElem_toArray,List.getElem_cons_zero,List.getElem_cons_succ]
   refine wpAnyH_take (i:=6) (v:=.bool true) rfl (by kernel_rfl) (by kernel_rfl) (by decide +kernel) (fun _ _ _ h => h) (Or.inl ⟨by rfl,fun W hSw => (by dsimp only at hSw; go_simp)⟩) hH ?_
   simp only [Act.put,List.setIfInBounds_toArray,List.set_cons_zero,List.set_cons_succ,List.getElem_toArray,List.getElem_cons_zero,List.getElem_cons_succ]
   refine wpAnyH_take (i:=7) (v:=nv s) rfl (by kernel_rfl) (by kernel_rfl) (by decide +kernel) (fun _ _ _ h => h) (yieldsIf_load_mid (by rfl) _ _ rfl _ _ rfl (nc s).toList _ (fun W hW j v hv => by rw [cell_of_row W _ _ (nc s) 26 (0,0) ((hW.block _ hbs (fun e => hgs (Option.some.inj e))).trans bs),Nat.zero_add]; simpa using hv) uN rfl (iN _)) hH ?_
   simp only [Act.put,List.setIfInBounds_toArray,List.set_cons_zero,List.set_cons_succ,List.getElem_toArray,List.getElem_cons_zero,List.getElem_cons_succ]
   refine wpAnyH_ready (rs:=[8]) (by decide +kernel) (by simp) ?_
   refine AllReadyH.cons rfl (fun K hK => ?_) AllReadyH.nil
   go_simp
   refine (iz_is kzs.out (zeg ks.out) _).mono ?_
   rintro e v2 ⟨rfl,hE⟩
   have hS:=hS.below hE
   have hR:=hE.block hR
   refine hK.out _ _ hS (fun hH => ?_)
   clear hK K hE
   try simp only [Act.put,List.setIfInBounds_toArray,List.set_cons_zero,List.set_cons_succ,List.getElem_toArray,List.getElem_cons_zero,List.getElem_cons_succ]
   refine wpAnyH_take (i:=9) (v:=.bool true) rfl (by kernel_rfl) (by kernel_rfl) (by decide +kernel) (fun _ _ _ h => h) (Or.inl ⟨by rfl,fun W hSw => (by dsimp only at hSw; go_simp)⟩) hH ?_
   simp only [Act.put,List.setIfInBounds_toArray,List.set_cons_zero,List.set_cons_succ,List.getElem_toArray,List.getElem_cons_zero,List.getElem_cons_succ]
   refine wpAnyH_take (i:=10) (v:=.bool true) rfl (by kernel_rfl) (by kernel_rfl) (by decide +kernel) (fun _ _ _ h => h) (yif_pickB (by rfl) rfl rfl rfl) hH ?_
   simp only [Act.put,List.setIfInBounds_toArray,List.set_cons_zero,List.set_cons_succ,List.getElem_toArray,List.getElem_cons_zero,List.getElem_cons_succ]
   refine wpAnyH_ready (rs:=[11]) (by decide +kernel) (by simp) ?_
   refine AllReadyH.cons rfl (fun K hK => ?_) AllReadyH.nil
   refine wp_store_row 39 _ _ rfl (w.heap.size + 1 + 1 + 1) (gc r s) rfl rfl 39 _ hR (iSg _ _) (gz_size _ _) (zcf _ _) ?_
   have hR:=setRow_heap _ _ _ (gc r s) 39 (0,0) hR
   have hS:=zcc hS (gc r s)
   refine hK.out _ _ hS (fun hH => ?_)
   clear hK K
   refine wpAnyH_ready (rs:=[12]) (by decide +kernel) (by simp) ?_
   refine AllReadyH.cons rfl (fun K hK => ?_) AllReadyH.nil
   go_simp
   refine hK.out _ _ hS (fun hH => ?_)
   clear hK K
   refine wpAnyH_done (by decide +kernel) ?_ _
   refine NoPanic.normal ?_
   go_wp2
   exact bodyPost_ret (zbd rfl _ _ (w.heap.size + 1 + 1 + 1) 39 (gc r s) (0,0) _ rfl hR Tryz.underlying39 rfl (iSg _ _)) rfl ⟨rfl,hx.new hS (by omega)⟩
theorem mod_aux (n e u i : Nat) : (e % n + u % n % n) % n * i % n = i * ((e % n + u % n) % n) % n:=by rw [Nat.mod_mod,Nat.mul_comm]
theorem sOf_eq {D E K r t u v s : Nat} (ht : t = Pt.iG Pt.nn K) (hr : r = Pt.rOf K) (hu : u = r * D % Pt.nn) (hv : v = (E % Pt.nn + u % Pt.nn) % Pt.nn) (hs : s = v * t % Pt.nn) : s = Pt.sOf D E K:=by
 rw [hs,hv,hu,ht,hr]
 exact mod_aux Pt.nn E (Pt.rOf K * D) (Pt.iG Pt.nn K)
theorem mayB_mod {X M : Nat} (h : X = M % Pt.nn) : mayB X = !decide (X = 0):=by
 unfold mayB
 rw [decide_eq_true (mod_nn h),Bool.and_true]
 by_cases h0 : X = 0 <;> simp [h0]
theorem made_is {g D E K x : Nat} (hD : D < top) (hE : E < top) (hK : mayB K = true) (hx : x = Pt.pX (Pt.grp.mul K Pt.base).1) {r s : Nat} (hr : r = Pt.rOf K) (hs : s = Pt.sOf D E K) {b : Bool} (hb : (mayB r && mayB s) = b) {w : World} (hF : Fn w g) :
  Calls Tryz.prog 115 #[mv g D E,nv K,nv x] w fun e w' => e = .returned (.tuple #[gv r s,.bool b]) ∧ Ext w w':=by
 have hxt : x < top:=by rw [hx]; exact (p_top _).1
 have hr2 : r = x % Pt.nn:=by rw [hr,hx]; rfl
 have hs2 : s = (E % Pt.nn + (r * D % Pt.nn) % Pt.nn) % Pt.nn * Pt.iG Pt.nn K % Pt.nn:=by rw [hs]; exact (sOf_eq rfl hr rfl rfl rfl).symm
 have hK2 : K ≠ 0 ∧ K < Pt.nn:=⟨may_ne hK,zge hK⟩
 rw [mayB_mod hr2,mayB_mod hs2] at hb
 exact made_all hD hE hK2 hxt rfl hr2 rfl rfl hs2 hb hF
def sgc : Option (Nat × Nat) → Array Value
 | none => gc 0 0
 | some (r,s) => gc r s
theorem sgv_c (o : Option (Nat × Nat)) : sgv o = .agg (sgc o):=by cases o <;> rfl
theorem sgc_one (o : Option (Nat × Nat)) : (sgc o).all (·.oneCell') = true:=by cases o <;> exact zcf _ _
theorem iSo (o : Option (Nat × Nat)) : (Tryz.prog.info? 39).map (·.size) = some (sgc o).size:=by cases o <;> exact iSg _ _
def sge (o : Option (Nat × Nat)) : Value:=if o.isSome then .nilIface else .iface 35 (.int .i64 4)
theorem first_calls {D E g base : Nat} (hD : D < top) (hE : E < top) {xs : List Nat} (hmx : ∀ k ∈ xs,mayB k = true) (h0 : 0 < xs.length) (hn : xs.length ≤ 100) {w : World} {v : Value} (hF : Fn w g) (hO : OwnN w base v xs) :
  Calls Tryz.prog 60 #[mv g D E,v] w fun e w' => e = .returned (.tuple #[sgv (pick D E xs),sge (pick D E xs)]) ∧ Ext w w':=by
 obtain ⟨gL,cap,cur,rfl,bL,hcs⟩:=hO.blk h0
 obtain ⟨n,hnx⟩ : ∃ n,n = xs.length:=⟨_,rfl⟩
 rw [← hnx] at hn h0 ⊢
 have kCS:=veil (And.intro hcs (And.intro hmx hnx))
 have kN:=veil hn
 have kD:=veil hD
 have kE:=veil hE
 clear hO hmx hcs hnx hn hD hE
 unfold mv mc
 go_enter Tryz.func60,Tryz.ntmps60
 go_upto_region 1 with (fail)
 refine zdt fun w1 hx b0 b1 => ?_
 have b0 : w1.heap[w.heap.size]? = some (.cells (mc g D E) 111 (0,0)):=b0
 have hf:=hF.ext hx
 clear hF
 replace bL:=hx.block bL
 have kX:=veil hx
 clear hx h0
 go_wp2
 go_loopw [14] (fun v14 wr => ∃ i : Nat,i ≤ n ∧ v14 = .int .i64 (i : Int) ∧ pick D E xs = pick D E (xs.drop i) ∧ Ext w1 wr)
  (fun v14 _ => n - (intOf v14).toNat)
 case atStart => exact ⟨0,by omega,rfl,rfl,Ext.refl _⟩
 case round =>
  obtain ⟨i,hi,rfl,hpk,hx⟩:=hrel
  replace b0:=hx.block b0
  replace b1:=hx.block b1
  replace bL:=hx.block bL
  replace hf:=hf.ext hx
  by_cases hlt : i < n
  ·
   have hn100 : n ≤ 100:=kN.out
   obtain ⟨K,hK⟩ : ∃ K,xs[i]? = some K:=⟨_,List.getElem?_eq_getElem (by rw [← kCS.out.2.2]; exact hlt)⟩
   have hmK:=kCS.out.2.1 K (List.mem_of_getElem? hK)
   have kK:=veil hmK
   have kil:=veil hlt
   have kcs:=veil (kCS.out.1 i K hK)
   have kdrop:=veil (drop_at hK)
   have kpick:=veil hpk
   obtain ⟨P,hP⟩ : ∃ P,P = Pt.grp.mul K Pt.base:=⟨_,rfl⟩
   have kP:=veil hP
   obtain ⟨r,hr⟩ : ∃ r,r = Pt.rOf K:=⟨_,rfl⟩
   obtain ⟨s,hs⟩ : ∃ s,s = Pt.sOf D E K:=⟨_,rfl⟩
   have kr:=veil hr
   have ks:=veil hs
   have hI : (i : Int) < (n : Int):=by omega
   clear hs hr hP hpk hmK hK
   go_upto_region 3 with (fail)
   refine' zak (m:=2) (A:=_) (by kernel_rfl) ?h1 ?h2
   case h1 =>
    refine zaa (.pointer (some ⟨gL,i * 4,none⟩)) rfl (made_index (sz:=4) rfl rfl rfl kil.out Tryz.underlying73 infoN4) ?_
    refine zaa (nv K) rfl (zac (cs:=(nc K).toList) rfl rfl bL kcs.out uN rfl (iN K)) ?_;simp only [aP,lA,lZ,lS]
    exact zaj
   refine zck _ _ rfl rfl rfl rfl rfl rfl rfl (hzN ·) (fun _ => rfl) (fun _ => rfl) (iN _) rfl (zbf _) ?_
   intro gk w2 hgk bk hE
   replace b0:=hE.block b0
   replace b1:=hE.block b1
   replace hf:=hf.ext hE
   replace hx:=hx.trans hE
   clear hE
   simp only [aP,lA,lZ,lS]
   clear hgk
   go_upto_region 4 with (fail)
   refine' zbr (m:=5) (A:=_) 7 (by kernel_rfl) (by kernel_rfl) (by kernel_rfl) ?h2a ?h2b
   case h2a =>
    refine zaa (nv K) rfl (zac rfl rfl bk rfl uN rfl (iN _)) ?_
    refine zaa (qv Pt.gx Pt.gy false) rfl (zaf (args:=[]) rfl rfl (fun W => zab Tryz.func54 rfl rfl _ W) (fun W hW => zik W)) ?_;simp only [aP,lA,lZ,lS]
    refine zaa (.tuple #[qv (Pt.pX P.1) (Pt.pY P.1) (Pt.pFar P.1),.nilIface]) rfl (zaf (args:=[nv K,qv Pt.gx Pt.gy false]) rfl rfl (fun W => zab Tryz.func53 rfl rfl _ W) (fun W hW => mulb_is (Nat.lt_trans (zge kK.out) zdp) kP.out W)) ?_
    refine zaa (.tuple #[qv (Pt.pX P.1) (Pt.pY P.1) (Pt.pFar P.1),.nilIface]) rfl (zah (.inl rfl) rfl) ?_;simp only [aP,lA,lZ,lS]
    refine zaa (qv (Pt.pX P.1) (Pt.pY P.1) (Pt.pFar P.1)) rfl (zbi rfl rfl rfl) ?_;simp only [aP,lA,lZ,lS]
    exact zaj
   refine rest_var2 (v:=.nilIface) (vx:=.nilIface) _ _ _ _ rfl rfl rfl rfl rfl rfl rfl rfl rfl rfl rfl rfl rfl rfl rfl rfl (by decide) (by kernel_rfl) (by kernel_rfl) (by kernel_rfl) (by kernel_rfl) (by kernel_rfl) (by kernel_rfl) (by kernel_rfl) rfl rfl rfl rfl rfl rfl (hzT ·) (run_ext rfl rfl rfl) (fun _ => run_ext rfl rfl rfl) (fun _ => rfl) (fun _ => rfl) (fun _ => rfl) (fun _ => rfl) (fun _ => rfl) (iT _ _ _) rfl (zdr _ _ _) ?_
   intro gp w3 hgp bp hE
   refine NoPanic.normal ?_
   replace b0:=hE.block b0
   replace b1:=hE.block b1
   replace bk:=hE.block bk
   replace hf:=hf.ext hE
   replace hx:=hx.trans hE
   clear hE
   simp only [aP,lA,lZ,lS]
   clear hgp
   go_upto_region 5 with (fail)
   cases hb : (mayB r && mayB s) with
   | false =>
    have kb:=veil hb
    clear hb
    refine' zak (m:=8) (A:=_) (by kernel_rfl) ?h3a ?h3b
    case h3a =>
     refine zaa (mv g D E) rfl (zac rfl rfl b0 rfl Tryz.underlying111 rfl (iMk _ _ _)) ?_
     refine zaa (nv K) rfl (zac rfl rfl bk rfl uN rfl (iN _)) ?_;simp only [aP,lA,lZ,lS]
     refine zaa (ptrTo gp) rfl (zad rfl rfl (fldT0 _ ·)) ?_
     refine zaa (nv (Pt.pX P.1)) rfl (zac rfl rfl bp rfl uN rfl (iN _)) ?_;simp only [aP,lA,lZ,lS]
     refine zaa (.tuple #[gv r s,.bool false]) rfl (zaf (args:=[mv g D E,nv K,nv (Pt.pX P.1)]) rfl rfl (fun W => zab Tryz.func115 rfl rfl _ W) (fun W hW => made_is kD.out kE.out kK.out (by rw [kP.out]) kr.out ks.out kb.out (hf.ext hW))) ?_
     refine zaa (.tuple #[gv r s,.bool false]) rfl (zah (.inl rfl) rfl) ?_;simp only [aP,lA,lZ,lS]
     refine zaa (gv r s) rfl (zbi rfl rfl rfl) ?_
     refine zaa (.bool false) rfl (zbi rfl rfl rfl) ?_;simp only [aP,lA,lZ,lS]
     exact zaj
    refine zcb _ _ rfl rfl rfl rfl rfl rfl rfl (hzG ·) (fun _ => rfl) (fun _ => rfl) (iSg _ _) rfl (zcf _ _) ?_
    intro gs w4 hgs bs hE
    replace b0:=hE.block b0
    replace b1:=hE.block b1
    replace bk:=hE.block bk
    replace bp:=hE.block bp
    replace hf:=hf.ext hE
    replace hx:=hx.trans hE
    clear hE
    simp only [aP,lA,lZ,lS]
    clear hgs
    go_wp2
    go_roundw
    case rel =>
     exact ⟨i + 1,by omega,by go_num,by rw [kpick.out,kdrop.out,pick_no (by rw [← kr.out,← ks.out,kb.out])],hx⟩
    case measure => simp [intOf]; omega
   | true =>
    have kb:=veil hb
    clear hb
    refine' zak (m:=8) (A:=_) (by kernel_rfl) ?h4a ?h4b
    case h4a =>
     refine zaa (mv g D E) rfl (zac rfl rfl b0 rfl Tryz.underlying111 rfl (iMk _ _ _)) ?_
     refine zaa (nv K) rfl (zac rfl rfl bk rfl uN rfl (iN _)) ?_;simp only [aP,lA,lZ,lS]
     refine zaa (ptrTo gp) rfl (zad rfl rfl (fldT0 _ ·)) ?_
     refine zaa (nv (Pt.pX P.1)) rfl (zac rfl rfl bp rfl uN rfl (iN _)) ?_;simp only [aP,lA,lZ,lS]
     refine zaa (.tuple #[gv r s,.bool true]) rfl (zaf (args:=[mv g D E,nv K,nv (Pt.pX P.1)]) rfl rfl (fun W => zab Tryz.func115 rfl rfl _ W) (fun W hW => made_is kD.out kE.out kK.out (by rw [kP.out]) kr.out ks.out kb.out (hf.ext hW))) ?_
     refine zaa (.tuple #[gv r s,.bool true]) rfl (zah (.inl rfl) rfl) ?_;simp only [aP,lA,lZ,lS]
     refine zaa (gv r s) rfl (zbi rfl rfl rfl) ?_
     refine zaa (.bool true) rfl (zbi rfl rfl rfl) ?_;simp only [aP,lA,lZ,lS]
     exact zaj
    refine zcb _ _ rfl rfl rfl rfl rfl rfl rfl (hzG ·) (fun _ => rfl) (fun _ => rfl) (iSg _ _) rfl (zcf _ _) ?_
    intro gs w4 hgs bs hE
    replace b1:=hE.block b1
    replace hf:=hf.ext hE
    replace hx:=hx.trans hE
    clear hE
    simp only [aP,lA,lZ,lS]
    clear hgs
    go_upto_region 7 with (fail)
    refine' zak (m:=1) (A:=_) (by kernel_rfl) ?h5a ?h5b
    case h5a =>
     refine zaa (gv r s) rfl (zac rfl rfl bs rfl Tryz.underlying39 rfl (iSg _ _)) ?_;simp only [aP,lA,lZ,lS]
     exact zaj
    refine zcw _ rfl rfl rfl rfl rfl rfl b1 (iSg _ _) rfl (zcf _ _) ?_
    intro w5 hB hb
    go_wp2
    have hmm:=kb.out
    rw [kr.out,ks.out,Bool.and_eq_true] at hmm
    have hpk : pick D E xs = some (r,s):=by rw [kpick.out,kdrop.out,kr.out,ks.out]; exact pick_yes hmm.1 hmm.2
    clear hmm
    rw [hpk]
    exact bodyPost_ret (zbd rfl _ _ (w.heap.size + 1) 39 (gc r s) (0,0) _ rfl hb Tryz.underlying39 rfl (iSg _ _)) rfl ⟨rfl,(kX.out.trans hx).new hB (by omega)⟩
  ·
   obtain rfl : i = n:=by omega
   have hpk : pick D E xs = none:=by rw [hpk,List.drop_eq_nil_of_le (by rw [← kCS.out.2.2]; exact Nat.le_refl _)]; rfl
   have kpk:=veil hpk
   clear hpk hi hlt
   go_upto_region 9 with (fail)
   refine' zak (m:=2) (A:=_) (by kernel_rfl) ?h6a ?h6b
   case h6a =>
    refine zaa (gv 0 0) rfl (zbb rfl rfl (bldG0 ·)) ?_
    refine zaa (.iface 35 (.int .i64 4)) rfl (zig rfl (mkErr4 ·)) ?_;simp only [aP,lA,lZ,lS]
    exact zaj
   refine zcw _ rfl rfl rfl rfl rfl rfl b1 (iSg _ _) rfl (zcf _ _) ?_
   intro w2 hB hb
   go_wp2
   rw [kpk.out]
   exact bodyPost_ret (zbd rfl _ _ (w.heap.size + 1) 39 (gc 0 0) (0,0) _ rfl hb Tryz.underlying39 rfl (iSg _ _)) rfl ⟨rfl,(kX.out.trans hx).new hB (by omega)⟩
theorem spub_ok {D : Nat} (hm : mayB D = true) {P : Pt.Q} (hP : P = Pt.grp.mul D Pt.base) (w : World) :
  Calls Tryz.prog 21 #[nv D] w fun e w' => e = .returned (.tuple #[qv (Pt.pX P.1) (Pt.pY P.1) (Pt.pFar P.1),.nilIface]) ∧ Ext w w':=by
 have hD:=Nat.lt_trans (zge hm) zdp
 have km:=veil hm
 have kP:=veil hP
 have kD:=veil hD
 clear hD hP hm
 unfold nv nc
 go_enter Tryz.func21,Tryz.ntmps21
 go_upto_region 1 with (fail)
 refine zdt fun w1 hx b0 b1 => ?_
 have b0 : w1.heap[w.heap.size]? = some (.cells (nc D) 26 (0,0)):=b0
 refine' zak (m:=3) (A:=_) (by kernel_rfl) ?h1 ?h2
 case h1 =>
  refine zaa (nv D) rfl (zac rfl rfl b0 rfl uN rfl (iN _)) ?_
  refine zaa (.bool true) rfl (zaf (args:=[nv D]) rfl rfl (fun W => zab Tryz.func52 rfl rfl _ W) (fun W hW => zfn km.out kD.out W)) ?_;simp only [aP,lA,lZ,lS]
  refine zaa (.bool false) rfl (zbh rfl rfl rfl) ?_;simp only [aP,lA,lZ,lS]
  exact zaj
 refine zaq rfl ?_
 intro w2 hE
 replace b0:=hE.block b0
 replace b1:=hE.block b1
 replace hx:=hx.trans hE
 clear hE
 go_upto_region 3 with (fail)
 have hb0:=(Array.getElem?_eq_some_iff.1 b0).1
 have hRlt:=(Array.getElem?_eq_some_iff.1 b1).1
 refine wp_region_noPanic ?_
 have hS:=But.of_below (r:=w.heap.size + 1) (Ext.drew w2)
 have hR:=(Ext.drew w2).block b1
 refine wp_region_held_drew (S:=fun W => But (w.heap.size + 1) w2 W) (by kernel_rfl) hS (fun hH => ?_)
 refine wpAnyH_take (i:=0) (v:=nv D) rfl (by kernel_rfl) (by kernel_rfl) (by decide +kernel) (fun _ _ _ h => h) (yieldsIf_load_mid (by rfl) _ _ rfl _ _ rfl (nc D).toList _ (fun W hW j v hv => by rw [cell_of_row W _ _ (nc D) 26 (0,0) ((hW.block _ hb0 (by intro e; injection e; omega)).trans b0),Nat.zero_add]; simpa using hv) uN rfl (iN _)) hH ?_
 simp only [Act.put,List.setIfInBounds_toArray,List.set_cons_zero,List.set_cons_succ,List.getElem_toArray,List.getElem_cons_zero]
 refine wpAnyH_ready (rs:=[1]) (by decide +kernel) (by simp) ?_
 refine AllReadyH.cons rfl (fun K hK => ?_) AllReadyH.nil
 go_simp
 refine (zik _).mono ?_
 rintro e v1 ⟨rfl,hE⟩
 have hS:=hS.below hE
 have hR:=hE.block hR
 refine hK.out _ _ hS (fun hH => ?_)
 clear hK K hE
 try simp only [Act.put,List.setIfInBounds_toArray,List.set_cons_zero,List.set_cons_succ,List.getElem_toArray,List.getElem_cons_zero,List.getElem_cons_succ]
 refine wpAnyH_ready (rs:=[2]) (by decide +kernel) (by simp) ?_
 refine AllReadyH.cons rfl (fun K hK => ?_) AllReadyH.nil
 go_simp
 refine (mulb_is kD.out kP.out _).mono ?_
 rintro e v2 ⟨rfl,hE⟩
 have hS:=hS.below hE
 have hR:=hE.block hR
 refine hK.out _ _ hS (fun hH => ?_)
 clear hK K hE
 try simp only [Act.put,List.setIfInBounds_toArray,List.set_cons_zero,List.set_cons_succ,List.getElem_toArray,List.getElem_cons_zero,List.getElem_cons_succ]
 refine wpAnyH_take (i:=3) (v:=qv (Pt.pX P.1) (Pt.pY P.1) (Pt.pFar P.1)) rfl (by kernel_rfl) (by kernel_rfl) (by decide +kernel) (fun _ _ _ h => h) (Or.inl ⟨by rfl,fun W hSw => (by dsimp only at hSw; go_simp)⟩) hH ?_
 simp only [Act.put,List.setIfInBounds_toArray,List.set_cons_zero,List.set_cons_succ,List.getElem_toArray,List.getElem_cons_zero,List.getElem_cons_succ]
 refine wpAnyH_take (i:=4) (v:=.nilIface) rfl (by kernel_rfl) (by kernel_rfl) (by decide +kernel) (fun _ _ _ h => h) (Or.inl ⟨by rfl,fun W hSw => (by dsimp only at hSw; go_simp)⟩) hH ?_
 simp only [Act.put,List.setIfInBounds_toArray,List.set_cons_zero,List.set_cons_succ,List.getElem_toArray,List.getElem_cons_zero,List.getElem_cons_succ]
 refine wpAnyH_ready (rs:=[5]) (by decide +kernel) (by simp) ?_
 refine AllReadyH.cons rfl (fun K hK => ?_) AllReadyH.nil
 refine wp_store_row 48 _ _ rfl (w.heap.size + 1) (qc (Pt.pX P.1) (Pt.pY P.1) (Pt.pFar P.1)) rfl rfl 48 _ hR (iT _ _ _) (qz_size _ _ _) (zdr _ _ _) ?_
 have hR:=setRow_heap _ _ _ (qc (Pt.pX P.1) (Pt.pY P.1) (Pt.pFar P.1)) 48 (0,0) hR
 have hS:=zcc hS (qc (Pt.pX P.1) (Pt.pY P.1) (Pt.pFar P.1))
 refine hK.out _ _ hS (fun hH => ?_)
 clear hK K
 refine wpAnyH_ready (rs:=[6]) (by decide +kernel) (by simp) ?_
 refine AllReadyH.cons rfl (fun K hK => ?_) AllReadyH.nil
 go_simp
 refine hK.out _ _ hS (fun hH => ?_)
 clear hK K
 refine wpAnyH_done (by decide +kernel) ?_ _
 refine NoPanic.normal ?_
 go_wp2
 exact bodyPost_ret (zbd rfl _ _ (w.heap.size + 1) 48 (qc (Pt.pX P.1) (Pt.pY P.1) (Pt.pFar P.1)) (0,0) _ rfl hR Tryz.underlying48 rfl (iT _ _ _)) rfl ⟨rfl,hx.new hS (by omega)⟩
theorem ssign_bad {D : Nat} (hD : D < top) (hm : mayB D = false) (y : Nat → Nat) (w : World) :
  Calls Tryz.prog 25 #[nv D,dgv y] w fun e w' => e = .returned (.tuple #[gv 0 0,.iface 35 (.int .i64 1)]) ∧ Ext w w':=by
 have kD:=veil hD
 have km:=veil hm
 clear hm hD
 unfold nv nc dgv dgc
 go_enter Tryz.func25,Tryz.ntmps25
 go_upto_region 1 with (fail)
 refine zcs fun w1 hx b0 b1 b2 => ?_
 have b0 : w1.heap[w.heap.size]? = some (.cells (nc D) 26 (0,0)):=b0
 have b1 : w1.heap[w.heap.size + 1]? = some (.cells (dgc y) 43 (0,0)):=b1
 refine' zak (m:=3) (A:=_) (by kernel_rfl) ?h1 ?h2
 case h1 =>
  refine zaa (nv D) rfl (zac rfl rfl b0 rfl uN rfl (iN _)) ?_
  refine zaa (.bool false) rfl (zaf (args:=[nv D]) rfl rfl (fun W => zab Tryz.func52 rfl rfl _ W) (fun W hW => zfn km.out kD.out W)) ?_;simp only [aP,lA,lZ,lS]
  refine zaa (.bool true) rfl (zbh rfl rfl rfl) ?_;simp only [aP,lA,lZ,lS]
  exact zaj
 refine zaq rfl ?_
 intro w2 hE
 replace b2:=hE.block b2
 replace hx:=hx.trans hE
 clear hE
 go_upto_region 2 with (fail)
 refine' zak (m:=2) (A:=_) (by kernel_rfl) ?h2a ?h2b
 case h2a =>
  refine zaa (gv 0 0) rfl (zbb rfl rfl (bldG0 ·)) ?_
  refine zaa (.iface 35 (.int .i64 1)) rfl (zig rfl (mkErr1 ·)) ?_;simp only [aP,lA,lZ,lS]
  exact zaj
 refine zcw _ rfl rfl rfl rfl rfl rfl b2 (iSg _ _) rfl (zcf _ _) ?_
 intro w3 hB hb
 go_wp2
 exact bodyPost_ret (zbd rfl _ _ (w.heap.size + 1 + 1) 39 (gc 0 0) (0,0) _ rfl hb Tryz.underlying39 rfl (iSg _ _)) rfl ⟨rfl,hx.new hB (by omega)⟩
theorem ssign_ok {D : Nat} (hm : mayB D = true) (y : Nat → Nat) (hy : ∀ j,y j < 256) {w : World} (hK : KT w) :
  Calls Tryz.prog 25 #[nv D,dgv y] w fun e w' => ∃ s o,Ends D (num32 y % Pt.nn) 16 s ∧ sigOf D (num32 y) (outN D (num32 y % Pt.nn) s) = o ∧ e = .returned (.tuple #[sgv o,sge o]) ∧ Ext w w':=by
 have hD:=Nat.lt_trans (zge hm) zdp
 have KL:=veil (fun W (hW : KT W) => list_good D hD y hy 16 (by decide) hm W hW)
 obtain ⟨E,hE⟩ : ∃ E,E = num32 y:=⟨_,rfl⟩
 obtain ⟨M,hM⟩ : ∃ M,M = num32 y % Pt.nn:=⟨_,rfl⟩
 have kEt:=veil (show E < top from by rw [hE]; exact zgv hy)
 rw [← hM] at KL ⊢
 rw [← hE]
 have kE:=veil hE
 have kM:=veil hM
 have km:=veil hm
 have ky:=veil hy
 have kD:=veil hD
 have kK:=veil hK
 clear hK hD hy hm hM hE
 unfold nv nc dgv dgc
 go_enter Tryz.func25,Tryz.ntmps25
 go_upto_region 1 with (fail)
 refine zcs fun w1 hx b0 b1 b2 => ?_
 have b0 : w1.heap[w.heap.size]? = some (.cells (nc D) 26 (0,0)):=b0
 have b1 : w1.heap[w.heap.size + 1]? = some (.cells (dgc y) 43 (0,0)):=b1
 refine' zak (m:=3) (A:=_) (by kernel_rfl) ?h1 ?h2
 case h1 =>
  refine zaa (nv D) rfl (zac rfl rfl b0 rfl uN rfl (iN _)) ?_
  refine zaa (.bool true) rfl (zaf (args:=[nv D]) rfl rfl (fun W => zab Tryz.func52 rfl rfl _ W) (fun W hW => zfn km.out kD.out W)) ?_;simp only [aP,lA,lZ,lS]
  refine zaa (.bool false) rfl (zbh rfl rfl rfl) ?_;simp only [aP,lA,lZ,lS]
  exact zaj
 refine zaq rfl ?_
 intro w2 hE
 replace b0:=hE.block b0
 replace b1:=hE.block b1
 replace b2:=hE.block b2
 replace hx:=hx.trans hE
 clear hE
 go_upto_region 3 with (fail)
 refine wp_region_lit ?_
 refine wpl_load rfl rfl rfl b0 rfl uN rfl (iN D) ?_
 simp only [aP,lA,lZ,lS]
 refine wpl_load rfl rfl rfl b1 rfl Tryz.underlying43 rfl (iDg y) ?_
 simp only [aP,lA,lZ,lS]
 refine zhi (R:=fun t W' => ∃ v ev,t = .tuple #[v,ev] ∧ Res D M 16 W' w2.heap.size v ev ∧ Ext w2 W') (args:=[nv D,dgv y,.int .i64 16]) rfl rfl rfl (fun W => zab Tryz.func58 rfl rfl _ W) ((KL.out w2 (kK.out.call hx)).mono fun e W' ⟨v,ev,he,hR,hE⟩ => ⟨_,he,v,ev,rfl,hR,hE⟩) ?_
 rintro t w3 ⟨v,ev,rfl,⟨s',hEn,hR⟩,hE⟩
 replace b0:=hE.block b0
 replace b1:=hE.block b1
 replace b2:=hE.block b2
 replace hx:=hx.trans hE
 clear hE
 simp only [aP,lA,lZ,lS]
 have kEn:=veil hEn
 clear hEn KL
 obtain ⟨xs,hxs⟩ : ∃ xs,xs = outN D M s':=⟨_,rfl⟩
 have kmx:=veil (show ∀ k ∈ xs,mayB k = true from fun k hk => by rw [hxs] at hk; exact (zit D M s' k hk).1)
 have kln:=veil (show xs.length ≤ 100 from by rw [hxs]; exact Nat.le_trans kEn.out.most (by decide))
 rw [← hxs] at hR
 have kxs:=veil hxs
 clear hxs
 rcases hR with ⟨h16,rfl,hO⟩ | ⟨h16,rfl,rfl⟩
 ·
  have hsg : sigOf D E xs = pick D E xs:=if_neg h16
  have ksg:=veil hsg
  have k0:=veil (show 0 < xs.length from by omega)
  clear hsg h16
  obtain ⟨o,ho⟩ : ∃ o,o = pick D E xs:=⟨_,rfl⟩
  have ko:=veil ho
  have KF:=veil (fun (W : World) (g : Nat) (hF : Fn W g) (hW : Ext w3 W) => first_calls (D:=D) (E:=E) kD.out kEt.out kmx.out k0.out kln.out hF (hO.ext hW))
  rw [← ho] at KF
  rw [sgv_c o] at KF
  obtain ⟨A,c,rfl,-⟩:=hO.form
  generalize xs.length = n at *
  clear ho hO
  go_upto_region 6 with (fail)
  go_wp2_with (first
   | ((with_reducible refine zas 23 ?_); refine wpList_load_row rfl 26 _ rfl w.heap.size rfl 26 (nc D) (0,0) _ b0 Tryz.underlying26 rfl (iN D) ?_)
   | ((with_reducible refine zas 24 ?_); refine wpList_load_row rfl 43 _ rfl (w.heap.size + 1) rfl 43 (dgc y) (0,0) _ b1 Tryz.underlying43 rfl (iDg y) ?_)
   | (go_at_call 59; refine (maker_calls (D:=D) ky.out kE.out _).mono ?_; rintro e w5 ⟨⟨g,rfl,hF⟩,hE5⟩)
   | (go_at_call 60; refine (KF.out w5 g hF hE5).mono ?_; rintro e w6 ⟨rfl,hE6⟩)
   | ((with_reducible refine zaw ?_); refine wpList_store_row rfl 39 _ _ rfl (w.heap.size + 1 + 1) (sgc o) rfl rfl 39 _ (hE6.block (hE5.block b2)) (iSo o) (by cases o <;> rfl) (sgc_one o) ?_))
  exact bodyPost_ret (zbd rfl _ _ (w.heap.size + 1 + 1) 39 (sgc o) (0,0) _ rfl (setRow_heap w6 _ _ (sgc o) 39 (0,0) (hE6.block (hE5.block b2))) Tryz.underlying39 rfl (iSo o)) rfl ⟨s',o,kEn.out,by rw [← kxs.out,ksg.out,ko.out],by rw [sgv_c]; rfl,zbj ((hx.trans hE5).trans hE6) (by omega) _⟩
 ·
  have hsg : sigOf D E xs = none:=if_pos h16
  have ksg:=veil hsg
  clear hsg h16
  go_upto_region 5 with (fail)
  refine' zak (m:=2) (A:=_) (by kernel_rfl) ?h2a ?h2b
  case h2a =>
   refine zaa (gv 0 0) rfl (zbb rfl rfl (bldG0 ·)) ?_
   refine zaa (.iface 35 (.int .i64 4)) rfl (zah (.inl rfl) rfl) ?_;simp only [aP,lA,lZ,lS]
   exact zaj
  refine zcw _ rfl rfl rfl rfl rfl rfl b2 (iSg _ _) rfl (zcf _ _) ?_
  intro w4 hB hb
  go_wp2
  exact bodyPost_ret (zbd rfl _ _ (w.heap.size + 1 + 1) 39 (gc 0 0) (0,0) _ rfl hb Tryz.underlying39 rfl (iSg _ _)) rfl ⟨s',none,kEn.out,by rw [← kxs.out]; exact ksg.out,rfl,hx.new hB (by omega)⟩
end Go.Proofs.YtedehdbajiaaiaaGreatDoor
