/-
  Of Y1 Y5 Y7 KJ.
-/
import Derived.Lib.AppendZeros
import Derived.Deep.AppendLies
import Derived.Deep.RegionHeld3
import Derived.Test.YthlbemnbmbmjhaaGreatDoorZC28
import Derived.Test.YthlbemnbmbmjhaaGreatDoorZC2
import Derived.Test.YthlbemnbmbmjhaaGreatDoorZC6
import Derived.Test.YthlbemnbmbmjhaaGreatDoorZC5
import Derived.Test.YthlbemnbmbmjhaaGreatDoorZC20
import Derived.Test.YthlbemnbmbmjhaaGreatDoorZC13
set_option maxRecDepth 1000000
set_option maxHeartbeats 20000000
namespace Go.Proofs.YthlbemnbmbmjhaaGreatDoor
open Go.RowKit
open Go.Value renaming int → vI
open Go.IntKind renaming u64 → vU
open Go.Act renaming put → aP
open List renaming setIfInBounds_toArray → lA, set_cons_zero → lZ, set_cons_succ → lS
theorem iz_yes (w : World) :
  Calls Tryz.prog 118 #[nv 0] w fun e w' => e = .returned (.bool true) ∧ Ext w w':=by
 unfold nv nc
 go_enter Tryz.func118,Tryz.ntmps118
 go_upto_region 1 with (fail)
 refine zdp fun w1 hx b0 => ?_
 have b0 : w1.heap[w.heap.size]? = some (.cells (nc 0) 27 (0,0)):=b0
 refine' zbc (m:=4) (A:=_) (by kernel_rfl) ?h1 ?h2
 case h1 =>
  refine zab (nv 0) rfl (zag rfl rfl b0 rfl uN rfl (iN _)) ?_
  refine zab (nv 0) rfl (zcd rfl rfl (bldN0 ·)) ?_;simp only [aP,lA,lZ,lS]
  refine zab (.bool true) rfl (zic rfl rfl rfl (gN _ _ _ _ _) eqN) ?_
  refine zab (.bool true) rfl (zaj (.inr rfl) rfl) ?_;simp only [aP,lA,lZ,lS]
  exact zaw
 refine zbi rfl ?_
 intro w2 hE
 replace hx:=hx.trans hE
 clear hE
 go_wp2
 go_ret
 exact ⟨rfl,hx⟩
theorem iz_no {X : Nat} (hX : X < top) (h0 : X ≠ 0) (w : World) :
  Calls Tryz.prog 118 #[nv X] w fun e w' => e = .returned (.bool false) ∧ Ext w w':=by
 have kX:=veil hX
 have k0:=veil h0
 clear h0 hX
 unfold nv nc
 go_enter Tryz.func118,Tryz.ntmps118
 go_upto_region 1 with (fail)
 refine zdp fun w1 hx b0 => ?_
 have b0 : w1.heap[w.heap.size]? = some (.cells (nc X) 27 (0,0)):=b0
 refine' zbc (m:=4) (A:=_) (by kernel_rfl) ?h1 ?h2
 case h1 =>
  refine zab (nv X) rfl (zag rfl rfl b0 rfl uN rfl (iN _)) ?_
  refine zab (nv 0) rfl (zcd rfl rfl (bldN0 ·)) ?_;simp only [aP,lA,lZ,lS]
  refine zab (.bool false) rfl (zic rfl rfl rfl (gN _ _ _ _ _) (eqN0 kX.out k0.out ·)) ?_
  refine zab (.bool false) rfl (zaj (.inr rfl) rfl) ?_;simp only [aP,lA,lZ,lS]
  exact zaw
 refine zbi rfl ?_
 intro w2 hE
 replace hx:=hx.trans hE
 clear hE
 go_wp2
 go_ret
 exact ⟨rfl,hx⟩
theorem rng_zero (w : World) :
  Calls Tryz.prog 85 #[nv 0] w fun e w' => e = .returned (.bool false) ∧ Ext w w':=by
 unfold nv nc
 go_enter Tryz.func85,Tryz.ntmps85
 go_upto_region 1 with (fail)
 refine zdp fun w1 hx b0 => ?_
 have b0 : w1.heap[w.heap.size]? = some (.cells (nc 0) 27 (0,0)):=b0
 refine' zch (m:=10) (A:=_) 10 (by kernel_rfl) (by kernel_rfl) ?h1 ?h2
 case h1 =>
  refine zab (nv 0) rfl (zag rfl rfl b0 rfl uN rfl (iN _)) ?_
  refine zab (.bool true) rfl (zak (args:=[nv 0]) rfl rfl (fun W => zad Tryz.func118 rfl rfl _ W) (fun W hW => iz_yes W)) ?_;simp only [aP,lA,lZ,lS]
  refine zab (.bool false) rfl (zbg rfl rfl rfl) ?_
  refine zab (.bool false) rfl (zaj (.inl rfl) rfl) ?_;simp only [aP,lA,lZ,lS]
  refine zav rfl ?_
  refine zav rfl ?_;simp only [aP,lA,lZ,lS]
  refine zav rfl ?_
  refine zav rfl ?_;simp only [aP,lA,lZ,lS]
  refine zab (.bool false) rfl (zax rfl rfl rfl) ?_
  refine zab (.bool false) rfl (zaj (.inr rfl) rfl) ?_;simp only [aP,lA,lZ,lS]
  exact zaw
 refine zby rfl (by kernel_rfl) ?_
 intro w2 hE
 refine NoPanic.normal ?_
 replace hx:=hx.trans hE
 clear hE
 go_wp2
 go_ret
 exact ⟨rfl,hx⟩
theorem rng_in {X : Nat} (hX : X < top) (h0 : X ≠ 0) (hl : X < Pt.nn) (w : World) :
  Calls Tryz.prog 85 #[nv X] w fun e w' => e = .returned (.bool true) ∧ Ext w w':=by
 have kX:=veil hX
 have k0:=veil h0
 have kl:=veil hl
 clear hl h0 hX
 unfold nv nc
 go_enter Tryz.func85,Tryz.ntmps85
 go_upto_region 1 with (fail)
 refine zdp fun w1 hx b0 => ?_
 have b0 : w1.heap[w.heap.size]? = some (.cells (nc X) 27 (0,0)):=b0
 refine' zch (m:=10) (A:=_) 10 (by kernel_rfl) (by kernel_rfl) ?h1 ?h2
 case h1 =>
  refine zab (nv X) rfl (zag rfl rfl b0 rfl uN rfl (iN _)) ?_
  refine zab (.bool false) rfl (zak (args:=[nv X]) rfl rfl (fun W => zad Tryz.func118 rfl rfl _ W) (fun W hW => iz_no kX.out k0.out W)) ?_;simp only [aP,lA,lZ,lS]
  refine zab (.bool true) rfl (zbg rfl rfl rfl) ?_
  refine zab (.bool true) rfl (zaj (.inl rfl) rfl) ?_;simp only [aP,lA,lZ,lS]
  refine zam (nv X) rfl (zag rfl rfl b0 rfl uN rfl (iN _)) ?_
  refine zam (nv Pt.nn) rfl (zak (args:=[]) rfl rfl (fun W => zad Tryz.func119 rfl rfl _ W) (fun W hW => pN_is W)) ?_;simp only [aP,lA,lZ,lS]
  refine zam (.int .i64 (cmpN X Pt.nn)) rfl (zak (args:=[nv X,nv Pt.nn]) rfl rfl (fun W => zad Tryz.func113 rfl rfl _ W) (fun W hW => cmp_calls X Pt.nn kX.out zej W)) ?_
  refine zam (.bool true) rfl (zks rfl rfl (cmpL kl.out)) ?_;simp only [aP,lA,lZ,lS]
  refine zab (.bool true) rfl (zax rfl rfl rfl) ?_
  refine zab (.bool true) rfl (zaj (.inr rfl) rfl) ?_;simp only [aP,lA,lZ,lS]
  exact zaw
 refine zby rfl (by kernel_rfl) ?_
 intro w2 hE
 refine NoPanic.normal ?_
 replace hx:=hx.trans hE
 clear hE
 go_wp2
 go_ret
 exact ⟨rfl,hx⟩
theorem rng_out {X : Nat} (hX : X < top) (h0 : X ≠ 0) (hl : ¬ X < Pt.nn) (w : World) :
  Calls Tryz.prog 85 #[nv X] w fun e w' => e = .returned (.bool false) ∧ Ext w w':=by
 have kX:=veil hX
 have k0:=veil h0
 have kl:=veil hl
 clear hl h0 hX
 unfold nv nc
 go_enter Tryz.func85,Tryz.ntmps85
 go_upto_region 1 with (fail)
 refine zdp fun w1 hx b0 => ?_
 have b0 : w1.heap[w.heap.size]? = some (.cells (nc X) 27 (0,0)):=b0
 refine' zch (m:=10) (A:=_) 10 (by kernel_rfl) (by kernel_rfl) ?h1 ?h2
 case h1 =>
  refine zab (nv X) rfl (zag rfl rfl b0 rfl uN rfl (iN _)) ?_
  refine zab (.bool false) rfl (zak (args:=[nv X]) rfl rfl (fun W => zad Tryz.func118 rfl rfl _ W) (fun W hW => iz_no kX.out k0.out W)) ?_;simp only [aP,lA,lZ,lS]
  refine zab (.bool true) rfl (zbg rfl rfl rfl) ?_
  refine zab (.bool true) rfl (zaj (.inl rfl) rfl) ?_;simp only [aP,lA,lZ,lS]
  refine zam (nv X) rfl (zag rfl rfl b0 rfl uN rfl (iN _)) ?_
  refine zam (nv Pt.nn) rfl (zak (args:=[]) rfl rfl (fun W => zad Tryz.func119 rfl rfl _ W) (fun W hW => pN_is W)) ?_;simp only [aP,lA,lZ,lS]
  refine zam (.int .i64 (cmpN X Pt.nn)) rfl (zak (args:=[nv X,nv Pt.nn]) rfl rfl (fun W => zad Tryz.func113 rfl rfl _ W) (fun W hW => cmp_calls X Pt.nn kX.out zej W)) ?_
  refine zam (.bool false) rfl (zks rfl rfl (cmpG kl.out)) ?_;simp only [aP,lA,lZ,lS]
  refine zab (.bool false) rfl (zax rfl rfl rfl) ?_
  refine zab (.bool false) rfl (zaj (.inr rfl) rfl) ?_;simp only [aP,lA,lZ,lS]
  exact zaw
 refine zby rfl (by kernel_rfl) ?_
 intro w2 hE
 refine NoPanic.normal ?_
 replace hx:=hx.trans hE
 clear hE
 go_wp2
 go_ret
 exact ⟨rfl,hx⟩
theorem zjp {X : Nat} {b : Bool} (hb : mayB X = b) (hX : X < top) (w : World) :
  Calls Tryz.prog 85 #[nv X] w fun e w' => e = .returned (.bool b) ∧ Ext w w':=by
 subst hb
 unfold mayB
 by_cases h0 : X = 0
 ·
  subst h0
  exact rng_zero w
 ·
  by_cases hl : X < Pt.nn
  ·
   rw [decide_eq_true h0,decide_eq_true hl]
   exact rng_in hX h0 hl w
  ·
   rw [decide_eq_true h0,decide_eq_false hl]
   exact rng_out hX h0 hl w
theorem zkr (w : World) :
  Calls Tryz.prog 86 #[] w fun e w' => (∃ b,e = .returned (ptrTo b) ∧ w.heap.size ≤ b ∧ Fn w' b) ∧ Ext w w':=by
 go_enter Tryz.func86,Tryz.ntmps86
 go_upto_region 1 with (fail)
 have HN:=veil (pN_is w)
 go_wp2_with (first
  | (go_at_call 119; refine HN.out.mono ?_; rintro e w5 ⟨rfl,hb5⟩)
  | (go_at_call 108; refine (new_good Pt.nn nn_odd.1 nn_odd.2 zej w5).mono ?_; rintro e w6 ⟨⟨b,N,Q,hok,hfb,hge,rfl⟩,hb6⟩))
 go_ret
 exact ⟨⟨b,rfl,Nat.le_trans (Below.size hb5) hge,N,Q,hok,hfb⟩,hb5.trans hb6⟩
theorem numof_calls {y : Nat → Nat} (hy : ∀ j,y j < 256) {X : Nat} (hX : X = num32 y) (w : World) :
  Calls Tryz.prog 90 #[dgv y] w fun e w' => e = .returned (nv X) ∧ Ext w w':=by
 have ky:=veil hy
 have kX:=veil hX
 clear hX hy
 unfold nv nc dgv dgc
 go_enter Tryz.func90,Tryz.ntmps90
 go_upto_region 1 with (fail)
 refine zgd fun w1 hx b0 b1 => ?_
 have b0 : w1.heap[w.heap.size]? = some (.cells (dgc y) 112 (0,0)):=b0
 refine' zbc (m:=5) (A:=_) (by kernel_rfl) ?h1 ?h2
 case h1 =>
  refine zab (.slice (some ⟨w.heap.size,0,none⟩) 32 32) rfl (zhg rfl rfl (sliceD _ ·)) ?_
  refine zab (.tuple #[nv X,.nilIface]) rfl (zak (args:=[.slice (some ⟨w.heap.size,0,none⟩) 32 32]) rfl rfl (fun W => zad Tryz.func81 rfl rfl _ W) (fun W hW => ofl_is ky.out kX.out W (hW.block b0))) ?_;simp only [aP,lA,lZ,lS]
  refine zab (.tuple #[nv X,.nilIface]) rfl (zaj (.inl rfl) rfl) ?_
  refine zab (nv X) rfl (zca rfl rfl rfl) ?_;simp only [aP,lA,lZ,lS]
  refine zab (.nilIface) rfl (zca rfl rfl rfl) ?_;simp only [aP,lA,lZ,lS]
  exact zaw
 refine zdu _ _ rfl rfl rfl rfl rfl rfl rfl (hzN ·) (fun _ => rfl) (fun _ => rfl) (iN _) rfl (zek _) ?_
 intro gx w2 hgx bx hE
 replace b1:=hE.block b1
 replace hx:=hx.trans hE
 clear hE
 simp only [aP,lA,lZ,lS]
 clear hgx
 go_upto_region 2 with (fail)
 refine' zbc (m:=1) (A:=_) (by kernel_rfl) ?h2a ?h2b
 case h2a =>
  refine zab (nv X) rfl (zag rfl rfl bx rfl uN rfl (iN _)) ?_;simp only [aP,lA,lZ,lS]
  exact zaw
 refine zda _ rfl rfl rfl rfl rfl rfl b1 (iN _) rfl (zek _) ?_
 intro w3 hB hb
 go_wp2
 exact bodyPost_ret (results_cell_row rfl _ _ (w.heap.size + 1) 27 (nc X) (0,0) _ rfl hb Tryz.underlying27 rfl (by kernel_rfl)) rfl ⟨rfl,hx.new hB (by omega)⟩
theorem scut_calls {b X Z : Nat} (hZ : Z = X % Pt.nn) (hX : X < top) {w : World} (hF : Fn w b) :
  Calls Tryz.prog 91 #[ptrTo b,nv X] w fun e w' => e = .returned (nv Z) ∧ Ext w w':=by
 have kZ:=veil hZ
 have kX:=veil hX
 clear hX hZ
 unfold nv nc
 go_enter Tryz.func91,Tryz.ntmps91
 go_upto_region 1 with (fail)
 refine zgd fun w1 hx b0 b1 => ?_
 have b0 : w1.heap[w.heap.size]? = some (.cells (nc X) 27 (0,0)):=b0
 have hf:=hF.ext hx
 clear hF
 refine' zbc (m:=4) (A:=_) (by kernel_rfl) ?h1 ?h2
 case h1 =>
  refine zab (ptrTo b) rfl (zaj (.inl rfl) rfl) ?_
  refine zab (nv X) rfl (zag rfl rfl b0 rfl uN rfl (iN _)) ?_;simp only [aP,lA,lZ,lS]
  refine zab (nv 0) rfl (zcd rfl rfl (bldN0 ·)) ?_
  refine zab (nv Z) rfl (zak (args:=[ptrTo b,nv X,nv 0]) rfl rfl (fun W => zad Tryz.func110 rfl rfl _ W) (fun W hW => ncut_p kZ.out kX.out (hf.ext hW))) ?_;simp only [aP,lA,lZ,lS]
  exact zaw
 refine zda _ rfl rfl rfl rfl rfl rfl b1 (iN _) rfl (zek _) ?_
 intro w2 hB hb
 go_wp2
 exact bodyPost_ret (results_cell_row rfl _ _ (w.heap.size + 1) 27 (nc Z) (0,0) _ rfl hb Tryz.underlying27 rfl (by kernel_rfl)) rfl ⟨rfl,hx.new hB (by omega)⟩
theorem sumof_calls {u v X Y : Nat} {f : Bool} {p a b c : Pt.Q} (hu : u < top) (hv : v < top) (hp : X = Pt.pX p.1 ∧ Y = Pt.pY p.1 ∧ f = Pt.pFar p.1) (ha : a = Pt.grp.mul u Pt.base) (hb : b = Pt.grp.mul v p) (hc : c = Pt.grp.op a b) (w : World) :
  Calls Tryz.prog 88 #[nv u,nv v,qv X Y f] w fun e w' => e = .returned (qv (Pt.pX c.1) (Pt.pY c.1) (Pt.pFar c.1)) ∧ Ext w w':=by
 have ku:=veil hu
 have kv:=veil hv
 have kp:=veil hp
 have ka:=veil ha
 have kb:=veil hb
 have kc:=veil hc
 clear hc hb ha hp hv hu
 unfold nv nc qv qc
 go_enter Tryz.func88,Tryz.ntmps88
 go_upto_region 1 with (fail)
 refine wp_via4 fun w1 hx b0 b1 b2 b3 => ?_
 have b0 : w1.heap[w.heap.size]? = some (.cells (nc u) 27 (0,0)):=b0
 have b1 : w1.heap[w.heap.size + 1]? = some (.cells (nc v) 27 (0,0)):=b1
 have b2 : w1.heap[w.heap.size + 1 + 1]? = some (.cells (qc X Y f) 29 (0,0)):=b2
 refine' zet (m:=5) (A:=_) 7 (by kernel_rfl) (by kernel_rfl) (by kernel_rfl) ?h1 ?h2
 case h1 =>
  refine zab (nv u) rfl (zag rfl rfl b0 rfl uN rfl (iN _)) ?_
  refine zab (qv Pt.gx Pt.gy false) rfl (zak (args:=[]) rfl rfl (fun W => zad Tryz.func20 rfl rfl _ W) (fun W hW => base_calls W)) ?_;simp only [aP,lA,lZ,lS]
  refine zab (.tuple #[qv (Pt.pX a.1) (Pt.pY a.1) (Pt.pFar a.1),.nilIface]) rfl (zak (args:=[nv u,qv Pt.gx Pt.gy false]) rfl rfl (fun W => zad Tryz.func125 rfl rfl _ W) (fun W hW => mulb_is ku.out ka.out W)) ?_
  refine zab (.tuple #[qv (Pt.pX a.1) (Pt.pY a.1) (Pt.pFar a.1),.nilIface]) rfl (zaj (.inl rfl) rfl) ?_;simp only [aP,lA,lZ,lS]
  refine zab (qv (Pt.pX a.1) (Pt.pY a.1) (Pt.pFar a.1)) rfl (zca rfl rfl rfl) ?_;simp only [aP,lA,lZ,lS]
  exact zaw
 refine rest_var2 (v:=.nilIface) (vx:=.nilIface) _ _ _ _ rfl rfl rfl rfl rfl rfl rfl rfl rfl rfl rfl rfl rfl rfl rfl rfl (by decide) (by kernel_rfl) (by kernel_rfl) (by kernel_rfl) (by kernel_rfl) (by kernel_rfl) (by kernel_rfl) (by kernel_rfl) rfl rfl rfl rfl rfl rfl (hzT ·) (run_ext rfl rfl rfl) (fun _ => run_ext rfl rfl rfl) (fun _ => rfl) (fun _ => rfl) (fun _ => rfl) (fun _ => rfl) (fun _ => rfl) (iT _ _ _) rfl (zcz _ _ _) ?_
 intro ga w2 hga ba hE
 refine NoPanic.normal ?_
 replace b1:=hE.block b1
 replace b2:=hE.block b2
 replace b3:=hE.block b3
 replace hx:=hx.trans hE
 clear hE
 simp only [aP,lA,lZ,lS]
 clear hga
 go_upto_region 2 with (fail)
 refine' zbc (m:=6) (A:=_) (by kernel_rfl) ?h2a ?h2b
 case h2a =>
  refine zab (nv v) rfl (zag rfl rfl b1 rfl uN rfl (iN _)) ?_
  refine zab (qv X Y f) rfl (zag rfl rfl b2 rfl Tryz.underlying29 rfl (iT _ _ _)) ?_;simp only [aP,lA,lZ,lS]
  refine zab (.tuple #[qv (Pt.pX b.1) (Pt.pY b.1) (Pt.pFar b.1),.nilIface]) rfl (zak (args:=[nv v,qv X Y f]) rfl rfl (fun W => zad Tryz.func125 rfl rfl _ W) (fun W hW => mulq_is kv.out kp.out kb.out W)) ?_
  refine zab (.tuple #[qv (Pt.pX b.1) (Pt.pY b.1) (Pt.pFar b.1),.nilIface]) rfl (zaj (.inl rfl) rfl) ?_;simp only [aP,lA,lZ,lS]
  refine zab (qv (Pt.pX b.1) (Pt.pY b.1) (Pt.pFar b.1)) rfl (zca rfl rfl rfl) ?_
  refine zab (.nilIface) rfl (zca rfl rfl rfl) ?_;simp only [aP,lA,lZ,lS]
  exact zaw
 refine zdu _ _ rfl rfl rfl rfl rfl rfl rfl (hzT ·) (fun _ => rfl) (fun _ => rfl) (iT _ _ _) rfl (zcz _ _ _) ?_
 intro gb w3 hgb bb hE
 replace b3:=hE.block b3
 replace ba:=hE.block ba
 replace hx:=hx.trans hE
 clear hE
 simp only [aP,lA,lZ,lS]
 clear hgb
 go_upto_region 3 with (fail)
 refine' zbc (m:=6) (A:=_) (by kernel_rfl) ?h3a ?h3b
 case h3a =>
  refine zab (qv (Pt.pX a.1) (Pt.pY a.1) (Pt.pFar a.1)) rfl (zag rfl rfl ba rfl Tryz.underlying29 rfl (iT _ _ _)) ?_
  refine zab (qv (Pt.pX b.1) (Pt.pY b.1) (Pt.pFar b.1)) rfl (zag rfl rfl bb rfl Tryz.underlying29 rfl (iT _ _ _)) ?_;simp only [aP,lA,lZ,lS]
  refine zab (.tuple #[qv (Pt.pX c.1) (Pt.pY c.1) (Pt.pFar c.1),.nilIface]) rfl (zak (args:=[qv (Pt.pX a.1) (Pt.pY a.1) (Pt.pFar a.1),qv (Pt.pX b.1) (Pt.pY b.1) (Pt.pFar b.1)]) rfl rfl (fun W => zad Tryz.func126 rfl rfl _ W) (fun W hW => addq_is kc.out W)) ?_
  refine zab (.tuple #[qv (Pt.pX c.1) (Pt.pY c.1) (Pt.pFar c.1),.nilIface]) rfl (zaj (.inl rfl) rfl) ?_;simp only [aP,lA,lZ,lS]
  refine zab (qv (Pt.pX c.1) (Pt.pY c.1) (Pt.pFar c.1)) rfl (zca rfl rfl rfl) ?_
  refine zab (.nilIface) rfl (zca rfl rfl rfl) ?_;simp only [aP,lA,lZ,lS]
  exact zaw
 refine zdu _ _ rfl rfl rfl rfl rfl rfl rfl (hzT ·) (fun _ => rfl) (fun _ => rfl) (iT _ _ _) rfl (zcz _ _ _) ?_
 intro gc w4 hgc bc hE
 replace b3:=hE.block b3
 replace hx:=hx.trans hE
 clear hE
 simp only [aP,lA,lZ,lS]
 clear hgc
 go_upto_region 4 with (fail)
 refine' zbc (m:=1) (A:=_) (by kernel_rfl) ?h4a ?h4b
 case h4a =>
  refine zab (qv (Pt.pX c.1) (Pt.pY c.1) (Pt.pFar c.1)) rfl (zag rfl rfl bc rfl Tryz.underlying29 rfl (iT _ _ _)) ?_;simp only [aP,lA,lZ,lS]
  exact zaw
 refine zda _ rfl rfl rfl rfl rfl rfl b3 (iT _ _ _) rfl (zcz _ _ _) ?_
 intro w5 hB hb
 go_wp2
 exact bodyPost_ret (results_cell_row rfl _ _ (w.heap.size + 1 + 1 + 1) 29 (qc (Pt.pX c.1) (Pt.pY c.1) (Pt.pFar c.1)) (0,0) _ rfl hb Tryz.underlying29 rfl (by kernel_rfl)) rfl ⟨rfl,hx.new hB (by omega)⟩
theorem sver_far {X Y R S : Nat} (hX : X < top) (hY : Y < top) (hR : R < top) (hS : S < top) (y : Nat → Nat) (w : World) :
  Calls Tryz.prog 64 #[qv X Y true,dgv y,gv R S] w fun e w' => e = .returned (.bool false) ∧ Ext w w':=by
 have kX:=veil hX
 have kY:=veil hY
 have kR:=veil hR
 have kS:=veil hS
 clear hS hR hY hX
 unfold qv qc gv gc dgv dgc
 go_enter Tryz.func64,Tryz.ntmps64
 go_upto_region 1 with (fail)
 refine zfj fun w1 hx b0 b1 b2 => ?_
 have b0 : w1.heap[w.heap.size]? = some (.cells (qc X Y true) 29 (0,0)):=b0
 have b1 : w1.heap[w.heap.size + 1]? = some (.cells (dgc y) 112 (0,0)):=b1
 have b2 : w1.heap[w.heap.size + 1 + 1]? = some (.cells (gc R S) 78 (0,0)):=b2
 refine' zdd (m:=19) (A:=_) ?h1 ?h2
 case h1 =>
  refine zab (.pointer (some ⟨w.heap.size,8,none⟩)) rfl (zan rfl rfl (fldT2 _ ·)) ?_
  refine zab (.bool true) rfl (zbe rfl rfl b0 rfl (zce ·)) ?_;simp only [aP,lA,lZ,lS]
  refine zab (.bool true) rfl (zaj (.inl rfl) rfl) ?_
  refine zav rfl ?_;simp only [aP,lA,lZ,lS]
  refine zav rfl ?_
  refine zav rfl ?_;simp only [aP,lA,lZ,lS]
  refine zab (.bool true) rfl (zax rfl rfl rfl) ?_
  refine zab (.bool true) rfl (zaj (.inl rfl) rfl) ?_;simp only [aP,lA,lZ,lS]
  refine zav rfl ?_
  refine zav rfl ?_;simp only [aP,lA,lZ,lS]
  refine zav rfl ?_
  refine zav rfl ?_;simp only [aP,lA,lZ,lS]
  refine zab (.bool true) rfl (zax rfl rfl rfl) ?_
  refine zab (.bool true) rfl (zaj (.inl rfl) rfl) ?_;simp only [aP,lA,lZ,lS]
  refine zav rfl ?_
  refine zav rfl ?_;simp only [aP,lA,lZ,lS]
  refine zav rfl ?_
  refine zav rfl ?_;simp only [aP,lA,lZ,lS]
  refine zab (.bool true) rfl (zax rfl rfl rfl) ?_;simp only [aP,lA,lZ,lS]
  exact zaw
 refine zbi rfl ?_
 intro w2 hE
 replace hx:=hx.trans hE
 clear hE
 go_upto_region 2 with (fail)
 go_wp2
 go_ret
 exact ⟨rfl,hx⟩
theorem sver_off {X Y R S : Nat} (hX : X < top) (hY : Y < top) (hR : R < top) (hS : S < top) (hon : onB X Y false = false) (y : Nat → Nat) (w : World) :
  Calls Tryz.prog 64 #[qv X Y false,dgv y,gv R S] w fun e w' => e = .returned (.bool false) ∧ Ext w w':=by
 have kX:=veil hX
 have kY:=veil hY
 have kR:=veil hR
 have kS:=veil hS
 have kon:=veil hon
 clear hon hS hR hY hX
 unfold qv qc gv gc dgv dgc
 go_enter Tryz.func64,Tryz.ntmps64
 go_upto_region 1 with (fail)
 refine zfj fun w1 hx b0 b1 b2 => ?_
 have b0 : w1.heap[w.heap.size]? = some (.cells (qc X Y false) 29 (0,0)):=b0
 have b1 : w1.heap[w.heap.size + 1]? = some (.cells (dgc y) 112 (0,0)):=b1
 have b2 : w1.heap[w.heap.size + 1 + 1]? = some (.cells (gc R S) 78 (0,0)):=b2
 refine' zdd (m:=19) (A:=_) ?h1 ?h2
 case h1 =>
  refine zab (.pointer (some ⟨w.heap.size,8,none⟩)) rfl (zan rfl rfl (fldT2 _ ·)) ?_
  refine zab (.bool false) rfl (zbe rfl rfl b0 rfl (zce ·)) ?_;simp only [aP,lA,lZ,lS]
  refine zab (.bool false) rfl (zaj (.inl rfl) rfl) ?_
  refine zam (qv X Y false) rfl (zag rfl rfl b0 rfl Tryz.underlying29 rfl (iT _ _ _)) ?_;simp only [aP,lA,lZ,lS]
  refine zam (.bool false) rfl (zak (args:=[qv X Y false]) rfl rfl (fun W => zad Tryz.func47 rfl rfl _ W) (fun W hW => onp_is kon.out kX.out kY.out W)) ?_
  refine zam (.bool true) rfl (zbg rfl rfl rfl) ?_;simp only [aP,lA,lZ,lS]
  refine zab (.bool true) rfl (zax rfl rfl rfl) ?_
  refine zab (.bool true) rfl (zaj (.inl rfl) rfl) ?_;simp only [aP,lA,lZ,lS]
  refine zav rfl ?_
  refine zav rfl ?_;simp only [aP,lA,lZ,lS]
  refine zav rfl ?_
  refine zav rfl ?_;simp only [aP,lA,lZ,lS]
  refine zab (.bool true) rfl (zax rfl rfl rfl) ?_
  refine zab (.bool true) rfl (zaj (.inl rfl) rfl) ?_;simp only [aP,lA,lZ,lS]
  refine zav rfl ?_
  refine zav rfl ?_;simp only [aP,lA,lZ,lS]
  refine zav rfl ?_
  refine zav rfl ?_;simp only [aP,lA,lZ,lS]
  refine zab (.bool true) rfl (zax rfl rfl rfl) ?_;simp only [aP,lA,lZ,lS]
  exact zaw
 refine zbi rfl ?_
 intro w2 hE
 replace hx:=hx.trans hE
 clear hE
 go_upto_region 2 with (fail)
 go_wp2
 go_ret
 exact ⟨rfl,hx⟩
theorem sver_r {X Y R S : Nat} (hX : X < top) (hY : Y < top) (hR : R < top) (hS : S < top) (hon : onB X Y false = true) (hr : mayB R = false) (y : Nat → Nat) (w : World) :
  Calls Tryz.prog 64 #[qv X Y false,dgv y,gv R S] w fun e w' => e = .returned (.bool false) ∧ Ext w w':=by
 have kX:=veil hX
 have kY:=veil hY
 have kR:=veil hR
 have kS:=veil hS
 have kon:=veil hon
 have kr:=veil hr
 clear hr hon hS hR hY hX
 unfold qv qc gv gc dgv dgc
 go_enter Tryz.func64,Tryz.ntmps64
 go_upto_region 1 with (fail)
 refine zfj fun w1 hx b0 b1 b2 => ?_
 have b0 : w1.heap[w.heap.size]? = some (.cells (qc X Y false) 29 (0,0)):=b0
 have b1 : w1.heap[w.heap.size + 1]? = some (.cells (dgc y) 112 (0,0)):=b1
 have b2 : w1.heap[w.heap.size + 1 + 1]? = some (.cells (gc R S) 78 (0,0)):=b2
 refine' zdd (m:=19) (A:=_) ?h1 ?h2
 case h1 =>
  refine zab (.pointer (some ⟨w.heap.size,8,none⟩)) rfl (zan rfl rfl (fldT2 _ ·)) ?_
  refine zab (.bool false) rfl (zbe rfl rfl b0 rfl (zce ·)) ?_;simp only [aP,lA,lZ,lS]
  refine zab (.bool false) rfl (zaj (.inl rfl) rfl) ?_
  refine zam (qv X Y false) rfl (zag rfl rfl b0 rfl Tryz.underlying29 rfl (iT _ _ _)) ?_;simp only [aP,lA,lZ,lS]
  refine zam (.bool true) rfl (zak (args:=[qv X Y false]) rfl rfl (fun W => zad Tryz.func47 rfl rfl _ W) (fun W hW => onp_is kon.out kX.out kY.out W)) ?_
  refine zam (.bool false) rfl (zbg rfl rfl rfl) ?_;simp only [aP,lA,lZ,lS]
  refine zab (.bool false) rfl (zax rfl rfl rfl) ?_
  refine zab (.bool false) rfl (zaj (.inl rfl) rfl) ?_;simp only [aP,lA,lZ,lS]
  refine zam (ptrTo (w.heap.size + 1 + 1)) rfl (zan rfl rfl (fldG0 _ ·)) ?_
  refine zam (nv R) rfl (zag rfl rfl b2 rfl uN rfl (iN _)) ?_;simp only [aP,lA,lZ,lS]
  refine zam (.bool false) rfl (zak (args:=[nv R]) rfl rfl (fun W => zad Tryz.func85 rfl rfl _ W) (fun W hW => zjp kr.out kR.out W)) ?_
  refine zam (.bool true) rfl (zbg rfl rfl rfl) ?_;simp only [aP,lA,lZ,lS]
  refine zab (.bool true) rfl (zax rfl rfl rfl) ?_
  refine zab (.bool true) rfl (zaj (.inl rfl) rfl) ?_;simp only [aP,lA,lZ,lS]
  refine zav rfl ?_
  refine zav rfl ?_;simp only [aP,lA,lZ,lS]
  refine zav rfl ?_
  refine zav rfl ?_;simp only [aP,lA,lZ,lS]
  refine zab (.bool true) rfl (zax rfl rfl rfl) ?_;simp only [aP,lA,lZ,lS]
  exact zaw
 refine zbi rfl ?_
 intro w2 hE
 replace hx:=hx.trans hE
 clear hE
 go_upto_region 2 with (fail)
 go_wp2
 go_ret
 exact ⟨rfl,hx⟩
theorem sver_s {X Y R S : Nat} (hX : X < top) (hY : Y < top) (hR : R < top) (hS : S < top) (hon : onB X Y false = true) (hr : mayB R = true) (hs : mayB S = false) (y : Nat → Nat) (w : World) :
  Calls Tryz.prog 64 #[qv X Y false,dgv y,gv R S] w fun e w' => e = .returned (.bool false) ∧ Ext w w':=by
 have kX:=veil hX
 have kY:=veil hY
 have kR:=veil hR
 have kS:=veil hS
 have kon:=veil hon
 have kr:=veil hr
 have ks:=veil hs
 clear hs hr hon hS hR hY hX
 unfold qv qc gv gc dgv dgc
 go_enter Tryz.func64,Tryz.ntmps64
 go_upto_region 1 with (fail)
 refine zfj fun w1 hx b0 b1 b2 => ?_
 have b0 : w1.heap[w.heap.size]? = some (.cells (qc X Y false) 29 (0,0)):=b0
 have b1 : w1.heap[w.heap.size + 1]? = some (.cells (dgc y) 112 (0,0)):=b1
 have b2 : w1.heap[w.heap.size + 1 + 1]? = some (.cells (gc R S) 78 (0,0)):=b2
 refine' zdd (m:=19) (A:=_) ?h1 ?h2
 case h1 =>
  refine zab (.pointer (some ⟨w.heap.size,8,none⟩)) rfl (zan rfl rfl (fldT2 _ ·)) ?_
  refine zab (.bool false) rfl (zbe rfl rfl b0 rfl (zce ·)) ?_;simp only [aP,lA,lZ,lS]
  refine zab (.bool false) rfl (zaj (.inl rfl) rfl) ?_
  refine zam (qv X Y false) rfl (zag rfl rfl b0 rfl Tryz.underlying29 rfl (iT _ _ _)) ?_;simp only [aP,lA,lZ,lS]
  refine zam (.bool true) rfl (zak (args:=[qv X Y false]) rfl rfl (fun W => zad Tryz.func47 rfl rfl _ W) (fun W hW => onp_is kon.out kX.out kY.out W)) ?_
  refine zam (.bool false) rfl (zbg rfl rfl rfl) ?_;simp only [aP,lA,lZ,lS]
  refine zab (.bool false) rfl (zax rfl rfl rfl) ?_
  refine zab (.bool false) rfl (zaj (.inl rfl) rfl) ?_;simp only [aP,lA,lZ,lS]
  refine zam (ptrTo (w.heap.size + 1 + 1)) rfl (zan rfl rfl (fldG0 _ ·)) ?_
  refine zam (nv R) rfl (zag rfl rfl b2 rfl uN rfl (iN _)) ?_;simp only [aP,lA,lZ,lS]
  refine zam (.bool true) rfl (zak (args:=[nv R]) rfl rfl (fun W => zad Tryz.func85 rfl rfl _ W) (fun W hW => zjp kr.out kR.out W)) ?_
  refine zam (.bool false) rfl (zbg rfl rfl rfl) ?_;simp only [aP,lA,lZ,lS]
  refine zab (.bool false) rfl (zax rfl rfl rfl) ?_
  refine zab (.bool false) rfl (zaj (.inl rfl) rfl) ?_;simp only [aP,lA,lZ,lS]
  refine zam (.pointer (some ⟨w.heap.size + 1 + 1,4,none⟩)) rfl (zan rfl rfl (fldG1 _ ·)) ?_
  refine zam (nv S) rfl (zag rfl rfl b2 rfl uN rfl (iN _)) ?_;simp only [aP,lA,lZ,lS]
  refine zam (.bool false) rfl (zak (args:=[nv S]) rfl rfl (fun W => zad Tryz.func85 rfl rfl _ W) (fun W hW => zjp ks.out kS.out W)) ?_
  refine zam (.bool true) rfl (zbg rfl rfl rfl) ?_;simp only [aP,lA,lZ,lS]
  refine zab (.bool true) rfl (zax rfl rfl rfl) ?_;simp only [aP,lA,lZ,lS]
  exact zaw
 refine zbi rfl ?_
 intro w2 hE
 replace hx:=hx.trans hE
 clear hE
 go_upto_region 2 with (fail)
 go_wp2
 go_ret
 exact ⟨rfl,hx⟩
theorem sver_all_t (y : Nat → Nat) {p a b c : Pt.Q} {X Y R S t E u v m : Nat} (hX : X < top) (hY : Y < top) (hR : R < top) (hS : S < top) (hon : onB X Y false = true) (hr : mayB R = true) (hs : mayB S = true) (hp : X = Pt.pX p.1 ∧ Y = Pt.pY p.1 ∧ false = Pt.pFar p.1) (hy : ∀ j,y j < 256) (hE : E = num32 y) (ht : t = Pt.iG Pt.nn S) (hu : u = E * t % Pt.nn) (hv : v = R * t % Pt.nn) (ha : a = Pt.grp.mul u Pt.base) (hb : b = Pt.grp.mul v p) (hc : c = Pt.grp.op a b) (hfar : Pt.pFar c.1 = true) (hm : m = Pt.pX c.1 % Pt.nn) (w : World) :
  Calls Tryz.prog 64 #[qv X Y false,dgv y,gv R S] w fun e w' => e = .returned (.bool (false)) ∧ Ext w w':=by
 obtain ⟨x,hx0⟩ : ∃ x,x = Pt.pX c.1:=⟨_,rfl⟩
 obtain ⟨z,hz0⟩ : ∃ z,z = Pt.pY c.1:=⟨_,rfl⟩
 have kEt:=veil (show E < top from by rw [hE]; exact num32_lt hy)
 have ksum:=fun W => sumof_calls (w:=W) (mul_top hu) (mul_top hv) hp ha hb hc
 rw [← hx0,← hz0,hfar] at ksum
 have KS:=veil ksum
 have km:=veil (show m = x % Pt.nn ∧ x < top from ⟨by rw [hx0]; exact hm,by rw [hx0]; exact (p_top _).1⟩)
 have kX:=veil hX
 have kY:=veil hY
 have kR:=veil hR
 have kS:=veil hS
 have kon:=veil hon
 have kr:=veil hr
 have ks:=veil hs
 have ky:=veil hy
 have kE:=veil hE
 have kt:=veil ht
 have ku:=veil hu
 have kv:=veil hv
 clear hv hu ht hE hy hs hr hon hS hR hY hX
 clear ksum hp ha hb hc hfar hm hx0 hz0
 unfold qv qc gv gc dgv dgc
 go_enter Tryz.func64,Tryz.ntmps64
 go_upto_region 1 with (fail)
 refine zfj fun w1 hx b0 b1 b2 => ?_
 have b0 : w1.heap[w.heap.size]? = some (.cells (qc X Y false) 29 (0,0)):=b0
 have b1 : w1.heap[w.heap.size + 1]? = some (.cells (dgc y) 112 (0,0)):=b1
 have b2 : w1.heap[w.heap.size + 1 + 1]? = some (.cells (gc R S) 78 (0,0)):=b2
 refine' zdd (m:=19) (A:=_) ?h1 ?h2
 case h1 =>
  refine zab (.pointer (some ⟨w.heap.size,8,none⟩)) rfl (zan rfl rfl (fldT2 _ ·)) ?_
  refine zab (.bool false) rfl (zbe rfl rfl b0 rfl (zce ·)) ?_;simp only [aP,lA,lZ,lS]
  refine zab (.bool false) rfl (zaj (.inl rfl) rfl) ?_
  refine zam (qv X Y false) rfl (zag rfl rfl b0 rfl Tryz.underlying29 rfl (iT _ _ _)) ?_;simp only [aP,lA,lZ,lS]
  refine zam (.bool true) rfl (zak (args:=[qv X Y false]) rfl rfl (fun W => zad Tryz.func47 rfl rfl _ W) (fun W hW => onp_is kon.out kX.out kY.out W)) ?_
  refine zam (.bool false) rfl (zbg rfl rfl rfl) ?_;simp only [aP,lA,lZ,lS]
  refine zab (.bool false) rfl (zax rfl rfl rfl) ?_
  refine zab (.bool false) rfl (zaj (.inl rfl) rfl) ?_;simp only [aP,lA,lZ,lS]
  refine zam (ptrTo (w.heap.size + 1 + 1)) rfl (zan rfl rfl (fldG0 _ ·)) ?_
  refine zam (nv R) rfl (zag rfl rfl b2 rfl uN rfl (iN _)) ?_;simp only [aP,lA,lZ,lS]
  refine zam (.bool true) rfl (zak (args:=[nv R]) rfl rfl (fun W => zad Tryz.func85 rfl rfl _ W) (fun W hW => zjp kr.out kR.out W)) ?_
  refine zam (.bool false) rfl (zbg rfl rfl rfl) ?_;simp only [aP,lA,lZ,lS]
  refine zab (.bool false) rfl (zax rfl rfl rfl) ?_
  refine zab (.bool false) rfl (zaj (.inl rfl) rfl) ?_;simp only [aP,lA,lZ,lS]
  refine zam (.pointer (some ⟨w.heap.size + 1 + 1,4,none⟩)) rfl (zan rfl rfl (fldG1 _ ·)) ?_
  refine zam (nv S) rfl (zag rfl rfl b2 rfl uN rfl (iN _)) ?_;simp only [aP,lA,lZ,lS]
  refine zam (.bool true) rfl (zak (args:=[nv S]) rfl rfl (fun W => zad Tryz.func85 rfl rfl _ W) (fun W hW => zjp ks.out kS.out W)) ?_
  refine zam (.bool false) rfl (zbg rfl rfl rfl) ?_;simp only [aP,lA,lZ,lS]
  refine zab (.bool false) rfl (zax rfl rfl rfl) ?_;simp only [aP,lA,lZ,lS]
  exact zaw
 refine zbi rfl ?_
 intro w2 hE
 replace b0:=hE.block b0
 replace b1:=hE.block b1
 replace b2:=hE.block b2
 replace hx:=hx.trans hE
 clear hE
 go_upto_region 3 with (fail)
 refine wp_region_lit ?_
 refine zfi (R:=fun t W' => ∃ b,t = ptrTo b ∧ Fn W' b ∧ Ext w2 W') (args:=[]) rfl rfl rfl (fun W => zad Tryz.func86 rfl rfl _ W) ((zkr w2).mono fun e W' ⟨⟨b,he,_,hF⟩,hE⟩ => ⟨_,he,b,rfl,hF,hE⟩) ?_
 rintro t0 w3 ⟨gf,rfl,hf,hE⟩
 replace b0:=hE.block b0
 replace b1:=hE.block b1
 replace b2:=hE.block b2
 replace hx:=hx.trans hE
 clear hE
 simp only [aP,lA,lZ,lS]
 go_upto_region 4 with (fail)
 refine' zbc (m:=7) (A:=_) (by kernel_rfl) ?h2a ?h2b
 case h2a =>
  refine zab (ptrTo gf) rfl (zaj (.inl rfl) rfl) ?_
  refine zab (.pointer (some ⟨w.heap.size + 1 + 1,4,none⟩)) rfl (zan rfl rfl (fldG1 _ ·)) ?_;simp only [aP,lA,lZ,lS]
  refine zab (nv S) rfl (zag rfl rfl b2 rfl uN rfl (iN _)) ?_
  refine zab (.tuple #[nv t,.nilIface]) rfl (zak (args:=[ptrTo gf,nv S]) rfl rfl (fun W => zad Tryz.func87 rfl rfl _ W) (fun W hW => ninv_p (may_ne ks.out) (may_lt ks.out) kt.out (hf.ext hW))) ?_;simp only [aP,lA,lZ,lS]
  refine zab (.tuple #[nv t,.nilIface]) rfl (zaj (.inl rfl) rfl) ?_
  refine zab (nv t) rfl (zca rfl rfl rfl) ?_;simp only [aP,lA,lZ,lS]
  refine zab (.nilIface) rfl (zca rfl rfl rfl) ?_;simp only [aP,lA,lZ,lS]
  exact zaw
 refine zdu _ _ rfl rfl rfl rfl rfl rfl rfl (hzN ·) (fun _ => rfl) (fun _ => rfl) (iN _) rfl (zek _) ?_
 intro gt w4 hgt bt hE
 replace b0:=hE.block b0
 replace b1:=hE.block b1
 replace b2:=hE.block b2
 replace hf:=hf.ext hE
 replace hx:=hx.trans hE
 clear hE
 simp only [aP,lA,lZ,lS]
 clear hgt
 go_upto_region 5 with (fail)
 refine' zet (m:=12) (A:=_) 13 (by kernel_rfl) (by kernel_rfl) (by kernel_rfl) ?h3a ?h3b
 case h3a =>
  refine zab (ptrTo gf) rfl (zaj (.inl rfl) rfl) ?_
  refine zab (dgv y) rfl (zag rfl rfl b1 rfl Tryz.underlying112 rfl (iDg _)) ?_;simp only [aP,lA,lZ,lS]
  refine zab (nv E) rfl (zak (args:=[dgv y]) rfl rfl (fun W => zad Tryz.func90 rfl rfl _ W) (fun W hW => numof_calls ky.out kE.out W)) ?_
  refine zab (nv t) rfl (zag rfl rfl bt rfl uN rfl (iN _)) ?_;simp only [aP,lA,lZ,lS]
  refine zab (nv u) rfl (zak (args:=[ptrTo gf,nv E,nv t]) rfl rfl (fun W => zad Tryz.func89 rfl rfl _ W) (fun W hW => nmul_p ku.out kEt.out (zja kt.out) (hf.ext hW))) ?_
  refine zab (ptrTo gf) rfl (zaj (.inl rfl) rfl) ?_;simp only [aP,lA,lZ,lS]
  refine zab (ptrTo (w.heap.size + 1 + 1)) rfl (zan rfl rfl (fldG0 _ ·)) ?_
  refine zab (nv R) rfl (zag rfl rfl b2 rfl uN rfl (iN _)) ?_;simp only [aP,lA,lZ,lS]
  refine zab (nv t) rfl (zag rfl rfl bt rfl uN rfl (iN _)) ?_
  refine zab (nv v) rfl (zak (args:=[ptrTo gf,nv R,nv t]) rfl rfl (fun W => zad Tryz.func89 rfl rfl _ W) (fun W hW => nmul_p kv.out kR.out (zja kt.out) (hf.ext hW))) ?_;simp only [aP,lA,lZ,lS]
  refine zab (qv X Y false) rfl (zag rfl rfl b0 rfl Tryz.underlying29 rfl (iT _ _ _)) ?_
  refine zab (qv x z true) rfl (zak (args:=[nv u,nv v,qv X Y false]) rfl rfl (fun W => zad Tryz.func88 rfl rfl _ W) (fun W hW => KS.out W)) ?_;simp only [aP,lA,lZ,lS]
  exact zaw
 refine zhu _ _ rfl rfl rfl rfl rfl rfl rfl rfl rfl (by kernel_rfl) (by kernel_rfl) (by kernel_rfl) rfl rfl (hzT ·) (fun _ => rfl) (fun _ => rfl) (iT _ _ _) rfl (zcz _ _ _) ?_
 intro gc w5 hgc bc hE
 refine NoPanic.normal ?_
 replace hf:=hf.ext hE
 replace hx:=hx.trans hE
 clear hE
 simp only [aP,lA,lZ,lS]
 clear hgc
 go_upto_region 6 with (fail)
 refine' zch (m:=13) (A:=_) 13 (by kernel_rfl) (by kernel_rfl) ?h4a ?h4b
 case h4a =>
  refine zab (.pointer (some ⟨gc,8,none⟩)) rfl (zan rfl rfl (fldT2 _ ·)) ?_
  refine zab (.bool true) rfl (zbe rfl rfl bc rfl (zce ·)) ?_;simp only [aP,lA,lZ,lS]
  refine zab (.bool false) rfl (zbg rfl rfl rfl) ?_
  refine zab (.bool false) rfl (zaj (.inl rfl) rfl) ?_;simp only [aP,lA,lZ,lS]
  refine zav rfl ?_
  refine zav rfl ?_;simp only [aP,lA,lZ,lS]
  refine zav rfl ?_
  refine zav rfl ?_;simp only [aP,lA,lZ,lS]
  refine zav rfl ?_
  refine zav rfl ?_;simp only [aP,lA,lZ,lS]
  refine zav rfl ?_
  refine zab (.bool false) rfl (zax rfl rfl rfl) ?_;simp only [aP,lA,lZ,lS]
  refine zab (.bool false) rfl (zaj (.inr rfl) rfl) ?_;simp only [aP,lA,lZ,lS]
  exact zaw
 refine zby rfl (by kernel_rfl) ?_
 intro w6 hE
 refine NoPanic.normal ?_
 replace hf:=hf.ext hE
 replace hx:=hx.trans hE
 clear hE
 go_wp2
 go_ret
 exact ⟨rfl,hx⟩
theorem sver_all_f (y : Nat → Nat) {p a b c : Pt.Q} {X Y R S t E u v m : Nat} (hX : X < top) (hY : Y < top) (hR : R < top) (hS : S < top) (hon : onB X Y false = true) (hr : mayB R = true) (hs : mayB S = true) (hp : X = Pt.pX p.1 ∧ Y = Pt.pY p.1 ∧ false = Pt.pFar p.1) (hy : ∀ j,y j < 256) (hE : E = num32 y) (ht : t = Pt.iG Pt.nn S) (hu : u = E * t % Pt.nn) (hv : v = R * t % Pt.nn) (ha : a = Pt.grp.mul u Pt.base) (hb : b = Pt.grp.mul v p) (hc : c = Pt.grp.op a b) (hfar : Pt.pFar c.1 = false) (hm : m = Pt.pX c.1 % Pt.nn) (w : World) :
  Calls Tryz.prog 64 #[qv X Y false,dgv y,gv R S] w fun e w' => e = .returned (.bool (decide (m = R))) ∧ Ext w w':=by
 obtain ⟨x,hx0⟩ : ∃ x,x = Pt.pX c.1:=⟨_,rfl⟩
 obtain ⟨z,hz0⟩ : ∃ z,z = Pt.pY c.1:=⟨_,rfl⟩
 have kEt:=veil (show E < top from by rw [hE]; exact num32_lt hy)
 have ksum:=fun W => sumof_calls (w:=W) (mul_top hu) (mul_top hv) hp ha hb hc
 rw [← hx0,← hz0,hfar] at ksum
 have KS:=veil ksum
 have km:=veil (show m = x % Pt.nn ∧ x < top from ⟨by rw [hx0]; exact hm,by rw [hx0]; exact (p_top _).1⟩)
 have kX:=veil hX
 have kY:=veil hY
 have kR:=veil hR
 have kS:=veil hS
 have kon:=veil hon
 have kr:=veil hr
 have ks:=veil hs
 have ky:=veil hy
 have kE:=veil hE
 have kt:=veil ht
 have ku:=veil hu
 have kv:=veil hv
 clear hv hu ht hE hy hs hr hon hS hR hY hX
 clear ksum hp ha hb hc hfar hm hx0 hz0
 unfold qv qc gv gc dgv dgc
 go_enter Tryz.func64,Tryz.ntmps64
 go_upto_region 1 with (fail)
 refine zfj fun w1 hx b0 b1 b2 => ?_
 have b0 : w1.heap[w.heap.size]? = some (.cells (qc X Y false) 29 (0,0)):=b0
 have b1 : w1.heap[w.heap.size + 1]? = some (.cells (dgc y) 112 (0,0)):=b1
 have b2 : w1.heap[w.heap.size + 1 + 1]? = some (.cells (gc R S) 78 (0,0)):=b2
 refine' zdd (m:=19) (A:=_) ?h1 ?h2
 case h1 =>
  refine zab (.pointer (some ⟨w.heap.size,8,none⟩)) rfl (zan rfl rfl (fldT2 _ ·)) ?_
  refine zab (.bool false) rfl (zbe rfl rfl b0 rfl (zce ·)) ?_;simp only [aP,lA,lZ,lS]
  refine zab (.bool false) rfl (zaj (.inl rfl) rfl) ?_
  refine zam (qv X Y false) rfl (zag rfl rfl b0 rfl Tryz.underlying29 rfl (iT _ _ _)) ?_;simp only [aP,lA,lZ,lS]
  refine zam (.bool true) rfl (zak (args:=[qv X Y false]) rfl rfl (fun W => zad Tryz.func47 rfl rfl _ W) (fun W hW => onp_is kon.out kX.out kY.out W)) ?_
  refine zam (.bool false) rfl (zbg rfl rfl rfl) ?_;simp only [aP,lA,lZ,lS]
  refine zab (.bool false) rfl (zax rfl rfl rfl) ?_
  refine zab (.bool false) rfl (zaj (.inl rfl) rfl) ?_;simp only [aP,lA,lZ,lS]
  refine zam (ptrTo (w.heap.size + 1 + 1)) rfl (zan rfl rfl (fldG0 _ ·)) ?_
  refine zam (nv R) rfl (zag rfl rfl b2 rfl uN rfl (iN _)) ?_;simp only [aP,lA,lZ,lS]
  refine zam (.bool true) rfl (zak (args:=[nv R]) rfl rfl (fun W => zad Tryz.func85 rfl rfl _ W) (fun W hW => zjp kr.out kR.out W)) ?_
  refine zam (.bool false) rfl (zbg rfl rfl rfl) ?_;simp only [aP,lA,lZ,lS]
  refine zab (.bool false) rfl (zax rfl rfl rfl) ?_
  refine zab (.bool false) rfl (zaj (.inl rfl) rfl) ?_;simp only [aP,lA,lZ,lS]
  refine zam (.pointer (some ⟨w.heap.size + 1 + 1,4,none⟩)) rfl (zan rfl rfl (fldG1 _ ·)) ?_
  refine zam (nv S) rfl (zag rfl rfl b2 rfl uN rfl (iN _)) ?_;simp only [aP,lA,lZ,lS]
  refine zam (.bool true) rfl (zak (args:=[nv S]) rfl rfl (fun W => zad Tryz.func85 rfl rfl _ W) (fun W hW => zjp ks.out kS.out W)) ?_
  refine zam (.bool false) rfl (zbg rfl rfl rfl) ?_;simp only [aP,lA,lZ,lS]
  refine zab (.bool false) rfl (zax rfl rfl rfl) ?_;simp only [aP,lA,lZ,lS]
  exact zaw
 refine zbi rfl ?_
 intro w2 hE
 replace b0:=hE.block b0
 replace b1:=hE.block b1
 replace b2:=hE.block b2
 replace hx:=hx.trans hE
 clear hE
 go_upto_region 3 with (fail)
 refine wp_region_lit ?_
 refine zfi (R:=fun t W' => ∃ b,t = ptrTo b ∧ Fn W' b ∧ Ext w2 W') (args:=[]) rfl rfl rfl (fun W => zad Tryz.func86 rfl rfl _ W) ((zkr w2).mono fun e W' ⟨⟨b,he,_,hF⟩,hE⟩ => ⟨_,he,b,rfl,hF,hE⟩) ?_
 rintro t0 w3 ⟨gf,rfl,hf,hE⟩
 replace b0:=hE.block b0
 replace b1:=hE.block b1
 replace b2:=hE.block b2
 replace hx:=hx.trans hE
 clear hE
 simp only [aP,lA,lZ,lS]
 go_upto_region 4 with (fail)
 refine' zbc (m:=7) (A:=_) (by kernel_rfl) ?h2a ?h2b
 case h2a =>
  refine zab (ptrTo gf) rfl (zaj (.inl rfl) rfl) ?_
  refine zab (.pointer (some ⟨w.heap.size + 1 + 1,4,none⟩)) rfl (zan rfl rfl (fldG1 _ ·)) ?_;simp only [aP,lA,lZ,lS]
  refine zab (nv S) rfl (zag rfl rfl b2 rfl uN rfl (iN _)) ?_
  refine zab (.tuple #[nv t,.nilIface]) rfl (zak (args:=[ptrTo gf,nv S]) rfl rfl (fun W => zad Tryz.func87 rfl rfl _ W) (fun W hW => ninv_p (may_ne ks.out) (may_lt ks.out) kt.out (hf.ext hW))) ?_;simp only [aP,lA,lZ,lS]
  refine zab (.tuple #[nv t,.nilIface]) rfl (zaj (.inl rfl) rfl) ?_
  refine zab (nv t) rfl (zca rfl rfl rfl) ?_;simp only [aP,lA,lZ,lS]
  refine zab (.nilIface) rfl (zca rfl rfl rfl) ?_;simp only [aP,lA,lZ,lS]
  exact zaw
 refine zdu _ _ rfl rfl rfl rfl rfl rfl rfl (hzN ·) (fun _ => rfl) (fun _ => rfl) (iN _) rfl (zek _) ?_
 intro gt w4 hgt bt hE
 replace b0:=hE.block b0
 replace b1:=hE.block b1
 replace b2:=hE.block b2
 replace hf:=hf.ext hE
 replace hx:=hx.trans hE
 clear hE
 simp only [aP,lA,lZ,lS]
 clear hgt
 go_upto_region 5 with (fail)
 refine' zet (m:=12) (A:=_) 13 (by kernel_rfl) (by kernel_rfl) (by kernel_rfl) ?h3a ?h3b
 case h3a =>
  refine zab (ptrTo gf) rfl (zaj (.inl rfl) rfl) ?_
  refine zab (dgv y) rfl (zag rfl rfl b1 rfl Tryz.underlying112 rfl (iDg _)) ?_;simp only [aP,lA,lZ,lS]
  refine zab (nv E) rfl (zak (args:=[dgv y]) rfl rfl (fun W => zad Tryz.func90 rfl rfl _ W) (fun W hW => numof_calls ky.out kE.out W)) ?_
  refine zab (nv t) rfl (zag rfl rfl bt rfl uN rfl (iN _)) ?_;simp only [aP,lA,lZ,lS]
  refine zab (nv u) rfl (zak (args:=[ptrTo gf,nv E,nv t]) rfl rfl (fun W => zad Tryz.func89 rfl rfl _ W) (fun W hW => nmul_p ku.out kEt.out (zja kt.out) (hf.ext hW))) ?_
  refine zab (ptrTo gf) rfl (zaj (.inl rfl) rfl) ?_;simp only [aP,lA,lZ,lS]
  refine zab (ptrTo (w.heap.size + 1 + 1)) rfl (zan rfl rfl (fldG0 _ ·)) ?_
  refine zab (nv R) rfl (zag rfl rfl b2 rfl uN rfl (iN _)) ?_;simp only [aP,lA,lZ,lS]
  refine zab (nv t) rfl (zag rfl rfl bt rfl uN rfl (iN _)) ?_
  refine zab (nv v) rfl (zak (args:=[ptrTo gf,nv R,nv t]) rfl rfl (fun W => zad Tryz.func89 rfl rfl _ W) (fun W hW => nmul_p kv.out kR.out (zja kt.out) (hf.ext hW))) ?_;simp only [aP,lA,lZ,lS]
  refine zab (qv X Y false) rfl (zag rfl rfl b0 rfl Tryz.underlying29 rfl (iT _ _ _)) ?_
  refine zab (qv x z false) rfl (zak (args:=[nv u,nv v,qv X Y false]) rfl rfl (fun W => zad Tryz.func88 rfl rfl _ W) (fun W hW => KS.out W)) ?_;simp only [aP,lA,lZ,lS]
  exact zaw
 refine zhu _ _ rfl rfl rfl rfl rfl rfl rfl rfl rfl (by kernel_rfl) (by kernel_rfl) (by kernel_rfl) rfl rfl (hzT ·) (fun _ => rfl) (fun _ => rfl) (iT _ _ _) rfl (zcz _ _ _) ?_
 intro gc w5 hgc bc hE
 refine NoPanic.normal ?_
 replace b2:=hE.block b2
 replace hf:=hf.ext hE
 replace hx:=hx.trans hE
 clear hE
 simp only [aP,lA,lZ,lS]
 clear hgc
 go_upto_region 6 with (fail)
 refine' zch (m:=13) (A:=_) 13 (by kernel_rfl) (by kernel_rfl) ?h4a ?h4b
 case h4a =>
  refine zab (.pointer (some ⟨gc,8,none⟩)) rfl (zan rfl rfl (fldT2 _ ·)) ?_
  refine zab (.bool false) rfl (zbe rfl rfl bc rfl (zce ·)) ?_;simp only [aP,lA,lZ,lS]
  refine zab (.bool true) rfl (zbg rfl rfl rfl) ?_
  refine zab (.bool true) rfl (zaj (.inl rfl) rfl) ?_;simp only [aP,lA,lZ,lS]
  refine zam (ptrTo gf) rfl (zaj (.inl rfl) rfl) ?_
  refine zam (ptrTo gc) rfl (zan rfl rfl (fldT0 _ ·)) ?_;simp only [aP,lA,lZ,lS]
  refine zam (nv x) rfl (zag rfl rfl bc rfl uN rfl (iN _)) ?_
  refine zam (nv m) rfl (zak (args:=[ptrTo gf,nv x]) rfl rfl (fun W => zad Tryz.func91 rfl rfl _ W) (fun W hW => scut_calls km.out.1 km.out.2 (hf.ext hW))) ?_;simp only [aP,lA,lZ,lS]
  refine zam (ptrTo (w.heap.size + 1 + 1)) rfl (zan rfl rfl (fldG0 _ ·)) ?_
  refine zam (nv R) rfl (zag rfl rfl b2 rfl uN rfl (iN _)) ?_;simp only [aP,lA,lZ,lS]
  refine zam (.bool (decide (m = R))) rfl (made_eqn rfl rfl rfl (mod_top km.out.1) kR.out) ?_
  refine zab (.bool (decide (m = R))) rfl (zax rfl rfl rfl) ?_;simp only [aP,lA,lZ,lS]
  refine zab (.bool (decide (m = R))) rfl (zaj (.inr rfl) rfl) ?_;simp only [aP,lA,lZ,lS]
  exact zaw
 refine zby rfl (by kernel_rfl) ?_
 intro w6 hE
 refine NoPanic.normal ?_
 replace hf:=hf.ext hE
 replace hx:=hx.trans hE
 clear hE
 go_wp2
 go_ret
 exact ⟨rfl,hx⟩
theorem sver_no {X Y R S : Nat} {f : Bool} (hX : X < top) (hY : Y < top) (hR : R < top) (hS : S < top) (h : onB X Y f = false) (y : Nat → Nat) (w : World) :
  Calls Tryz.prog 64 #[qv X Y f,dgv y,gv R S] w fun e w' => e = .returned (.bool false) ∧ Ext w w':=by
 cases f with
 | true => exact sver_far hX hY hR hS y w
 | false => exact sver_off hX hY hR hS h y w
theorem mod_mul_l (E t : Nat) : E * t % Pt.nn = E % Pt.nn * t % Pt.nn:=by
 have h1:=Nat.mul_mod E t Pt.nn
 have h2:=Nat.mul_mod (E % Pt.nn) t Pt.nn
 rw [Nat.mod_mod] at h2
 rw [h1,h2]
theorem sver_yes (p : Pt.Q) {R S : Nat} (hR : R < top) (hS : S < top) (y : Nat → Nat) (hy : ∀ j,y j < 256) (w : World) :
  Calls Tryz.prog 64 #[pv p,dgv y,gv R S] w fun e w' => e = .returned (.bool (Pt.verB p (num32 y) R S)) ∧ Ext w w':=by
 have hon:=onB_of p
 have hX:=(p_top p.1).1
 have hY:=(p_top p.1).2
 have hsum : Pt.sumOf p (num32 y) R S = Pt.grp.op (Pt.grp.mul (num32 y * Pt.iG Pt.nn S % Pt.nn) Pt.base) (Pt.grp.mul (R * Pt.iG Pt.nn S % Pt.nn) p):=by
  unfold Pt.sumOf
  rw [← mod_mul_l]
 unfold pv Pt.verB
 rw [inR_may,inR_may]
 cases hf : Pt.pFar p.1 with
 | true => exact sver_far hX hY hR hS y w
 | false =>
  rw [hf] at hon
  cases hr : mayB R with
  | false => exact sver_r hX hY hR hS hon hr y w
  | true =>
   cases hs : mayB S with
   | false => exact sver_s hX hY hR hS hon hr hs y w
   | true =>
    cases hc : Pt.pFar (Pt.sumOf p (num32 y) R S).1 with
    | true => exact sver_all_t (p:=p) y hX hY hR hS hon hr hs ⟨rfl,rfl,hf.symm⟩ hy rfl rfl rfl rfl rfl rfl hsum hc rfl w
    | false =>
     refine (sver_all_f (p:=p) (m:=Pt.pX (Pt.sumOf p (num32 y) R S).1 % Pt.nn) y hX hY hR hS hon hr hs ⟨rfl,rfl,hf.symm⟩ hy rfl rfl rfl rfl rfl rfl hsum hc rfl w).mono ?_
     rintro e w' ⟨rfl,hE⟩
     exact ⟨by simp only [Bool.not_false,Bool.true_and],hE⟩
theorem le_lo (y : Nat → Nat) : lev (fun k => y (32 - 1 - k)) 32 = be32 y 0:=by
 unfold be32
 simp only [Nat.zero_add]
theorem le_hi (y : Nat → Nat) : lev (fun k => y (32 + (32 - 1 - k))) 32 = be32 y 32:=rfl
theorem ofl_lo {b o c : Nat} {y : Nat → Nat} (hy : ∀ j,y j < 256) {w : World} (hlt : b < w.heap.size) (hcell : ∀ j,j < 64 → w.cell? ⟨b,o + j,none⟩ = some (.int .u8 (y j : Nat))) (W : World) (hW : Ext w W) : Calls Tryz.prog 81 #[.slice (some ⟨b,o,none⟩) 32 c] W fun e W' => e = .returned (.tuple #[nv (be32 y 0),.nilIface]) ∧ Ext W W':=by
 have h:=of_some b o 32 c y hy (by decide) W (Nat.lt_of_lt_of_le hlt (Below.size hW)) (fun j hj => (Below.cell (p:=⟨b,o + j,none⟩) hW hlt).trans (hcell j (by omega)))
 rw [le_lo] at h
 exact h
theorem ofl_hi {b o c : Nat} {y : Nat → Nat} (hy : ∀ j,y j < 256) {w : World} (hlt : b < w.heap.size) (hcell : ∀ j,j < 64 → w.cell? ⟨b,o + j,none⟩ = some (.int .u8 (y j : Nat))) (W : World) (hW : Ext w W) : Calls Tryz.prog 81 #[.slice (some ⟨b,o + 32,none⟩) 32 (c - 32)] W fun e W' => e = .returned (.tuple #[nv (be32 y 32),.nilIface]) ∧ Ext W W':=by
 have h:=of_some b (o + 32) 32 (c - 32) (fun j => y (32 + j)) (fun j => hy _) (by decide) W (Nat.lt_of_lt_of_le hlt (Below.size hW)) (fun j hj => by
  rw [Nat.add_assoc]
  exact (Below.cell (p:=⟨b,o + (32 + j),none⟩) hW hlt).trans (hcell (32 + j) (by omega)))
 rw [le_hi] at h
 exact h
theorem cut_lo (b o : Nat) {c : Nat} (hc : 64 ≤ c) (W : World) : (Instr.sliceAt 33 (.slice (some ⟨b,o,none⟩) 64 c) none (some (.int .i64 32)) none).run Tryz.prog W = .ok (.slice (some ⟨b,o,none⟩) 32 c) W:=by
 have h:=cut_to (some ⟨b,o,none⟩) 64 c 32 (by omega) W
 unfold cutA at h
 by_cases h0 : c = 0
 ·
  omega
 ·
  simpa [Addr.add_mid,h0] using h
theorem cut_hi (b o : Nat) {c : Nat} (hc : 64 ≤ c) (W : World) : (Instr.sliceAt 33 (.slice (some ⟨b,o,none⟩) 64 c) (some (.int .i64 32)) none none).run Tryz.prog W = .ok (.slice (some ⟨b,o + 32,none⟩) 32 (c - 32)) W:=by
 have h:=cut_from (some ⟨b,o,none⟩) 64 c 32 (by omega) W
 unfold cutA at h
 rw [if_neg (by omega)] at h
 simpa [Addr.add_mid] using h
theorem sparse_no (A : Option Addr) (n c : Nat) (hn : n ≠ 64) (w : World) :
  Calls Tryz.prog 62 #[.slice A n c] w fun e w' => e = .returned (.tuple #[gv 0 0,.iface 39 (.int .i64 2)]) ∧ Ext w w':=by
 have hn2 : ¬ (n : Int) = 64:=by omega
 clear hn
 go_enter Tryz.func62,Tryz.ntmps62
 go_upto_region 1 with (fail)
 rw [gc_zero]
 refine zdp fun w1 hx b0 => ?_
 go_upto_region 2 with (fail)
 refine' zbc (m:=2) (A:=_) (by kernel_rfl) ?h1 ?h2
 case h1 =>
  refine zab (gv 0 0) rfl (zcd rfl rfl (bldG0 ·)) ?_
  refine zab (.iface 39 (.int .i64 2)) rfl (made_iface rfl (mkErr2 ·)) ?_;simp only [aP,lA,lZ,lS]
  exact zaw
 refine zfn _ rfl rfl rfl rfl rfl rfl b0 (iSg _ _) (gc_size _ _) (zcw _ _) ?_
 intro w2 hB hb
 go_wp2
 exact bodyPost_ret (zck rfl _ _ (w.heap.size) 78 (gc 0 0) (0,0) _ rfl hb Tryz.underlying78 rfl (iSg _ _)) rfl ⟨rfl,hx.new hB (by omega)⟩
theorem sparse_64 (b o c : Nat) (y : Nat → Nat) (hy : ∀ j,y j < 256) (hc : 64 ≤ c) (w : World) (hlt : b < w.heap.size) (hcell : ∀ j,j < 64 → w.cell? ⟨b,o + j,none⟩ = some (.int .u8 (y j : Nat))) :
  Calls Tryz.prog 62 #[.slice (some ⟨b,o,none⟩) 64 c] w fun e w' => e = .returned (.tuple #[gv (be32 y 0) (be32 y 32),.nilIface]) ∧ Ext w w':=by
 have kx:=fun (W : World) (hW : Ext w W) => ofl_lo (c:=c) hy hlt hcell W hW
 have ky:=fun (W : World) (hW : Ext w W) => ofl_hi (c:=c) hy hlt hcell W hW
 have q1:=cut_lo b o hc
 have q2:=cut_hi b o hc
 clear hy hc hlt hcell
 generalize be32 y 0 = PX at *
 generalize be32 y 32 = PY at *
 have KX:=veil kx
 have KY:=veil ky
 have Q1:=veil q1
 have Q2:=veil q2
 clear q1 q2 kx ky
 go_enter Tryz.func62,Tryz.ntmps62
 go_upto_region 1 with (fail)
 rw [gc_zero]
 refine zdp fun w1 hx b0 => ?_
 go_upto_region 3 with (fail)
 refine' zbc (m:=6) (A:=_) (by kernel_rfl) ?h1 ?h2
 case h1 =>
  refine zab (.slice (some ⟨b,o,none⟩) 64 c) rfl (zaj (.inl rfl) rfl) ?_
  refine zab (.slice (some ⟨b,o,none⟩) 32 c) rfl (zhg rfl rfl Q1.out) ?_;simp only [aP,lA,lZ,lS]
  refine zab (.tuple #[nv PX,.nilIface]) rfl (zak (args:=[.slice (some ⟨b,o,none⟩) 32 c]) rfl rfl (fun W => zad Tryz.func81 rfl rfl _ W) (fun W hW => KX.out W (hx.trans hW))) ?_
  refine zab (.tuple #[nv PX,.nilIface]) rfl (zaj (.inl rfl) rfl) ?_;simp only [aP,lA,lZ,lS]
  refine zab (nv PX) rfl (zca rfl rfl rfl) ?_
  refine zab (.nilIface) rfl (zca rfl rfl rfl) ?_;simp only [aP,lA,lZ,lS]
  exact zaw
 refine zdu _ _ rfl rfl rfl rfl rfl rfl rfl (hzN ·) (fun _ => rfl) (fun _ => rfl) (iN _) (hsN _) (zek _) ?_
 intro gx w2 hgx bx hE
 replace b0:=hE.block b0
 replace hx:=hx.trans hE
 clear hE
 simp only [aP,lA,lZ,lS]
 clear hgx
 go_upto_region 4 with (fail)
 refine' zbc (m:=6) (A:=_) (by kernel_rfl) ?h2a ?h2b
 case h2a =>
  refine zab (.slice (some ⟨b,o,none⟩) 64 c) rfl (zaj (.inl rfl) rfl) ?_
  refine zab (.slice (some ⟨b,o + 32,none⟩) 32 (c - 32)) rfl (zhg rfl rfl Q2.out) ?_;simp only [aP,lA,lZ,lS]
  refine zab (.tuple #[nv PY,.nilIface]) rfl (zak (args:=[.slice (some ⟨b,o + 32,none⟩) 32 (c - 32)]) rfl rfl (fun W => zad Tryz.func81 rfl rfl _ W) (fun W hW => KY.out W (hx.trans hW))) ?_
  refine zab (.tuple #[nv PY,.nilIface]) rfl (zaj (.inl rfl) rfl) ?_;simp only [aP,lA,lZ,lS]
  refine zab (nv PY) rfl (zca rfl rfl rfl) ?_
  refine zab (.nilIface) rfl (zca rfl rfl rfl) ?_;simp only [aP,lA,lZ,lS]
  exact zaw
 refine zdu _ _ rfl rfl rfl rfl rfl rfl rfl (hzN ·) (fun _ => rfl) (fun _ => rfl) (iN _) (hsN _) (zek _) ?_
 intro gz w3 hgz bz hE
 replace b0:=hE.block b0
 replace bx:=hE.block bx
 replace hx:=hx.trans hE
 clear hE
 simp only [aP,lA,lZ,lS]
 clear hgz
 go_upto_region 5 with (fail)
 refine' zbc (m:=3) (A:=_) (by kernel_rfl) ?h3a ?h3b
 case h3a =>
  refine zab (nv PX) rfl (zag rfl rfl bx rfl uN rfl (iN _)) ?_
  refine zab (nv PY) rfl (zag rfl rfl bz rfl uN rfl (iN _)) ?_;simp only [aP,lA,lZ,lS]
  refine zab (gv PX PY) rfl (zcd (vs:=[(0,nv PX),(1,nv PY)]) rfl rfl (fun W => bldG W _ _)) ?_;simp only [aP,lA,lZ,lS]
  exact zaw
 refine zfn _ rfl rfl rfl rfl rfl rfl b0 (iSg _ _) (gc_size _ _) (zcw _ _) ?_
 intro w4 hB hb
 go_wp2
 exact bodyPost_ret (zck rfl _ _ (w.heap.size) 78 (gc PX PY) (0,0) _ rfl hb Tryz.underlying78 rfl (iSg _ _)) rfl ⟨rfl,hx.new hB (by omega)⟩
theorem code_sum (A : Option Addr) (m c : Nat) (bs : List Nat) (w : World) (hK : KT w) (hm : m = bs.length) (hmc : m ≤ c) (hle : m ≤ 100000) (hS : Bs w A bs) : Calls Tryz.prog 65 #[.slice A m c] w fun e w' => e = .returned (dgv (dgL bs)) ∧ Ext w w':=by
 subst hm
 exact sum_calls A bs.length c (fun j => bs.getD j 0) hS.1.getD hmc (by omega) w hK (src_bs hS)
theorem code_ver (X Y : Nat) (f : Bool) (y : Nat → Nat) (R S : Nat) (w : World) (hX : X < top) (hY : Y < top) (hR : R < top) (hS : S < top) (hy : ∀ j,y j < 256) : Calls Tryz.prog 64 #[qv X Y f,dgv y,gv R S] w fun e w' => e = .returned (.bool (vfL X Y f y R S)) ∧ Ext w w':=by
 cases h : onB X Y f with
 | false =>
  rw [vfL_off h]
  exact sver_no hX hY hR hS h y w
 | true =>
  obtain ⟨p,rfl,rfl,rfl⟩:=onB_some h
  rw [vfL_on]
  exact sver_yes p hR hS y hy w
theorem code_parse_no (A : Option Addr) (m c : Nat) (w : World) (hm : m ≠ 64) : Calls Tryz.prog 62 #[.slice A m c] w fun e w' => e = .returned (.tuple #[gv 0 0,.iface 39 (.int .i64 2)]) ∧ Ext w w':=sparse_no A m c hm w
theorem code_parse_64 (A : Option Addr) (m c : Nat) (bs : List Nat) (w : World) (hm : m = bs.length) (h64 : m = 64) (hc : m ≤ c) (hS : Bs w A bs) : Calls Tryz.prog 62 #[.slice A m c] w fun e w' => e = .returned (.tuple #[gv (sigR bs) (sigS bs),.nilIface]) ∧ Ext w w':=by
 subst h64
 obtain ⟨b,o,rfl,hb,hcl⟩:=hS.2.resolve_left (by omega)
 have e1 : be32 (fun j => bs.getD j 0) 0 = sigR bs:=lev_valB (bs:=bs.take 32) (hS.1.take 32) (by rw [List.length_take]; omega) fun k hk => by
  simp only [List.getD_eq_getElem?_getD,List.getElem?_take_of_lt (show 32 - 1 - k < 32 by omega),Nat.zero_add]
 have e2 : be32 (fun j => bs.getD j 0) 32 = sigS bs:=lev_valB (bs:=bs.drop 32) (hS.1.drop 32) (by rw [List.length_drop]; omega) fun k hk => by
  simp only [List.getD_eq_getElem?_getD,List.getElem?_drop]
 refine (sparse_64 b o c (fun j => bs.getD j 0) hS.1.getD hc w hb fun j hj => hcl j (by omega)).mono fun e w' ⟨he,hE⟩ => ⟨?_,hE⟩
 rw [he,e1,e2]
theorem codeL : CodeL where
 sum:=code_sum
 ver:=code_ver
 parse_no:=code_parse_no
 parse_64:=code_parse_64
end Go.Proofs.YthlbemnbmbmjhaaGreatDoor
