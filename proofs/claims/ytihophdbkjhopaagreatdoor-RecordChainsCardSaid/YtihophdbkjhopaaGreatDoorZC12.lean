/-
  Of S1 V9 S3 RBytes S4 FMath FBase Mul64 MulMath Q11 Q13 Kp Made3 ArgB FrameN ArgX ArgU QArg Rda.
-/
import Derived.Deep.AppendLies
import Derived.Deep.RegionHeld3
import Derived.Deep.Cut
import Derived.Deep.CutRange
import Derived.Deep.LoopGhost
import Derived.Deep.MidRow
import Derived.Laws.OwnMore
import Derived.Test.YtihophdbkjhopaaGreatDoorRows
import Derived.WalkKit
import Derived.WalkSpells
import Derived.WalkLawsBesides
import Derived.Deep.RegionWith
import Derived.Deep.QuietTactic
import Derived.BigQuiet
import Derived.Lib.SmallJoins
import Derived.ChangeSlices
import Derived.Carry
import Derived.BigFrame
import Derived.ProofKit
import Derived.Laws.IdiomArrays
import Derived.OpenShut
import Derived.Deep.Strs
import Derived.Test.YtihophdbkjhopaaGreatDoorZC11
import Derived.Test.YtihophdbkjhopaaGreatDoorZC4
import Derived.Test.YtihophdbkjhopaaGreatDoorZC2
import Derived.Test.YtihophdbkjhopaaGreatDoorZC10
import Derived.Test.YtihophdbkjhopaaGreatDoorZC3
import Derived.Test.YtihophdbkjhopaaGreatDoorZC1
import Derived.Test.YtihophdbkjhopaaGreatDoorZC5
import Derived.Test.YtihophdbkjhopaaGreatDoorZC9
import Derived.Test.YtihophdbkjhopaaGreatDoorZC8
import Derived.Test.YtihophdbkjhopaaGreatDoorZC6
set_option maxRecDepth 1000000
set_option maxHeartbeats 20000000
namespace Go.Proofs.YtihophdbkjhopaaGreatDoor
open Go.RowKit
open Go.Value renaming int → vI
open Go.IntKind renaming u64 → vU
open Go.Act renaming put → aP
open List renaming setIfInBounds_toArray → lA, set_cons_zero → lZ, set_cons_succ → lS
theorem vmul_calls {X Y Z : Nat} (hZ : Z = X * Y % Pt.nn) (hX : X < Pt.nn) (hY : Y < top) (w : World) :
  Calls Tryz.prog 47 #[nv X,nv Y] w fun e w' => e = .returned (nv Z) ∧ Ext w w':=by
 have kZ:=veil hZ
 have kX:=veil hX
 have kY:=veil hY
 clear hY hX hZ
 exact way1 Tryz.func47 [nv X,nv Y] (.call _ _ _ (fun W _ => nn_is W) <|
  .call _ _ _ (fun W _ => rmuln_is kZ.out kX.out kY.out W) <|
  .ret _ fun _ h => ⟨rfl,h⟩) (by kernel_rfl)
theorem vnum_calls (y : Nat → Nat) (hy : ∀ j,y j < 256) {X M : Nat} (hX : X = num32 y) (hM : M = X % Pt.nn) (w : World) :
  Calls Tryz.prog 48 #[dgv y] w fun e w' => e = .returned (nv M) ∧ Ext w w':=by
 have ky:=veil hy
 have kX:=veil hX
 have kM:=veil hM
 clear hM hX hy
 unfold nv nc dgv dgc
 go_enter Tryz.func48,Tryz.ntmps48
 go_upto_region 1 with (fail)
 refine wp_via2 fun w1 hx b0 b1 => ?_
 have b0 : w1.heap[w.heap.size]? = some (.cells (dgc y) 23 (0,0)):=b0
 refine' ziu (m:=4) (A:=_) (by kernel_rfl) ?h1 ?h2
 case h1 =>
  refine zab (.slice (some ⟨w.heap.size,0,none⟩) 32 32) rfl (made_slice rfl rfl (sliceD _ ·)) ?_
  refine zab (nv X) rfl (zaz (args:=[.slice (some ⟨w.heap.size,0,none⟩) 32 32]) rfl rfl (fun W => zad Tryz.func75 rfl rfl _ W) (fun W hW => rofd_is ky.out kX.out W (hW.block b0))) ?_;simp only [aP,lA,lZ,lS]
  refine zab (nv Pt.nn) rfl (zaz (args:=[]) rfl rfl (fun W => zad Tryz.func34 rfl rfl _ W) (fun W hW => nn_is W)) ?_
  refine zab (nv M) rfl (zaz (args:=[nv X,nv Pt.nn]) rfl rfl (fun W => zad Tryz.func51 rfl rfl _ W) (fun W hW => rinn_is kM.out (by rw [kX.out]; exact num32_lt ky.out) W)) ?_;simp only [aP,lA,lZ,lS]
  exact zdq
 refine prest_store _ rfl rfl rfl rfl rfl rfl b1 (iN _) rfl (nc_one _) ?_
 intro w2 hB hb
 go_wp2
 exact bodyPost_ret (results_cell_row rfl _ _ (w.heap.size + 1) 29 (nc M) (0,0) _ rfl hb Tryz.underlying29 rfl (by kernel_rfl)) rfl ⟨rfl,hx.new hB (by omega)⟩
def V3 (w W : World) (X Y : Nat) (f : Bool) (y : Nat → Nat) (R S : Nat) : Prop :=
 Ext w W ∧ W.heap[w.heap.size]? = some (.cells (qc X Y f) 44 (0,0)) ∧ W.heap[w.heap.size + 1]? = some (.cells (dgc y) 23 (0,0)) ∧ W.heap[w.heap.size + 1 + 1]? = some (.cells (gc R S) 46 (0,0))
section
variable {w W W' : World} {X Y R S : Nat} {f : Bool} {y : Nat → Nat}
theorem V3.ext (h : V3 w W X Y f y R S) (k : Ext W W') : V3 w W' X Y f y R S:=⟨h.1.trans k,k.block h.2.1,k.block h.2.2.1,k.block h.2.2.2⟩
theorem V3.r (h : V3 w W X Y f y R S) : W.rangeAt (w.heap.size + 1 + 1) 0 (nc R).toList:=fun j v hv => by
 rw [Nat.zero_add,cell_of_row W _ j _ _ _ h.2.2.2]
 match j,hv with
 | 0,hv => exact hv
 | 1,hv => exact hv
 | 2,hv => exact hv
 | 3,hv => exact hv
theorem V3.s (h : V3 w W X Y f y R S) : W.rangeAt (w.heap.size + 1 + 1) 4 (nc S).toList:=fun j v hv => by
 rw [cell_of_row W _ (4 + j) _ _ _ h.2.2.2]
 match j,hv with
 | 0,hv => exact hv
 | 1,hv => exact hv
 | 2,hv => exact hv
 | 3,hv => exact hv
theorem V3.far (h : V3 w W X Y f y R S) : W.cell? ⟨w.heap.size,8,none⟩ = some (.bool f):=by rw [cell_of_row W _ 8 _ _ _ h.2.1]; rfl
end
theorem ver_bad {X Y R S : Nat} {f o a b : Bool} (hX : X < top) (hY : Y < top) (hR : R < top) (hS : S < top) (hon : onB X Y f = o) (hr : mayB R = a) (hs : mayB S = b) (hbad : (o && !f && a && b) = false) (y : Nat → Nat) (w : World) :
  Calls Tryz.prog 19 #[qv X Y f,dgv y,gv R S] w fun e w' => e = .returned (.bool false) ∧ Ext w w':=by
 have KO:=veil (fun W => show Calls Tryz.prog 44 #[.agg (qc X Y f)] W (fun e w' => e = .returned (.bool o) ∧ Ext W w') from ron_is hon hX hY W)
 have KR:=veil (fun W => show Calls Tryz.prog 13 #[.agg (nc R)] W (fun e w' => e = .returned (.bool a) ∧ Ext W w') from rmay_is hr hR W)
 have KS:=veil (fun W => show Calls Tryz.prog 13 #[.agg (nc S)] W (fun e w' => e = .returned (.bool b) ∧ Ext W w') from rmay_is hs hS W)
 clear hX hY hR hS hon hr hs
 show Calls _ _ #[.agg (qc X Y f),.agg (dgc y),.agg (gc R S)] w _
 go_enter Tryz.func19,Tryz.ntmps19
 go_upto_region 1 with (fail)
 have H1 : Hid (V3 w (((w.alloc (.cells (qc X Y f) 44)).alloc (.cells (dgc y) 23)).alloc (.cells (gc R S) 46)) X Y f y R S):=veil (blocks3 w _ _ _)
 generalize ((w.alloc (.cells (qc X Y f) 44)).alloc (.cells (dgc y) 23)).alloc (.cells (gc R S) 46) = w1 at *
 go_upto_region 2 with (first
  | ((with_reducible refine zaa 15 ?_); refine wpList_load_row rfl 44 _ rfl w.heap.size rfl 44 (qc X Y f) (0,0) _ H1.out.2.1 Tryz.underlying44 rfl (iT X Y f) ?_)
  | (go_at_call 44; refine (KO.out _).mono ?_; rintro e w2 ⟨rfl,hE⟩))
 have H2:=veil (H1.out.ext hE)
 clear hE H1 KO
 go_upto_region 3 with (first
  | ((with_reducible refine zaa 18 ?_); refine wpList_load_mid rfl 29 _ rfl (w.heap.size + 1 + 1) 0 rfl _ _ H2.out.r uN rfl (iN R) ?_)
  | (go_at_call 13; refine (KR.out _).mono ?_; rintro e w3 ⟨rfl,hE⟩))
 have H3:=veil (H2.out.ext hE)
 clear hE H2 KR
 go_upto_region 4 with (first
  | ((with_reducible refine zaa 21 ?_); refine wpList_load_mid rfl 29 _ rfl (w.heap.size + 1 + 1) 4 rfl _ _ H3.out.s uN rfl (iN S) ?_)
  | (go_at_call 13; refine (KS.out _).mono ?_; rintro e w4 ⟨rfl,hE⟩))
 have H4:=veil (H3.out.ext hE)
 clear hE H3 KS
 have cf:=H4.out.far
 cases o <;> cases f <;> cases a <;> cases b <;> first
  | exact absurd hbad (by decide)
  | (clear hbad; go_wp2; go_ret; exact ⟨rfl,H4.out.1⟩)
theorem ver_good (y : Nat → Nat) {p a b c : Pt.Q} {X Y R S t M u v m : Nat} {ff : Bool} (hX : X < top) (hY : Y < top) (hon : onB X Y false = true) (hr : mayB R = true) (hs : mayB S = true) (hp : X = Pt.pX p.1 ∧ Y = Pt.pY p.1 ∧ false = Pt.pFar p.1) (hy : ∀ j,y j < 256) (hM : M = num32 y % Pt.nn) (ht : t = Pt.iG Pt.nn S) (hu : u = M * t % Pt.nn) (hv : v = R * t % Pt.nn) (ha : a = Pt.grp.mul u Pt.base) (hb : b = Pt.grp.mul v p) (hc : c = Pt.grp.op a b) (hfar : Pt.pFar c.1 = ff) (hm : m = Pt.pX c.1 % Pt.nn) {w : World} :
  Calls Tryz.prog 19 #[qv X Y false,dgv y,gv R S] w fun e w' => e = .returned (.bool (!ff && decide (m = R))) ∧ Ext w w':=by
 obtain ⟨x,hx0⟩ : ∃ x,x = Pt.pX c.1:=⟨_,rfl⟩
 obtain ⟨z,hz0⟩ : ∃ z,z = Pt.pY c.1:=⟨_,rfl⟩
 have kadd:=veil (fun W => radd_at (x:=x) (z:=z) hc hx0 hz0 hfar W)
 have km:=veil (show m = x % Pt.nn ∧ x < top from ⟨by rw [hx0]; exact hm,by rw [hx0]; exact (p_top _).1⟩)
 have kR:=veil (Nat.lt_trans (may_lt hr) zdp)
 have kS:=veil (Nat.lt_trans (may_lt hs) zdp)
 have KO:=veil (fun W => show Calls Tryz.prog 44 #[.agg (qc X Y false)] W (fun e w' => e = .returned (.bool true) ∧ Ext W w') from ron_is hon hX hY W)
 have KR:=veil (fun W => show Calls Tryz.prog 13 #[.agg (nc R)] W (fun e w' => e = .returned (.bool true) ∧ Ext W w') from rmay_is hr kR.out W)
 have KS:=veil (fun W => show Calls Tryz.prog 13 #[.agg (nc S)] W (fun e w' => e = .returned (.bool true) ∧ Ext W w') from rmay_is hs kS.out W)
 have kr:=veil hr
 have ks:=veil hs
 have kp:=veil hp
 have ky:=veil hy
 have kM:=veil hM
 have kt:=veil ht
 have ku:=veil hu
 have kv:=veil hv
 have ka:=veil ha
 have kb:=veil hb
 clear hb ha hv hu ht hM hy hp hs hr hon hY hX
 clear hc hfar hm hx0 hz0
 show Calls _ _ #[.agg (qc X Y false),.agg (dgc y),.agg (gc R S)] w _
 go_enter Tryz.func19,Tryz.ntmps19
 go_upto_region 1 with (fail)
 have H1 : Hid (V3 w (((w.alloc (.cells (qc X Y false) 44)).alloc (.cells (dgc y) 23)).alloc (.cells (gc R S) 46)) X Y false y R S):=veil (blocks3 w _ _ _)
 generalize ((w.alloc (.cells (qc X Y false) 44)).alloc (.cells (dgc y) 23)).alloc (.cells (gc R S) 46) = w1 at *
 go_upto_region 2 with (first
  | ((with_reducible refine zaa 15 ?_); refine wpList_load_row rfl 44 _ rfl w.heap.size rfl 44 (qc X Y false) (0,0) _ H1.out.2.1 Tryz.underlying44 rfl (iT X Y false) ?_)
  | (go_at_call 44; refine (KO.out _).mono ?_; rintro e w2 ⟨rfl,hE⟩))
 have H2:=veil (H1.out.ext hE)
 clear hE H1 KO
 go_upto_region 3 with (first
  | ((with_reducible refine zaa 18 ?_); refine wpList_load_mid rfl 29 _ rfl (w.heap.size + 1 + 1) 0 rfl _ _ H2.out.r uN rfl (iN R) ?_)
  | (go_at_call 13; refine (KR.out _).mono ?_; rintro e w3 ⟨rfl,hE⟩))
 have H3:=veil (H2.out.ext hE)
 clear hE H2 KR
 go_upto_region 4 with (first
  | ((with_reducible refine zaa 21 ?_); refine wpList_load_mid rfl 29 _ rfl (w.heap.size + 1 + 1) 4 rfl _ _ H3.out.s uN rfl (iN S) ?_)
  | (go_at_call 13; refine (KS.out _).mono ?_; rintro e w4 ⟨rfl,hE⟩))
 have H4:=veil (H3.out.ext hE)
 clear hE H3 KS
 have cf:=H4.out.far
 go_upto_region 6 with (fail)
 clear cf
 obtain ⟨hx,b0,b1,b2⟩:=H4.out
 clear H4
 refine' wp_made (m:=6) (A:=_) 8 (by kernel_rfl) (by kernel_rfl) (by kernel_rfl) ?h1 ?h2
 case h1 =>
  refine zab (.pointer (some ⟨w.heap.size + 1 + 1,4,none⟩)) rfl (zdr rfl rfl (fldG1 _ ·)) ?_
  refine zab (nv S) rfl (zbd rfl rfl b2 rfl uN rfl (iN _)) ?_;simp only [aP,lA,lZ,lS]
  refine zab (nv Pt.nn) rfl (zaz (args:=[]) rfl rfl (fun W => zad Tryz.func34 rfl rfl _ W) (fun W hW => nn_is W)) ?_
  refine zab (.tuple #[nv t,.bool true]) rfl (zaz (args:=[nv S,nv Pt.nn]) rfl rfl (fun W => zad Tryz.func45 rfl rfl _ W) (fun W hW => rinvn_is (may_ne ks.out) (may_lt ks.out) kt.out W)) ?_;simp only [aP,lA,lZ,lS]
  refine zab (.tuple #[nv t,.bool true]) rfl (zai (.inl rfl) rfl) ?_
  refine zab (nv t) rfl (made_ext rfl rfl rfl) ?_;simp only [aP,lA,lZ,lS]
  exact zdq
 refine rest_var2 (v:=.bool true) (vx:=.bool true) _ _ _ _ rfl rfl rfl rfl rfl rfl rfl rfl rfl rfl rfl rfl rfl rfl rfl rfl (by decide) (by kernel_rfl) (by kernel_rfl) (by kernel_rfl) (by kernel_rfl) (by kernel_rfl) (by kernel_rfl) (by kernel_rfl) rfl rfl rfl rfl rfl rfl (hzN ·) (run_ext rfl rfl rfl) (fun _ => run_ext rfl rfl rfl) (fun _ => rfl) (fun _ => rfl) (fun _ => rfl) (fun _ => rfl) (fun _ => rfl) (iN _) rfl (nc_one _) ?_
 intro gt w6 hgt bt hE
 refine NoPanic.normal ?_
 replace b0:=hE.block b0
 replace b1:=hE.block b1
 replace b2:=hE.block b2
 replace hx:=hx.trans hE
 clear hE
 simp only [aP,lA,lZ,lS]
 clear hgt
 go_upto_region 7 with (fail)
 refine' wp_made (m:=6) (A:=_) 7 (by kernel_rfl) (by kernel_rfl) (by kernel_rfl) ?h2a ?h2b
 case h2a =>
  refine zab (dgv y) rfl (zbd rfl rfl b1 rfl Tryz.underlying23 rfl (iDg _)) ?_
  refine zab (nv M) rfl (zaz (args:=[dgv y]) rfl rfl (fun W => zad Tryz.func48 rfl rfl _ W) (fun W hW => vnum_calls y ky.out rfl kM.out W)) ?_;simp only [aP,lA,lZ,lS]
  refine zab (nv t) rfl (zbd rfl rfl bt rfl uN rfl (iN _)) ?_
  refine zab (nv u) rfl (zaz (args:=[nv M,nv t]) rfl rfl (fun W => zad Tryz.func47 rfl rfl _ W) (fun W hW => vmul_calls ku.out (mod_nn kM.out) (zhk kt.out) W)) ?_;simp only [aP,lA,lZ,lS]
  refine zab (qv Pt.gx Pt.gy false) rfl (zaz (args:=[]) rfl rfl (fun W => zad Tryz.func49 rfl rfl _ W) (fun W hW => rbase_is W)) ?_
  refine zab (qv (Pt.pX a.1) (Pt.pY a.1) (Pt.pFar a.1)) rfl (zaz (args:=[nv u,qv Pt.gx Pt.gy false]) rfl rfl (fun W => zad Tryz.func46 rfl rfl _ W) (fun W hW => rmulb_is (mul_top ku.out) ka.out W)) ?_;simp only [aP,lA,lZ,lS]
  exact zdq
 refine rest_var _ _ rfl rfl rfl rfl rfl rfl rfl rfl rfl (by kernel_rfl) (by kernel_rfl) (by kernel_rfl) rfl rfl (hzT ·) (fun _ => rfl) (fun _ => rfl) (iT _ _ _) rfl (qc_one _ _ _) ?_
 intro ga w7 hga ba hE
 refine NoPanic.normal ?_
 replace b0:=hE.block b0
 replace b2:=hE.block b2
 replace bt:=hE.block bt
 replace hx:=hx.trans hE
 clear hE
 simp only [aP,lA,lZ,lS]
 clear hga
 go_upto_region 8 with (fail)
 refine' wp_made (m:=6) (A:=_) 7 (by kernel_rfl) (by kernel_rfl) (by kernel_rfl) ?h3a ?h3b
 case h3a =>
  refine zab (ptrTo (w.heap.size + 1 + 1)) rfl (zdr rfl rfl (fldG0 _ ·)) ?_
  refine zab (nv R) rfl (zbd rfl rfl b2 rfl uN rfl (iN _)) ?_;simp only [aP,lA,lZ,lS]
  refine zab (nv t) rfl (zbd rfl rfl bt rfl uN rfl (iN _)) ?_
  refine zab (nv v) rfl (zaz (args:=[nv R,nv t]) rfl rfl (fun W => zad Tryz.func47 rfl rfl _ W) (fun W hW => vmul_calls kv.out (may_lt kr.out) (zhk kt.out) W)) ?_;simp only [aP,lA,lZ,lS]
  refine zab (qv X Y false) rfl (zbd rfl rfl b0 rfl Tryz.underlying44 rfl (iT _ _ _)) ?_
  refine zab (qv (Pt.pX b.1) (Pt.pY b.1) (Pt.pFar b.1)) rfl (zaz (args:=[nv v,qv X Y false]) rfl rfl (fun W => zad Tryz.func46 rfl rfl _ W) (fun W hW => rmulp_is (mul_top kv.out) kp.out kb.out W)) ?_;simp only [aP,lA,lZ,lS]
  exact zdq
 refine rest_var _ _ rfl rfl rfl rfl rfl rfl rfl rfl rfl (by kernel_rfl) (by kernel_rfl) (by kernel_rfl) rfl rfl (hzT ·) (fun _ => rfl) (fun _ => rfl) (iT _ _ _) rfl (qc_one _ _ _) ?_
 intro gb w8 hgb bb hE
 refine NoPanic.normal ?_
 replace b2:=hE.block b2
 replace ba:=hE.block ba
 replace hx:=hx.trans hE
 clear hE
 simp only [aP,lA,lZ,lS]
 clear hgb
 go_upto_region 9 with (fail)
 refine' ziu (m:=3) (A:=_) (by kernel_rfl) ?h4a ?h4b
 case h4a =>
  refine zab (qv (Pt.pX a.1) (Pt.pY a.1) (Pt.pFar a.1)) rfl (zbd rfl rfl ba rfl Tryz.underlying44 rfl (iT _ _ _)) ?_
  refine zab (qv (Pt.pX b.1) (Pt.pY b.1) (Pt.pFar b.1)) rfl (zbd rfl rfl bb rfl Tryz.underlying44 rfl (iT _ _ _)) ?_;simp only [aP,lA,lZ,lS]
  refine zab (qv x z ff) rfl (zaz (args:=[qv (Pt.pX a.1) (Pt.pY a.1) (Pt.pFar a.1),qv (Pt.pX b.1) (Pt.pY b.1) (Pt.pFar b.1)]) rfl rfl (fun W => zad Tryz.func50 rfl rfl _ W) (fun W hW => kadd.out W)) ?_;simp only [aP,lA,lZ,lS]
  exact zdq
 refine prest_var _ _ rfl rfl rfl rfl rfl rfl rfl (hzT ·) (fun _ => rfl) (fun _ => rfl) (iT _ _ _) rfl (qc_one _ _ _) ?_
 intro gc w9 hgc bc hE
 replace b2:=hE.block b2
 replace hx:=hx.trans hE
 clear hE
 simp only [aP,lA,lZ,lS]
 clear hgc
 cases ff with
 | true =>
  go_upto_region 10 with (fail)
  refine' zfg (m:=13) (A:=_) 13 (by kernel_rfl) (by kernel_rfl) ?h5a ?h5b
  case h5a =>
   refine zab (.pointer (some ⟨gc,8,none⟩)) rfl (zdr rfl rfl (fldT2 _ ·)) ?_
   refine zab (.bool true) rfl (zih rfl rfl bc rfl (isn_bool ·)) ?_;simp only [aP,lA,lZ,lS]
   refine zab (.bool false) rfl (made_not' rfl rfl rfl) ?_
   refine zab (.bool false) rfl (zai (.inl rfl) rfl) ?_;simp only [aP,lA,lZ,lS]
   refine zdf rfl ?_
   refine zdf rfl ?_;simp only [aP,lA,lZ,lS]
   refine zdf rfl ?_
   refine zdf rfl ?_;simp only [aP,lA,lZ,lS]
   refine zdf rfl ?_
   refine zdf rfl ?_;simp only [aP,lA,lZ,lS]
   refine zdf rfl ?_
   refine zab (.bool false) rfl (zeh rfl rfl rfl) ?_;simp only [aP,lA,lZ,lS]
   refine zab (.bool false) rfl (zai (.inr rfl) rfl) ?_;simp only [aP,lA,lZ,lS]
   exact zdq
  refine zef rfl (by kernel_rfl) ?_
  intro w10 hE
  refine NoPanic.normal ?_
  replace b2:=hE.block b2
  replace bc:=hE.block bc
  replace hx:=hx.trans hE
  clear hE
  go_wp2
  go_ret
  exact ⟨rfl,hx⟩
 | false =>
  go_upto_region 10 with (fail)
  refine' zfg (m:=13) (A:=_) 13 (by kernel_rfl) (by kernel_rfl) ?h6a ?h6b
  case h6a =>
   refine zab (.pointer (some ⟨gc,8,none⟩)) rfl (zdr rfl rfl (fldT2 _ ·)) ?_
   refine zab (.bool false) rfl (zih rfl rfl bc rfl (isn_bool ·)) ?_;simp only [aP,lA,lZ,lS]
   refine zab (.bool true) rfl (made_not' rfl rfl rfl) ?_
   refine zab (.bool true) rfl (zai (.inl rfl) rfl) ?_;simp only [aP,lA,lZ,lS]
   refine zbf (ptrTo gc) rfl (zdr rfl rfl (fldT0 _ ·)) ?_
   refine zbf (nv x) rfl (zbd rfl rfl bc rfl uN rfl (iN _)) ?_;simp only [aP,lA,lZ,lS]
   refine zbf (nv Pt.nn) rfl (zaz (args:=[]) rfl rfl (fun W => zad Tryz.func34 rfl rfl _ W) (fun W hW => nn_is W)) ?_
   refine zbf (nv m) rfl (zaz (args:=[nv x,nv Pt.nn]) rfl rfl (fun W => zad Tryz.func51 rfl rfl _ W) (fun W hW => rinn_is km.out.1 km.out.2 W)) ?_;simp only [aP,lA,lZ,lS]
   refine zbf (ptrTo (w.heap.size + 1 + 1)) rfl (zdr rfl rfl (fldG0 _ ·)) ?_
   refine zbf (nv R) rfl (zbd rfl rfl b2 rfl uN rfl (iN _)) ?_;simp only [aP,lA,lZ,lS]
   refine zbf (.bool (decide (m = R))) rfl (made_eqn rfl rfl rfl (mod_top km.out.1) kR.out) ?_
   refine zab (.bool (decide (m = R))) rfl (zeh rfl rfl rfl) ?_;simp only [aP,lA,lZ,lS]
   refine zab (.bool (decide (m = R))) rfl (zai (.inr rfl) rfl) ?_;simp only [aP,lA,lZ,lS]
   exact zdq
  refine zef rfl (by kernel_rfl) ?_
  intro w10 hE
  refine NoPanic.normal ?_
  replace hx:=hx.trans hE
  clear hE
  go_wp2
  go_ret
  exact ⟨rfl,hx⟩
theorem inR_may (X : Nat) : Pt.inR X = mayB X:=rfl
theorem ver_no {X Y R S : Nat} {f : Bool} (hX : X < top) (hY : Y < top) (hR : R < top) (hS : S < top) (h : onB X Y f = false) (y : Nat → Nat) (w : World) :
  Calls Tryz.prog 19 #[qv X Y f,dgv y,gv R S] w fun e w' => e = .returned (.bool false) ∧ Ext w w':=ver_bad hX hY hR hS h rfl rfl rfl y w
theorem ver_yes (p : Pt.Q) {R S : Nat} (hR : R < top) (hS : S < top) (y : Nat → Nat) (hy : ∀ j,y j < 256) (w : World) :
  Calls Tryz.prog 19 #[pv p,dgv y,gv R S] w fun e w' => e = .returned (.bool (Pt.verB p (num32 y) R S)) ∧ Ext w w':=by
 have hon:=onB_of p
 have hX:=(p_top p.1).1
 have hY:=(p_top p.1).2
 unfold pv Pt.verB
 rw [inR_may,inR_may]
 cases hh : (!Pt.pFar p.1 && mayB R && mayB S) with
 | false =>
  exact ver_bad hX hY hR hS hon rfl rfl (by rw [Bool.true_and]; exact hh) y w
 | true =>
  simp only [Bool.and_eq_true] at hh
  have hf : Pt.pFar p.1 = false:=by simpa using hh.1.1
  rw [hf] at hon ⊢
  rw [Bool.true_and]
  exact ver_good (c:=Pt.sumOf p (num32 y) R S) y hX hY hon hh.1.2 hh.2 ⟨rfl,rfl,hf.symm⟩ hy rfl rfl rfl rfl rfl rfl rfl rfl rfl
theorem part_bytes (X m : Nat) : pt X m / 256 = byv X (2 * m + 1) ∧ pt X m % 256 = byv X (2 * m):=by
 have h0:=dg_byte X 2 m 0 (by omega)
 have h1:=dg_byte X 2 m 1 (by omega)
 rw [← w16_bytes] at h0 h1
 have hl:=dg_lt zgy X m
 unfold pt byv
 rw [← h1,← show dg w16 X m / 256 ^ 0 % 256 = dg 256 X (2 * m) from h0]
 generalize dg w16 X m = D at *
 unfold w16 at hl
 simp only [Nat.pow_zero,Nat.pow_one,Nat.div_one]
 omega
theorem heap_alloc_drew (w : World) (o : Obj) : (w.alloc o).drew.heap[w.heap.size]? = some o:=heap_alloc_new w o
def bsv (X j : Nat) : Value:=.int .u8 (byv X (31 - j))
theorem bsL_step (X m : Nat) (hm : m < 16) : (List.range (32 - 2 * (m + 1))).map (bsv X) ++ [.int .u8 (byv X (2 * m + 1)),.int .u8 (byv X (2 * m))] = (List.range (32 - 2 * m)).map (bsv X):=by
 rw [show 32 - 2 * m = (32 - 2 * (m + 1)) + 1 + 1 by omega,List.range_succ,List.range_succ,List.map_append,List.map_append,List.append_assoc]
 simp only [List.map_cons,List.map_nil,bsv,List.cons_append,List.nil_append]
 rw [show 31 - (32 - 2 * (m + 1)) = 2 * m + 1 by omega,show 31 - (32 - 2 * (m + 1) + 1) = 2 * m by omega]
theorem conv_hi (z : Int) (h0 : 0 ≤ z) (h1 : z ≤ 65535) : IntKind.u8.wrap (IntKind.i64.wrap (z.tdiv 256)) = z / 256:=by
 have e : z.tdiv 256 = z / 256:=Int.tdiv_eq_ediv_of_nonneg h0
 have h2 : 0 ≤ z / 256:=by omega
 have h3 : z / 256 ≤ 255:=by omega
 rw [e]
 generalize z / 256 = q at *
 rw [IntWalk.i64_in q ⟨by omega,by omega⟩,IntKind.wrap_u8]
 exact Int.emod_eq_of_lt h2 (by omega)
theorem conv_lo (z : Int) (h0 : 0 ≤ z) : IntKind.u8.wrap (z.tmod 256) = z % 256:=by
 have e : z.tmod 256 = z % 256:=Int.tmod_eq_emod_of_nonneg h0
 rw [e,IntKind.wrap_u8]
 exact Int.emod_emod_of_dvd z (Int.dvd_refl 256)
theorem none_yet (X : Nat) (W : World) (base : Nat) : W.ownsRow base 5 1 (.slice none 0 0) (32 - 2 * 16) ((List.range (32 - 2 * 16)).map (bsv X)):=by
 simp only [show 32 - 2 * 16 = 0 from by omega,List.range_zero,List.map_nil]
 exact World.ownsRow_nil _ _ _ _
theorem rbytes_own (X : Nat) (w : World) :
  Calls Tryz.prog 108 #[.agg #[vI vU (wd X 0),vI vU (wd X 1),vI vU (wd X 2),vI vU (wd X 3)]] w fun e w' => ∃ g cap,e = .returned (.slice (some ⟨g,0,none⟩) 32 cap) ∧ 32 ≤ cap ∧ w.heap.size ≤ g ∧ Own w' w.heap.size 5 (.slice (some ⟨g,0,none⟩) 32 cap) 32 (bsv X) ∧ Below w.heap.size w w':=by
 obtain ⟨i0,hi,hz0,hz1,hz2⟩:=info_parts infoByte
 have hB0 : Below w.heap.size w (w.alloc (.cells #[vI vU (wd X 0),vI vU (wd X 1),vI vU (wd X 2),vI vU (wd X 3)] 29)):=(Below.refl _ _).alloc (by simp) _
 go_enter Tryz.func108,Tryz.ntmps108
 go_wp2_with fail
 refine (zez X _).mono ?_
 rintro e w1 ⟨g1,cap1,rfl,hg1,hp1,hb1⟩
 have hB1:=hB0.trans (hb1.mono (by simp))
 have hl1:=hp1.lt
 have hsz:=hB1.size
 clear hB0 hb1 hg1
 go_wp2
 go_loopw [4,5] (fun v i wr => ∃ k : Nat,k ≤ 16 ∧ i = .int .i64 ((k : Int) - 1) ∧ wr.ownsRow w1.heap.size 5 1 v (32 - 2 * k) ((List.range (32 - 2 * k)).map (bsv X)) ∧ Pre wr g1 3 16 (ptv X) ∧ Below w.heap.size w wr ∧ w1.heap.size ≤ wr.heap.size)
  (fun _ i _ => (intOf i + 1).toNat)
 case atStart => exact ⟨16,by omega,rfl,none_yet X w1 _,hp1,hB1,Nat.le_refl _⟩
 case round =>
  clear hp1 hB1
  obtain ⟨k,hk,hii,hown,hp,hbel,hsz2⟩:=hrel
  cases k with
  | zero =>
   subst hii
   go_wp2
   go_ret
   have ho : Own wr w1.heap.size 5 _ 32 (bsv X):=hown
   obtain ⟨g,cap,rfl,hc,hg,_⟩:=ho.pre (by omega)
   exact ⟨g,cap,rfl,hc,by omega,ho.base_le hsz,hbel⟩
  | succ m =>
   obtain rfl : _ = Value.int .i64 (m : Int):=hii.trans (by congr 1; omega)
   have hm : m < 16:=by omega
   have c1:=hp.cell hm
   simp only [ptv] at c1
   clear hii
   go_wp2
   have hm0 : (0 : Int) ≤ (m : Int):=by omega
   have hm1 : (m : Int) < 16:=by omega
   have l1:=pt_lo X m
   have u1 : pt X m ≤ 65535:=by have:=pt_lt X m; omega
   obtain ⟨q1,q2⟩:=part_bytes X m
   have E1 : IntKind.u8.wrap (IntKind.i64.wrap ((pt X m).tdiv 256)) = byv X (2 * m + 1):=(conv_hi _ l1 u1).trans q1
   have E2 : IntKind.u8.wrap ((pt X m).tmod 256) = byv X (2 * m):=(conv_lo _ l1).trans q2
   clear q1 q2
   as_aux_lemma =>
   go_region_held3 (fun w' => w'.cell? ⟨g1,m,none⟩ = some (.int .i64 (pt X m)))
    (first
     | go_keep
     | exact (hgrow.cell_far ⟨g1,m,none⟩ ((hp.alloc _).drew).lt (fun e => by have h2 : w1.heap.size ≤ g1:=(hown.lt g1 e.symm).1; omega)).trans (((hp.alloc _).drew).cell hm))
    ((refine step_append_lies _ (by rfl) _ _ _ (by rfl) w1.heap.size 5 i0 _ 1 1 Tryz.underlying24 hi hz0 hz1 hz2 rfl (by omega) _ _ _ (by rfl) ((hown.alloc _).drew)
       ⟨wr.heap.size,0,none⟩ 2 2 [.int .u8 (byv X (2 * m + 1)),.int .u8 (byv X (2 * m))] (by rfl) (by rfl) (World.news_of_block (cs:=#[.int .u8 (byv X (2 * m + 1)),.int .u8 (byv X (2 * m))]) (t:=5) (fr:=(0,0)) (heap_alloc_drew wr _)) (by simp [Value.oneCell'])
       (by omega) (by unfold maxLen; omega) (by omega) (by simp; omega) (wr.heap.size + 1) (by simp) ?_; intro gg cap w4 hown1 hgrow hat hlt))
   all_goals
    go_wp2
    go_roundw
    have hsz5 : w1.heap.size ≤ w4.heap.size:=by
     have h6:=hgrow.size
     have h5 : wr.heap.size ≤ (wr.alloc (.cells #[.int .u8 (byv X (2 * m + 1)),.int .u8 (byv X (2 * m))] 5)).drew.heap.size:=by
      show wr.heap.size ≤ (wr.alloc _).heap.size
      simp
     omega
    case rel => exact ⟨m,by omega,rfl,by rw [bsL_step X m hm,show 32 - 2 * (m + 1) + 2 = 32 - 2 * m by omega] at hown1; rw [show 32 - 2 * (m + 1) + 2 = 32 - 2 * m by omega]; exact hown1,(hp.alloc _).drew.of_block (hgrow.block g1 ((hp.alloc _).drew).lt (fun e => by have h2 : w1.heap.size ≤ g1:=(hown.lt g1 e.symm).1; omega)),((hbel.alloc (by omega) _).drew).grown hgrow (by show w.heap.size ≤ (wr.alloc _).heap.size; simp; omega) (fun k e => by have:=(hown.lt _ e).1; omega),hsz5⟩
    case measure => simp [intOf]
def pick (D E : Nat) : List Nat → Option (Nat × Nat)
 | [] => none
 | k :: l => if (mayB (Pt.rOf k) && mayB (Pt.sOf D E k)) = true then some (Pt.rOf k,Pt.sOf D E k) else pick D E l
end Go.Proofs.YtihophdbkjhopaaGreatDoor
namespace Go.Proofs.YtihophdbkjhopaaGreatDoor
def top8 : Nat:=w64 ^ 8
theorem zja : top8 = top * top:=by unfold top8 top; rw [← Nat.pow_add]
theorem zix : w64 = 18446744073709551616:=rfl
theorem div_succ' (B n i : Nat) : n / B ^ (i + 1) = n / B ^ i / B:=by rw [Nat.pow_succ,Nat.div_div_eq_div_mul]
theorem setw {B : Nat} (hB : 0 < B) (Z k n v : Nat) (hk : k < n) (hZ : Z < B ^ n) (hv : v < B) :
  ∃ Z',Z' < B ^ n ∧ (∀ m,dg B Z' m = if m = k then v else dg B Z m) ∧ Z' + B ^ k * dg B Z k = Z + B ^ k * v:=by
 have hP : 0 < B ^ k:=Nat.pow_pos hB
 have e1 : B ^ k * (Z / B ^ k) + Z % B ^ k = Z:=Nat.div_add_mod _ _
 have e2 : B * (Z / B ^ k / B) + Z / B ^ k % B = Z / B ^ k:=Nat.div_add_mod _ _
 have hr:=Nat.mod_lt Z hP
 have hq : Z / B ^ k / B < B ^ (n - (k + 1)):=by
  rw [← div_succ',Nat.div_lt_iff_lt_mul (Nat.pow_pos hB),← Nat.pow_add,show n - (k + 1) + (k + 1) = n by omega]; exact hZ
 have hn : B ^ n = B ^ k * (B * B ^ (n - (k + 1))):=by
  rw [← Nat.mul_assoc,← Nat.pow_succ,← Nat.pow_add]; congr 1; omega
 have hd : dg B Z k = Z / B ^ k % B:=rfl
 have hdm : ∀ j,dg B Z (k + 1 + j) = Z / B ^ k / B / B ^ j % B:=by
  intro j; unfold dg; rw [Nat.pow_add,← Nat.div_div_eq_div_mul,div_succ']
 have hlo : ∀ j,j < k → dg B Z j = dg B (Z % B ^ k) j:=fun j hj => (zck Z k j hj).symm
 rw [hd,hn]
 clear hd hn hZ
 generalize Z / B ^ k / B = q at *
 generalize Z / B ^ k % B = d at *
 generalize Z / B ^ k = a at *
 generalize Z % B ^ k = r at *
 have hz : r + B ^ k * (v + B * q) = r + B ^ k * v + B ^ k * (B * q):=by rw [Nat.mul_add,Nat.add_assoc]
 refine ⟨r + B ^ k * (v + B * q),?_,?_,?_⟩
 ·
  have : v + B * q + 1 ≤ B * B ^ (n - (k + 1)):=by
   have : B * (q + 1) ≤ B * B ^ (n - (k + 1)):=Nat.mul_le_mul_left _ hq
   rw [Nat.mul_add] at this; omega
  have:=Nat.mul_le_mul_left (B ^ k) this
  rw [Nat.mul_add] at this; omega
 ·
  have hdiv : (r + B ^ k * (v + B * q)) / B ^ k = v + B * q:=by
   rw [Nat.add_mul_div_left _ _ hP,Nat.div_eq_of_lt hr,Nat.zero_add]
  intro m
  by_cases h : m = k
  ·
   rw [if_pos h,h]
   unfold dg
   rw [hdiv,Nat.add_mul_mod_self_left,Nat.mod_eq_of_lt hv]
  ·
   rw [if_neg h]
   by_cases hlt : m < k
   ·
    rw [← zck _ k m hlt,Nat.add_mul_mod_self_left,Nat.mod_eq_of_lt hr,hlo m hlt]
   ·
    obtain ⟨j,rfl⟩ : ∃ j,m = k + 1 + j:=⟨m - (k + 1),by omega⟩
    rw [hdm]
    unfold dg
    rw [Nat.pow_add,← Nat.div_div_eq_div_mul,div_succ',hdiv,Nat.add_mul_div_left _ _ hB,Nat.div_eq_of_lt hv,Nat.zero_add]
 ·
  rw [hz,← e1,← e2,Nat.mul_add]
  omega
theorem setwd (Z k : Nat) (v : Int) (hk : k < 8) (hZ : Z < top8) (h0 : 0 ≤ v) (h1 : v ≤ 18446744073709551615) :
  ∃ Z',Z' < top8 ∧ (∀ m,wd Z' m = if m = k then v else wd Z m) ∧ Z' + w64 ^ k * dg w64 Z k = Z + w64 ^ k * v.toNat:=by
 obtain ⟨Z',a,b,c⟩:=setw zak Z k 8 v.toNat hk hZ (by unfold w64; omega)
 refine ⟨Z',a,fun m => ?_,c⟩
 unfold wd
 rw [b m]
 split
 ·
  omega
 ·
  rfl
theorem col_step {B Z Z' Z0 t m c c' x i j M : Nat} (hM : m = dg B M j) (e : Z + c * B ^ (i + j) = Z0 + t * (M % B ^ j) * B ^ i)
  (hx : x + B * c' = t * m + c + dg B Z (i + j)) (hZ : Z' + B ^ (i + j) * dg B Z (i + j) = Z + B ^ (i + j) * x) :
  Z' + c' * B ^ (i + (j + 1)) = Z0 + t * (M % B ^ (j + 1)) * B ^ i:=by
 rw [zbv,← hM,← Nat.add_assoc i j 1,Nat.pow_succ B (i + j)]
 have h1 : t * (M % B ^ j + B ^ j * m) * B ^ i = t * (M % B ^ j) * B ^ i + B ^ (i + j) * (t * m):=by
  rw [Nat.mul_add,Nat.add_mul,Nat.pow_add]
  congr 1
  rw [Nat.mul_left_comm t,Nat.mul_comm (B ^ i),Nat.mul_comm (B ^ j * B ^ i),Nat.mul_comm (B ^ j),Nat.mul_assoc]
 have h2:=congrArg (fun z => B ^ (i + j) * z) hx
 simp only [Nat.mul_add] at h2
 rw [h1]
 have h3 : c' * (B ^ (i + j) * B) = B ^ (i + j) * (B * c'):=by rw [Nat.mul_comm c',Nat.mul_assoc]
 rw [h3]
 rw [Nat.mul_comm c] at e
 generalize B ^ (i + j) * (B * c') = p1 at *
 generalize B ^ (i + j) * (t * m) = p2 at *
 generalize B ^ (i + j) * c = p3 at *
 generalize B ^ (i + j) * dg B Z (i + j) = p4 at *
 generalize B ^ (i + j) * x = p5 at *
 omega
theorem low_dvd {B Z : Nat} {k : Nat} (h : Z % B ^ k = 0) : Z = B ^ k * (Z / B ^ k):=by
 have:=Nat.div_add_mod Z (B ^ k); omega
theorem row_done {B X M Z Z1 Z2 T t c o o' x k : Nat} (hlow : Z % B ^ k = 0) (hT : T < B ^ k) (ht : t < B) (hM : M < B ^ 4) (e : Z + o * B ^ (k + 4) = X + T * M)
  (ht0 : (dg B Z k + t * dg B M 0) % B = 0) (h1 : Z1 + c * B ^ (k + 4) = Z + t * (M % B ^ 4) * B ^ k) (hx : x + B * o' = dg B Z1 (k + 4) + c + o)
  (h2 : Z2 + B ^ (k + 4) * dg B Z1 (k + 4) = Z1 + B ^ (k + 4) * x) :
  Z2 % B ^ (k + 1) = 0 ∧ T + B ^ k * t < B ^ (k + 1) ∧ Z2 + o' * B ^ (k + 1 + 4) = X + (T + B ^ k * t) * M:=by
 have hz:=low_dvd hlow
 rw [Nat.mod_eq_of_lt hM] at h1
 have hp5 : B ^ (k + 1 + 4) = B ^ (k + 4) * B:=by rw [← Nat.pow_succ,show k + 1 + 4 = k + 4 + 1 by omega]
 have hq : B ^ (k + 4) = B ^ (k + 1) * B ^ 3:=by rw [← Nat.pow_add,show k + 1 + 3 = k + 4 by omega]
 have f : Z2 + o' * B ^ (k + 1 + 4) = Z + t * M * B ^ k + o * B ^ (k + 4):=by
  have h3:=congrArg (fun z => B ^ (k + 4) * z) hx
  simp only [Nat.mul_add] at h3
  rw [hp5,Nat.mul_comm o',Nat.mul_assoc (B ^ (k + 4)),Nat.mul_comm o]
  rw [Nat.mul_comm c] at h1
  generalize B ^ (k + 4) * dg B Z1 (k + 4) = p1 at *
  generalize B ^ (k + 4) * x = p2 at *
  generalize B ^ (k + 4) * c = p3 at *
  generalize B ^ (k + 4) * o = p4 at *
  generalize B ^ (k + 4) * (B * o') = p5 at *
  omega
 refine ⟨?_,?_,?_⟩
 ·
  have g : (Z2 + o' * B ^ (k + 1 + 4)) % B ^ (k + 1) = Z2 % B ^ (k + 1):=by
   rw [hp5,hq,Nat.mul_comm o',Nat.mul_assoc,Nat.mul_assoc,Nat.add_mul_mod_self_left]
  rw [← g,f,hq,Nat.mul_comm o,Nat.mul_assoc (B ^ (k + 1)),Nat.add_mul_mod_self_left]
  have hd : (Z / B ^ k + t * M) % B = 0:=by
   have : dg B Z k = Z / B ^ k % B:=rfl
   rw [this] at ht0
   have h0 : dg B M 0 = M % B:=by unfold dg; rw [Nat.pow_zero,Nat.div_one]
   rw [h0,Nat.mod_add_mod,Nat.add_mod,Nat.mul_mod,Nat.mod_mod,← Nat.mul_mod,← Nat.add_mod] at ht0
   exact ht0
  rw [hz,Nat.mul_comm (t * M),← Nat.mul_add,Nat.pow_succ,Nat.mul_mod_mul_left,hd,Nat.mul_zero]
 ·
  rw [Nat.pow_succ]
  have : B ^ k * (t + 1) ≤ B ^ k * B:=Nat.mul_le_mul_left _ ht
  rw [Nat.mul_add] at this; omega
 ·
  rw [f,Nat.add_mul,Nat.mul_right_comm t M,Nat.mul_comm (B ^ k) t]
  generalize t * B ^ k * M = p3 at *
  generalize o * B ^ (k + 4) = p1 at *
  generalize T * M = p2 at *
  omega
theorem times_zero {d n m : Int} (h : (18446744073709551616 : Int) ∣ m * n - 1) :
  (d + (-d % 18446744073709551616 * n) % 18446744073709551616 * m) % 18446744073709551616 = 0:=by
 have e1:=Int.emod_add_mul_ediv (-d) 18446744073709551616
 have e2:=Int.emod_add_mul_ediv (-d % 18446744073709551616 * n) 18446744073709551616
 generalize -d % 18446744073709551616 * n / 18446744073709551616 = q2 at *
 generalize -d % 18446744073709551616 * n % 18446744073709551616 = t at *
 generalize -d / 18446744073709551616 = q1 at *
 generalize -d % 18446744073709551616 = s at *
 obtain ⟨c,hc⟩:=h
 apply Int.emod_eq_zero_of_dvd
 refine ⟨-d * c - q1 * n * m - q2 * m,?_⟩
 have et : t = s * n - 18446744073709551616 * q2:=by omega
 have es : s = -d - 18446744073709551616 * q1:=by omega
 have hmn : m * n = 18446744073709551616 * c + 1:=by omega
 rw [et,es]
 have : (-d - 18446744073709551616 * q1) * n * m = (-d - 18446744073709551616 * q1) * (m * n):=by rw [Int.mul_assoc,Int.mul_comm n]
 simp only [Int.sub_mul,Int.mul_sub,Int.neg_mul,Int.mul_assoc] at *
 rw [Int.mul_comm n m,hmn]
 simp only [Int.mul_add,Int.mul_one]
 have e3 : d * (18446744073709551616 * c) = 18446744073709551616 * (d * c):=by rw [Int.mul_left_comm]
 rw [e3]
 have e4 : q1 * (18446744073709551616 * c) = 18446744073709551616 * (q1 * c):=by rw [Int.mul_left_comm]
 rw [e4]
 omega
/-! ### Newton's steps -/
theorem newton {D E m x : Int} (h : D ∣ m * x - 1) (hE : E ∣ D * D) (hW : E ∣ 18446744073709551616) :
  E ∣ m * (x * ((2 - m * x % 18446744073709551616) % 18446744073709551616) % 18446744073709551616) - 1:=by
 obtain ⟨a,ha⟩:=h
 have e1:=Int.emod_add_mul_ediv (m * x) 18446744073709551616
 have e2:=Int.emod_add_mul_ediv (2 - m * x % 18446744073709551616) 18446744073709551616
 have e3:=Int.emod_add_mul_ediv (x * ((2 - m * x % 18446744073709551616) % 18446744073709551616)) 18446744073709551616
 generalize x * ((2 - m * x % 18446744073709551616) % 18446744073709551616) / 18446744073709551616 = q3 at *
 generalize x * ((2 - m * x % 18446744073709551616) % 18446744073709551616) % 18446744073709551616 = t3 at *
 generalize (2 - m * x % 18446744073709551616) / 18446744073709551616 = q2 at *
 generalize (2 - m * x % 18446744073709551616) % 18446744073709551616 = t2 at *
 generalize m * x / 18446744073709551616 = q1 at *
 generalize m * x % 18446744073709551616 = t1 at *
 -- m x = 1 + D a; t2 = 2 - m x + W (q1 - q2); t3 = x t2 - W q3
 have h3 : t3 = x * t2 - 18446744073709551616 * q3:=by omega
 have h2 : t2 = 2 - m * x + 18446744073709551616 * (q1 - q2):=by omega
 have hk : m * t3 - 1 = -(D * D) * (a * a) + 18446744073709551616 * (m * x * (q1 - q2) - m * q3):=by
  rw [h3,h2]
  have hx : m * x = 1 + D * a:=by omega
  rw [Int.mul_sub,← Int.mul_assoc,Int.mul_add,hx,Int.mul_left_comm m,Int.mul_left_comm (1 + D * a) 18446744073709551616]
  have : (1 + D * a) * (2 - (1 + D * a)) = 1 - D * D * (a * a):=by
   rw [show (2 : Int) - (1 + D * a) = 1 - D * a by omega,Int.mul_sub,Int.mul_one,Int.add_mul,Int.one_mul]
   have : D * a * (D * a) = D * D * (a * a):=by rw [Int.mul_assoc,Int.mul_left_comm a,Int.mul_assoc]
   omega
  rw [this,Int.neg_mul,Int.mul_sub]
  omega
 rw [hk]
 exact Int.dvd_add (Int.dvd_trans (Int.dvd_neg.2 hE) (Int.dvd_mul_right _ _)) (Int.dvd_trans hW (Int.dvd_mul_right _ _))
def dv (k : Nat) : Int:=match k with | 0 => 8 | 1 => 64 | 2 => 4096 | 3 => 16777216 | 4 => 281474976710656 | _ => 18446744073709551616
theorem dv_start {m : Int} (h : m % 2 = 1) : dv 0 ∣ m * m - 1:=by
 show (8 : Int) ∣ m * m - 1
 obtain ⟨a,b,ha,hb⟩ : ∃ a b : Int,m = 8 * a + b ∧ (b = 1 ∨ b = 3 ∨ b = 5 ∨ b = 7):=⟨m / 8,m % 8,by omega,by omega⟩
 have : m * m = 8 * (a * (8 * a) + 2 * (a * b)) + b * b:=by
  rw [ha,Int.add_mul,Int.mul_add,Int.mul_add,Int.mul_assoc,Int.mul_assoc,Int.mul_comm b,Int.mul_assoc 8 a b]
  omega
 rw [this]
 rcases hb with rfl | rfl | rfl | rfl <;> omega
theorem dv_step {m x : Int} {k : Nat} (hk : k < 5) (h : dv k ∣ m * x - 1) :
  dv (k + 1) ∣ m * (x * ((2 - m * x % 18446744073709551616) % 18446744073709551616) % 18446744073709551616) - 1:=by
 refine newton h ?_ ?_
 ·
  match k,hk with
  | 0,_ => decide
  | 1,_ => decide
  | 2,_ => decide
  | 3,_ => decide
  | 4,_ => decide
 ·
  match k,hk with
  | 0,_ => decide
  | 1,_ => decide
  | 2,_ => decide
  | 3,_ => decide
  | 4,_ => decide
/-! ### modulo an odd number,2^256 can be taken away -/
theorem top_two : top = 2 ^ 256:=by decide
theorem cop_top {M : Nat} (h : M % 2 = 1) : Nat.Coprime top M:=by
 rw [top_two]
 apply Nat.Coprime.pow_left
 unfold Nat.Coprime
 rw [Nat.gcd_rec,h]; rfl
theorem cut_top {M A B : Nat} (hM : M % 2 = 1) (h : A * top % M = B * top % M) : A % M = B % M:=by
 have hc : Nat.Coprime M top:=(cop_top hM).symm
 have key : ∀ {a b : Nat},a ≤ b → a * top % M = b * top % M → a % M = b % M:=by
  intro a b hab h
  have h1 : M ∣ (b - a) * top:=by
   rw [Nat.sub_mul]
   exact Nat.dvd_of_mod_eq_zero (Nat.sub_mod_eq_zero_of_mod_eq h.symm)
  have h2 : M ∣ b - a:=Nat.Coprime.dvd_of_dvd_mul_right hc h1
  obtain ⟨c,hc2⟩:=h2
  rw [show b = a + M * c by omega,Nat.add_mul_mod_self_left]
 rcases Nat.le_total A B with hab | hab
 ·
  exact key hab h
 ·
  exact (key hab h.symm).symm
theorem shr_sum {X M Z T o : Nat} (hX : X < top8) (hT : T < top) (hM0 : 0 < M) (hlow : Z % top = 0) (e : Z + o * top8 = X + T * M) :
  (Z / top + o * top) * top = X + T * M ∧ Z / top + o * top < top + M ∧ (X < M * top → Z / top + o * top < 2 * M):=by
 have hp:=zbk
 have hz : top * (Z / top) + Z % top = Z:=Nat.div_add_mod _ _
 rw [zja] at *
 have e2 : (Z / top + o * top) * top = X + T * M:=by
  rw [Nat.add_mul,Nat.mul_assoc,Nat.mul_comm (Z / top)]; omega
 have hTM : T * M < top * M:=Nat.mul_lt_mul_of_pos_right hT hM0
 refine ⟨e2,?_,fun h => ?_⟩
 ·
  apply Nat.lt_of_mul_lt_mul_right (a:=top)
  rw [e2,Nat.add_mul,Nat.mul_comm M]; omega
 ·
  apply Nat.lt_of_mul_lt_mul_right (a:=top)
  rw [e2,Nat.mul_assoc 2,Nat.mul_comm M] at *
  omega
end Go.Proofs.YtihophdbkjhopaaGreatDoor
namespace Go.Proofs.YtihophdbkjhopaaGreatDoor
open Go.RowKit
open Go.Value renaming int → vI
open Go.IntKind renaming u64 → vU
open Go.Act renaming put → aP
open List renaming setIfInBounds_toArray → lA, set_cons_zero → lZ, set_cons_succ → lS
def fdf (M : Nat) (N : Int) (Q : Nat) : Nat → Value:=fun j => if j < 4 then .int .u64 (wd M j) else if j = 4 then .int .u64 N else .int .u64 (wd Q (j - 5))
def Fb (w : World) (b M : Nat) (N : Int) (Q : Nat) : Prop:=w.rowIs b 168 9 (fdf M N Q)
structure Fok (M : Nat) (N : Int) (Q : Nat) : Prop where
 m2 : 2 < M
 odd : M % 2 = 1
 mt : M < top
 n0 : 0 ≤ N
 n1 : N ≤ 18446744073709551615
 inv : (18446744073709551616 : Int) ∣ wd M 0 * N - 1
 q : Q = top8 % M
theorem Fok.qm {M : Nat} {N : Int} {Q : Nat} (h : Fok M N Q) : Q < M:=by rw [h.q]; exact Nat.mod_lt _ (by have:=h.m2; omega)
section
variable {w w' : World} {b M Q B : Nat} {N : Int}
theorem Fb.lt (h : Fb w b M N Q) : b < w.heap.size:=World.rowIs.lt h
theorem Fb.below (h : Fb w b M N Q) (hb : Below B w w') (hlt : b < B) : Fb w' b M N Q:=zae h hb hlt
theorem Fb.call (h : Fb w b M N Q) (hb : Below w.heap.size w w') : Fb w' b M N Q:=zae h hb h.lt
theorem Fb.drew (h : Fb w b M N Q) : Fb w.drew b M N Q:=h
theorem Fb.alloc (h : Fb w b M N Q) (o : Obj) : Fb (w.alloc o) b M N Q:=World.rowIs.alloc h o
theorem Fb.far {b' i : Nat} (h : Fb w b M N Q) (hne : b ≠ b') (v : Value) : Fb (w.setCell ⟨b',i,none⟩ v) b M N Q:=zar h hne v
theorem Fb.mod (h : Fb w b M N Q) : w.cell? ⟨b,0,none⟩ = some (vI vU (wd M 0)) ∧ w.cell? ⟨b,1,none⟩ = some (vI vU (wd M 1)) ∧ w.cell? ⟨b,2,none⟩ = some (vI vU (wd M 2)) ∧ w.cell? ⟨b,3,none⟩ = some (vI vU (wd M 3)) :=
 ⟨World.rowIs.cell h (by omega),World.rowIs.cell h (by omega),World.rowIs.cell h (by omega),World.rowIs.cell h (by omega)⟩
theorem Fb.inv (h : Fb w b M N Q) : w.cell? ⟨b,4,none⟩ = some (vI vU N):=World.rowIs.cell h (by omega)
theorem Fb.sq (h : Fb w b M N Q) : w.cell? ⟨b,5,none⟩ = some (vI vU (wd Q 0)) ∧ w.cell? ⟨b,6,none⟩ = some (vI vU (wd Q 1)) ∧ w.cell? ⟨b,7,none⟩ = some (vI vU (wd Q 2)) ∧ w.cell? ⟨b,8,none⟩ = some (vI vU (wd Q 3)) :=
 ⟨World.rowIs.cell h (by omega),World.rowIs.cell h (by omega),World.rowIs.cell h (by omega),World.rowIs.cell h (by omega)⟩
end
theorem wide_num (X : Nat) (h : X < top) : wd X 4 = 0 ∧ wd X 5 = 0 ∧ wd X 6 = 0 ∧ wd X 7 = 0:=by
 have e : ∀ i,4 ≤ i → wd X i = 0:=by
  intro i hi
  unfold wd dg
  rw [Nat.div_eq_of_lt (Nat.lt_of_lt_of_le h (Nat.pow_le_pow_right zak hi))]; rfl
 exact ⟨e 4 (by omega),e 5 (by omega),e 6 (by omega),e 7 (by omega)⟩
theorem wide_calls (X : Nat) (hX : X < top) (w : World) :
  Calls Tryz.prog 168 #[.agg #[vI vU (wd X 0),vI vU (wd X 1),vI vU (wd X 2),vI vU (wd X 3)]] w fun e w' => e = .returned (.agg #[vI vU (wd X 0),vI vU (wd X 1),vI vU (wd X 2),vI vU (wd X 3),vI vU (wd X 4),vI vU (wd X 5),vI vU (wd X 6),vI vU (wd X 7)]) ∧ Below w.heap.size w w':=by
 obtain ⟨e4,e5,e6,e7⟩:=wide_num X hX
 rw [e4,e5,e6,e7]
 have hA0 : ((w.alloc (.cells #[vI vU (wd X 0),vI vU (wd X 1),vI vU (wd X 2),vI vU (wd X 3)] 29)).alloc (.cells #[vI vU 0,vI vU 0,vI vU 0,vI vU 0,vI vU 0,vI vU 0,vI vU 0,vI vU 0] 142)).rowIs w.heap.size 29 4 (fun j => .int .u64 (wd X j)):=(zag (n:=4) (by simp) rfl (arr4 fun j => .int .u64 (wd X j))).alloc _
 have hR0 : ((w.alloc (.cells #[vI vU (wd X 0),vI vU (wd X 1),vI vU (wd X 2),vI vU (wd X 3)] 29)).alloc (.cells #[vI vU 0,vI vU 0,vI vU 0,vI vU 0,vI vU 0,vI vU 0,vI vU 0,vI vU 0] 142)).rowIs (w.heap.size + 1) 142 8 (fun _ => .int .u64 0):=zag (n:=8) (by simp) rfl (arr8 fun _ => .int .u64 0)
 obtain ⟨c0,c1,c2,c3⟩:=zaj hA0
 obtain ⟨f0,f1,f2,f3,f4,f5,f6,f7⟩:=row_f8 hR0
 obtain ⟨d0,d1,d2,d3,d4,d5,d6,d7⟩:=row_c8 hR0
 clear e4 e5 e6 e7
 go_enter Tryz.func168,Tryz.ntmps168
 go_wp2
 exact bodyPost_ret (results_cell_row rfl _ _ (w.heap.size + 1) 142 #[vI vU (wd X 0),vI vU (wd X 1),vI vU (wd X 2),vI vU (wd X 3),vI vU 0,vI vU 0,vI vU 0,vI vU 0] (0,0) _ rfl (blk8 (zag (n:=8) (f:=fun j => if j < 4 then Value.int .u64 (wd X j) else .int .u64 0) (by simp) rfl (arr8 fun j => if j < 4 then Value.int .u64 (wd X j) else .int .u64 0))) Tryz.underlying142 rfl (by kernel_rfl)) rfl ⟨rfl,((Below.refl _ _).alloc (by simp) _).alloc (by simp) _⟩
theorem inverse_calls (m : Int) (h0 : 0 ≤ m) (h1 : m ≤ 18446744073709551615) (hodd : m % 2 = 1) (w : World) :
  Calls Tryz.prog 153 #[vI vU m] w fun e w' => ∃ n : Int,0 ≤ n ∧ n ≤ 18446744073709551615 ∧ (18446744073709551616 : Int) ∣ m * n - 1 ∧ e = .returned (.int .u64 n) ∧ w' = w:=by
 have hS:=veil (dv_start hodd)
 clear hodd
 go_enter Tryz.func153,Tryz.ntmps153
 go_wp2
 go_loopw [3,5] (fun x i wr => ∃ (k : Nat) (n : Int),k ≤ 5 ∧ i = .int .i64 (k : Int) ∧ x = .int .u64 n ∧ 0 ≤ n ∧ n ≤ 18446744073709551615 ∧ Hid (dv k ∣ m * n - 1) ∧ wr = w)
  (fun _ i _ => 5 - (intOf i).toNat)
 case atStart => exact ⟨0,m,by omega,rfl,rfl,h0,h1,hS,rfl⟩
 case round =>
  obtain ⟨k,n,hk,rfl,rfl,n0,n1,hD,rfl⟩:=hrel
  by_cases hlt : k < 5
  ·
   have hn:=veil (dv_step hlt hD.out)
   obtain ⟨y,hy⟩ : ∃ y,y = n * ((2 - m * n % 18446744073709551616) % 18446744073709551616) % 18446744073709551616:=⟨_,rfl⟩
   rw [← hy] at hn
   have y0 : 0 ≤ y:=by omega
   have y1 : y ≤ 18446744073709551615:=by omega
   have hY:=veil hy
   clear hy
   go_wp2
   go_roundw
   case rel => exact ⟨k + 1,y,by omega,by go_num,by simp only [IntKind.wrap_u64]; rw [hY.out],y0,y1,hn,trivial⟩
   case measure => simp [intOf]; omega
  ·
   obtain rfl : k = 5:=by omega
   go_wp2
   go_ret
   exact ⟨n,n0,n1,hD.out,rfl,rfl⟩
theorem Fb.range {w : World} {b M : Nat} {N : Int} {Q : Nat} (h : Fb w b M N Q) : w.rangeAt b 0 [.int .u64 (wd M 0),.int .u64 (wd M 1),.int .u64 (wd M 2),.int .u64 (wd M 3)]:=fun j v hv => by
 obtain ⟨c0,c1,c2,c3⟩:=h.mod
 match j,hv with
 | 0,rfl => exact c0
 | 1,rfl => exact c1
 | 2,rfl => exact c2
 | 3,rfl => exact c3
 | _ + 4,hv => simp at hv
theorem zei {W : World} {b M : Nat} {N : Int} {Q : Nat} (h : Fb W b M N Q) : (Instr.loadAt 29 (.pointer (some ⟨b,0,none⟩))).run Tryz.prog W = .ok (.agg #[vI vU (wd M 0),vI vU (wd M 1),vI vU (wd M 2),vI vU (wd M 3)]) W:=run_loadAt_mid W b 0 29 _ _ h.range Tryz.underlying29 rfl (by kernel_rfl)
theorem ret_u2 {a b c d : Int} (h : a = b) (h2 : c = d) : Ending.returned (.tuple #[vI vU a,vI vU c]) = .returned (.tuple #[vI vU b,vI vU d]):=by rw [h,h2]
theorem mul64 (x y : Int) (hx : 0 ≤ x) (hx2 : x ≤ 18446744073709551615) (hy : 0 ≤ y) (hy2 : y ≤ 18446744073709551615) (w : World) :
  Calls Tryz.prog 167 #[vI vU x,vI vU y] w fun e w' => e = .returned (.tuple #[vI vU (x * y / 18446744073709551616),vI vU (x * y % 18446744073709551616)]) ∧ w' = w:=by
 have key:=mul64_arith x y hx (by omega) hy (by omega)
 have m1:=and_low32 x hx (by omega)
 have m2:=and_low32 y hy (by omega)
 have K:=veil key
 have M1:=veil m1
 have M2:=veil m2
 clear key m1 m2
 go_enter Tryz.func167,Tryz.ntmps167
 go_wp2
 go_ret2
 refine ⟨ret_u2 ?_ ?_,rfl⟩
 ·
  simp only [M1.out,M2.out,IntKind.wrap_u64]
  rw [and_low32 _ (by omega) (by omega)]
  exact K.out
 ·
  exact IntKind.wrap_u64 _
theorem ma_bound {x y : Int} (hx : 0 ≤ x) (hx2 : x ≤ 18446744073709551615) (hy : 0 ≤ y) (hy2 : y ≤ 18446744073709551615) : 0 ≤ x * y ∧ x * y ≤ 340282366920938463426481119284349108225:=by
 refine ⟨Int.mul_nonneg hx hy,?_⟩
 have:=Int.mul_le_mul hx2 hy2 hy (by omega : (0 : Int) ≤ 18446744073709551615)
 omega
theorem mulAdd_calls (x y u v : Int) (hx : 0 ≤ x) (hx2 : x ≤ 18446744073709551615) (hy : 0 ≤ y) (hy2 : y ≤ 18446744073709551615) (hu : 0 ≤ u) (hu2 : u ≤ 18446744073709551615) (hv : 0 ≤ v) (hv2 : v ≤ 18446744073709551615) (w : World) :
  Calls Tryz.prog 158 #[vI vU x,vI vU y,vI vU u,vI vU v] w fun e w' => e = .returned (.tuple #[vI vU ((x * y + u + v) % 18446744073709551616),vI vU ((x * y + u + v) / 18446744073709551616)]) ∧ w' = w:=by
 obtain ⟨p0,p1⟩:=ma_bound hx hx2 hy hy2
 obtain ⟨P,hP⟩ : ∃ P,P = x * y:=⟨_,rfl⟩
 rw [← hP] at p0 p1 ⊢
 obtain ⟨L,hL⟩ : ∃ L,L = P % 18446744073709551616:=⟨_,rfl⟩
 obtain ⟨Hh,hH⟩ : ∃ Hh,Hh = P / 18446744073709551616:=⟨_,rfl⟩
 obtain ⟨L1,hL1⟩ : ∃ L1,L1 = (L + u + 0) % 18446744073709551616:=⟨_,rfl⟩
 obtain ⟨c1,hc1⟩ : ∃ c1,c1 = (L + u + 0) / 18446744073709551616:=⟨_,rfl⟩
 obtain ⟨L2,hL2⟩ : ∃ L2,L2 = (L1 + v + 0) % 18446744073709551616:=⟨_,rfl⟩
 obtain ⟨c2,hc2⟩ : ∃ c2,c2 = (L1 + v + 0) / 18446744073709551616:=⟨_,rfl⟩
 have h29a:=fun W => add64 L u 0 (by omega) hu (by omega) (by omega) W
 have h29b:=fun W => add64 L1 v 0 (by omega) hv (by omega) (by omega) W
 rw [← hL1,← hc1] at h29a
 rw [← hL2,← hc2] at h29b
 have b1 : 0 ≤ Hh:=by omega
 have b2 : 0 ≤ c1:=by omega
 have b3 : 0 ≤ c2:=by omega
 have b4 : Hh + c1 ≤ 18446744073709551615:=by omega
 have b5 : Hh + c1 + c2 ≤ 18446744073709551615:=by omega
 have e1 : (P + u + v) % 18446744073709551616 = L2:=by omega
 have e2 : (P + u + v) / 18446744073709551616 = Hh + c1 + c2:=by omega
 have hM:=fun W => mul64 x y hx hx2 hy hy2 W
 rw [← hP,← hL,← hH] at hM
 have HM:=veil hM
 have E:=veil (And.intro e1 e2)
 clear hM e1 e2 hP hL hH hL1 hc1 hL2 hc2 p0 p1 hx hx2 hy hy2 hu hu2 hv hv2
 go_enter Tryz.func158,Tryz.ntmps158
 go_wp2_with (go_at_call 167; refine (HM.out _).mono ?_; rintro e w' ⟨rfl,rfl⟩)
 go_ret2
 rw [E.out.1,E.out.2]
 exact ⟨rfl,rfl⟩
end Go.Proofs.YtihophdbkjhopaaGreatDoor
namespace Go.Proofs.YtihophdbkjhopaaGreatDoor
def PP (B X Y i : Nat) : Nat:=X % B ^ i * Y
def TT (B X Y i j : Nat) : Nat:=PP B X Y i % B ^ (i + j) + dg B X i * (B ^ i * (Y % B ^ j))
def CC (B X Y i j : Nat) : Nat:=TT B X Y i j / B ^ (i + j)
def UU (B X Y i j m : Nat) : Nat:=if m < i + j then dg B (TT B X Y i j) m else dg B (PP B X Y i) m
theorem UU_start {B : Nat} (X Y i m : Nat) : UU B X Y i 0 m = dg B (PP B X Y i) m:=by
 unfold UU
 split
 ·
  rename_i h
  unfold TT
  simp only [Nat.pow_zero,Nat.mod_one,Nat.mul_zero,Nat.add_zero] at *
  exact zck _ i m h
 ·
  rfl
theorem CC_start {B : Nat} (hB : 0 < B) (X Y i : Nat) : CC B X Y i 0 = 0:=by
 unfold CC TT
 simp only [Nat.pow_zero,Nat.mod_one,Nat.mul_zero,Nat.add_zero]
 exact Nat.div_eq_of_lt (Nat.mod_lt _ (Nat.pow_pos hB))
theorem TT_lt {B : Nat} (hB : 0 < B) (X Y i j : Nat) : TT B X Y i j < B ^ (i + j) * B:=by
 have hQ : 0 < B ^ (i + j):=Nat.pow_pos hB
 have h1:=Nat.mod_lt (PP B X Y i) hQ
 have h2 : B ^ i * (Y % B ^ j) ≤ B ^ (i + j):=by
  rw [Nat.pow_add]
  exact Nat.mul_le_mul_left _ (Nat.le_of_lt (Nat.mod_lt _ (Nat.pow_pos hB)))
 have h3 : dg B X i * (B ^ i * (Y % B ^ j)) ≤ (B - 1) * B ^ (i + j):=Nat.mul_le_mul (by have:=dg_lt hB X i; omega) h2
 unfold TT
 have h4 : B ^ (i + j) * B = B ^ (i + j) + (B - 1) * B ^ (i + j):=by
  obtain ⟨b,rfl⟩ : ∃ b,B = b + 1:=⟨B - 1,by omega⟩
  rw [Nat.add_sub_cancel,Nat.mul_add,Nat.mul_one,Nat.mul_comm]
  omega
 omega
theorem CC_lt {B : Nat} (hB : 0 < B) (X Y i j : Nat) : CC B X Y i j < B:=by
 unfold CC
 rw [Nat.div_lt_iff_lt_mul (Nat.pow_pos hB),Nat.mul_comm]
 exact TT_lt hB X Y i j
theorem UU_lt {B : Nat} (hB : 0 < B) (X Y i j m : Nat) : UU B X Y i j m < B:=by
 unfold UU
 split <;> exact dg_lt hB _ _
theorem TT_step {B : Nat} (X Y i j : Nat) :
  TT B X Y i (j + 1) = TT B X Y i j % B ^ (i + j) + B ^ (i + j) * (dg B X i * dg B Y j + dg B (PP B X Y i) (i + j) + CC B X Y i j):=by
 have h1 : TT B X Y i (j + 1) = TT B X Y i j + B ^ (i + j) * (dg B (PP B X Y i) (i + j) + dg B X i * dg B Y j):=by
  unfold TT
  rw [show i + (j + 1) = (i + j) + 1 by omega,zbv B (PP B X Y i) (i + j),zbv B Y j,Nat.mul_add (B ^ i),← Nat.mul_assoc (B ^ i),← Nat.pow_add,Nat.mul_add (dg B X i),Nat.mul_add (B ^ (i + j)),
   show dg B X i * (B ^ (i + j) * dg B Y j) = B ^ (i + j) * (dg B X i * dg B Y j) by rw [Nat.mul_left_comm]]
  omega
 have h2 : B ^ (i + j) * CC B X Y i j + TT B X Y i j % B ^ (i + j) = TT B X Y i j:=Nat.div_add_mod _ _
 rw [h1,Nat.mul_add,Nat.mul_add,Nat.mul_add]
 omega
theorem UU_step {B : Nat} (hB : 0 < B) (X Y i j : Nat) : UU B X Y i (j + 1) (i + j) = (dg B X i * dg B Y j + UU B X Y i j (i + j) + CC B X Y i j) % B:=by
 have hu : UU B X Y i j (i + j) = dg B (PP B X Y i) (i + j):=by unfold UU; rw [if_neg (by omega)]
 rw [hu]
 unfold UU
 rw [if_pos (by omega),dg,TT_step,Nat.add_mul_div_left _ _ (Nat.pow_pos hB),Nat.div_eq_of_lt (Nat.mod_lt _ (Nat.pow_pos hB)),Nat.zero_add]
theorem CC_step {B : Nat} (hB : 0 < B) (X Y i j : Nat) : CC B X Y i (j + 1) = (dg B X i * dg B Y j + UU B X Y i j (i + j) + CC B X Y i j) / B:=by
 have hu : UU B X Y i j (i + j) = dg B (PP B X Y i) (i + j):=by unfold UU; rw [if_neg (by omega)]
 rw [hu]
 show TT B X Y i (j + 1) / B ^ (i + (j + 1)) = _
 rw [show i + (j + 1) = (i + j) + 1 by omega,Nat.pow_succ,← Nat.div_div_eq_div_mul,TT_step,Nat.add_mul_div_left _ _ (Nat.pow_pos hB),Nat.div_eq_of_lt (Nat.mod_lt _ (Nat.pow_pos hB)),Nat.zero_add]
theorem UU_other {B : Nat} (X Y i j m : Nat) (hm : m ≠ i + j) : UU B X Y i (j + 1) m = UU B X Y i j m:=by
 unfold UU
 by_cases h : m < i + j
 ·
  rw [if_pos (by omega),if_pos h,← zck _ (i + j) m h,TT_step,Nat.add_mul_mod_self_left,Nat.mod_mod,zck _ (i + j) m h]
 ·
  rw [if_neg (by omega),if_neg h]
theorem PP_lt {B : Nat} (hB : 0 < B) (X Y i n : Nat) (hY : Y < B ^ n) : PP B X Y i < B ^ (i + n):=by
 have h1 : X % B ^ i < B ^ i:=Nat.mod_lt _ (Nat.pow_pos hB)
 unfold PP
 rw [Nat.pow_add]
 exact Nat.mul_lt_mul_of_lt_of_le h1 (Nat.le_of_lt hY) (by omega)
theorem PP_step {B : Nat} (hB : 0 < B) (X Y i n : Nat) (hY : Y < B ^ n) : PP B X Y (i + 1) = TT B X Y i n:=by
 unfold TT
 rw [Nat.mod_eq_of_lt (PP_lt hB X Y i n hY),Nat.mod_eq_of_lt hY]
 unfold PP
 rw [zbv,Nat.add_mul,Nat.mul_comm (B ^ i) (dg B X i),Nat.mul_assoc]
theorem PP_row {B : Nat} (hB : 0 < B) (X Y i n m : Nat) (hY : Y < B ^ n) : dg B (PP B X Y (i + 1)) m = if m = i + n then CC B X Y i n else UU B X Y i n m:=by
 rw [PP_step hB X Y i n hY]
 by_cases h : m = i + n
 ·
  subst h
  rw [if_pos rfl]
  show CC B X Y i n % B = _
  exact Nat.mod_eq_of_lt (CC_lt hB X Y i n)
 ·
  rw [if_neg h]
  unfold UU
  by_cases h2 : m < i + n
  ·
   rw [if_pos h2]
  ·
   rw [if_neg h2]
   have hle : B ^ (i + n) * B ≤ B ^ m:=by rw [← Nat.pow_succ]; exact Nat.pow_le_pow_right hB (by omega)
   have h3:=TT_lt hB X Y i n
   have h4:=PP_lt hB X Y i n hY
   have h5 : B ^ (i + n) ≤ B ^ (i + n) * B:=Nat.le_mul_of_pos_right _ hB
   unfold dg
   rw [Nat.div_eq_of_lt (by omega),Nat.div_eq_of_lt (by omega)]
theorem PP_zero (B X Y : Nat) : PP B X Y 0 = 0:=by simp [PP,Nat.mod_one]
theorem PP_end {B : Nat} (X Y n : Nat) (hX : X < B ^ n) : PP B X Y n = X * Y:=by unfold PP; rw [Nat.mod_eq_of_lt hX]
theorem dg_zero (B i : Nat) : dg B 0 i = 0:=by simp [dg]
end Go.Proofs.YtihophdbkjhopaaGreatDoor
namespace Go.Proofs.YtihophdbkjhopaaGreatDoor
open Go.RowKit
open Go.Value renaming int → vI
open Go.IntKind renaming u64 → vU
open Go.Act renaming put → aP
open List renaming setIfInBounds_toArray → lA, set_cons_zero → lZ, set_cons_succ → lS
def ptB (X Y j : Nat) : Value:=if j < 32 then bsv X j else bsv Y (j - 32)
theorem from_own {w : World} {base e n g c : Nat} {f : Nat → Value} (o : Own w base e (.slice (some ⟨g,0,none⟩) n c) n f) : From w (some ⟨g,0,none⟩) n f:=by
 by_cases h : n = 0
 ·
  exact .inl h
 ·
  obtain ⟨g',c',e,_,_,hp⟩:=o.pre (by omega)
  injection e with e1 _ _
  injection e1 with e2
  injection e2 with e3
  subst e3
  exact .inr ⟨_,rfl,fun j hj => by rw [Addr.add_mid,Nat.zero_add]; exact hp.cell hj⟩
def be32 (y : Nat → Nat) (k : Nat) : Nat:=lev (fun i => y (k + (31 - i))) 32
/-! ### numbers -/
theorem lev_digs9 (X : Nat) (z : Nat → Nat) : ∀ i,(∀ k,k < i → z k = X / 256 ^ k % 256) → lev z i = X % 256 ^ i
 | 0,_ => by simp [lev,Nat.mod_one]
 | i + 1,h => by
  show lev z i + z i * 256 ^ i = _
  rw [zbv,lev_digs9 X z i (fun k hk => h k (by omega)),h i (by omega),Nat.mul_comm]
  rfl
theorem lev_valB {bs : List Nat} (h : Byt bs) {n : Nat} (hl : bs.length = n) {z : Nat → Nat} (hz : ∀ k,k < n → z k = bs.getD (n - 1 - k) 0) : lev z n = valB bs:=by
 have e:=beB_valB h hl
 have hx : valB bs < 256 ^ n:=hl ▸ zgj h
 rw [lev_digs9 (valB bs) z n fun k hk => ?_,Nat.mod_eq_of_lt hx]
 have h1:=beB_get n (valB bs) (i:=n - 1 - k) (by omega)
 rw [e] at h1
 rw [hz k hk,h1,show n - 1 - (n - 1 - k) = k by omega]
theorem ptB_sig (r s j : Nat) (hj : j < 64) : ptB r s j = .int .u8 ((sigB r s).getD j 0 : Nat):=by
 have hd : ∀ X i,i < 32 → bsv X i = .int .u8 ((beB 32 X).getD i 0 : Nat):=fun X i hi => by
  rw [beB_get 32 X hi]
  rfl
 unfold ptB sigB
 simp only [List.getD_eq_getElem?_getD] at hd ⊢
 by_cases h : j < 32
 ·
  rw [if_pos h,List.getElem?_append_left (by rw [zcw]; exact h)]
  exact hd r j h
 ·
  rw [if_neg h,List.getElem?_append_right (by rw [zcw]; omega),zcw]
  exact hd s (j - 32) (by omega)
theorem own_sig {w w' : World} {v : Value} {r s : Nat} (o : Own w' w.heap.size 5 v 64 (ptB r s)) : ∃ A c,v = .slice A 64 c ∧ 64 ≤ c ∧ Bs w' A (sigB r s) ∧ Fresh w A (sigB r s):=by
 obtain ⟨g,c,rfl,hc,hg,hp⟩:=o.pre (by decide)
 refine ⟨_,c,rfl,hc,⟨sigB_byt r s,.inr ⟨g,0,rfl,hp.lt,fun j hj => ?_⟩⟩,.inr fun b o e => ?_⟩
 ·
  rw [sigB_length] at hj
  rw [Nat.zero_add,hp.cell hj,ptB_sig r s j hj]
 ·
  injection e with e
  injection e with e
  omega
section
variable {P : Program} {ops : Array Oper} {Q : Exit → Act → World → Prop} {md : Region.Mode}
theorem all_cons {p : Nat → Prop} {i : Nat} {rs : List Nat} (h : p i) (k : ∀ j ∈ rs,p j) : ∀ j ∈ i :: rs,p j:=fun j hj => by
 rcases List.mem_cons.1 hj with rfl | hj
 ·
  exact h
 ·
  exact k j hj
section
variable {i : Nat} {o : Oper} {d : Option Tmp} {K : Act → World → Prop} {a : Act} {W : World}
end
/-! ### a piece of the text's order,whatever has come up -/
end
def Lit (A : Nat → Nat → Act) (T : Nat → World → Prop) : Exit → Act → World → Prop:=fun e a W => ∃ g p,e = .normal ∧ a = A g p ∧ T p W
section
variable {P : Program} {Q : Exit → Act → World → Prop} {A : Nat → Nat → Act} {T : Nat → World → Prop}
section
variable {P : Program} {Q : Exit → Act → World → Prop}
end
end
section
variable {P : Program} {Q : Exit → Act → World → Prop} {l : List Oper} {m g : Nat} {A : Act} {w W0 : World} {ty t : TypeId} {zs cells : Array Value} {d de : Tmp} {y : Operand}
end
end Go.Proofs.YtihophdbkjhopaaGreatDoor
namespace Go.Proofs.YtihophdbkjhopaaGreatDoor
open Go.ChangeShapes Go.WideShapes Go.RowKit
open Go.Value renaming int → vI
open Go.IntKind renaming u64 → vU
open Go.Act renaming put → aP
open List renaming setIfInBounds_toArray → lA, set_cons_zero → lZ, set_cons_succ → lS
theorem ownT : ownKnob Tryz.prog.godebug = none:=by kernel_rfl
theorem laidOutT : laidOutB Tryz.prog = true:=by kernel_rfl
theorem cellsT1 : Tryz.prog.cellsOf 5 = 1:=by kernel_rfl
theorem bs_of {H : Type} {enc : TypeId × Value → H} {W : World} {v : Value} {fuel : Nat} {d : DataW H} {p : List MemPlace} {base : Nat} {sp : Nat → Bool} {held : Bool}
  (hf : DataW.trod enc Tryz.prog W base sp held fuel 24 [v] = some (d,p)) : ∃ (A : Option Addr) (len cap : Nat) (bs : List Nat),v = .slice A len cap ∧ len = bs.length ∧ Bs W A bs ∧ len ≤ cap:=by
 rcases open_ints Tryz.underlying24 Tryz.underlying5 cellsT1 hf with ⟨hcs,hx⟩ | ⟨a,len,cap,zs,hcs,_,hlc,_,hz,hx,hcell,hwz⟩
 ·
  simp only [List.cons.injEq,and_true] at hcs
  exact ⟨none,0,0,[],hcs,rfl,Bs.nil _ _,Nat.le_refl _⟩
 ·
  simp only [List.cons.injEq,and_true] at hcs
  have hzl : len ≤ zs.length:=by rw [hz]; split <;> omega
  have hb : ∀ z ∈ zs,0 ≤ z ∧ z < 256:=fun z hz' => by
   have h:=hwz z hz'
   simp only [Lit.wf,Bool.and_eq_true,decide_eq_true_eq] at h
   have e1 : IntKind.u8.min = 0:=rfl
   have e2 : IntKind.u8.max = 255:=rfl
   omega
  have hl : ((zs.take len).map fun z => z.toNat).length = len:=by simp; omega
  refine ⟨some a,len,cap,(zs.take len).map fun z => z.toNat,hcs,hl.symm,⟨fun x hx' => ?_,?_⟩,hlc⟩
  ·
   obtain ⟨z,hz1,rfl⟩:=List.mem_map.1 hx'
   have:=hb z (List.mem_of_mem_take hz1)
   omega
  ·
   by_cases h0 : len = 0
   ·
    exact .inl (by rw [hl]; exact h0)
   ·
    clear hcs hx
    obtain ⟨b,off,spot⟩:=a
    have h00:=hcell 0 (by omega)
    have hspot : spot = none:=by simpa [Addr.add] using World.cell?_spot h00
    subst hspot
    have hblk : b < W.heap.size:=by
     have:=World.block_lt_of_cell? W _ h00
     simpa [Addr.add] using this
    refine .inr ⟨b,off,rfl,hblk,fun j hj => ?_⟩
    rw [hl] at hj
    have hjz : j < zs.length:=by omega
    have hzj:=hb (zs[j]) (List.getElem_mem hjz)
    have e1 : ((zs.take len).map fun z => z.toNat).getD j 0 = (zs[j]).toNat:=by
     simp [List.getD_eq_getElem?_getD,List.getElem?_take_of_lt hj,hjz]
    have e2 : zs.getD j 0 = zs[j]:=by simp [List.getD_eq_getElem?_getD,hjz]
    rw [← Addr.add_mid,hcell j hjz,e1,e2,Int.toNat_of_nonneg hzj.1]
end Go.Proofs.YtihophdbkjhopaaGreatDoor
namespace Go.Proofs.YtihophdbkjhopaaGreatDoor
open Go.ChangeShapes Go.WideShapes Go.ChangeAt Go.RowKit
open Go.Value renaming int → vI
open Go.IntKind renaming u64 → vU
open Go.Act renaming put → aP
open List renaming setIfInBounds_toArray → lA, set_cons_zero → lZ, set_cons_succ → lS
theorem cellsWord : Tryz.prog.cellsOf 27 = 1:=by kernel_rfl
def numD {H : Type} (X : Nat) : DataW H:=.agg [.lit (.int .u64 (wd X 0)),.lit (.int .u64 (wd X 1)),.lit (.int .u64 (wd X 2)),.lit (.int .u64 (wd X 3))]
theorem wf_u64 {x : Int} (h : (Lit.int .u64 x).wf = true) : 0 ≤ x ∧ x < 18446744073709551616:=by
 simp only [Lit.wf,Bool.and_eq_true,decide_eq_true_eq] at h
 have e1 : IntKind.u64.min = 0:=rfl
 have e2 : IntKind.u64.max = 18446744073709551615:=rfl
 omega
section
variable {H : Type} {enc : TypeId × Value → H}
end
end Go.Proofs.YtihophdbkjhopaaGreatDoor
namespace Go.Proofs.YtihophdbkjhopaaGreatDoor
open Go.ChangeShapes Go.WideShapes Go.RowKit
open Go.Value renaming int → vI
open Go.IntKind renaming u64 → vU
open Go.Act renaming put → aP
open List renaming setIfInBounds_toArray → lA, set_cons_zero → lZ, set_cons_succ → lS
section
variable {H : Type} {enc : TypeId × Value → H} {W : World} {base : Nat} {sp : Nat → Bool} {hd : Bool} {fuel : Nat}
theorem cellsBB16 : Tryz.prog.cellsOf 24 = 1:=by kernel_rfl
theorem tv_of_trod {cs : List Value} {x : DataW H × List MemPlace} (hf : DataW.trod enc Tryz.prog W base sp hd fuel 24 cs = some x) : ∃ y : Tv,TvAt W y ∧ cs = tvC y:=by
 obtain ⟨d,p⟩:=x
 have h1 : ∃ v,cs = [v]:=by
  rcases DataW.trod_slice Tryz.underlying24 hf with ⟨h,_⟩ | ⟨a,len,cap,_,_,_,_,h,_⟩
  ·
   exact ⟨_,h⟩
  ·
   exact ⟨_,h⟩
 obtain ⟨v,rfl⟩:=h1
 obtain ⟨A,m,c,bs,rfl,hm,hb,hc⟩:=bs_of hf
 exact ⟨(.slice A m c,bs),⟨A,c,by rw [hm],by show bs.length ≤ c; omega,hb⟩,rfl⟩
theorem tx_of {v : Value} {d : DataW H} {p : List MemPlace} (hf : DataW.trod enc Tryz.prog W base sp hd fuel 56 [v] = some (d,p)) : ∃ l : List Tv,Tx W v l:=by
 obtain ⟨l,A,c,e,hc,hx⟩:=ls_of (α:={x : Tv // TvAt W x}) (cs:=fun x => tvC x.1) Tryz.underlying56 cellsBB16 (by decide) (fun n cs' y h => by
  obtain ⟨s,hs,e⟩:=tv_of_trod h
  exact ⟨⟨s,hs⟩,e⟩) hf
 refine ⟨l.map (·.1),⟨A,c,by rw [List.length_map]; exact e,by rw [List.length_map]; exact hc,?_⟩,fun x hx => ?_⟩
 ·
  rw [List.length_map]
  refine hx.imp id ?_
  rintro ⟨b,o,ha,hb,hr⟩
  refine ⟨b,o,ha,hb,fun i x hi => ?_⟩
  rw [List.getElem?_map] at hi
  cases h : l[i]? with
  | none => rw [h] at hi; cases hi
  | some y =>
   rw [h] at hi
   rw [← Option.some.inj hi]
   exact hr i y h
 ·
  obtain ⟨y,_,rfl⟩:=List.mem_map.1 hx
  exact y.2
end
end Go.Proofs.YtihophdbkjhopaaGreatDoor
namespace Go.Proofs.YtihophdbkjhopaaGreatDoor
open Go.ChangeShapes Go.WideShapes Go.RowKit
open Go.Value renaming int → vI
open Go.IntKind renaming u64 → vU
open Go.Act renaming put → aP
open List renaming setIfInBounds_toArray → lA, set_cons_zero → lZ, set_cons_succ → lS
section
variable {H : Type} {enc : TypeId × Value → H} {W : World} {base : Nat} {sp : Nat → Bool} {hd : Bool} {fuel : Nat}
theorem tx_of17 {v : Value} {d : DataW H} {p : List MemPlace} (hf : DataW.trod enc Tryz.prog W base sp hd fuel 56 [v] = some (d,p)) : ∃ l : List Tv,Tx W v l ∧ l.length ≤ 9223372036854775807:=by
 obtain ⟨l,hT⟩:=tx_of hf
 refine ⟨l,hT,?_⟩
 obtain ⟨⟨A,c,e,_⟩,_⟩:=hT
 rw [e] at hf
 rcases DataW.trod_slice Tryz.underlying56 hf with ⟨h,_⟩ | ⟨a,len,cap,_,_,_,_,h,_,_,h1,h2,_⟩
 ·
  simp only [List.cons.injEq,Value.slice.injEq,and_true] at h
  omega
 ·
  simp only [List.cons.injEq,Value.slice.injEq,and_true] at h
  unfold maxLen at h2
  omega
end
end Go.Proofs.YtihophdbkjhopaaGreatDoor
namespace Go.Proofs.YtihophdbkjhopaaGreatDoor
open Go.ChangeShapes Go.WideShapes Go.ChangeAt Go.RowKit
open Go.Value renaming int → vI
open Go.IntKind renaming u64 → vU
open Go.Act renaming put → aP
open List renaming setIfInBounds_toArray → lA, set_cons_zero → lZ, set_cons_succ → lS
def pointD {H : Type} (X Y : Nat) (f : Bool) : DataW H:=.agg [numD X,numD Y,.lit (.bool f)]
theorem array9 {cs : Array Value} (h : cs.size = 9) : ∃ c0 c1 c2 c3 c4 c5 c6 c7 c8,cs = #[c0,c1,c2,c3,c4,c5,c6,c7,c8]:=by
 obtain ⟨l⟩:=cs
 match l,h with
 | [c0,c1,c2,c3,c4,c5,c6,c7,c8],_ => exact ⟨c0,c1,c2,c3,c4,c5,c6,c7,c8,rfl⟩
section
variable {H : Type} {enc : TypeId × Value → H}
theorem num_of_trod {W : World} {base : Nat} {sp : Nat → Bool} {hd : Bool} {fuel : Nat} {c0 c1 c2 c3 : Value} {x : DataW H × List MemPlace} (hf : DataW.trod enc Tryz.prog W base sp hd fuel 29 [c0,c1,c2,c3] = some x) :
  ∃ X,X < top ∧ c0 = .int .u64 (wd X 0) ∧ c1 = .int .u64 (wd X 1) ∧ c2 = .int .u64 (wd X 2) ∧ c3 = .int .u64 (wd X 3) ∧ x = (numD X,[]):=by
 obtain ⟨y0,y1,y2,y3,m,hx,hy0,hy1,hy2,hy3⟩:=trod_array4 Tryz.underlying29 cellsWord hf
 obtain ⟨x0,e0,rfl,w0⟩:=DataW.trod_int Tryz.underlying27 hy0
 obtain ⟨x1,e1,rfl,w1⟩:=DataW.trod_int Tryz.underlying27 hy1
 obtain ⟨x2,e2,rfl,w2⟩:=DataW.trod_int Tryz.underlying27 hy2
 obtain ⟨x3,e3,rfl,w3⟩:=DataW.trod_int Tryz.underlying27 hy3
 simp at e0 e1 e2 e3
 subst e0 e1 e2 e3
 subst hx
 obtain ⟨a0,b0⟩:=wf_u64 w0
 obtain ⟨a1,b1⟩:=wf_u64 w1
 obtain ⟨a2,b2⟩:=wf_u64 w2
 obtain ⟨a3,b3⟩:=wf_u64 w3
 obtain ⟨g0,g1,g2,g3⟩:=wd_ofWords a0 b0 a1 b1 a2 b2 a3 b3
 refine ⟨ofWords x0 x1 x2 x3,ofWords_lt b0 b1 b2 b3,?_,?_,?_,?_,?_⟩
 ·
  rw [g0]
 ·
  rw [g1]
 ·
  rw [g2]
 ·
  rw [g3]
 ·
  unfold numD
  rw [g0,g1,g2,g3]
  rfl
theorem open_point {W : World} {base : Nat} {v : Value} {d : DataW H} {p : List MemPlace} (hv : Value.okWide Tryz.prog W .any base 44 v) (h : DataW.Trod enc Tryz.prog W 0 (fun _ => true) true 44 v d p) :
  ∃ X Y f,X < top ∧ Y < top ∧ v = .agg #[vI vU (wd X 0),vI vU (wd X 1),vI vU (wd X 2),vI vU (wd X 3),vI vU (wd Y 0),vI vU (wd Y 1),vI vU (wd Y 2),vI vU (wd Y 3),.bool (f)] ∧ d = pointD X Y f ∧ p = []:=by
 obtain ⟨cs,rfl,hsz⟩:=okWide_struct Tryz.underlying44 hv
 rw [zjw] at hsz
 obtain ⟨c0,c1,c2,c3,c4,c5,c6,c7,c8,rfl⟩:=array9 hsz
 obtain ⟨fuel,hf⟩:=h
 obtain ⟨y0,y1,y2,m,hx,_,hy0,hy1,hy2⟩:=Deep.trod_struct3 Tryz.underlying44 hf
 have hy0 : DataW.trod enc Tryz.prog W 0 (fun _ => true) true m 29 [c0,c1,c2,c3] = some y0:=by simpa [Value.cells,zhq] using hy0
 have hy1 : DataW.trod enc Tryz.prog W 0 (fun _ => true) true m 29 [c4,c5,c6,c7] = some y1:=by simpa [Value.cells,zhq] using hy1
 have hy2 : DataW.trod enc Tryz.prog W 0 (fun _ => true) true m 4 [c8] = some y2:=by simpa [Value.cells,cells_bool] using hy2
 obtain ⟨X,lX,rfl,rfl,rfl,rfl,rfl⟩:=num_of_trod hy0
 obtain ⟨Y,lY,rfl,rfl,rfl,rfl,rfl⟩:=num_of_trod hy1
 obtain ⟨f,e,rfl⟩:=DataW.trod_bool Tryz.underlying4 hy2
 obtain rfl:=List.head_eq_of_cons_eq e
 simp only [Prod.mk.injEq,List.append_nil] at hx
 obtain ⟨rfl,rfl⟩:=hx
 exact ⟨X,Y,f,lX,lY,rfl,rfl,rfl⟩
end
end Go.Proofs.YtihophdbkjhopaaGreatDoor
namespace Go.Proofs.YtihophdbkjhopaaGreatDoor
open Go.RowKit
open Go.Value renaming int → vI
open Go.IntKind renaming u64 → vU
open Go.Act renaming put → aP
open List renaming setIfInBounds_toArray → lA, set_cons_zero → lZ, set_cons_succ → lS
theorem zbr (n l m : Int) (w : World) : Calls Tryz.prog 29 #[.int .i64 n,.int .i64 l,.int .i64 m] w fun e w' => e = .returned (.bool (decide (l ≤ n) && decide (n ≤ m))) ∧ w' = w:=by
 by_cases g0 : l ≤ n
 ·
  have d0 : decide (l ≤ n) = true:=decide_eq_true g0
  by_cases g1 : n ≤ m
  ·
   have d1 : decide (n ≤ m) = true:=decide_eq_true g1
   rw [show (decide (l ≤ n) && decide (n ≤ m)) = true by rw [d0,d1]; rfl]
   go_enter Tryz.func29,Tryz.ntmps29
   go_wp2
   go_ret
   exact ⟨rfl,rfl⟩
  ·
   have d1 : decide (n ≤ m) = false:=decide_eq_false g1
   rw [show (decide (l ≤ n) && decide (n ≤ m)) = false by rw [d0,d1]; rfl]
   go_enter Tryz.func29,Tryz.ntmps29
   go_wp2
   go_ret
   exact ⟨rfl,rfl⟩
 ·
  have d0 : decide (l ≤ n) = false:=decide_eq_false g0
  rw [show (decide (l ≤ n) && decide (n ≤ m)) = false by rw [d0]; rfl]
  go_enter Tryz.func29,Tryz.ntmps29
  go_wp2
  go_ret
  exact ⟨rfl,rfl⟩
theorem tell17_calls (X : Array Value) (r : Rc) (w : World) (hF : Rv17 w X r) (hL : r.bs.length ≤ 1000000000) :
  Calls Tryz.prog 30 #[.agg X] w fun e w' => e = .returned (.bool (kdC r)) ∧ Ext w w':=by
 obtain ⟨R,hR⟩ : ∃ R,R = kdC r:=⟨_,rfl⟩
 rw [← hR]
 have hE:=Ext.alloc w (.cells X 26)
 have hA:=RcAt.new w X
 have hk1:=kdC_1 (r:=r)
 have hk2:=kdC_2 (r:=r)
 obtain ⟨_,A,c,hX,hc,_⟩:=hF
 rw [hX] at hA
 obtain ⟨_,_,_,c3,_,_,_,c7,c8⟩:=hA.cells
 rw [← hX] at hA c3 c7 c8
 have HK:=veil (And.intro hk1 hk2)
 have HE:=veil hE
 have HR:=veil hR
 clear hA hX hc hk1 hk2 hE hR
 obtain ⟨dv,sq,mi,kd,st,zn,sr,vd,pv,bs⟩:=r
 simp only at c3 c7 c8 HK HR hL
 obtain ⟨n,hn⟩ : ∃ n,n = bs.length:=⟨_,rfl⟩
 rw [← hn] at c8 HK hL
 clear hn
 have KW:=veil (fun W => zbr vd 1 7 W)
 go_enter Tryz.func30,Tryz.ntmps30
 go_upto_region 1 with (fail)
 generalize w.alloc (.cells X 26) = w1 at *
 generalize w.heap.size = g at *
 by_cases k1 : kd = 1
 ·
  have e1 : (kd == 1) = true:=by simp [k1]
  have hd : R = decide (1 ≤ vd ∧ vd ≤ 7 ∧ n ≤ 500):=HR.out.trans (HK.out.1 k1)
  have HD:=veil hd
  clear hd HK HR
  obtain ⟨b,hb⟩ : ∃ b,b = (decide (1 ≤ vd) && decide (vd ≤ 7)):=⟨_,rfl⟩
  rw [← hb] at KW
  have HB:=veil hb
  clear hb
  subst k1
  cases b with
  | false =>
   obtain rfl : R = false:=HD.out.trans (decide_eq_false fun h => by
    have h2:=HB.out
    rw [decide_eq_true h.1,decide_eq_true h.2.1] at h2
    cases h2)
   go_wp2_with (go_at_call 29; refine (KW.out _).mono ?_; rintro e w2 ⟨rfl,rfl⟩)
   go_ret
   exact ⟨rfl,HE.out⟩
  | true =>
   have d2 : decide ((n : Int) ≤ 500) = R:=by
    have h2:=HB.out
    have hv : 1 ≤ vd ∧ vd ≤ 7:=by simpa using h2.symm
    rw [HD.out]
    by_cases v2 : n ≤ 500
    ·
     rw [decide_eq_true (show (n : Int) ≤ 500 by omega),decide_eq_true ⟨hv.1,hv.2,v2⟩]
    ·
     rw [decide_eq_false (show ¬ (n : Int) ≤ 500 by omega),decide_eq_false fun h => v2 h.2.2]
   go_wp2_with (go_at_call 29; refine (KW.out _).mono ?_; rintro e w2 ⟨rfl,rfl⟩)
   go_ret
   exact ⟨rfl,HE.out⟩
 have e1 : (kd == 1) = false:=by simp [k1]
 have HS:=veil (HR.out.trans (HK.out.2 k1))
 clear HR HK KW
 by_cases k2 : kd = 2
 ·
  have e2 : (kd == 2) = true:=by simp [k2]
  by_cases v0 : vd = 0
  rotate_left
  ·
   have d0 : (vd == 0) = false:=by simp [v0]
   obtain rfl : R = false:=HS.out.trans (decide_eq_false fun h => v0 h.2.1)
   subst k2
   go_wp2
   go_ret
   exact ⟨rfl,HE.out⟩
  have d0 : (vd == 0) = true:=by simp [v0]
  have d2 : ((n : Int) == 0) = R:=by
   rw [HS.out]
   by_cases v2 : n = 0
   ·
    rw [show ((n : Int) == 0) = true by simp [v2],decide_eq_true ⟨.inl k2,v0,v2⟩]
   ·
    rw [show ((n : Int) == 0) = false by simp [v2],decide_eq_false fun h => v2 h.2.2]
  subst k2 v0
  go_wp2
  go_ret
  exact ⟨rfl,HE.out⟩
 have e2 : (kd == 2) = false:=by simp [k2]
 by_cases k3 : kd = 3
 ·
  have e3 : (kd == 3) = true:=by simp [k3]
  by_cases v0 : vd = 0
  rotate_left
  ·
   have d0 : (vd == 0) = false:=by simp [v0]
   obtain rfl : R = false:=HS.out.trans (decide_eq_false fun h => v0 h.2.1)
   subst k3
   go_wp2
   go_ret
   exact ⟨rfl,HE.out⟩
  have d0 : (vd == 0) = true:=by simp [v0]
  have d2 : ((n : Int) == 0) = R:=by
   rw [HS.out]
   by_cases v2 : n = 0
   ·
    rw [show ((n : Int) == 0) = true by simp [v2],decide_eq_true ⟨.inr k3,v0,v2⟩]
   ·
    rw [show ((n : Int) == 0) = false by simp [v2],decide_eq_false fun h => v2 h.2.2]
  subst k3 v0
  go_wp2
  go_ret
  exact ⟨rfl,HE.out⟩
 have e3 : (kd == 3) = false:=by simp [k3]
 obtain rfl : R = false:=HS.out.trans (decide_eq_false fun h => h.1.elim k2 k3)
 go_wp2
 go_ret
 exact ⟨rfl,HE.out⟩
theorem mayC_and (r : Rc) : mayC r = (((((((decide (1 ≤ r.dv) && decide (r.dv ≤ 2147483647)) && (decide (0 ≤ r.sq) && decide (r.sq ≤ 1073741824))) && (decide (0 ≤ r.mi) && decide (r.mi ≤ 1073741824))) && (decide (0 ≤ r.st) && decide (r.st ≤ 31))) && (decide (0 ≤ r.zn) && decide (r.zn ≤ 7))) && (decide (0 ≤ r.sr) && decide (r.sr ≤ 2147483647))) && kdC r):=by
 unfold mayC rgC
 simp only [Bool.decide_and,Bool.and_assoc]
theorem may17_calls (X : Array Value) (r : Rc) (w : World) (hF : Rv17 w X r) (hL : r.bs.length ≤ 1000000000) :
  Calls Tryz.prog 11 #[.agg X] w fun e w' => e = .returned (.bool (mayC r)) ∧ Ext w w':=by
 rw [mayC_and]
 have hE:=Ext.alloc w (.cells X 26)
 have hA:=RcAt.new w X
 have hinf:=hF.info
 have KT:=veil (tell17_calls X r _ (hF.ext hE) hL)
 obtain ⟨_,A,c,hX,hc,_⟩:=hF
 rw [hX] at hA
 obtain ⟨c0,c1,c2,_,c4,c5,c6,_,_⟩:=hA.cells
 rw [← hX] at hA c0 c1 c2 c4 c5 c6
 have HE:=veil hE
 have HA:=veil (And.intro hA hinf)
 obtain ⟨R,hR⟩ : ∃ R,R = kdC r:=⟨_,rfl⟩
 rw [← hR] at KT ⊢
 clear hA hX hc hE hR hinf
 obtain ⟨dv,sq,mi,kd,st,zn,sr,vd,pv,bs⟩:=r
 simp only at c0 c1 c2 c4 c5 c6 ⊢
 have K1:=fun W => zbr dv 1 2147483647 W
 have K2:=fun W => zbr sq 0 1073741824 W
 have K3:=fun W => zbr mi 0 1073741824 W
 have K4:=fun W => zbr st 0 31 W
 have K5:=fun W => zbr zn 0 7 W
 have K6:=fun W => zbr sr 0 2147483647 W
 generalize (decide (1 ≤ dv) && decide (dv ≤ 2147483647)) = b1 at *
 generalize (decide (0 ≤ sq) && decide (sq ≤ 1073741824)) = b2 at *
 generalize (decide (0 ≤ mi) && decide (mi ≤ 1073741824)) = b3 at *
 generalize (decide (0 ≤ st) && decide (st ≤ 31)) = b4 at *
 generalize (decide (0 ≤ zn) && decide (zn ≤ 7)) = b5 at *
 generalize (decide (0 ≤ sr) && decide (sr ≤ 2147483647)) = b6 at *
 have H:=veil (And.intro K1 (And.intro K2 (And.intro K3 (And.intro K4 (And.intro K5 K6)))))
 clear K1 K2 K3 K4 K5 K6
 go_enter Tryz.func11,Tryz.ntmps11
 go_upto_region 1 with (fail)
 generalize w.alloc (.cells X 26) = w1 at *
 generalize w.heap.size = g at *
 by_cases q1 : b1 = false
 ·
  subst q1
  go_wp2_with (go_at_call 29; first
   | (with_reducible refine (H.out.1 _).mono ?_; rintro e w2 ⟨rfl,rfl⟩))
  go_ret
  exact ⟨by simp,HE.out⟩
 obtain rfl : b1 = true:=by simpa using q1
 clear q1
 by_cases q2 : b2 = false
 ·
  subst q2
  go_wp2_with (go_at_call 29; first
   | (with_reducible refine (H.out.1 _).mono ?_; rintro e w2 ⟨rfl,rfl⟩)
   | (with_reducible refine (H.out.2.1 _).mono ?_; rintro e w2 ⟨rfl,rfl⟩))
  go_ret
  exact ⟨by simp,HE.out⟩
 obtain rfl : b2 = true:=by simpa using q2
 clear q2
 by_cases q3 : b3 = false
 ·
  subst q3
  go_wp2_with (go_at_call 29; first
   | (with_reducible refine (H.out.1 _).mono ?_; rintro e w2 ⟨rfl,rfl⟩)
   | (with_reducible refine (H.out.2.1 _).mono ?_; rintro e w2 ⟨rfl,rfl⟩)
   | (with_reducible refine (H.out.2.2.1 _).mono ?_; rintro e w2 ⟨rfl,rfl⟩))
  go_ret
  exact ⟨by simp,HE.out⟩
 obtain rfl : b3 = true:=by simpa using q3
 clear q3
 by_cases q4 : b4 = false
 ·
  subst q4
  go_wp2_with (go_at_call 29; first
   | (with_reducible refine (H.out.1 _).mono ?_; rintro e w2 ⟨rfl,rfl⟩)
   | (with_reducible refine (H.out.2.1 _).mono ?_; rintro e w2 ⟨rfl,rfl⟩)
   | (with_reducible refine (H.out.2.2.1 _).mono ?_; rintro e w2 ⟨rfl,rfl⟩)
   | (with_reducible refine (H.out.2.2.2.1 _).mono ?_; rintro e w2 ⟨rfl,rfl⟩))
  go_ret
  exact ⟨by simp,HE.out⟩
 obtain rfl : b4 = true:=by simpa using q4
 clear q4
 by_cases q5 : b5 = false
 ·
  subst q5
  go_wp2_with (go_at_call 29; first
   | (with_reducible refine (H.out.1 _).mono ?_; rintro e w2 ⟨rfl,rfl⟩)
   | (with_reducible refine (H.out.2.1 _).mono ?_; rintro e w2 ⟨rfl,rfl⟩)
   | (with_reducible refine (H.out.2.2.1 _).mono ?_; rintro e w2 ⟨rfl,rfl⟩)
   | (with_reducible refine (H.out.2.2.2.1 _).mono ?_; rintro e w2 ⟨rfl,rfl⟩)
   | (with_reducible refine (H.out.2.2.2.2.1 _).mono ?_; rintro e w2 ⟨rfl,rfl⟩))
  go_ret
  exact ⟨by simp,HE.out⟩
 obtain rfl : b5 = true:=by simpa using q5
 clear q5
 by_cases q6 : b6 = false
 ·
  subst q6
  go_wp2_with (go_at_call 29; first
   | (with_reducible refine (H.out.1 _).mono ?_; rintro e w2 ⟨rfl,rfl⟩)
   | (with_reducible refine (H.out.2.1 _).mono ?_; rintro e w2 ⟨rfl,rfl⟩)
   | (with_reducible refine (H.out.2.2.1 _).mono ?_; rintro e w2 ⟨rfl,rfl⟩)
   | (with_reducible refine (H.out.2.2.2.1 _).mono ?_; rintro e w2 ⟨rfl,rfl⟩)
   | (with_reducible refine (H.out.2.2.2.2.1 _).mono ?_; rintro e w2 ⟨rfl,rfl⟩)
   | (with_reducible refine (H.out.2.2.2.2.2 _).mono ?_; rintro e w2 ⟨rfl,rfl⟩))
  go_ret
  exact ⟨by simp,HE.out⟩
 obtain rfl : b6 = true:=by simpa using q6
 clear q6
 go_wp2_with (first
  | (go_at_call 29; first
      | (with_reducible refine (H.out.1 _).mono ?_; rintro e w2 ⟨rfl,rfl⟩)
      | (with_reducible refine (H.out.2.1 _).mono ?_; rintro e w2 ⟨rfl,rfl⟩)
      | (with_reducible refine (H.out.2.2.1 _).mono ?_; rintro e w2 ⟨rfl,rfl⟩)
      | (with_reducible refine (H.out.2.2.2.1 _).mono ?_; rintro e w2 ⟨rfl,rfl⟩)
      | (with_reducible refine (H.out.2.2.2.2.1 _).mono ?_; rintro e w2 ⟨rfl,rfl⟩)
      | (with_reducible refine (H.out.2.2.2.2.2 _).mono ?_; rintro e w2 ⟨rfl,rfl⟩))
  | ((with_reducible refine zaa 32 ?_); refine zdw rfl 26 _ rfl g rfl 26 X (0,0) _ HA.out.1 Tryz.underlying26 rfl HA.out.2 ?_)
  | (go_at_call 30; refine KT.out.mono ?_; rintro e w2 ⟨rfl,hE2⟩))
 go_ret
 exact ⟨by simp,HE.out.trans hE2⟩
end Go.Proofs.YtihophdbkjhopaaGreatDoor
