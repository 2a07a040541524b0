/-
  Of C1 C2 C3 C8 CM CR D4 UB UD UE UI Pl Pm.
-/
import Derived.Deep.CutRange
import Derived.Test.YtbfkecfcolcclaaGreatDoorRows
import Derived.WalkKit
import Derived.WalkSpells
import Derived.WalkLawsBesides
import Derived.Deep.LoopGhost
import Derived.Deep.RegionWith
import Derived.Deep.QuietTactic
import Derived.BigQuiet
import Derived.Deep.AppendLies
import Derived.Deep.RegionHeld3
import Derived.BigRegion
import Derived.Lib.SmallJoins
import Derived.Great.BuildSlice
import Derived.Lib.AppendZeros
import Derived.Deep.MidRow
import Derived.Laws.BytesString
import Derived.Test.YtbfkecfcolcclaaGreatDoorZA3
import Derived.Test.YtbfkecfcolcclaaGreatDoorZA2
import Derived.Test.YtbfkecfcolcclaaGreatDoorZA1
import Derived.Test.YtbfkecfcolcclaaGreatDoorZA9
import Derived.Test.YtbfkecfcolcclaaGreatDoorZA7
import Derived.Test.YtbfkecfcolcclaaGreatDoorZA12
import Derived.Test.YtbfkecfcolcclaaGreatDoorZA10
import Derived.Test.YtbfkecfcolcclaaGreatDoorZA4
import Derived.Test.YtbfkecfcolcclaaGreatDoorZA5
set_option maxRecDepth 1000000
set_option maxHeartbeats 20000000
namespace Go.Proofs.YtbfkecfcolcclaaGreatDoor
open Go.RowKit
open Go.Value renaming int → vI
open Go.IntKind renaming u64 → vU
open Go.Act renaming put → aP
open List renaming setIfInBounds_toArray → lA, set_cons_zero → lZ, set_cons_succ → lS
def Fp (w : World) (b : Nat) : Prop:=∃ N Q,Fok Pt.pp N Q ∧ Fb w b Pt.pp N Q
theorem Fp.ext {w w' : World} {b : Nat} (h : Fp w b) (k : Ext w w') : Fp w' b:=by
 obtain ⟨N,Q,h1,h2⟩:=h
 exact ⟨N,Q,h1,h2.call k⟩
theorem Fp.lt {w : World} {b : Nat} (h : Fp w b) : b < w.heap.size:=by
 obtain ⟨N,Q,h1,h2⟩:=h
 exact h2.lt
abbrev Fe:=Fin Pt.pp
def sc (x y z : Nat) : Array Value:=#[vI vU (wd x 0),vI vU (wd x 1),vI vU (wd x 2),vI vU (wd x 3),vI vU (wd y 0),vI vU (wd y 1),vI vU (wd y 2),vI vU (wd y 3),vI vU (wd z 0),vI vU (wd z 1),vI vU (wd z 2),vI vU (wd z 3)]
def sv (x y z : Nat) : Value:=.agg (sc x y z)
def fv (k b : Nat) : Value:=.func (.func k) #[ptrTo b] #[]
def cc (b : Nat) : Array Value:=#[fv 156 b,fv 175 b,fv 99 b,fv 97 b]
def cv (b : Nat) : Value:=.agg (cc b)
theorem zcp (x : Fe) : x.val < top:=Nat.lt_trans x.isLt pp_top
theorem fe_mod (x : Fe) : x.val % Pt.pp = x.val:=Nat.mod_eq_of_lt x.isLt
theorem kadd_p {b : Nat} {x y t : Fe} (ht : t = x + y) {w : World} (hF : Fp w b) : Calls Tryz.prog 156 #[ptrTo b,nv x.val,nv y.val] w fun e w' => e = .returned (nv t.val) ∧ Ext w w':=by
 obtain ⟨N,Q,h1,h2⟩:=hF
 exact fadd2_calls b x.val y.val Pt.pp N Q t.val (zcp x) (zcp y) h1 (by rw [fe_mod,fe_mod,Pt.v_add,ht]) w h2
theorem ksub_p {b : Nat} {x y t : Fe} (ht : t = x - y) {w : World} (hF : Fp w b) : Calls Tryz.prog 175 #[ptrTo b,nv x.val,nv y.val] w fun e w' => e = .returned (nv t.val) ∧ Ext w w':=by
 obtain ⟨N,Q,h1,h2⟩:=hF
 exact fsub2_calls b x.val y.val Pt.pp N Q t.val (zcp x) (zcp y) h1 (by rw [fe_mod,fe_mod,Pt.v_sub,ht]) w h2
theorem kmul_p {b : Nat} {x y t : Fe} (ht : t = x * y) {w : World} (hF : Fp w b) : Calls Tryz.prog 99 #[ptrTo b,nv x.val,nv y.val] w fun e w' => e = .returned (nv t.val) ∧ Ext w w':=by
 obtain ⟨N,Q,h1,h2⟩:=hF
 exact fmul2_calls b x.val y.val Pt.pp N Q t.val (zcp x) (zcp y) h1 (by rw [Pt.v_mul,ht]) w h2
/-! ### operations -/
section
variable {P : Program} {o : Oper} {a : Act} {w : World}
end
section
variable (g : Nat) (W : World)
end
theorem dbl_calls {b : Nat} {x t : Fe} (ht : t = x + x) {w : World} (hF : Fp w b) :
  Calls Tryz.prog 202 #[cv b,nv x.val] w fun e w' => e = .returned (nv t.val) ∧ Ext w w':=by
 have kt:=veil ht
 clear ht
 exact way1 Tryz.func202 [cv b,nv x.val] (.call _ _ _ (fun W hW => kadd_p kt.out (hF.ext hW)) <|
  .ret _ fun _ h => ⟨rfl,h⟩) (by kernel_rfl)
theorem trp_calls {b : Nat} {x t : Fe} (ht : t = x + x + x) {w : World} (hF : Fp w b) :
  Calls Tryz.prog 177 #[cv b,nv x.val] w fun e w' => e = .returned (nv t.val) ∧ Ext w w':=by
 obtain ⟨y,hy⟩ : ∃ t : Fe,t = x + x:=⟨_,rfl⟩
 rw [← hy] at ht
 have ky:=veil hy
 clear hy
 have kt:=veil ht
 clear ht
 exact way1 Tryz.func177 [cv b,nv x.val] (.call _ _ _ (fun W hW => dbl_calls ky.out (hF.ext hW)) <|
  .call _ _ _ (fun W hW => kadd_p kt.out (hF.ext hW)) <|
  .ret _ fun _ h => ⟨rfl,h⟩) (by kernel_rfl)
theorem pP_calls (w : World) : Calls Tryz.prog 174 #[] w fun e w' => e = .returned (.agg #[vI vU (wd (Pt.pp) 0),vI vU (wd (Pt.pp) 1),vI vU (wd (Pt.pp) 2),vI vU (wd (Pt.pp) 3)]) ∧ Below w.heap.size w w' :=
 way1 Tryz.func174 [] (.ret _ fun _ h => ⟨rfl,h⟩) (by kernel_rfl)
theorem bb_calls (w : World) : Calls Tryz.prog 178 #[] w fun e w' => e = .returned (.agg #[vI vU (wd (Pt.bb) 0),vI vU (wd (Pt.bb) 1),vI vU (wd (Pt.bb) 2),vI vU (wd (Pt.bb) 3)]) ∧ Below w.heap.size w w' :=
 way1 Tryz.func178 [] (.ret _ fun _ h => ⟨rfl,h⟩) (by kernel_rfl)
theorem isz_calls (X : Nat) (hX : X < top) (w : World) :
  Calls Tryz.prog 176 #[nv X] w fun e w' => e = .returned (.bool (decide (X = 0))) ∧ Ext w w':=by
 have k:=veil fun W => eql_zero hX W
 clear hX
 exact way1 Tryz.func176 [nv X] (.ins 5 (binK .eql 58 (.tmp 3) (.tmp 4) (nv X) (nv 0)) (.bool (decide (X = 0))) (fun W _ => binK_run (gN _ _ _ _ _ W) (k.out W)) <| .ret _ fun _ h => ⟨rfl,h⟩) (by kernel_rfl)
theorem isz_no {X : Nat} (h : X ≠ 0) (hX : X < top) (w : World) : Calls Tryz.prog 176 #[nv X] w fun e w' => e = .returned (.bool false) ∧ Ext w w':=by
 have k:=isz_calls X hX w
 rwa [decide_eq_false h] at k
theorem isz_yes {X : Nat} (h : X = 0) (w : World) : Calls Tryz.prog 176 #[nv X] w fun e w' => e = .returned (.bool true) ∧ Ext w w':=by
 have k:=isz_calls X (by rw [h]; exact Nat.two_pow_pos 256) w
 rwa [decide_eq_true h] at k
section
variable {P : Program} {o : Oper} {a : Act} {w : World}
end
theorem cmp_in {X : Nat} (h : X < Pt.pp) (w : World) : Calls Tryz.prog 143 #[nv X,nv Pt.pp] w fun e w' => e = .returned (.int .i64 (-1)) ∧ Ext w w' :=
 kcmp X Pt.pp (-1) (by unfold cmpN; rw [if_pos h]) (Nat.lt_trans h pp_top) pp_top w
theorem cmp_no {X : Nat} (hX : X < top) (w : World) : Calls Tryz.prog 143 #[nv X,nv Pt.pp] w fun e w' => e = .returned (.int .i64 (cmpN X Pt.pp)) ∧ Ext w w' :=
 kcmp X Pt.pp _ rfl hX pp_top w
theorem cmp_no_ge {X : Nat} (h : ¬ X < Pt.pp) : decide (0 ≤ cmpN X Pt.pp) = true:=by
 have:=cmp_ge X Pt.pp
 simp only [this,h,not_false_eq_true,decide_true]
theorem pP_is (w : World) : Calls Tryz.prog 174 #[] w fun e w' => e = .returned (nv Pt.pp) ∧ Ext w w':=pP_calls w
theorem bb_is (w : World) : Calls Tryz.prog 178 #[] w fun e w' => e = .returned (nv (Pt.F Pt.bb : Fe).val) ∧ Ext w w':=by
 have h : (Pt.F Pt.bb : Fe).val = Pt.bb:=Nat.mod_eq_of_lt bb_lt
 rw [h]
 exact bb_calls w
theorem Fp.cells {W : World} {b g o : Nat} {vs : List Value} (h : Fp W b) (hne : ¬ g = b) : Fp (W.setCells g o vs) b:=by
 obtain ⟨N,Q,h1,h2⟩:=h
 exact ⟨N,Q,h1,h2.of_block (cells_off (fun e => hne e.symm) vs o W)⟩
theorem curve_new (w : World) : Calls Tryz.prog 136 #[] w fun e w' => ∃ b,e = .returned (cv b) ∧ Ext w w' ∧ Fp w' b ∧ w.heap.size ≤ b:=by
 have hp : Pt.pp % 2 = 1:=by decide +kernel
 have hp2 : 2 < Pt.pp:=by decide +kernel
 refine (way0 (Post:=fun v W => ∃ b,v = cv b ∧ Ext w W ∧ Fp W b ∧ w.heap.size ≤ b) Tryz.func136 [] (.call _ _ _ (fun W _ => pP_calls W) <|
  .hang 145 #[nv Pt.pp] (α:=Nat) (fun b => .tuple #[ptrTo b,.nilIface]) (fun b W => Fp W b ∧ w.heap.size ≤ b) (fun b g => g = b) (fun _ _ _ h k => ⟨h.1.ext k,h.2⟩) (fun _ _ _ _ _ h hn => ⟨h.1.cells hn,h.2⟩)
   (fun W hW => (new_good Pt.pp hp hp2 pp_top W).mono fun e w' ⟨⟨b,N,Q,h1,h2,h3,h4⟩,h5⟩ => ⟨b,h4,h5,⟨⟨N,Q,h1,h2⟩,Nat.le_trans (Below.size hW) h3⟩,fun g hg => by subst hg; exact ⟨.inl h3,h2.lt⟩⟩)
   fun b => .ret (cv b) fun _ h => ⟨b,rfl,h.1,h.2⟩) (by kernel_rfl)).mono fun e w' ⟨v,he,b,hv,h⟩ => ⟨b,by rw [he,hv],h⟩
theorem curve_calls (w : World) : Calls Tryz.prog 136 #[] w fun e w' => ∃ b,e = .returned (cv b) ∧ Fp w' b ∧ Ext w w' :=
 (curve_new w).mono fun _ _ ⟨b,he,hE,hF,_⟩ => ⟨b,he,hF,hE⟩
theorem on_far0 {b : Nat} (Y : Nat) (hY : Y < top) {w : World} (_hF : Fp w b) :
  Calls Tryz.prog 137 #[cv b,qv 0 Y true] w fun e w' => e = .returned (.bool (decide (Y = 0))) ∧ Ext w w':=by
 have kY:=veil hY
 clear hY
 obtain ⟨q,hq⟩ : ∃ q,q = decide (Y = 0):=⟨_,rfl⟩
 rw [← hq]
 have kq:=veil hq
 clear hq
 exact way1 Tryz.func137 [cv b,qv 0 Y true] (.call _ _ _ (fun W _ => isz_yes rfl W) <|
  .call 176 #[nv Y] (.bool q) (fun W _ => by rw [kq.out]; exact isz_calls Y kY.out W) <|
  .ret _ fun _ h => ⟨rfl,h⟩) (by kernel_rfl)
theorem on_far1 {b : Nat} (X Y : Nat) (hX : X < top) (h0 : X ≠ 0) {w : World} (_hF : Fp w b) :
  Calls Tryz.prog 137 #[cv b,qv X Y true] w fun e w' => e = .returned (.bool false) ∧ Ext w w':=by
 have kX:=veil hX
 have k0:=veil h0
 clear hX h0
 exact way1 Tryz.func137 [cv b,qv X Y true] (.call _ _ _ (fun W _ => isz_no k0.out kX.out W) <|
  .ret _ fun _ h => ⟨rfl,h⟩) (by kernel_rfl)
theorem on_out {b : Nat} (X Y : Nat) (hX : X < top) (h0 : ¬ X < Pt.pp) {w : World} (_hF : Fp w b) :
  Calls Tryz.prog 137 #[cv b,qv X Y false] w fun e w' => e = .returned (.bool false) ∧ Ext w w':=by
 have kX:=veil hX
 have k0:=veil h0
 clear hX h0
 exact way1 Tryz.func137 [cv b,qv X Y false] (.call _ _ _ (fun W _ => pP_is W) <|
  .call _ _ _ (fun W _ => cmp_no kX.out W) <|
  .ins 20 (binK .geq 3 (.tmp 19) (.const (.int .i64 0)) (.int .i64 (cmpN X Pt.pp)) (.int .i64 0)) _ (fun W _ => geq_run (cmp_no_ge k0.out) W) <|
  .ret _ fun _ h => ⟨rfl,h⟩) (by kernel_rfl)
theorem on_high {b : Nat} (X Y : Nat) (hX : X < Pt.pp) (hY : Y < top) (h0 : ¬ Y < Pt.pp) {w : World} (_hF : Fp w b) :
  Calls Tryz.prog 137 #[cv b,qv X Y false] w fun e w' => e = .returned (.bool false) ∧ Ext w w':=by
 have kX:=veil hX
 have kY:=veil hY
 have k0:=veil h0
 clear hX hY h0
 exact way1 Tryz.func137 [cv b,qv X Y false] (.call _ _ _ (fun W _ => pP_is W) <|
  .call _ _ _ (fun W _ => cmp_in kX.out W) <|
  .call _ _ _ (fun W _ => pP_is W) <|
  .call _ _ _ (fun W _ => cmp_no kY.out W) <|
  .ins 26 (binK .geq 3 (.tmp 25) (.const (.int .i64 0)) (.int .i64 (cmpN Y Pt.pp)) (.int .i64 0)) _ (fun W _ => geq_run (cmp_no_ge k0.out) W) <|
  .ret _ fun _ h => ⟨rfl,h⟩) (by kernel_rfl)
theorem on_near {b : Nat} (x y : Fe) {w : World} (hF : Fp w b) :
  Calls Tryz.prog 137 #[cv b,qv x.val y.val false] w fun e w' => e = .returned (.bool (decide ((y * y).val = (x * x * x - (x + x + x) + Pt.F Pt.bb).val))) ∧ Ext w w':=by
 obtain ⟨sq,hsq⟩ : ∃ t : Fe,t = x * x:=⟨_,rfl⟩
 obtain ⟨cube,hcube⟩ : ∃ t : Fe,t = sq * x:=⟨_,rfl⟩
 obtain ⟨lhs,hlhs⟩ : ∃ t : Fe,t = y * y:=⟨_,rfl⟩
 obtain ⟨tr,htr⟩ : ∃ t : Fe,t = x + x + x:=⟨_,rfl⟩
 obtain ⟨d,hd⟩ : ∃ t : Fe,t = cube - tr:=⟨_,rfl⟩
 obtain ⟨r,hr⟩ : ∃ t : Fe,t = d + Pt.F Pt.bb:=⟨_,rfl⟩
 have hfin : x * x * x - (x + x + x) + Pt.F Pt.bb = r:=by
  subst hr hd htr hlhs hcube hsq
  rfl
 rw [hfin,← hlhs]
 clear hfin
 have ksq:=veil hsq
 have kcube:=veil hcube
 have klhs:=veil hlhs
 have ktr:=veil htr
 have kd:=veil hd
 have kr:=veil hr
 clear hr hd htr hlhs hcube hsq
 have kx:=veil x.isLt
 have ky:=veil y.isLt
 exact way1 Tryz.func137 [cv b,qv x.val y.val false] (.call _ _ _ (fun W _ => pP_is W) <|
  .call _ _ _ (fun W _ => cmp_in kx.out W) <|
  .call _ _ _ (fun W _ => pP_is W) <|
  .call _ _ _ (fun W _ => cmp_in ky.out W) <|
  .call _ _ _ (fun W hW => kmul_p ksq.out (hF.ext hW)) <|
  .call _ _ _ (fun W hW => kmul_p kcube.out (hF.ext hW)) <|
  .call _ _ _ (fun W hW => kmul_p klhs.out (hF.ext hW)) <|
  .call _ _ _ (fun W hW => trp_calls ktr.out (hF.ext hW)) <|
  .call _ _ _ (fun W hW => ksub_p kd.out (hF.ext hW)) <|
  .call _ _ _ (fun W _ => bb_is W) <|
  .call _ _ _ (fun W hW => kadd_p kr.out (hF.ext hW)) <|
  .ins 59 (binK .eql 58 (.tmp 46) (.tmp 58) (nv lhs.val) (nv r.val)) (.bool (decide (lhs.val = r.val))) (fun W _ => binK_run (gN _ _ _ _ _ W) (eql_num (zcp _) (zcp _) W)) <|
  .ret _ fun _ h => ⟨rfl,h⟩) (by kernel_rfl)
section
variable {n : Nat} [NeZero n]
theorem three_x (x : Fin n) : x + x + x = 3 * x:=by grobner
end
section
variable {n : Nat} [NeZero n]
theorem r0 (y : Fin n) : y * 0 + y * 0 = 0:=by grobner
theorem r1 (Y z : Fin n) : Y * (z * z * z) * z + Y * (z * z * z) * z = (Y + Y) * (z * z * (z * z)):=by grobner
theorem r2 (u i d : Fin n) (h : d * i = 1) : u * i * d = u:=by
 have e : u * i * d = u * (d * i):=by grobner
 rw [e,h]
 grobner
theorem r3 (X : Fin n) : X = X * (1 * 1):=by grobner
theorem r4 (X : Fin n) : X = X * (1 * 1 * 1):=by grobner
end
theorem on_calls {b : Nat} (X Y : Nat) (f : Bool) (hX : X < top) (hY : Y < top) {w : World} (hF : Fp w b) :
  Calls Tryz.prog 137 #[cv b,qv X Y f] w fun e w' => e = .returned (.bool (onB X Y f)) ∧ Ext w w':=by
 unfold onB
 cases f with
 | true =>
  by_cases h0 : X = 0
  ·
   subst h0
   simp only [if_true,decide_true,Bool.true_and]
   exact on_far0 Y hY hF
  ·
   simp only [if_true,h0,decide_false,Bool.false_and]
   exact on_far1 X Y hX h0 hF
 | false =>
  by_cases hx : X < Pt.pp
  ·
   by_cases hy : Y < Pt.pp
   ·
    simp only [Bool.false_eq_true,if_false,hx,hy,decide_true,Bool.true_and]
    have k:=on_near (b:=b) ⟨X,hx⟩ ⟨Y,hy⟩ hF
    rw [three_x,← right_val,← Pt.v_mul] at k
    exact k
   ·
    simp only [Bool.false_eq_true,if_false,hx,hy,decide_true,decide_false,Bool.true_and,Bool.false_and]
    exact on_high X Y hx hY hy hF
  ·
   simp only [Bool.false_eq_true,if_false,hx,decide_false,Bool.false_and]
   exact on_out X Y hX hx hF
theorem on_is (X Y : Nat) (f : Bool) (hX : X < top) (hY : Y < top) (w : World) :
  Calls Tryz.prog 89 #[qv X Y f] w fun e w' => e = .returned (.bool (onB X Y f)) ∧ Ext w w':=by
 have KO:=veil (fun (b : Nat) (w : World) (hF : Fp w b) => on_calls X Y f hX hY hF)
 obtain ⟨r,hr⟩ : ∃ r,r = onB X Y f:=⟨_,rfl⟩
 rw [← hr] at KO ⊢
 clear hX hY hr
 unfold qv qc
 go_enter Tryz.func89,Tryz.ntmps89
 go_upto_region 1 with (fail)
 refine wp_via1 fun w1 hx b0 => ?_
 have b0 : w1.heap[w.heap.size]? = some (.cells (qc X Y f) 60 (0,0)):=b0
 refine wp_region_noPanic ?_
 refine wp_region_held_drew (S:=fun W => Ext w1 W) (by kernel_rfl) (Ext.drew _) (fun hH => ?_)
 refine wpAnyH_take (i:=1) (v:=qv X Y f) rfl (by kernel_rfl) (by kernel_rfl) (by decide +kernel) (fun _ _ _ h => h) (yieldsIf_load_mid (by rfl) _ _ rfl _ _ rfl (qc X Y f).toList _ (fun W hW j v hv => by rw [cell_of_row W _ _ (qc X Y f) 60 (0,0) (hW.block b0),Nat.zero_add]; simpa using hv) Tryz.underlying60 rfl (iT X Y f)) hH ?_
 refine wpAnyH_ready (rs:=[0]) (by decide +kernel) (by simp) ?_
 refine AllReadyH.cons rfl (fun K hK => ?_) AllReadyH.nil
 go_simp
 refine (curve_calls _).mono ?_
 rintro e w2 ⟨b,rfl,hF,hE⟩
 refine hK.out _ _ (hH.trans hE) (fun hH => ?_)
 clear hK K hE
 refine wpAnyH_ready (rs:=[2]) (by decide +kernel) (by simp) ?_
 refine AllReadyH.cons rfl (fun K hK => ?_) AllReadyH.nil
 go_simp
 refine (KO.out _ _ hF).mono ?_
 rintro e w3 ⟨rfl,hE⟩
 refine hK.out _ _ (hH.trans hE) (fun hH => ?_)
 clear hK K hE
 refine wpAnyH_take (i:=3) (v:=.bool r) rfl (by kernel_rfl) (by kernel_rfl) (by decide +kernel) (fun _ _ _ h => h) (Or.inl ⟨by rfl,fun W hSw => (by dsimp only at hSw; go_simp)⟩) hH ?_
 refine wpAnyH_done (by decide +kernel) ?_ _
 refine NoPanic.normal ?_
 go_wp2
 go_ret
 exact ⟨rfl,hx.trans hH⟩
def prevI (l : List Ky) (j : Nat) : Int:=if j = 0 then 0 else (l.getD (j - 1) ky0).i
def okO (l : List Ky) (j : Nat) : Prop:=prevI l j < (l.getD j ky0).i ∧ (l.getD j ky0).i ≤ 2147483647 ∧ 0 ≤ (l.getD j ky0).a ∧ (l.getD j ky0).a ≤ (l.getD j ky0).b ∧ (l.getD j ky0).b ≤ 1073741824
instance (l : List Ky) (j : Nat) : Decidable (okO l j):=by unfold okO; exact inferInstance
def ordK (l : List Ky) : Bool:=decide (l.length ≤ 32 ∧ ∀ j,j < l.length → okO l j)
def offK (k : Ky) : Bool:=k.f || !onB k.x k.y k.f
theorem ordK_false {l : List Ky} {j : Nat} (hj : j < l.length) (h : ¬ okO l j) : ordK l = false:=decide_eq_false fun hh => h (hh.2 j hj)
theorem okO_pos {l : List Ky} : ∀ j,(∀ q,q ≤ j → okO l q) → 1 ≤ (l.getD j ky0).i
 | 0,h => by
  have h1:=(h 0 (Nat.le_refl _)).1
  unfold prevI at h1
  rw [if_pos rfl] at h1
  omega
 | j + 1,h => by
  have h1:=(h (j + 1) (Nat.le_refl _)).1
  have h2:=okO_pos j fun q hq => h q (by omega)
  unfold prevI at h1
  rw [if_neg (by omega),show j + 1 - 1 = j by omega] at h1
  omega
theorem any_off {l : List Ky} (h : l.any offK = false) {j : Nat} (hj : j < l.length) : offK (l.getD j ky0) = false:=by
 rw [List.any_eq_false] at h
 have:=h (l.getD j ky0) (List.mem_of_getElem? (ky_get hj))
 simpa using this
theorem mayK_ord (l : List Ky) : mayK l = (ordK l && !l.any offK):=by
 rw [Bool.eq_iff_iff,Bool.and_eq_true,Bool.not_eq_true']
 constructor
 ·
  intro h
  refine ⟨decide_eq_true ⟨mayK_32 h,fun j hj => ?_⟩,?_⟩
  ·
   obtain ⟨h1,h2,_,_,h5,h6,h7,h8⟩:=mayK_ok h hj
   refine ⟨?_,h2,h5,h6,h7⟩
   unfold prevI
   by_cases e : j = 0
   ·
    rw [if_pos e]; omega
   ·
    rw [if_neg e]; exact h8 (by omega)
  ·
   rw [List.any_eq_false]
   intro k hk
   obtain ⟨_,_,h3,h4,_⟩:=mayK_each h k hk
   unfold offK
   rw [h4,h3]
   decide
 ·
  rintro ⟨h,ha⟩
  have h:=of_decide_eq_true h
  refine decide_eq_true ⟨h.1,fun j hj => ?_⟩
  obtain ⟨h1,h2,h3,h4,h5⟩:=h.2 j hj
  have hp:=okO_pos j fun q hq => h.2 q (by omega)
  have ho:=any_off ha hj
  unfold offK at ho
  rw [Bool.or_eq_false_iff,Bool.not_eq_false'] at ho
  refine ⟨hp,h2,ho.2,ho.1,h3,h4,h5,fun h0 => ?_⟩
  unfold prevI at h1
  rwa [if_neg (by omega)] at h1
theorem inOrder_calls (v : Value) (l : List Ky) (w : World) (hF : Ks w v l) (hL : l.length ≤ 1000000000) :
  Calls Tryz.prog 59 #[v] w fun e w' => e = .returned (.bool (ordK l)) ∧ Ext w w':=by
 obtain ⟨AL,c,rfl,hc,hx⟩:=hF
 obtain ⟨R,hR⟩ : ∃ R,R = ordK l:=⟨_,rfl⟩
 rw [← hR]
 obtain ⟨n,hn⟩ : ∃ n,n = l.length:=⟨_,rfl⟩
 rw [← hn] at hx hc hL ⊢
 have HR:=veil (And.intro hR hn)
 have HX:=veil hx
 clear hR hx hn
 by_cases h32 : (32 : Int) < (n : Int)
 ·
  have hd : decide ((32 : Int) < (n : Int)) = true:=decide_eq_true h32
  have e : R = false:=by
   rw [HR.out.1]
   exact decide_eq_false fun hh => by have:=hh.1; have:=HR.out.2; omega
  subst e
  go_enter Tryz.func59,Tryz.ntmps59
  go_wp2
  go_ret
  exact ⟨rfl,Ext.refl _⟩
 ·
  have hd : decide ((32 : Int) < (n : Int)) = false:=decide_eq_false h32
  have hn32 : n ≤ 32:=by omega
  clear hL h32
  go_enter Tryz.func59,Tryz.ntmps59
  go_wp2
  go_loopw [3,11] (fun s v wr => ∃ (i : Nat) (P : Int),i ≤ n ∧ s = .int .i64 P ∧ v = .int .i64 (i : Int) ∧ (∀ j,j < i → okO l j) ∧ P = prevI l i ∧ Ext w wr)
   (fun _ v _ => n - (intOf v).toNat)
  case atStart => exact ⟨0,0,by omega,rfl,rfl,fun j hj => by omega,rfl,Ext.refl _⟩
  case round =>
   obtain ⟨i,P,hi,rfl,rfl,hall,hP,hE⟩:=hrel
   by_cases hlt : i < n
   ·
    have hd1 : decide ((i : Int) < (n : Int)) = true:=by simp; omega
    have hii : (i : Int) < (n : Int):=by omega
    obtain ⟨b,o,hAL,hb,hcl⟩:=HX.out.resolve_left (by omega)
    have hil : i < l.length:=by have:=HR.out.2; omega
    have HRG:=veil (zah hE hb (hcl i _ (ky_get hil)))
    obtain ⟨k,hk⟩ : ∃ k,k = l.getD i ky0:=⟨_,rfl⟩
    rw [← hk] at HRG
    have hfalse : ¬ (P < k.i ∧ k.i ≤ 2147483647 ∧ 0 ≤ k.a ∧ k.a ≤ k.b ∧ k.b ≤ 1073741824) → R = false:=fun h => HR.out.1.trans (ordK_false hil (by unfold okO; rw [← hk,← hP]; exact h))
    have htrue : (P < k.i ∧ k.i ≤ 2147483647 ∧ 0 ≤ k.a ∧ k.a ≤ k.b ∧ k.b ≤ 1073741824) → ∀ j,j < i + 1 → okO l j:=fun h j hj => by
     by_cases e : j = i
     ·
      subst e
      unfold okO
      rw [← hk,← hP]
      exact h
     ·
      exact hall j (by omega)
    have hnx : k.i = prevI l (i + 1):=by
     unfold prevI
     rw [if_neg (by omega),show i + 1 - 1 = i by omega,hk]
    have HF:=veil (And.intro hfalse (And.intro htrue hnx))
    clear hfalse htrue hnx hall hP hk hcl hil
    subst hAL
    go_upto_region 7 with (first
     | ((with_reducible refine zaa 14 ?_); refine wpList_load_mid rfl 62 _ rfl b _ rfl (kyC k) _ HRG.out Tryz.underlying62 rfl (iKy k) ?_)
     | ((with_reducible refine zaa 5 ?_); refine zcr _ _ rfl rfl rfl rfl rfl rfl hzKy (fun _ => rfl) (fun _ => rfl) (iKyA k) (kyA_size k) (kyA_one k) ?_; intro g W hg hW hEW))
    have hEE:=hE.trans hEW
    have c0:=ky_i (ky_blk hW)
    have c10:=ky_a (ky_blk hW)
    have c11:=ky_b (ky_blk hW)
    simp only [Nat.zero_add] at c0 c10 c11
    clear hW hEW hE hb HRG
    by_cases g1 : k.i ≤ P
    ·
     obtain rfl : R = false:=HF.out.1 fun h => by omega
     have hd2 : decide (k.i ≤ P) = true:=decide_eq_true g1
     go_wp2
     go_ret
     exact ⟨rfl,hEE⟩
    ·
     have hd2 : decide (k.i ≤ P) = false:=decide_eq_false g1
     by_cases g2 : 2147483647 < k.i
     ·
      obtain rfl : R = false:=HF.out.1 fun h => by omega
      have hd3 : decide (2147483647 < k.i) = true:=decide_eq_true g2
      go_wp2
      go_ret
      exact ⟨rfl,hEE⟩
     ·
      have hd3 : decide (2147483647 < k.i) = false:=decide_eq_false g2
      by_cases g3 : k.a < 0
      ·
       obtain rfl : R = false:=HF.out.1 fun h => by omega
       have hd4 : decide (k.a < 0) = true:=decide_eq_true g3
       go_wp2
       go_ret
       exact ⟨rfl,hEE⟩
      ·
       have hd4 : decide (k.a < 0) = false:=decide_eq_false g3
       by_cases g4 : k.b < k.a
       ·
        obtain rfl : R = false:=HF.out.1 fun h => by omega
        have hd5 : decide (k.b < k.a) = true:=decide_eq_true g4
        go_wp2
        go_ret
        exact ⟨rfl,hEE⟩
       ·
        have hd5 : decide (k.b < k.a) = false:=decide_eq_false g4
        by_cases g5 : 1073741824 < k.b
        ·
         obtain rfl : R = false:=HF.out.1 fun h => by omega
         have hd6 : decide (1073741824 < k.b) = true:=decide_eq_true g5
         go_wp2
         go_ret
         exact ⟨rfl,hEE⟩
        ·
         have hd6 : decide (1073741824 < k.b) = false:=decide_eq_false g5
         go_wp2
         go_roundw
         case rel => exact ⟨i + 1,k.i,by omega,rfl,by go_num,HF.out.2.1 (by omega),HF.out.2.2,hEE⟩
         case measure => simp [intOf]; omega
   ·
    obtain rfl : i = n:=by omega
    have hd1 : decide ((i : Int) < (i : Int)) = false:=by simp
    have e : R = true:=by
     rw [HR.out.1]
     exact decide_eq_true ⟨by have:=HR.out.2; omega,fun j hj => hall j (by have:=HR.out.2; omega)⟩
    subst e
    clear hall hP
    go_wp2
    go_ret
    exact ⟨rfl,hE⟩
theorem wpl_midG {P : Program} {ops : Array Oper} {rest : List Oper} {op : Oper} {a : Act} {w : World} {Q : Exit → Act → World → Prop} (hgd : Region.wanted op (yielded ops a.tmps) = true) (ty : TypeId) (x : Operand) (ho : op.op = .load ty x)
  (b o : Nat) (hx : a.eval x = .pointer (some ⟨b,o,none⟩)) (cs : List Value) (d : TypeDesc) (hc : w.rangeAt b o cs)
  (hu : P.underlying ty = some d) (hd : d.isRow = true) (hi : (P.info? ty).map (·.size) = some cs.length)
  (h : wpList P ops Q rest (a.put op.dst (.agg cs.toArray)) w) : wpList P ops Q (op :: rest) a w :=
 wpList_step fun K hK => by
  rw [if_pos hgd]
  exact wp_load_mid ty x ho b o hx cs d hc hu hd hi (hK _ _ h)
theorem isOff_calls (k : Ky) (hx : k.x < top) (hy : k.y < top) (w : World) :
  Calls Tryz.prog 61 #[.agg (kyC k).toArray] w fun e w' => e = .returned (.bool (offK k)) ∧ Ext w w':=by
 have KO:=veil (fun W => on_is k.x k.y k.f hx hy W)
 obtain ⟨R,hR⟩ : ∃ R,R = offK k:=⟨_,rfl⟩
 rw [← hR]
 have HR:=veil hR
 clear hx hy hR
 obtain ⟨C,hC⟩ : ∃ C,C = (kyC k).toArray:=⟨_,rfl⟩
 rw [← hC]
 have HC:=veil hC
 clear hC
 go_enter Tryz.func61,Tryz.ntmps61
 go_upto_region 1 with (fail)
 obtain ⟨g,hg⟩ : ∃ g,g = w.heap.size:=⟨_,rfl⟩
 have h0:=zag w (.cells C 62)
 have hE0:=Ext.alloc w (.cells C 62)
 generalize w.alloc (.cells C 62) = w0 at *
 rw [← hg] at h0 ⊢
 rw [HC.out] at h0
 have c9:=ky_f (ky_blk h0)
 have HQ:=veil (ky_q (ky_blk h0))
 simp only [Nat.zero_add] at c9 HQ
 have HE:=veil hE0
 clear h0 hE0 hg
 cases hf : k.f with
 | true =>
  rw [hf] at c9
  obtain rfl : R = true:=by rw [HR.out]; unfold offK; rw [hf]; rfl
  clear hf KO HQ HR
  go_wp2
  go_ret
  exact ⟨rfl,HE.out⟩
 | false =>
  rw [hf] at c9
  have e : R = !onB k.x k.y k.f:=by rw [HR.out]; unfold offK; rw [hf]; rfl
  obtain ⟨r,hr⟩ : ∃ r,r = onB k.x k.y k.f:=⟨_,rfl⟩
  rw [← hr] at KO e
  clear hr hf HR
  cases r with
  | true =>
   obtain rfl : R = false:=e
   go_wp2_with (first
    | ((with_reducible refine zaa 8 ?_); refine wpl_midG rfl 60 _ rfl g 1 rfl _ _ HQ.out Tryz.underlying60 rfl (iT k.x k.y k.f) ?_)
    | (go_at_call 89; refine (KO.out _).mono ?_; rintro e w1 ⟨rfl,hE1⟩))
   go_ret
   exact ⟨rfl,HE.out.trans hE1⟩
  | false =>
   obtain rfl : R = true:=e
   go_wp2_with (first
    | ((with_reducible refine zaa 8 ?_); refine wpl_midG rfl 60 _ rfl g 1 rfl _ _ HQ.out Tryz.underlying60 rfl (iT k.x k.y k.f) ?_)
    | (go_at_call 89; refine (KO.out _).mono ?_; rintro e w1 ⟨rfl,hE1⟩))
   go_ret
   exact ⟨rfl,HE.out.trans hE1⟩
theorem index_calls (v : Value) (l : List Ky) (w : World) (hF : Ks w v l) (hT : TopK l) (hL : l.length ≤ 1000000000) :
  Calls Tryz.prog 88 #[v,.func (.func 61) #[] #[]] w fun e w' => ∃ z : Int,e = .returned (.int .i64 z) ∧ decide (0 ≤ z) = l.any offK ∧ Ext w w':=by
 obtain ⟨AL,c,rfl,hc,hx⟩:=hF
 obtain ⟨n,hn⟩ : ∃ n,n = l.length:=⟨_,rfl⟩
 rw [← hn] at hx hc hL ⊢
 obtain ⟨R,hR⟩ : ∃ R,R = l.any offK:=⟨_,rfl⟩
 rw [← hR]
 have HR:=veil (And.intro hR (And.intro hn hT))
 have HX:=veil hx
 clear hR hx hn hT
 go_enter Tryz.func88,Tryz.ntmps88
 go_wp2
 go_loopw [5,8] (fun _ v wr => ∃ i : Nat,i ≤ n ∧ v = .int .i64 (i : Int) ∧ (∀ j,j < i → offK (l.getD j ky0) = false) ∧ Ext w wr)
  (fun _ v _ => n - (intOf v).toNat)
 case atStart => exact ⟨0,by omega,rfl,fun j hj => by omega,Ext.refl _⟩
 case round =>
  obtain ⟨i,hi,rfl,hall,hE⟩:=hrel
  by_cases hlt : i < n
  ·
   have hd1 : decide ((i : Int) < (n : Int)) = true:=by simp; omega
   have hii : (i : Int) < (n : Int):=by omega
   obtain ⟨b,o,hAL,hb,hcl⟩:=HX.out.resolve_left (by omega)
   have hil : i < l.length:=by have:=HR.out.2.1; omega
   have HRG:=veil (zah hE hb (hcl i _ (ky_get hil)))
   have hkt:=HR.out.2.2 (l.getD i ky0) (List.mem_of_getElem? (ky_get hil))
   have hmem : l.getD i ky0 ∈ l:=List.mem_of_getElem? (ky_get hil)
   obtain ⟨k,hk⟩ : ∃ k,k = l.getD i ky0:=⟨_,rfl⟩
   rw [← hk] at HRG hkt hmem
   have KO:=veil (fun W => isOff_calls k hkt.1 hkt.2 W)
   cases ho : offK k with
   | true =>
    rw [ho] at KO
    have e : R = true:=by
     rw [HR.out.1,List.any_eq_true]
     exact ⟨k,hmem,ho⟩
    subst e
    clear hmem hkt ho hk hil hcl hall
    subst hAL
    go_wp2_with (first
     | ((with_reducible refine zaa 15 ?_); refine wpList_load_mid rfl 62 _ rfl b _ rfl (kyC k) _ HRG.out Tryz.underlying62 rfl (iKy k) ?_)
     | (go_at_call 61; refine (KO.out _).mono ?_; rintro e w1 ⟨rfl,hE1⟩))
    go_ret
    exact ⟨(i : Int),rfl,by simp,hE.trans hE1⟩
   | false =>
    rw [ho] at KO
    have hnext : ∀ j,j < i + 1 → offK (l.getD j ky0) = false:=fun j hj => by
     by_cases e : j = i
     ·
      subst e
      rw [← hk]
      exact ho
     ·
      exact hall j (by omega)
    have HN:=veil hnext
    clear hmem hkt ho hk hil hcl hall hnext
    subst hAL
    go_wp2_with (first
     | ((with_reducible refine zaa 15 ?_); refine wpList_load_mid rfl 62 _ rfl b _ rfl (kyC k) _ HRG.out Tryz.underlying62 rfl (iKy k) ?_)
     | (go_at_call 61; refine (KO.out _).mono ?_; rintro e w1 ⟨rfl,hE1⟩))
    go_roundw
    case rel => exact ⟨i + 1,by omega,by go_num,HN.out,hE.trans hE1⟩
    case measure => simp [intOf]; omega
  ·
   obtain rfl : i = n:=by omega
   have hd1 : decide ((i : Int) < (i : Int)) = false:=by simp
   have e : R = false:=by
    rw [HR.out.1,List.any_eq_false]
    intro k hk
    obtain ⟨j,hj,rfl⟩:=List.mem_iff_getElem.1 hk
    have:=hall j (by have:=HR.out.2.1; omega)
    rw [List.getD_eq_getElem?_getD,List.getElem?_eq_getElem hj] at this
    simpa using this
   subst e
   clear hall
   go_wp2
   go_ret
   exact ⟨-1,rfl,by decide,hE⟩
theorem contains_calls (v : Value) (l : List Ky) (w : World) (hF : Ks w v l) (hT : TopK l) (hL : l.length ≤ 1000000000) :
  Calls Tryz.prog 60 #[v,.func (.func 61) #[] #[]] w fun e w' => e = .returned (.bool (l.any offK)) ∧ Ext w w':=by
 have KI:=veil (index_calls v l w hF hT hL)
 obtain ⟨R,hR⟩ : ∃ R,R = l.any offK:=⟨_,rfl⟩
 rw [← hR] at KI ⊢
 clear hF hT hL hR
 go_enter Tryz.func60,Tryz.ntmps60
 go_wp2_with (go_at_call 88; refine KI.out.mono ?_; rintro e w1 ⟨z,rfl,hz,hE1⟩)
 go_ret
 exact ⟨by first | rfl | rw [hz],hE1⟩
theorem may10_calls (v : Value) (l : List Ky) (w : World) (hF : Ks w v l) (hT : TopK l) (hL : l.length ≤ 1000000000) :
  Calls Tryz.prog 31 #[v] w fun e w' => e = .returned (.bool (mayK l)) ∧ Ext w w':=by
 have KO:=veil (fun W (hW : Ks W v l) => inOrder_calls v l W hW hL)
 have KC:=veil (fun W (hW : Ks W v l) => contains_calls v l W hW hT hL)
 rw [mayK_ord]
 have HV:=veil hF
 clear hF hT hL
 generalize ordK l = r at *
 generalize l.any offK = s at *
 cases r with
 | false =>
  go_enter Tryz.func31,Tryz.ntmps31
  go_wp2_with (go_at_call 59; refine (KO.out _ HV.out).mono ?_; rintro e w1 ⟨rfl,hE1⟩)
  go_ret
  exact ⟨rfl,hE1⟩
 | true =>
  cases s with
  | false =>
   go_enter Tryz.func31,Tryz.ntmps31
   go_wp2_with (first
    | (go_at_call 59; refine (KO.out _ HV.out).mono ?_; rintro e w1 ⟨rfl,hE1⟩)
    | (go_at_call 60; refine (KC.out _ (HV.out.ext hE1)).mono ?_; rintro e w2 ⟨rfl,hE2⟩))
   go_ret
   exact ⟨rfl,hE1.trans hE2⟩
  | true =>
   go_enter Tryz.func31,Tryz.ntmps31
   go_wp2_with (first
    | (go_at_call 59; refine (KO.out _ HV.out).mono ?_; rintro e w1 ⟨rfl,hE1⟩)
    | (go_at_call 60; refine (KC.out _ (HV.out.ext hE1)).mono ?_; rintro e w2 ⟨rfl,hE2⟩))
   go_ret
   exact ⟨rfl,hE1.trans hE2⟩
theorem zcm {g k : Nat} (hne : k ≠ g) : ∀ (vs : List Value) (o : Nat) (w : World),(w.setCells g o vs).heap[k]? = w.heap[k]?
 | [],_,_ => rfl
 | _ :: r,o,_ => (zcm hne r (o + 1) _).trans (Below.heap_setCell _ _ _ _ hne)
theorem Bs.off {w : World} {A : Option Addr} {bs : List Nat} {g o : Nat} {vs : List Value} (h : Bs w A bs) (hne : ∀ b o,A = some ⟨b,o,none⟩ → b ≠ g) : Bs (w.setCells g o vs) A bs :=
 ⟨h.1,h.2.imp id fun ⟨b,o',e,hb,hc⟩ => by
  have hk:=zcm (hne b o' e) vs o w
  have hs : b < (w.setCells g o vs).heap.size:=by
   rw [Array.getElem?_eq_getElem hb] at hk
   exact (Array.getElem?_eq_some_iff.1 hk).1
  exact ⟨b,o',e,hs,fun j hj => (World.cell?_of_block (a:=⟨b,o' + j,none⟩) hk).trans (hc j hj)⟩⟩
theorem kcheck_nil (w : World) : Calls Tryz.prog 17 #[.slice none 0 0,.slice none 0 0,.int .i64 0] w fun e w' => e = .returned (.tuple #[.agg (tkC ⟨0,0,0,0,0⟩),.iface 38 (.int .i64 2)]) ∧ Ext w w':=by
 have KM : Hid (∀ W : World,Calls Tryz.prog 31 #[.slice none 0 0] W fun e w' => e = .returned (.bool true) ∧ Ext W w'):=veil (fun W => may10_calls _ [] W (Ls.nil W none 0) (fun k hk => by cases hk) (by decide))
 have KO:=veil (fun W => open_nil_calls W)
 have k2:=neNil2
 go_enter Tryz.func17,Tryz.ntmps17
 go_upto_region 1 with (fail)
 obtain ⟨g,hg⟩ : ∃ g,g = w.heap.size:=⟨_,rfl⟩
 obtain ⟨w0,hw0⟩ : ∃ W,W = w.alloc (.cells TZ 24):=⟨_,rfl⟩
 have h0:=zag w (.cells TZ 24)
 have hE0:=Ext.alloc w (.cells TZ 24)
 rw [← hw0] at hE0
 rw [← hw0,← hg] at h0
 have H0:=veil (And.intro hE0 (And.intro h0 (show w.heap.size ≤ g by omega)))
 unfold TZ at hw0
 rw [← hw0,← hg]
 clear hw0 hg h0 hE0
 go_upto_region 3 with (go_at_call 31; refine (KM.out _).mono ?_; rintro e w1 ⟨rfl,hE1⟩)
 have H1:=veil (And.intro (H0.out.1.trans hE1) (hE1.block H0.out.2.1))
 clear hE1 KM
 go_upto_region 4 with (first
  | (go_at_call 32; refine (KO.out w1).mono ?_; rintro e w2 ⟨rfl,hE2⟩)
  | ((with_reducible refine zbf ?_); refine wpList_store_row rfl 24 _ _ rfl w2.heap.size (tkC ⟨0,0,0,0,0⟩) rfl rfl 24 _ (zct w2 _ _).1 (iTk _) rfl (tkC_one _) ?_)
  | ((with_reducible refine zbf ?_); refine wpList_store_row rfl 69 _ _ rfl (w2.heap.size + 1) (gc 0 0) rfl rfl 69 _ (two_far _ (zct w2 _ _).2 (Nat.lt_succ_self _)) (iSg 0 0) rfl (gc_one 0 0) ?_))
 have hF:=two_rows (T:=tkC ⟨0,0,0,0,0⟩) (G:=gc 0 0) (two_ext w2 (.cells TZ 24) (.cells Z8 69)) (zct w2 _ _).1 (zct w2 _ _).2 ⟨Nat.le_refl _,Nat.lt_succ_self _⟩
 have hE3:=H1.out.1.trans (hE2.trans hF.1)
 have hb3:=(hE2.trans hF.1).block H1.out.2
 clear hF hE2
 obtain ⟨g8,hg8⟩ : ∃ g,g = w2.heap.size:=⟨_,rfl⟩
 obtain ⟨g9,hg9⟩ : ∃ g,g = w2.heap.size + 1:=⟨_,rfl⟩
 rw [← hg9,← hg8] at hE3 hb3 ⊢
 obtain ⟨w3,hw3⟩ : ∃ W,W = (((w2.alloc (.cells TZ 24)).alloc (.cells Z8 69)).setRow g8 (tkC ⟨0,0,0,0,0⟩)).setRow g9 (gc 0 0):=⟨_,rfl⟩
 rw [← hw3] at hE3 hb3
 unfold TZ Z8 at hw3
 rw [← hw3]
 have H3:=veil (And.intro hE3 hb3)
 clear hw3 hg8 hg9 hE3 hb3 KO H1
 go_wp2_with ((with_reducible refine zbf ?_); refine wpList_store_row rfl 24 _ _ rfl g TZ rfl rfl 24 _ H3.out.2 iTZ rfl tz_one ?_)
 refine bodyPost_ret (zcf rfl _ _ g 24 TZ (0,0) _ rfl (setRow_heap w3 g _ TZ 24 (0,0) H3.out.2) Tryz.underlying24 rfl iTZ) rfl ⟨rfl,zbb H3.out.1 H0.out.2.2 _⟩
theorem eqN_2 (w : World) : (binOp .eql 32 (.iface 38 (.int .i64 2)) .nilIface).run Tryz.prog w = .ok (.bool false) w:=by kernel_rfl
theorem eqA_2 (w : World) : (binOp .eql 32 (.iface 38 (.int .i64 2)) (.iface 38 (.int .i64 1))).run Tryz.prog w = .ok (.bool false) w:=by kernel_rfl
theorem eqF_2 (w : World) : (binOp .eql 32 (.iface 38 (.int .i64 2)) (.iface 38 (.int .i64 2))).run Tryz.prog w = .ok (.bool true) w:=by kernel_rfl
theorem verdict14_nil (w : World) : Calls Tryz.prog 12 #[.slice none 0 0,.slice none 0 0,.slice none 0 0,.slice none 0 0,.int .i64 0,.int .i64 0] w fun e w' => e = .returned (.tuple #[.int .i64 2,.nilIface]) ∧ Ext w w':=by
 have KMR:=veil (fun W => show Calls Tryz.prog 27 #[.slice none 0 0] W fun e w' => e = .returned (.bool true) ∧ Ext W w' from may11_calls _ [] W (Ls.nil W none 0) (by decide))
 have KML:=veil (fun W => show Calls Tryz.prog 10 #[.slice none 0 0] W fun e w' => e = .returned (.bool true) ∧ Ext W w' from zck _ [] W ⟨Ls.nil W none 0,fun x hx => by cases hx⟩ (by decide))
 have KP:=veil (fun W => show Calls Tryz.prog 25 #[.int .i64 0,.int .i64 0] W fun e w' => e = .returned (.bool true) ∧ w' = W from zcz 0 0 W)
 have KC:=veil (fun W => kcheck_nil W)
 have k1:=eqN_2
 have k2:=eqA_2
 have k3:=eqF_2
 go_enter Tryz.func12,Tryz.ntmps12
 go_upto_region 4 with (first
  | (go_at_call 27; with_reducible refine (KMR.out _).mono ?_; rintro e w1 ⟨rfl,hE1⟩; have HE1:=veil hE1; clear hE1)
  | (go_at_call 10; with_reducible refine (KML.out _).mono ?_; rintro e w2 ⟨rfl,hE2⟩; have HE2:=veil (HE1.out.trans hE2); clear hE2)
  | (go_at_call 25; with_reducible refine (KP.out _).mono ?_; rintro e w3 ⟨rfl,rfl⟩)
  | (go_at_call 17; with_reducible refine (KC.out _).mono ?_; rintro e w4 ⟨rfl,hE4⟩; have HE4:=veil (HE2.out.trans hE4); clear hE4)
  | ((with_reducible refine zbf ?_); refine wpList_store_row rfl 24 _ _ rfl w4.heap.size (tkC ⟨0,0,0,0,0⟩) rfl rfl 24 _ (zag w4 _) (iTk _) rfl (tkC_one _) ?_; rw [World.setRow_alloc_new]))
 have HE5:=veil (HE4.out.trans (Ext.alloc w4 (.cells (tkC ⟨0,0,0,0,0⟩) 24)))
 generalize w4.alloc (.cells (tkC ⟨0,0,0,0,0⟩) 24) = w5 at *
 go_wp2
 go_ret2
 exact ⟨rfl,HE5.out⟩
theorem code14a : Code14a where
 may:=fun v l w hF hL => zck v l w hF hL
 covers:=fun v l t z a w hF hL _ _ _ _ => covers14_calls v l t z a w hF hL
 verdict_nil:=verdict14_nil
end Go.Proofs.YtbfkecfcolcclaaGreatDoor
