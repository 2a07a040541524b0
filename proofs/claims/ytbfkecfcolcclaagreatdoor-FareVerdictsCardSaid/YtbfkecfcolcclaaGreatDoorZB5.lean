/-
  Of QA J1 Own Cut T1 T2 Sch T3 T4 T5.
-/
import Derived.BigQuiet
import Derived.Deep.Cut
import Derived.Deep.CutRange
import Derived.Deep.RegionHeld3
import Derived.WalkKit
import Derived.OwnWalk
import Derived.RegionTactic
import Derived.Deep.AppendLies
import Derived.Maps.AppendAt
import Derived.Test.YtbfkecfcolcclaaGreatDoorRows
import Derived.WalkSpells
import Derived.WalkLawsBesides
import Derived.BigRegion
import Derived.Laws.BytesString
import Derived.Deep.SlicePairs
import Derived.Deep.LoopGhost
import Derived.Laws.Concat
import Derived.Deep.MidRow
import Derived.Laws.OwnMore
import Derived.ArgAppend
import Derived.Test.YtbfkecfcolcclaaGreatDoorZB4
import Derived.Test.YtbfkecfcolcclaaGreatDoorZB3
import Derived.Test.YtbfkecfcolcclaaGreatDoorZB1
import Derived.Test.YtbfkecfcolcclaaGreatDoorZB2
set_option maxRecDepth 1000000
set_option maxHeartbeats 20000000
namespace Go.Proofs.YtbfkecfcolcclaaGreatDoor
open Go.RowKit
open Go.Value renaming int → vI
open Go.IntKind renaming u64 → vU
open Go.Act renaming put → aP
open List renaming setIfInBounds_toArray → lA, set_cons_zero → lZ, set_cons_succ → lS
theorem three_lt : 3 < Pt.pp:=by decide +kernel
theorem bb_lt : Pt.bb < Pt.pp:=by decide +kernel
theorem pp_one : 1 < Pt.pp:=by decide +kernel
theorem pp_odd : Pt.pp % 2 = 1:=by decide +kernel
theorem wd_nil (i : Nat) : wd 0 i = 0:=by unfold wd dg; simp
theorem zju {X : Nat} (hX : X < top) (w : World) : (binOp .eql 58 (.agg #[vI vU (wd X 0),vI vU (wd X 1),vI vU (wd X 2),vI vU (wd X 3)]) (.agg #[vI vU 0,vI vU 0,vI vU 0,vI vU 0])).run Tryz.prog w = .ok (.bool (decide (X = 0))) w:=by
 have h:=zga hX (show 0 < top by decide) w
 simp only [wd_nil] at h
 exact h
theorem zfq : ((0 : Fin Pt.pp)).val = 0:=Fin.val_zero _
theorem v_one : ((1 : Fin Pt.pp)).val = 1:=Pt.val_one pp_one
theorem v_three : ((3 : Fin Pt.pp)).val = 3:=by
 rw [← Pt.F_three]
 exact Nat.mod_eq_of_lt three_lt
theorem zbk (x : Fin Pt.pp) : x.val < top:=Nat.lt_trans x.isLt zcf
section
variable {x y z : Fin Pt.pp}
theorem fmul_is {X Y : Nat} (hX : X < Pt.pp) (hY : Y < Pt.pp) (h : X * Y % Pt.pp = z.val) (w : World) : Calls Tryz.prog 51 #[nv X,nv Y] w fun e w' => e = .returned (nv z.val) ∧ Ext w w':=by
 have k:=veil fun W => gmul_calls X Y Pt.pp hX (Nat.lt_trans hY zcf) zcf W
 rw [h] at k
 clear h
 exact way1 Tryz.func51 [nv X,nv Y] (.call _ _ _ (fun W _ => zce W) <| .call _ _ _ (fun W _ => k.out W) <| .ret _ fun _ h => ⟨rfl,h⟩) (by kernel_rfl)
theorem fsub_is {X Y : Nat} (hX : X < Pt.pp) (hY : Y < Pt.pp) (h : (X + Pt.pp - Y) % Pt.pp = z.val) (w : World) : Calls Tryz.prog 53 #[nv X,nv Y] w fun e w' => e = .returned (nv z.val) ∧ Ext w w':=by
 have k:=veil fun W => zis X Y Pt.pp hX hY zcf W
 rw [h] at k
 clear h
 exact way1 Tryz.func53 [nv X,nv Y] (.call _ _ _ (fun W _ => zce W) <| .call _ _ _ (fun W _ => k.out W) <| .ret _ fun _ h => ⟨rfl,h⟩) (by kernel_rfl)
theorem fmul (h : z = x * y) (w : World) : Calls Tryz.prog 51 #[nv x.val,nv y.val] w fun e w' => e = .returned (nv z.val) ∧ Ext w w':=fmul_is x.isLt y.isLt (by rw [h,Pt.v_mul]) w
theorem fthree (h : z = 3 * x) (w : World) : Calls Tryz.prog 51 #[nv 3,nv x.val] w fun e w' => e = .returned (nv z.val) ∧ Ext w w':=fmul_is three_lt x.isLt (by rw [h,← Pt.v_mul,v_three]) w
theorem fsub (h : z = x - y) (w : World) : Calls Tryz.prog 53 #[nv x.val,nv y.val] w fun e w' => e = .returned (nv z.val) ∧ Ext w w':=fsub_is x.isLt y.isLt (by rw [h,Pt.v_sub]) w
theorem fless (h : z = x - 1) (w : World) : Calls Tryz.prog 53 #[nv x.val,nv 1] w fun e w' => e = .returned (nv z.val) ∧ Ext w w':=fsub_is x.isLt pp_one (by rw [h,← Pt.v_sub,v_one]) w
theorem fneg (h : z = 0 - y) (w : World) : Calls Tryz.prog 53 #[nv 0,nv y.val] w fun e w' => e = .returned (nv z.val) ∧ Ext w w':=fsub_is pp_pos y.isLt (by rw [h,← Pt.v_sub,zfq]) w
theorem fadd (h : z = x + y) (w : World) : Calls Tryz.prog 52 #[nv x.val,nv y.val,nv Pt.pp] w fun e w' => e = .returned (nv z.val) ∧ Ext w w':=by
 have k:=zit x.val y.val Pt.pp x.isLt y.isLt zcf w
 rw [Pt.v_add,← h] at k
 exact k
theorem fplus_b (h : z = x + Pt.F Pt.bb) (w : World) : Calls Tryz.prog 52 #[nv x.val,nv Pt.bb,nv Pt.pp] w fun e w' => e = .returned (nv z.val) ∧ Ext w w':=by
 have eb : Pt.bb = (Pt.F Pt.bb : Fin Pt.pp).val:=(Nat.mod_eq_of_lt bb_lt).symm
 have k:=fadd h w
 rw [← eb] at k
 exact k
theorem finv (hx : x ≠ 0) (h : z = Pt.E256.inv x) (w : World) : Calls Tryz.prog 125 #[nv x.val,nv Pt.pp] w fun e w' => e = .returned (.tuple #[nv z.val,.bool true]) ∧ Ext w w':=by
 refine (ginv_calls x.val Pt.pp x.isLt pp_one pp_odd zcf w).mono ?_
 rintro e w' ⟨t,ht,hi,rfl,hb⟩
 have hg:=Pt.v_gcd hx
 rw [Pt.v_inv ht (hi hg),← h,hg]
 exact ⟨rfl,hb⟩
end
/-! ### Neg -/
theorem rneg_fe (X : Nat) {y z : Fin Pt.pp} (f : Bool) (h : z = 0 - y) (w : World) : Calls Tryz.prog 172 #[qv X y.val f] w fun e w' => e = .returned (qv X z.val f) ∧ Ext w w':=by
 have k:=veil h
 clear h
 exact way1 Tryz.func172 [qv X y.val f] (.call _ _ _ (fun W _ => fneg k.out W) <| .ret _ fun _ h => ⟨rfl,h⟩) (by kernel_rfl)
/-! ### On -/
def rightN (X : Nat) : Nat:=((X * X % Pt.pp * X % Pt.pp + Pt.pp - 3 * X % Pt.pp) % Pt.pp + Pt.bb) % Pt.pp
def onB (X Y : Nat) (f : Bool) : Bool:=if f then decide (X = 0) && decide (Y = 0) else decide (X < Pt.pp) && (decide (Y < Pt.pp) && decide (Y * Y % Pt.pp = rightN X))
theorem zhm (x : Fin Pt.pp) : rightN x.val = (x * x * x - 3 * x + Pt.F Pt.bb).val:=by
 unfold rightN
 have e3 : 3 * x.val % Pt.pp = (3 * x).val:=by rw [← Pt.v_mul,v_three]
 have eb : Pt.bb = (Pt.F Pt.bb : Fin Pt.pp).val:=(Nat.mod_eq_of_lt bb_lt).symm
 rw [e3,Pt.v_mul,Pt.v_mul,Pt.v_sub]
 conv => lhs; rw [eb]
 rw [Pt.v_add]
theorem rcmp_out {X : Nat} (h : ¬ X < Pt.pp) : decide (0 ≤ cmpN X Pt.pp) = true:=by
 unfold cmpN
 rw [if_neg h]
 split <;> decide
theorem rcmp_in {X : Nat} (h : X < Pt.pp) (w : World) : Calls Tryz.prog 49 #[nv X,nv Pt.pp] w fun e w' => e = .returned (.int .i64 (-1)) ∧ Ext w w':=by
 have k:=zek X Pt.pp (Nat.lt_trans h zcf) zcf w
 rw [show cmpN X Pt.pp = -1 by unfold cmpN; rw [if_pos h]] at k
 exact k
section
variable (X Y : Nat)
theorem ron_far (hX : X < top) (hY : Y < top) (w : World) : Calls Tryz.prog 28 #[qv X Y true] w fun e w' => e = .returned (.bool (decide (X = 0) && decide (Y = 0))) ∧ Ext w w':=by
 have kx:=veil fun W => zju hX W
 have ky:=veil fun W => zju hY W
 obtain ⟨bx,hbx⟩ : ∃ b,b = decide (X = 0):=⟨_,rfl⟩
 obtain ⟨by',hby⟩ : ∃ b,b = decide (Y = 0):=⟨_,rfl⟩
 rw [← hbx] at kx ⊢
 rw [← hby] at ky ⊢
 clear hbx hby hX hY
 cases bx
 ·
  exact way1 Tryz.func28 [qv X Y true] (.ins 10 (binK .eql 58 (.tmp 8) (.tmp 9) (nv X) (nv 0)) (.bool false) (fun W _ => zba (gN _ _ _ _ _ W) (kx.out W)) <| .ret _ fun _ h => ⟨rfl,h⟩) (by kernel_rfl)
 ·
  exact way1 Tryz.func28 [qv X Y true] (.ins 10 (binK .eql 58 (.tmp 8) (.tmp 9) (nv X) (nv 0)) (.bool true) (fun W _ => zba (gN _ _ _ _ _ W) (kx.out W)) <|
   .ins 15 (binK .eql 58 (.tmp 13) (.tmp 14) (nv Y) (nv 0)) (.bool by') (fun W _ => zba (gN _ _ _ _ _ W) (ky.out W)) <| .ret _ fun _ h => ⟨rfl,h⟩) (by kernel_rfl)
theorem ron_out (hX : X < top) (hlt : ¬ X < Pt.pp) (w : World) : Calls Tryz.prog 28 #[qv X Y false] w fun e w' => e = .returned (.bool false) ∧ Ext w w':=by
 have k:=veil (And.intro hX hlt)
 clear hX hlt
 exact way1 Tryz.func28 [qv X Y false] (.call _ _ _ (fun W _ => zce W) <| .call _ _ _ (fun W _ => zek X Pt.pp k.out.1 zcf W) <|
  .ins 21 (binK .geq 3 (.tmp 20) (.const (.int .i64 0)) (.int .i64 (cmpN X Pt.pp)) (.int .i64 0)) _ (fun W _ => zed (rcmp_out k.out.2) W) <| .ret _ fun _ h => ⟨rfl,h⟩) (by kernel_rfl)
theorem ron_high (hX : X < Pt.pp) (hY : Y < top) (hlt : ¬ Y < Pt.pp) (w : World) : Calls Tryz.prog 28 #[qv X Y false] w fun e w' => e = .returned (.bool false) ∧ Ext w w':=by
 have k:=veil (And.intro hX (And.intro hY hlt))
 clear hX hY hlt
 exact way1 Tryz.func28 [qv X Y false] (.call _ _ _ (fun W _ => zce W) <| .call _ _ _ (fun W _ => rcmp_in k.out.1 W) <| .call _ _ _ (fun W _ => zce W) <|
  .call _ _ _ (fun W _ => zek Y Pt.pp k.out.2.1 zcf W) <|
  .ins 27 (binK .geq 3 (.tmp 26) (.const (.int .i64 0)) (.int .i64 (cmpN Y Pt.pp)) (.int .i64 0)) _ (fun W _ => zed (rcmp_out k.out.2.2) W) <| .ret _ fun _ h => ⟨rfl,h⟩) (by kernel_rfl)
end
theorem ron_near {x y xx x3 t l d r : Fin Pt.pp} (h1 : xx = x * x) (h2 : x3 = xx * x) (h3 : t = 3 * x) (h4 : l = y * y) (h5 : d = x3 - t) (h6 : r = d + Pt.F Pt.bb) (w : World) :
  Calls Tryz.prog 28 #[qv x.val y.val false] w fun e w' => e = .returned (.bool (decide (l.val = r.val))) ∧ Ext w w':=by
 have k1:=veil h1
 have k2:=veil h2
 have k3:=veil h3
 have k4:=veil h4
 have k5:=veil h5
 have k6:=veil h6
 clear h1 h2 h3 h4 h5 h6
 exact way1 Tryz.func28 [qv x.val y.val false] (.call _ _ _ (fun W _ => zce W) <| .call _ _ _ (fun W _ => rcmp_in x.isLt W) <| .call _ _ _ (fun W _ => zce W) <| .call _ _ _ (fun W _ => rcmp_in y.isLt W) <|
  .call _ _ _ (fun W _ => fmul k1.out W) <| .call _ _ _ (fun W _ => fmul k2.out W) <| .call _ _ _ (fun W _ => fthree k3.out W) <| .call _ _ _ (fun W _ => fmul k4.out W) <|
  .call _ _ _ (fun W _ => fsub k5.out W) <| .call _ _ _ (fun W _ => rb_calls W) <| .call _ _ _ (fun W _ => zce W) <| .call _ _ _ (fun W _ => fplus_b k6.out W) <|
  .ins 52 (binK .eql 58 (.tmp 45) (.tmp 51) (nv l.val) (nv r.val)) (.bool (decide (l.val = r.val))) (fun W _ => zba (gN _ _ _ _ _ W) (zga (zbk _) (zbk _) W)) <| .ret _ fun _ h => ⟨rfl,h⟩) (by kernel_rfl)
theorem ron_calls (X Y : Nat) (f : Bool) (hX : X < top) (hY : Y < top) (w : World) :
  Calls Tryz.prog 28 #[.agg #[vI vU (wd X 0),vI vU (wd X 1),vI vU (wd X 2),vI vU (wd X 3),vI vU (wd Y 0),vI vU (wd Y 1),vI vU (wd Y 2),vI vU (wd Y 3),.bool (f)]] w fun e w' => e = .returned (.bool (onB X Y f)) ∧ Below w.heap.size w w':=by
 unfold onB
 cases f with
 | true => exact ron_far X Y hX hY w
 | false =>
  by_cases hx : X < Pt.pp
  ·
   by_cases hy : Y < Pt.pp
   ·
    simp only [Bool.false_eq_true,if_false,hx,hy,decide_true,Bool.true_and]
    have k:=ron_near (x:=⟨X,hx⟩) (y:=⟨Y,hy⟩) rfl rfl rfl rfl rfl rfl w
    rw [← zhm,← Pt.v_mul] at k
    exact k
   ·
    simp only [Bool.false_eq_true,if_false,hx,hy,decide_true,decide_false,Bool.true_and,Bool.false_and]
    exact ron_high X Y hx hY hy w
  ·
   simp only [Bool.false_eq_true,if_false,hx,decide_false,Bool.false_and]
   exact ron_out X Y hX hx w
/-! ### Add -/
section
variable (X Y : Nat)
theorem radd_far1 (X2 Y2 : Nat) (f : Bool) (w : World) : Calls Tryz.prog 131 #[qv X Y true,qv X2 Y2 f] w fun e w' => e = .returned (qv X2 Y2 f) ∧ Ext w w':=by
 exact way1 Tryz.func131 [qv X Y true,qv X2 Y2 f] (.ret _ fun _ h => ⟨rfl,h⟩) (by kernel_rfl)
theorem radd_far2 (X2 Y2 : Nat) (w : World) : Calls Tryz.prog 131 #[qv X Y false,qv X2 Y2 true] w fun e w' => e = .returned (qv X Y false) ∧ Ext w w':=by
 exact way1 Tryz.func131 [qv X Y false,qv X2 Y2 true] (.ret _ fun _ h => ⟨rfl,h⟩) (by kernel_rfl)
end
theorem eql_no {X Y X' Y' : Nat} (hX : X < top) (hY : Y < top) (hX' : X' < top) (hY' : Y' < top) (h : ¬ (X = X' ∧ Y = Y')) (w : World) : (binOp .eql 60 (qv X Y false) (qv X' Y' false)).run Tryz.prog w = .ok (.bool false) w:=by
 have e:=eql_pt hX hY hX' hY' false false w
 rw [decide_eq_false fun ⟨h1,h2,_⟩ => h ⟨h1,h2⟩] at e
 exact e
section
variable {x1 y1 x2 y2 m u d t l a b X c e Y : Fin Pt.pp}
theorem radd_opp (h : m = 0 - y1) (w : World) : Calls Tryz.prog 131 #[qv x1.val m.val false,qv x1.val y1.val false] w fun e w' => e = .returned (qv 0 0 true) ∧ Ext w w':=by
 have k:=veil h
 clear h
 exact way1 Tryz.func131 [qv x1.val m.val false,qv x1.val y1.val false] (.call _ _ _ (fun W _ => rneg_fe x1.val false k.out W) <|
  .ins 20 (binK .eql 60 (.tmp 17) (.tmp 19) (qv x1.val m.val false) (qv x1.val m.val false)) (.bool true) (fun W _ => zba (gT _ _ _ _ _ _ _ _ _ W) (eqT (zbk _) (zbk _) W)) <| .ret _ fun _ h => ⟨rfl,h⟩) (by kernel_rfl)
theorem radd_else (hm : m = 0 - y2) (hn : ¬ (x1.val = x2.val ∧ y1.val = m.val)) (hs : ¬ (x1.val = x2.val ∧ y1.val = y2.val)) (hu : u = y2 - y1) (hd : d = x2 - x1) (h0 : d ≠ 0) (ht : t = Pt.E256.inv d) (hl : l = u * t)
  (ha : a = l * l) (hb : b = a - x1) (hX : X = b - x2) (hc : c = x1 - X) (he : e = l * c) (hY : Y = e - y1) (w : World) :
  Calls Tryz.prog 131 #[qv x1.val y1.val false,qv x2.val y2.val false] w fun e w' => e = .returned (qv X.val Y.val false) ∧ Ext w w':=by
 have k1:=veil hm
 have k2:=veil hn
 have k3:=veil hs
 have k4:=veil hu
 have k5:=veil hd
 have k6:=veil (And.intro h0 ht)
 have k7:=veil hl
 have k8:=veil ha
 have k9:=veil hb
 have k10:=veil hX
 have k11:=veil hc
 have k12:=veil he
 have k13:=veil hY
 clear hm hn hs hu hd h0 ht hl ha hb hX hc he hY
 exact way1 Tryz.func131 [qv x1.val y1.val false,qv x2.val y2.val false] (.call _ _ _ (fun W _ => rneg_fe x2.val false k1.out W) <|
  .ins 20 (binK .eql 60 (.tmp 17) (.tmp 19) (qv x1.val y1.val false) (qv x2.val m.val false)) (.bool false) (fun W _ => zba (gT _ _ _ _ _ _ _ _ _ W) (eql_no (zbk _) (zbk _) (zbk _) (zbk _) k2.out W)) <|
  .call _ _ _ (fun W _ => fsub k4.out W) <| .call _ _ _ (fun W _ => fsub k5.out W) <|
  .ins 34 (binK .eql 60 (.tmp 32) (.tmp 33) (qv x1.val y1.val false) (qv x2.val y2.val false)) (.bool false) (fun W _ => zba (gT _ _ _ _ _ _ _ _ _ W) (eql_no (zbk _) (zbk _) (zbk _) (zbk _) k3.out W)) <|
  .call _ _ _ (fun W _ => zce W) <| .call _ _ _ (fun W _ => finv k6.out.1 k6.out.2 W) <| .call _ _ _ (fun W _ => fmul k7.out W) <| .call _ _ _ (fun W _ => fmul k8.out W) <| .call _ _ _ (fun W _ => fsub k9.out W) <|
  .call _ _ _ (fun W _ => fsub k10.out W) <| .call _ _ _ (fun W _ => fsub k11.out W) <| .call _ _ _ (fun W _ => fmul k12.out W) <| .call _ _ _ (fun W _ => fsub k13.out W) <| .ret _ fun _ h => ⟨rfl,h⟩) (by kernel_rfl)
theorem radd_same {z0 z1 xx g : Fin Pt.pp} (hm : m = 0 - y1) (hn : ¬ (x1.val = x1.val ∧ y1.val = m.val)) (h1 : z0 = y1 - y1) (h2 : z1 = x1 - x1) (h3 : xx = x1 * x1) (h4 : g = xx - 1) (hu : u = 3 * g) (hd : d = y1 + y1) (h0 : d ≠ 0) (ht : t = Pt.E256.inv d) (hl : l = u * t)
  (ha : a = l * l) (hb : b = a - x1) (hX : X = b - x1) (hc : c = x1 - X) (he : e = l * c) (hY : Y = e - y1) (w : World) :
  Calls Tryz.prog 131 #[qv x1.val y1.val false,qv x1.val y1.val false] w fun e w' => e = .returned (qv X.val Y.val false) ∧ Ext w w':=by
 have k1:=veil hm
 have k2:=veil hn
 have k3:=veil (And.intro h1 h2)
 have k4:=veil (And.intro h3 (And.intro h4 hu))
 have k5:=veil hd
 have k6:=veil (And.intro h0 ht)
 have k7:=veil hl
 have k8:=veil ha
 have k9:=veil hb
 have k10:=veil hX
 have k11:=veil hc
 have k12:=veil he
 have k13:=veil hY
 clear hm hn h1 h2 h3 h4 hu hd h0 ht hl ha hb hX hc he hY
 exact way1 Tryz.func131 [qv x1.val y1.val false,qv x1.val y1.val false] (.call _ _ _ (fun W _ => rneg_fe x1.val false k1.out W) <|
  .ins 20 (binK .eql 60 (.tmp 17) (.tmp 19) (qv x1.val y1.val false) (qv x1.val m.val false)) (.bool false) (fun W _ => zba (gT _ _ _ _ _ _ _ _ _ W) (eql_no (zbk _) (zbk _) (zbk _) (zbk _) k2.out W)) <|
  .call _ _ _ (fun W _ => fsub k3.out.1 W) <| .call _ _ _ (fun W _ => fsub k3.out.2 W) <|
  .ins 34 (binK .eql 60 (.tmp 32) (.tmp 33) (qv x1.val y1.val false) (qv x1.val y1.val false)) (.bool true) (fun W _ => zba (gT _ _ _ _ _ _ _ _ _ W) (eqT (zbk _) (zbk _) W)) <|
  .call _ _ _ (fun W _ => fmul k4.out.1 W) <| .call _ _ _ (fun W _ => fless k4.out.2.1 W) <| .call _ _ _ (fun W _ => fthree k4.out.2.2 W) <| .call _ _ _ (fun W _ => zce W) <| .call _ _ _ (fun W _ => fadd k5.out W) <|
  .call _ _ _ (fun W _ => zce W) <| .call _ _ _ (fun W _ => finv k6.out.1 k6.out.2 W) <| .call _ _ _ (fun W _ => fmul k7.out W) <| .call _ _ _ (fun W _ => fmul k8.out W) <| .call _ _ _ (fun W _ => fsub k9.out W) <|
  .call _ _ _ (fun W _ => fsub k10.out W) <| .call _ _ _ (fun W _ => fsub k11.out W) <| .call _ _ _ (fun W _ => fmul k12.out W) <| .call _ _ _ (fun W _ => fsub k13.out W) <| .ret _ fun _ h => ⟨rfl,h⟩) (by kernel_rfl)
end
end Go.Proofs.YtbfkecfcolcclaaGreatDoor
namespace Go.Proofs.YtbfkecfcolcclaaGreatDoor
structure Ky where
 i : Int
 x : Nat
 y : Nat
 f : Bool
 a : Int
 b : Int
def ky0 : Ky:=⟨0,0,0,false,0,0⟩
def okK (l : List Ky) (j : Nat) : Prop :=
 1 ≤ (l.getD j ky0).i ∧ (l.getD j ky0).i ≤ 2147483647 ∧ onB (l.getD j ky0).x (l.getD j ky0).y (l.getD j ky0).f = true ∧ (l.getD j ky0).f = false ∧ 0 ≤ (l.getD j ky0).a ∧ (l.getD j ky0).a ≤ (l.getD j ky0).b ∧ (l.getD j ky0).b ≤ 1073741824 ∧ (0 < j → (l.getD (j - 1) ky0).i < (l.getD j ky0).i)
instance (l : List Ky) (j : Nat) : Decidable (okK l j):=by unfold okK; exact inferInstance
def mayK (l : List Ky) : Bool:=decide (l.length ≤ 32 ∧ ∀ j,j < l.length → okK l j)
theorem mayK_false {l : List Ky} {j : Nat} (hj : j < l.length) (h : ¬ okK l j) : mayK l = false:=decide_eq_false fun hh => h (hh.2 j hj)
theorem mayK_len {l : List Ky} (h : ∀ j,j < l.length → okK l j) : mayK l = decide (l.length ≤ 32):=by
 unfold mayK
 by_cases hc : l.length ≤ 32
 ·
  rw [decide_eq_true hc,decide_eq_true ⟨hc,h⟩]
 ·
  rw [decide_eq_false hc,decide_eq_false fun hh => hc hh.1]
theorem mayK_ok {l : List Ky} (h : mayK l = true) {j : Nat} (hj : j < l.length) : okK l j:=(of_decide_eq_true h).2 j hj
theorem mayK_32 {l : List Ky} (h : mayK l = true) : l.length ≤ 32:=(of_decide_eq_true h).1
def cntK (k : Ky) (id at_ : Int) : Bool:=decide (k.i = id) && decide (k.a ≤ at_) && decide (at_ < k.b)
def findK (l : List Ky) (id at_ : Int) : Option Ky:=l.find? fun k => cntK k id at_
theorem zgd {l : List Ky} {id at_ : Int} (h : ∀ j,j < l.length → cntK (l.getD j ky0) id at_ = false) : findK l id at_ = none:=by
 unfold findK
 rw [List.find?_eq_none]
 intro k hk
 obtain ⟨j,hj,rfl⟩:=List.mem_iff_getElem.1 hk
 have:=h j hj
 rw [List.getD_eq_getElem?_getD,List.getElem?_eq_getElem hj] at this
 simpa using this
theorem findK_at {l : List Ky} {id at_ : Int} {j : Nat} (hj : j < l.length) (h : ∀ i,i < j → cntK (l.getD i ky0) id at_ = false) (hc : cntK (l.getD j ky0) id at_ = true) : findK l id at_ = some (l.getD j ky0):=by
 have e : l.getD j ky0 = l[j]:=by rw [List.getD_eq_getElem?_getD,List.getElem?_eq_getElem hj]; rfl
 rw [e] at hc ⊢
 unfold findK
 rw [List.find?_eq_some_iff_getElem]
 refine ⟨hc,j,hj,rfl,fun i hi => ?_⟩
 have:=h i hi
 rw [List.getD_eq_getElem?_getD,List.getElem?_eq_getElem (by omega)] at this
 simpa using this
/-! ### bytes -/
theorem mayK_each {l : List Ky} (h : mayK l = true) : ∀ k ∈ l,1 ≤ k.i ∧ k.i ≤ 2147483647 ∧ onB k.x k.y false = true ∧ k.f = false ∧ 0 ≤ k.a ∧ k.a ≤ k.b ∧ k.b ≤ 1073741824:=by
 intro k hk
 obtain ⟨j,hj,rfl⟩:=List.mem_iff_getElem.1 hk
 obtain ⟨h1,h2,h3,h4,h5,h6,h7,_⟩:=mayK_ok h hj
 have e : l.getD j ky0 = l[j]:=by rw [List.getD_eq_getElem?_getD,List.getElem?_eq_getElem hj]; rfl
 rw [e] at h1 h2 h3 h4 h5 h6 h7
 rw [h4] at h3
 exact ⟨h1,h2,h3,h4,h5,h6,h7⟩
end Go.Proofs.YtbfkecfcolcclaaGreatDoor
namespace Go.Proofs.YtbfkecfcolcclaaGreatDoor
open Go.RowKit
open Go.Value renaming int → vI
open Go.IntKind renaming u64 → vU
open Go.Act renaming put → aP
open List renaming setIfInBounds_toArray → lA, set_cons_zero → lZ, set_cons_succ → lS
def Own (w : World) (base e : Nat) (v : Value) (n : Nat) (f : Nat → Value) : Prop:=w.ownsRow base e 1 v n ((List.range n).map f)
section
variable {w w' : World} {base e n : Nat} {v : Value} {f h : Nat → Value}
theorem Own.congr (o : Own w base e v n f) (hf : ∀ i,i < n → f i = h i) : Own w base e v n h:=by
 unfold Own at *
 have : (List.range n).map f = (List.range n).map h:=List.map_congr_left fun i hi => hf i (by simpa using hi)
 rw [← this]; exact o
theorem Own.nil (w : World) (base e : Nat) (f : Nat → Value) : Own w base e (.slice none 0 0) 0 f:=World.ownsRow_nil _ _ _ _
theorem Own.made (w : World) {cs : Array Value} {base : Nat} (hb : base ≤ w.heap.size) (hm : cs.size ≤ maxLen) (hf : ∀ i,i < cs.size → cs[i]? = some (f i)) :
  Own (w.alloc (.cells cs e)) base e (.slice (some ⟨w.heap.size,0,none⟩) cs.size cs.size) cs.size f:=by
 refine ⟨by simp,.inr ⟨w.heap.size,cs.size,cs,rfl,hb,heap_alloc_new w _,Nat.le_refl _,hm,by simp,?_⟩⟩
 rw [Nat.mul_one,List.take_of_length_le (by simp)]
 apply List.ext_getElem?
 intro i
 by_cases hi : i < cs.size
 ·
  simp [hi]; have:=hf i hi; simpa [hi] using this
 ·
  simp [hi]
theorem Own.alloc (o : Own w base e v n f) (ob : Obj) : Own (w.alloc ob) base e v n f:=World.ownsRow.alloc o ob
theorem Own.drew (o : Own w base e v n f) : Own w.drew base e v n f:=o
theorem Own.drewN (o : Own w base e v n f) (k : Nat) : Own (w.drewN k) base e v n f:=o
theorem Own.lt (o : Own w base e v n f) {k : Nat} (hk : v.ownBlock = some k) : base ≤ k ∧ k < w.heap.size:=World.ownsRow.lt o k hk
theorem Own.kept {row : Option Nat} (o : Own w base e v n f) (hg : w.grownBy w' row) (hne : v.ownBlock = none ∨ v.ownBlock ≠ row) : Own w' base e v n f:=World.ownsRow.kept o hg hne
theorem Own.below {B : Nat} (o : Own w base e v n f) (hb : Below B w w') (hB : w.heap.size ≤ B) : Own w' base e v n f:=by
 refine ⟨o.1,?_⟩
 rcases o.2 with hn | ⟨g,cap,cur,rfl,hbg,hh,rest⟩
 ·
  exact .inl hn
 ·
  exact .inr ⟨g,cap,cur,rfl,hbg,(hb.block g (by have:=(Array.getElem?_eq_some_iff.1 hh).1; omega)).trans hh,rest⟩
theorem Own.pre (o : Own w base e v n f) (hn : 0 < n) : ∃ g cap,v = .slice (some ⟨g,0,none⟩) n cap ∧ n ≤ cap ∧ base ≤ g ∧ Pre w g e n f:=Pre.of_own o hn
end
def From (w : World) (A : Option Addr) (m : Nat) (y : Nat → Value) : Prop:=m = 0 ∨ ∃ ad,A = some ad ∧ ∀ j,j < m → w.cell? (ad.add j) = some (y j)
theorem zif {P : Program} (w : World) (base t ty e : Nat) (i : TypeInfo) (z : Value) (bytes : Nat) (ht : P.underlying t = some (.slice e)) (hi : P.info? e = some i) (hz : i.zero = some z) (hsize : i.size = 1) (hby : i.bytes = bytes) (hzs : z.cells.size = 1)
  (v : Value) (n : Nat) (f : Nat → Value) (hown : Own w base e v n f) (A : Option Addr) (m c : Nat) (y : Nat → Value) (hs : From w A m y) (h1 : ∀ j,(y j).oneCell' = true)
  (h63 : n + m ≤ maxLen) (hbytes : (n + m) * bytes ≤ 140737488355328) (hbase : base ≤ w.heap.size) :
  ∃ v' w',(Builtin.append_ #[t,t] ty #[v,.slice A m c]).run P w = .ok v' w' ∧ Own w' base e v' (n + m) (fun j => if j < n then f j else y (j - n)) ∧ w.grownBy w' v.ownBlock ∧ (v'.ownBlock = v.ownBlock ∨ v'.ownBlock = some w.heap.size) ∧ (∀ g,v.ownBlock = some g → ∀ j,j < n → w'.cell? ⟨g,j,none⟩ = w.cell? ⟨g,j,none⟩):=by
 have hl : (List.range n).map f ++ (List.range m).map y = (List.range (n + m)).map (fun j => if j < n then f j else y (j - n)):=by
  apply List.ext_getElem?
  intro k
  by_cases h1 : k < n
  ·
   rw [List.getElem?_append_left (by simpa using h1)]; simp [h1,show k < n + m by omega]
  ·
   rw [List.getElem?_append_right (by simpa using Nat.le_of_not_lt h1)]
   by_cases h2 : k < n + m
   ·
    simp [h1,h2,show k - n < m by omega]
   ·
    simp [h2,show ¬ k - n < m by omega]
 rcases A with _ | ad
 ·
  have hm : m = 0:=by
   rcases hs with h | ⟨ad,h,_⟩
   ·
    exact h
   ·
    cases h
  subst hm
  refine ⟨v,w,?_,hown.congr fun j hj => (if_pos hj).symm,World.grownBy.refl w _,.inl rfl,fun _ _ _ _ => rfl⟩
  rcases hown.2 with ⟨rfl,rfl⟩ | ⟨g,cap,cur,rfl,_,_,hnc,_⟩
  ·
   simp [Builtin.append_,run_underlying ht,sizeOf,typeInfo,hi,Builtin.lenOf,Builtin.firstCells]
  ·
   simp [Builtin.append_,run_underlying ht,sizeOf,typeInfo,hi,Builtin.lenOf,Builtin.firstCells,hnc,storeCells]
 ·
  have hc : ∀ j,j < m → w.cell? (ad.add j) = some (y j):=by
   rcases hs with h | ⟨ad',h,hc⟩
   ·
    intro j hj; omega
   ·
    cases h; exact hc
  obtain ⟨v',w',hr,h2,h3,_,h5⟩:=run_append_own_at (P:=P) w base t ty e i z 1 bytes ht hi hz hsize hby hzs (by omega) v n _ hown ad m c ((List.range m).map y) (by simp) (fun j u hu => by
   have hj : j < m:=by have:=(List.getElem?_eq_some_iff.1 hu).1; simpa using this
   rw [hc j hj,← hu]; simp [hj]) (fun u hu => by simp at hu; obtain ⟨j,_,rfl⟩:=hu; exact h1 j) h63 hbytes hbase
  rw [hl] at h2
  refine ⟨v',w',hr,h2,h3,h5,fun g hg j hj => ?_⟩
  have cellAt : ∀ (b k : Nat),(⟨b,0,none⟩ : Addr).add k = ⟨b,k,none⟩:=fun b k => by rw [Addr.add_mid,Nat.zero_add]
  rcases hown.2 with ⟨rfl,_⟩ | ⟨g',cap,cur,rfl,hbg,hgc,hnc,hcm,hcs,htake⟩
  ·
   simp [Value.ownBlock] at hg
  ·
   obtain rfl : g' = g:=by simpa [Value.ownBlock] using hg
   have hold : w.cell? ⟨g',j,none⟩ = some (f j):=by
    rw [← cellAt g' j]
    exact hown.cells (g:=g') rfl j _ (by simp [hj])
   by_cases hroom : n + m ≤ cap
   ·
    have hr2:=run_append_room (P:=P) w t ty e i ht hi g' n cap cur hgc ad m c ((List.range m).map y) (by simp [hsize]) (fun j u hu => by
     have hj : j < m:=by have:=(List.getElem?_eq_some_iff.1 hu).1; simpa using this
     rw [hc j hj,← hu]; simp [hj]) (fun u hu => by simp at hu; obtain ⟨j,_,rfl⟩:=hu; exact h1 j) hroom (by rw [hsize]; simp; omega)
    rw [hr] at hr2
    injection hr2 with hv _
    rw [hold]
    rw [← cellAt g' j]
    rw [World.ownsRow.cells (g:=g') h2 (by rw [hv]; rfl) j (f j) (by simp [hj,show j < n + m by omega])]
   ·
    have hr2:=run_append_grow (P:=P) w t ty e i z ht hi hz ⟨g',0,none⟩ n cap ((List.range n).map f) (by simp [hsize]) (fun j u hu => hown.cells (g:=g') rfl j u hu) ad m c ((List.range m).map y) (by simp [hsize]) (fun j u hu => by
     have hj : j < m:=by have:=(List.getElem?_eq_some_iff.1 hu).1; simpa using this
     rw [hc j hj,← hu]; simp [hj]) (by omega) (by simp only [maxLen] at h63; omega) (growslice_fits (by omega) (by rw [hby]; exact hbytes))
    rw [hr] at hr2
    injection hr2 with _ hw
    rw [hw]
    exact World.cell?_of_block (w:=w) (a:=⟨g',j,none⟩) (Below.heap_alloc w.drew _ g' (Array.getElem?_eq_some_iff.1 hgc).1)
theorem zap {P : Program} (w : World) {ops : Array Oper} {rest : List Oper} {o : Oper} {a : Act} {Q : Exit → Act → World → Prop} (hgd : o.guard = none) (s x : Operand) (t : TypeId)
  (ho : o.op = .call { callee:=.builtin .append,args:=#[s,x],argTypes:=#[t,t] })
  (base e : Nat) (i : TypeInfo) (z : Value) (bytes : Nat) (ht : P.underlying t = some (.slice e)) (hi : P.info? e = some i) (hz : i.zero = some z) (hsize : i.size = 1) (hby : i.bytes = bytes) (hzs : z.cells.size = 1)
  (v : Value) (n : Nat) (f : Nat → Value) (hs : a.eval s = v) (hown : Own w base e v n f) (A : Option Addr) (m c : Nat) (hx : a.eval x = .slice A m c) (y : Nat → Value) (hsr : From w A m y) (h1 : ∀ j,(y j).oneCell' = true)
  (h63 : n + m ≤ maxLen) (hbytes : (n + m) * bytes ≤ 140737488355328) (hbase : base ≤ w.heap.size)
  (h : ∀ v' w',Own w' base e v' (n + m) (fun j => if j < n then f j else y (j - n)) → w.grownBy w' v.ownBlock → (v'.ownBlock = v.ownBlock ∨ v'.ownBlock = some w.heap.size) → wpList P ops Q rest (a.put o.dst v') w') : wpList P ops Q (o :: rest) a w:=by
 refine wpList_plain hgd fun K hK => ?_
 obtain ⟨v',w',hr,h2,h3,h5,_⟩:=zif (P:=P) w base t o.type e i z bytes ht hi hz hsize hby hzs v n f hown A m c y hsr h1 h63 hbytes hbase
 unfold Oper.wp execOp
 simp only [ho,resolve,invoke,builtin,Sem.run_bind,Sem.run_pure,Result.andThen_ok,List.map_toArray,List.map_cons,List.map_nil,hs,hx,hr]
 exact hK _ _ (h v' w' h2 h3 h5)
theorem zff {P : Program} (w : World) {ops : Array Oper} {o : Oper} {a : Act} {K : Act → World → Prop} {Q : Exit → Act → World → Prop} {E : Prop} (hgd : o.guard = none) (s x : Operand) (t : TypeId)
  (ho : o.op = .call { callee:=.builtin .append,args:=#[s,x],argTypes:=#[t,t] })
  (base e : Nat) (i : TypeInfo) (z : Value) (bytes : Nat) (ht : P.underlying t = some (.slice e)) (hi : P.info? e = some i) (hz : i.zero = some z) (hsize : i.size = 1) (hby : i.bytes = bytes) (hzs : z.cells.size = 1)
  (v : Value) (n : Nat) (f : Nat → Value) (hs : a.eval s = v) (hown : Own w base e v n f) (A : Option Addr) (m c : Nat) (hx : a.eval x = .slice A m c) (y : Nat → Value) (hsr : From w A m y) (h1 : ∀ j,(y j).oneCell' = true)
  (h63 : n + m ≤ maxLen) (hbytes : (n + m) * bytes ≤ 140737488355328) (hbase : base ≤ w.heap.size)
  (h : ∀ v' w',Own w' base e v' (n + m) (fun j => if j < n then f j else y (j - n)) → w.grownBy w' v.ownBlock → (v'.ownBlock = v.ownBlock ∨ v'.ownBlock = some w.heap.size) → (∀ g,v.ownBlock = some g → ∀ j,j < n → w'.cell? ⟨g,j,none⟩ = w.cell? ⟨g,j,none⟩) → K (a.put o.dst v') w') :
  if Region.wanted o (yielded ops a.tmps) = true then Oper.wp P o a w K Q else E:=by
 have hw : Region.wanted o (yielded ops a.tmps) = true:=by simp [Region.wanted,hgd]
 rw [if_pos hw]
 obtain ⟨v',w',hr,h2,h3,h5,h6⟩:=zif (P:=P) w base t o.type e i z bytes ht hi hz hsize hby hzs v n f hown A m c y hsr h1 h63 hbytes hbase
 unfold Oper.wp execOp
 simp only [ho,resolve,invoke,builtin,Sem.run_bind,Sem.run_pure,Result.andThen_ok,List.map_toArray,List.map_cons,List.map_nil,hs,hx,hr]
 exact h v' w' h2 h3 h5 h6
theorem zgx (w : World) (x : Value) (t : Nat) : From (w.alloc (.cells #[x] t)) (some ⟨w.heap.size,0,none⟩) 1 (fun _ => x) :=
 .inr ⟨_,rfl,fun j hj => by
  obtain rfl : j = 0:=by omega
  rw [Addr.add_mid,World.cell?_alloc_mark]; rfl⟩
def cutA (A : Option Addr) (m c : Nat) : Option Addr:=if c = m then A else A.map (·.add (m * 1))
theorem cut_from (A : Option Addr) (r c m : Nat) (hm : m ≤ r) (w : World) : (Instr.sliceAt 30 (.slice A r c) (some (.int .i64 (m : Int))) none none).run Tryz.prog w = .ok (.slice (cutA A m c) (r - m) (c - m)) w:=by
 have e2 : ((sizeOf (Tryz.prog.elem 30)).run Tryz.prog w) = .ok 1 w:=by kernel_rfl
 rw [run_sliceAt_slice w 30 _ _ _ _ (by kernel_rfl),run_slice_l w 30 A r c (by kernel_rfl) .i64 (m : Int) (by omega) (by omega),e2]
 simp [sliced,Result.andThen,cutA]
theorem cut_to (A : Option Addr) (r c m : Nat) (hm : m ≤ c) (w : World) : (Instr.sliceAt 30 (.slice A r c) none (some (.int .i64 (m : Int))) none).run Tryz.prog w = .ok (.slice (cutA A 0 c) m c) w:=by
 have e2 : ((sizeOf (Tryz.prog.elem 30)).run Tryz.prog w) = .ok 1 w:=by kernel_rfl
 rw [run_sliceAt_slice w 30 _ _ _ _ (by kernel_rfl),run_slice_h w 30 A r c (by kernel_rfl) .i64 (m : Int) (by omega) (by omega),e2]
 simp [sliced,Result.andThen,cutA]
theorem Ext.drewK (w : World) (k : Nat) : Ext w (w.drewN k):=⟨rfl,rfl,rfl,Nat.le_refl _,fun _ _ => rfl⟩
theorem Ext.cell {w w' : World} (h : Ext w w') {b o : Nat} (hb : b < w.heap.size) : w'.cell? ⟨b,o,none⟩ = w.cell? ⟨b,o,none⟩:=Below.cell h (p:=⟨b,o,none⟩) hb
/-! ### bytes -/
def Bs (w : World) (A : Option Addr) (bs : List Nat) : Prop:=Byt bs ∧ (bs.length = 0 ∨ ∃ b o,A = some ⟨b,o,none⟩ ∧ b < w.heap.size ∧ ∀ j,j < bs.length → w.cell? ⟨b,o + j,none⟩ = some (.int .u8 (bs.getD j 0 : Nat)))
theorem Bs.ext {w w' : World} {A : Option Addr} {bs : List Nat} (h : Bs w A bs) (k : Ext w w') : Bs w' A bs :=
 ⟨h.1,h.2.imp id fun ⟨b,o,e,hb,hc⟩ => ⟨b,o,e,Nat.lt_of_lt_of_le hb k.size,fun j hj => (k.cell hb).trans (hc j hj)⟩⟩
theorem Bs.cell {w : World} {A : Option Addr} {bs : List Nat} (h : Bs w A bs) {j : Nat} (hj : j < bs.length) : ∃ b o,A = some ⟨b,o,none⟩ ∧ b < w.heap.size ∧ w.cell? ⟨b,o + j,none⟩ = some (.int .u8 (bs.getD j 0 : Nat)):=by
 rcases h.2 with h | ⟨b,o,e,hb,hc⟩
 ·
  omega
 ·
  exact ⟨b,o,e,hb,hc j hj⟩
theorem Bs.from {w : World} {A : Option Addr} {bs : List Nat} (h : Bs w A bs) : From w A bs.length (fun j => .int .u8 (bs.getD j 0 : Nat)) :=
 h.2.imp id fun ⟨b,o,e,_,hc⟩ => ⟨_,e,fun j hj => by rw [Addr.add_mid]; exact hc j hj⟩
theorem Bs.nil (w : World) (A : Option Addr) : Bs w A []:=⟨(fun _ h => by cases h),.inl rfl⟩
theorem Bs.cut {w : World} {A : Option Addr} {bs : List Nat} {c : Nat} (h : Bs w A bs) (m : Nat) {n : Nat} (hm : m + n ≤ bs.length) (hc : bs.length ≤ c) : Bs w (cutA A m c) ((bs.drop m).take n):=by
 refine ⟨(h.1.drop m).take n,?_⟩
 have hl : ((bs.drop m).take n).length = n:=by rw [List.length_take,List.length_drop]; omega
 by_cases h0 : n = 0
 ·
  exact .inl (by rw [hl]; exact h0)
 ·
  right
  rcases h.2 with h | ⟨b,o,rfl,hb,hcl⟩
  ·
   omega
  ·
   refine ⟨b,o + m,by unfold cutA; rw [if_neg (by omega)]; simp [Addr.add_mid],hb,fun j hj => ?_⟩
   rw [Nat.add_assoc,hcl (m + j) (by omega)]
   congr 3
   simp only [List.getD_eq_getElem?_getD,List.getElem?_take_of_lt (show j < n by omega),List.getElem?_drop]
def OwnB (w : World) (base : Nat) (v : Value) (bs : List Nat) : Prop:=Byt bs ∧ Own w base 5 v bs.length (fun j => .int .u8 (bs.getD j 0 : Nat))
theorem OwnB.bs {w : World} {base : Nat} {v : Value} {bs : List Nat} (o : OwnB w base v bs) : ∃ A c,v = .slice A bs.length c ∧ bs.length ≤ c ∧ Bs w A bs:=by
 obtain ⟨hB,o⟩:=o
 by_cases h : bs.length = 0
 ·
  rcases o.2 with ⟨rfl,h0⟩ | ⟨b,cap,cur,rfl,_,_,hnc,_⟩
  ·
   exact ⟨none,0,by rw [h],by omega,hB,.inl h⟩
  ·
   exact ⟨_,cap,rfl,hnc,hB,.inl h⟩
 ·
  obtain ⟨b,cap,rfl,hnc,_,hp⟩:=o.pre (by omega)
  exact ⟨_,cap,rfl,hnc,hB,.inr ⟨b,0,rfl,hp.lt,fun j hj => by rw [Nat.zero_add]; exact hp.cell hj⟩⟩
theorem OwnB.nil (w : World) (base : Nat) : OwnB w base (.slice none 0 0) []:=⟨(fun _ h => by cases h),Own.nil _ _ _ _⟩
theorem OwnB.ext {w w' : World} {base : Nat} {v : Value} {bs : List Nat} (o : OwnB w base v bs) (h : Ext w w') : OwnB w' base v bs:=⟨o.1,o.2.below h (Nat.le_refl _)⟩
theorem OwnB.of {w : World} {base n : Nat} {v : Value} {f : Nat → Value} {bs : List Nat} (o : Own w base 5 v n f) (hb : Byt bs) (hn : n = bs.length) (h : ∀ j,j < bs.length → f j = .int .u8 (bs.getD j 0 : Nat)) : OwnB w base v bs:=by
 subst hn
 exact ⟨hb,o.congr h⟩
theorem OwnB.append {w : World} {base n m : Nat} {v : Value} {bs cs : List Nat} (o : Own w base 5 v (n + m) (fun j => if j < n then .int .u8 (bs.getD j 0 : Nat) else .int .u8 (cs.getD (j - n) 0 : Nat))) (hb : Byt bs) (hc : Byt cs) (hn : n = bs.length) (hm : m = cs.length) : OwnB w base v (bs ++ cs):=by
 subst hn hm
 refine OwnB.of o (hb.append hc) (by simp) fun j hj => ?_
 simp only [List.getD_eq_getElem?_getD]
 by_cases h : j < bs.length
 ·
  rw [if_pos h,List.getElem?_append_left h]
 ·
  rw [if_neg h,List.getElem?_append_right (by omega)]
/-! ### texts -/
/-! ### fields in memory -/
def Fl (w : World) (v : Value) (fs : List Fd) : Prop:=BytF fs ∧ ∃ AL c,v = .slice AL fs.length c ∧ fs.length ≤ c ∧ (fs.length = 0 ∨ ∃ b o,AL = some ⟨b,o,none⟩ ∧ b < w.heap.size ∧
 ∀ i,i < fs.length → w.cell? ⟨b,o + i * 2,none⟩ = some (.int .i64 (tgF fs i)) ∧ ∃ A c',w.cell? ⟨b,o + i * 2 + 1,none⟩ = some (.slice A (bsF fs i).length c') ∧ (bsF fs i).length ≤ c' ∧ Bs w A (bsF fs i))
theorem Fl.ext {w w' : World} {v : Value} {fs : List Fd} (h : Fl w v fs) (k : Ext w w') : Fl w' v fs:=by
 obtain ⟨hB,AL,c,rfl,hc,h⟩:=h
 refine ⟨hB,AL,c,rfl,hc,h.imp id ?_⟩
 rintro ⟨b,o,e,hb,hx⟩
 refine ⟨b,o,e,Nat.lt_of_lt_of_le hb k.size,fun i hi => ?_⟩
 obtain ⟨h1,A,c',h2,h3,h4⟩:=hx i hi
 exact ⟨(k.cell hb).trans h1,A,c',(k.cell hb).trans h2,h3,h4.ext k⟩
theorem Fl.nil (w : World) : Fl w (.slice none 0 0) []:=⟨fun _ h => (by cases h),none,0,rfl,Nat.le_refl _,.inl rfl⟩
theorem mayFs_false {fs : List Fd} {i : Nat} (hi : i < fs.length) (h : ¬ okF fs i) : mayFs fs = false:=decide_eq_false fun hh => h (hh.2 i hi)
theorem mayFs_len {fs : List Fd} (h : ∀ i,i < fs.length → okF fs i) : mayFs fs = decide (fs.length ≤ 64):=by
 unfold mayFs
 by_cases hc : fs.length ≤ 64
 ·
  rw [decide_eq_true hc,decide_eq_true ⟨hc,h⟩]
 ·
  rw [decide_eq_false hc,decide_eq_false fun hh => hc hh.1]
theorem rmay8_calls (v : Value) (fs : List Fd) (w : World) (hF : Fl w v fs) (hL : fs.length ≤ 1000000000) :
  Calls Tryz.prog 167 #[v] w fun e w' => e = .returned (.bool (mayFs fs)) ∧ Ext w w':=by
 obtain ⟨hB,AL,c,rfl,hc,hx⟩:=hF
 obtain ⟨R,hR⟩ : ∃ R,R = mayFs fs:=⟨_,rfl⟩
 rw [← hR]
 obtain ⟨n,hn⟩ : ∃ n,n = fs.length:=⟨_,rfl⟩
 rw [← hn] at hx hc ⊢
 have HR:=veil (And.intro hR (And.intro hn hL))
 have HX:=veil hx
 have hnL : n ≤ 1000000000:=by omega
 clear hR hx hB hn hL
 go_enter Tryz.func167,Tryz.ntmps167
 go_wp2
 go_loopw [3] (fun v wr => ∃ i : Nat,i ≤ n ∧ v = .int .i64 (i : Int) ∧ (∀ j,j < i → okF fs j) ∧ Ext w wr)
  (fun v _ => n - (intOf v).toNat)
 case atStart => exact ⟨0,by omega,rfl,fun j hj => by omega,Ext.refl _⟩
 case round =>
  obtain ⟨i,hi,rfl,hall,hE⟩:=hrel
  by_cases hlt : i < n
  ·
   have hd1 : decide ((i : Int) < (n : Int)) = true:=by simp; omega
   have hii : (i : Int) < (n : Int):=by omega
   obtain ⟨b,o,hAL,hb,hcl⟩:=HX.out.resolve_left (by omega)
   obtain ⟨h1,A,c',h2,_,_⟩:=hcl i hlt
   have c0:=(hE.cell hb).trans h1
   have c1:=(hE.cell hb).trans h2
   obtain ⟨T,hT⟩ : ∃ T,T = tgF fs i:=⟨_,rfl⟩
   obtain ⟨L,hL⟩ : ∃ L,L = (bsF fs i).length:=⟨_,rfl⟩
   rw [← hT] at c0
   rw [← hL] at c1
   have HT:=veil (And.intro hT hL)
   have HALL:=veil hall
   have hfalse : ∀ h : ¬ okF fs i,R = false:=fun h => HR.out.1.trans (mayFs_false (by have:=HR.out.2.1; omega) h)
   have HF:=veil hfalse
   subst hAL
   clear h1 h2 hT hL hall hfalse
   by_cases g1 : T < 1
   ·
    have e : R = false:=HF.out fun h => by have:=h.1; rw [← HT.out.1] at this; omega
    subst e
    have hd : decide (T < 1) = true:=decide_eq_true g1
    clear hcl
    go_wp2_with fail
    go_quiet (fail)
    go_wp2
    go_ret
    exact ⟨rfl,hE.trans (Ext.drewK _ _)⟩
   ·
    have hd2 : decide (T < 1) = false:=decide_eq_false g1
    by_cases g2 : 255 < T
    ·
     have e : R = false:=HF.out fun h => by have:=h.2.1; rw [← HT.out.1] at this; omega
     subst e
     have hd : decide (255 < T) = true:=decide_eq_true g2
     clear hcl
     go_wp2_with fail
     go_quiet (fail)
     go_wp2
     go_ret
     exact ⟨rfl,hE.trans (Ext.drewK _ _)⟩
    ·
     have hd3 : decide (255 < T) = false:=decide_eq_false g2
     by_cases g3 : (65535 : Int) < (L : Int)
     ·
      have e : R = false:=HF.out fun h => by have:=h.2.2.1; rw [← HT.out.2] at this; omega
      subst e
      have hd : decide ((65535 : Int) < (L : Int)) = true:=decide_eq_true g3
      clear hcl
      go_wp2_with fail
      go_quiet (fail)
      go_wp2
      go_ret
      exact ⟨rfl,hE.trans (Ext.drewK _ _)⟩
     ·
      have hd4 : decide ((65535 : Int) < (L : Int)) = false:=decide_eq_false g3
      by_cases g4 : i = 0
      ·
       have hd5 : decide (0 < i) = false:=by simp; omega
       have G4:=veil g4
       clear hcl g4
       go_wp2_with fail
       go_quiet (fail)
       go_wp2
       go_roundw
       case rel =>
        refine ⟨i + 1,by omega,by go_num,fun j hj => ?_,hE.trans (Ext.drewK _ _)⟩
        obtain rfl : j = i:=by have:=G4.out; omega
        exact ⟨by rw [← HT.out.1]; omega,by rw [← HT.out.1]; omega,by rw [← HT.out.2]; omega,fun h => absurd h (by have:=G4.out; omega)⟩
       case measure => simp [intOf]; omega
      ·
       have hd5 : decide (0 < i) = true:=by simp; omega
       obtain ⟨k,hk⟩ : ∃ k,k = i - 1:=⟨_,rfl⟩
       have hki : (i : Int) - 1 = (k : Int):=by omega
       have hkn : (k : Int) < (n : Int):=by omega
       have d0:=(hE.cell hb).trans (hcl k (by omega)).1
       obtain ⟨P,hP⟩ : ∃ P,P = tgF fs k:=⟨_,rfl⟩
       rw [← hP] at d0
       have HP:=veil (And.intro hP hk)
       clear hcl hP hk
       by_cases g5 : T ≤ P
       ·
        have e : R = false:=HF.out fun h => by have:=h.2.2.2 (by omega); rw [← HT.out.1,← HP.out.2,← HP.out.1] at this; omega
        subst e
        have hd : decide (T ≤ P) = true:=decide_eq_true g5
        go_wp2_with fail
        go_quiet (fail)
        go_wp2
        go_ret
        exact ⟨rfl,hE.trans (Ext.drewK _ _)⟩
       ·
        have hd : decide (T ≤ P) = false:=decide_eq_false g5
        go_wp2_with fail
        go_quiet (fail)
        go_wp2
        go_roundw
        case rel =>
         refine ⟨i + 1,by omega,by go_num,fun j hj => ?_,hE.trans (Ext.drewK _ _)⟩
         by_cases e : j = i
         ·
          subst e
          refine ⟨by rw [← HT.out.1]; omega,by rw [← HT.out.1]; omega,by rw [← HT.out.2]; omega,fun _ => ?_⟩
          rw [← HT.out.1,← HP.out.2,← HP.out.1]
          omega
         ·
          exact HALL.out j (by omega)
        case measure => simp [intOf]; omega
  ·
   obtain rfl : i = n:=by omega
   have e : R = decide ((i : Int) ≤ 64):=by
    rw [HR.out.1,mayFs_len (by rw [← HR.out.2.1]; exact hall),← HR.out.2.1]
    by_cases h : i ≤ 64
    ·
     rw [decide_eq_true h,decide_eq_true (by omega)]
    ·
     rw [decide_eq_false h,decide_eq_false (by omega)]
   have HE:=veil e
   clear hall e
   go_wp2
   go_ret
   exact ⟨by rw [HE.out]; rfl,hE⟩
structure Gw (D : World → Prop) where
 val : World
 property : D val
abbrev Sub (D : World → Prop) : World → Prop:=fun W => ∃ x : Gw D,W = x.val
section
variable {P : Program} {ops : Array Oper} {Q : Exit → Act → World → Prop} {md : Region.Mode}
/-! ### the quiet walk in every class of grown worlds is a walk of made values -/
def dstsB : List Oper → List Nat
 | [] => []
 | o :: r => (match o.dst with | some d => [d] | none => []) ++ dstsB r
def ownB (size : Nat) : List Oper → Bool
 | [] => true
 | o :: r => (match o.dst with | some d => decide (d < size) && !(dstsB r).contains d | none => false) && ownB size r
theorem put_tmps (a : Act) (d : Nat) (v : Value) : (a.put (some d) v).tmps = a.tmps.setIfInBounds d v:=rfl
theorem zgk {C : World → Prop} {A : Act} : ∀ {l : List Oper} {a : Act} {d : Nat},d ∉ dstsB l → wpQuiet P ops C (fun a' => a' = A) l a → A.tmps[d]? = a.tmps[d]?
 | [],a,d,_,h => by
  have h' : a = A:=h
  rw [h']
 | o :: r,a,d,hd,h => by
  have hr : d ∉ dstsB r:=fun hh => hd (by unfold dstsB; exact List.mem_append_right _ hh)
  have hne : ∀ v,(a.put o.dst v).tmps[d]? = a.tmps[d]?:=fun v => by
   cases ho : o.dst with
   | none => rfl
   | some e =>
    have : e ≠ d:=fun hh => hd (by unfold dstsB; rw [ho]; simp [hh])
    rw [put_tmps,Array.getElem?_setIfInBounds_ne this]
  unfold wpQuiet at h
  split at h
  ·
   obtain ⟨v,_,hK⟩:=h
   rw [zgk hr hK,hne]
  ·
   rw [zgk hr h,hne]
theorem made_of_quiet {o : Oper} {v : Value} {a : Act} {w : World} (h : ∀ W,Ext w W → o.quietAt P a (Sub (Ext W)) W v) : Made P o v a w:=fun W hW => by
 have h1:=h W hW
 unfold Oper.quietAt at h1
 generalize (execOp a.eval o).run P W = r at *
 cases r with
 | ok n w' =>
  cases n <;> simp only [Oper.quietUpon] at h1 <;> simp only [madeUpon]
  case value u => obtain ⟨rfl,rfl⟩:=h1; exact ⟨rfl,Ext.refl _⟩
  case skip => obtain ⟨rfl,rfl⟩:=h1; exact ⟨rfl,Ext.refl _⟩
  case enter f args =>
   obtain ⟨rfl,hc⟩:=h1
   exact hc.mono fun e w'' ⟨he,x,hx⟩ => ⟨he,by rw [hx]; exact x.property⟩
 | halt x w' => simp only [Oper.quietUpon] at h1
structure Up (w : World) (D : World → Prop) : Prop where
 ne : Nonempty (Gw D)
 grown : ∀ W,D W → Ext w W
 up : ∀ W W',D W → Ext W W' → D W'
theorem Up.ext {w : World} (W : World) (h : Ext w W) : Up w (Ext W):=⟨⟨⟨W,Ext.refl W⟩⟩,fun _ k => h.trans k,fun _ _ k k' => k.trans k'⟩
theorem Up.cell {w : World} {D : World → Prop} (h : Up w D) {b o : Nat} {v : Value} (hc : w.cell? ⟨b,o,none⟩ = some v) : ∀ x : Gw D,x.val.cell? ⟨b,o,none⟩ = some v:=fun x => by
 have hb : b < w.heap.size:=World.block_lt_of_cell? w ⟨b,o,none⟩ hc
 exact (Below.cell (h.grown _ x.property) (p:=⟨b,o,none⟩) hb).trans hc
theorem zgt {w : World} {A : Act} : ∀ {l : List Oper} {a : Act},ownB a.tmps.size l = true → (∀ D,Up w D → wpQuiet P ops (Sub D) (fun a' => a' = A) l a) → wpMk P ops w (fun a' => a' = A) l a
 | [],a,_,h => h (Ext w) (Up.ext w (Ext.refl w))
 | o :: r,a,hB,h => by
  unfold ownB at hB
  cases ho : o.dst with
  | none => rw [ho] at hB; simp at hB
  | some d =>
   rw [ho] at hB
   simp only [Bool.and_eq_true,decide_eq_true_eq,Bool.not_eq_true'] at hB
   obtain ⟨⟨hd,hnot⟩,hr⟩:=hB
   have hnot' : d ∉ dstsB r:=fun hh => by
    have : (dstsB r).contains d = true:=by simpa using hh
    rw [hnot] at this; cases this
   have hsz : ∀ v,(a.put o.dst v).tmps.size = a.tmps.size:=fun v => by rw [ho,put_tmps]; simp
   by_cases hw : Region.wanted o (yielded ops a.tmps) = true
   ·
    have each : ∀ D,Up w D → (∀ W,Sub D W → o.quietAt P a (Sub D) W (A.tmps.getD d undef)) ∧ wpQuiet P ops (Sub D) (fun a' => a' = A) r (a.put o.dst (A.tmps.getD d undef)):=fun D hD => by
     have h1:=h D hD
     unfold wpQuiet at h1
     rw [if_pos hw] at h1
     obtain ⟨v,h2,h3⟩:=h1
     have h4:=zgk hnot' h3
     rw [ho,put_tmps,Array.getElem?_setIfInBounds_self_of_lt hd] at h4
     have hv : A.tmps.getD d undef = v:=by simp [h4]
     rw [hv]
     exact ⟨h2,h3⟩
    refine ⟨A.tmps.getD d undef,.inl ⟨hw,made_of_quiet fun W hW => ?_⟩,zgt (by rw [hsz]; exact hr) fun D hD => (each D hD).2⟩
    exact (each (Ext W) (Up.ext W hW)).1 W ⟨⟨W,Ext.refl W⟩,rfl⟩
   ·
    have hw' : Region.wanted o (yielded ops a.tmps) = false:=by simpa using hw
    refine ⟨undef,.inr ⟨hw',rfl⟩,zgt (by rw [hsz]; exact hr) fun D hD => ?_⟩
    have h1:=h D hD
    unfold wpQuiet at h1
    rwa [if_neg hw] at h1
theorem zch {o : Oper} {a : Act} {D : World → Prop} {K : Act → Prop} (v : Value) (h : ∀ x : Gw D,(execOp a.eval o).run P x.val = .ok (.value v) x.val) (hK : K (a.put o.dst v)) : o.quiet P a (fun W => ∃ x : Gw D,W = x.val) K :=
 ⟨v,fun W hW => by
  obtain ⟨x,rfl⟩:=hW
  unfold Oper.quietAt
  rw [h x]
  exact ⟨rfl,rfl⟩,hK⟩
theorem run_slice_v {o : Oper} {a : Act} {t : TypeId} {x y z : Operand} {v v' vy vz : Value} {W : World} (ho : o.op = .slice t x (some y) (some z) none) (hx : a.eval x = v) (hy : a.eval y = vy) (hz : a.eval z = vz)
  (h : (Instr.sliceAt t v (some vy) (some vz) none).run P W = .ok v' W) : (execOp a.eval o).run P W = .ok (.value v') W:=by
 unfold execOp
 simp only [ho,hx,hy,hz,Option.map_some,Option.map_none,Sem.run_bind,h,Result.andThen_ok,Sem.run_pure]
/-! ### schedules -/
def lateS (md : Region.Mode) (ops : Array Oper) (n : Nat) : Bool :=
 decide (ops.size ≤ n) || (((List.range n).all fun i => (List.range (n + 1)).any fun j => decide (i < j) && Region.waitsFor md ops j i) && (List.range ops.size).all fun t => decide (t ≤ n) || Region.waitsFor md ops t n)
theorem lateS_one {n : Nat} {listed : Array Bool} (hB : ((List.range n).all fun i => (List.range (n + 1)).any fun j => decide (i < j) && Region.waitsFor md ops j i) = true) (inv : Closed md ops listed) :
  ∀ (d i : Nat),n - i = d → i < n → listed.getD i false = false → listed.getD n false = false ∧ n ∉ Region.ready md ops listed:=by
 intro d
 induction d using Nat.strongRecOn with
 | _ d ih =>
  intro i hd hi hun
  have h1:=List.all_eq_true.1 hB i (List.mem_range.2 hi)
  obtain ⟨j,hj,hj2⟩:=List.any_eq_true.1 h1
  simp only [Bool.and_eq_true,decide_eq_true_eq] at hj2
  have hjn:=List.mem_range.1 hj
  obtain ⟨oj,hoj,e,he,hb,hon⟩:=Region.waitsFor_spec hj2.2
  have hlj : listed.getD j false = false:=by
   cases h2 : listed.getD j false with
   | false => rfl
   | true =>
    have h3:=inv.2 j oj hoj h2 e he hb
    rw [hon,hun] at h3
    cases h3
  by_cases hl : j = n
  ·
   subst hl
   refine ⟨hlj,fun hr => ?_⟩
   obtain ⟨_,oj',hoj',hall⟩:=mem_ready.1 hr
   have : oj = oj':=Option.some.inj (hoj.symm.trans hoj')
   subst this
   have h3:=hall e he hb
   rw [hon,hun] at h3
   cases h3
  ·
   exact ih (n - j) (by omega) j rfl (by omega) hlj
theorem lateS_spec {n i : Nat} {listed : Array Bool} (hB : lateS md ops n = true) (inv : Closed md ops listed) (hi : i < n) (hun : listed.getD i false = false)
  {t : Nat} (ht : t ∈ Region.ready md ops listed) : t < n:=by
 obtain ⟨_,ot,hot,hall⟩:=mem_ready.1 ht
 have htl : t < ops.size:=(Array.getElem?_eq_some_iff.1 hot).1
 unfold lateS at hB
 simp only [Bool.or_eq_true,decide_eq_true_eq,Bool.and_eq_true] at hB
 rcases hB with hB | ⟨hB1,hB2⟩
 ·
  omega
 ·
  obtain ⟨hn1,hn2⟩:=lateS_one hB1 inv _ i rfl hi hun
  have h1:=List.all_eq_true.1 hB2 t (List.mem_range.2 htl)
  simp only [Bool.or_eq_true,decide_eq_true_eq] at h1
  rcases h1 with h1 | h1
  ·
   have : t ≠ n:=fun e => hn2 (e ▸ ht)
   omega
  ·
   obtain ⟨o',ho',e,he,hb,hon⟩:=Region.waitsFor_spec h1
   have : o' = ot:=Option.some.inj (ho'.symm.trans hot)
   subst this
   have h2:=hall e he hb
   rw [hon,hn1] at h2
   cases h2
theorem S_first {i n : Nat} {oi : Oper} {v : Value} (hi : ops[i]? = some oi) (hsel : ∀ (j : Nat) (o : Oper) cs b,ops[j]? = some o → o.op ≠ .select cs b)
  (hQ : ∀ c a w,Q (.panic c) (a.put oi.dst v) w → Q (.panic c) a w) (hB : lateS md ops n = true) (him : i < n) :
  ∀ (fuel : Nat) (listed : Array Bool) (a : Act) (w : World),Closed md ops listed →
   (∀ j oj,ops[j]? = some oj → j ≠ i → listed.getD j true = false → (∀ e ∈ oj.after,Region.binds md e = true → e.on ≠ i) → oi.apart ops oj = true) →
   i ∈ Region.ready md ops listed → YieldsE P ops oi v a w →
   wpG P md ops Q n fuel (listed.setIfInBounds i true) (a.put oi.dst v) w → wpG P md ops Q n (fuel + 1) listed a w:=by
 intro fuel
 induction fuel with
 | zero =>
  intro listed a w _ _ hr hy H
  refine ⟨fun h => (by rw [h] at hr; cases hr),fun j hj W hW => ?_⟩
  by_cases hji : j = i
  ·
   subst hji; exact hy.wpOp hi hW fun W' hW' => ⟨fun _ => hW',H.ext (hW.trans hW')⟩
  ·
   have:=ready_mono hj hji
   rw [H.1] at this
   cases this
 | succ fuel ih =>
  intro listed a w inv hfree hr hy H
  refine ⟨fun h => (by rw [h] at hr; cases hr),fun j hj W hW => ?_⟩
  by_cases hji : j = i
  ·
   subst hji; exact hy.wpOp hi hW fun W' hW' => ⟨fun _ => hW',H.ext (hW.trans hW')⟩
  ·
   have hun:=getD_both (mem_ready.1 hr).1
   have hjn : j < n:=lateS_spec hB inv him hun hj
   have h1:=H.2 j (ready_mono hj hji) W hW
   obtain ⟨hjun,oj,hoj,hall⟩:=mem_ready.1 hj
   have hnot : ∀ e ∈ oj.after,Region.binds md e = true → e.on ≠ i:=fun e he hb heq => by
    have h2:=hall e he hb
    rw [heq,hun] at h2
    cases h2
   have h2:=wpOp_putE hoj (hfree j oj hoj hji hjun hnot) (fun cs b => hsel i oi cs b hi) (fun cs b => hsel j oj cs b hoj) hQ (fun a' w' hk => hk.1 hjn)
    (hy.of_same hW rfl rfl) h1
   have hfree' : ∀ k ok,ops[k]? = some ok → k ≠ i → (listed.setIfInBounds j true).getD k true = false →
     (∀ e ∈ ok.after,Region.binds md e = true → e.on ≠ i) → oi.apart ops ok = true:=fun k ok hk hki hunk hno => by
    refine hfree k ok hk hki ?_ hno
    by_cases hjk : j = k
    ·
     subst hjk; exact hjun
    ·
     rw [getD_set_ne true hjk] at hunk; exact hunk
   refine wpOp_mono (fun a' w' h3 => ⟨h3.2.1,ih (listed.setIfInBounds j true) a' w' (inv.set hj) hfree' (ready_mono hr (Ne.symm hji)) h3.1 ?_⟩) h2
   rw [Array.setIfInBounds_comm _ _ hji]
   exact h3.2.2
abbrev Sched:=List (Bool × List Nat)
def takeI (md : Region.Mode) (ops : Array Oper) (n : Nat) : List Nat → Array Bool → Bool
 | [],_ => true
 | k :: r,listed => (Region.ready md ops listed).contains k && Region.free md ops listed k && decide (k < n) && takeI md ops n r (listed.setIfInBounds k true)
def oneI (md : Region.Mode) (ops : Array Oper) : List Nat → Array Bool → Bool
 | [],_ => true
 | k :: r,listed => (Region.ready md ops listed == [k]) && oneI md ops r (listed.setIfInBounds k true)
def markI : List Nat → Array Bool → Array Bool
 | [],listed => listed
 | k :: r,listed => markI r (listed.setIfInBounds k true)
def schedI (md : Region.Mode) (ops : Array Oper) (n : Nat) : Sched → Array Bool → Bool
 | [],listed => (Region.ready md ops listed).isEmpty
 | (true,is) :: r,listed => takeI md ops n is listed && schedI md ops n r (markI is listed)
 | (false,is) :: r,listed => oneI md ops is listed && schedI md ops n r (markI is listed)
def consO : Option Oper → List Oper → List Oper
 | some o,r => o :: r
 | none,r => r
def pickI (l : List Oper) : List Nat → List Oper
 | [] => []
 | k :: r => consO l[k]? (pickI l r)
def wpOne (P : Program) (ops : Array Oper) (Q : Exit → Act → World → Prop) (n : Nat) (R : Act → World → Prop) : List Nat → Act → World → Prop
 | [],a,w => R a w
 | k :: r,a,w => ∀ W,Ext w W → wpOp P ops Q k (fun a' W' => (k < n → Ext W W') ∧ wpOne P ops Q n R r a' W') a W
def wpSched (P : Program) (l : List Oper) (Q : Exit → Act → World → Prop) (n : Nat) : Sched → Act → World → Prop
 | [],a,w => ∀ W,Ext w W → Q .normal a W
 | (true,is) :: r,a,w => wpMk P l.toArray w (fun a' => wpSched P l Q n r a' w) (pickI l is) a
 | (false,is) :: r,a,w => wpOne P l.toArray Q n (fun a' w' => wpSched P l Q n r a' w') is a w
def lenI : Sched → Nat
 | [] => 0
 | (_,is) :: r => is.length + lenI r
theorem S_take {n g : Nat} {l : List Oper} (hsel : Region.noSelect l.toArray = true) (hQ : ∀ (o : Oper) v c a w,Q (.panic c) (a.put o.dst v) w → Q (.panic c) a w) (hB : lateS md l.toArray n = true) {w : World} {R : Act → Prop} {L : Array Bool}
  (hR : ∀ a,R a → Closed md l.toArray L → wpG P md l.toArray Q n g L a w) : ∀ (is : List Nat) (listed : Array Bool) (a : Act),Closed md l.toArray listed →
  takeI md l.toArray n is listed = true → markI is listed = L → wpMk P l.toArray w R (pickI l is) a → wpG P md l.toArray Q n (is.length + g) listed a w
 | [],listed,a,inv,_,hL,h => by
  have hL' : listed = L:=hL
  subst hL'
  simpa using hR a h inv
 | k :: r,listed,a,inv,hX,hL,h => by
  simp only [takeI,Bool.and_eq_true,decide_eq_true_eq] at hX
  obtain ⟨⟨⟨hr,hf⟩,hkn⟩,hX'⟩:=hX
  have hr' : k ∈ Region.ready md l.toArray listed:=by simpa using hr
  obtain ⟨_,o,h0,_⟩:=mem_ready.1 hr'
  have h0' : l[k]? = some o:=by simpa using h0
  unfold pickI at h
  rw [h0'] at h
  obtain ⟨v,hy,hK⟩:=h
  rw [List.length_cons,show r.length + 1 + g = (r.length + g) + 1 by omega]
  exact S_first h0 (Region.noSelect_spec hsel) (hQ o v) hB hkn _ listed a w inv (Region.free_spec h0 hf) hr' hy
   (S_take hsel hQ hB hR r _ _ (inv.set hr') hX' hL hK)
theorem S_one {n g : Nat} {l : List Oper} {R : Act → World → Prop} {L : Array Bool} (hRx : ∀ a w w',R a w → Ext w w' → R a w')
  (hR : ∀ a w,R a w → Closed md l.toArray L → wpG P md l.toArray Q n g L a w) : ∀ (is : List Nat) (listed : Array Bool) (a : Act) (w : World),Closed md l.toArray listed →
  oneI md l.toArray is listed = true → markI is listed = L → wpOne P l.toArray Q n R is a w → wpG P md l.toArray Q n (is.length + g) listed a w
 | [],listed,a,w,inv,_,hL,h => by
  have hL' : listed = L:=hL
  subst hL'
  simpa using hR a w h inv
 | k :: r,listed,a,w,inv,hX,hL,h => by
  simp only [oneI,Bool.and_eq_true,beq_iff_eq] at hX
  obtain ⟨hr,hX'⟩:=hX
  rw [List.length_cons,show r.length + 1 + g = (r.length + g) + 1 by omega]
  refine ⟨fun h0 => (by rw [hr] at h0; cases h0),fun i hi W hW => ?_⟩
  have hik : i = k:=by rw [hr] at hi; simpa using hi
  subst hik
  refine wpOp_mono (fun a' W' hk => ⟨hk.1,S_one hRx hR r _ _ _ (inv.set hi) hX' hL hk.2⟩) (h W hW)
theorem wpMk_ext {w w' : World} {R R' : Act → Prop} (hE : Ext w w') (hR : ∀ a,R a → R' a) : ∀ {l : List Oper} {a : Act},wpMk P ops w R l a → wpMk P ops w' R' l a
 | [],_,hh => hR _ hh
 | _ :: _,_,⟨v,hy,hK⟩ => ⟨v,hy.of_same hE rfl rfl,wpMk_ext hE hR hK⟩
theorem wpOne_ext {n : Nat} {R : Act → World → Prop} {w w' : World} (hE : Ext w w') (hRx : ∀ a w w',R a w → Ext w w' → R a w') : ∀ {is : List Nat} {a : Act},wpOne P ops Q n R is a w → wpOne P ops Q n R is a w'
 | [],_,h => hRx _ _ _ h hE
 | _ :: _,_,h => fun W hW => h W (hE.trans hW)
theorem zgg {l : List Oper} {n : Nat} : ∀ {s : Sched} {a : Act} {w w' : World},wpSched P l Q n s a w → Ext w w' → wpSched P l Q n s a w'
 | [],_,_,_,h,hE => fun W hW => h W (hE.trans hW)
 | (true,_) :: _,_,_,_,h,hE => wpMk_ext hE (fun _ h => zgg h hE) h
 | (false,is) :: r,_,_,_,h,hE => wpOne_ext (R:=fun a' w' => wpSched P l Q n r a' w') (is:=is) hE (fun _ _ _ h k => zgg h k) h
theorem S_all {n : Nat} {l : List Oper} (hsel : Region.noSelect l.toArray = true) (hQ : ∀ (o : Oper) v c a w,Q (.panic c) (a.put o.dst v) w → Q (.panic c) a w) (hB : lateS md l.toArray n = true) :
  ∀ (s : Sched) (listed : Array Bool) (a : Act) (w : World),Closed md l.toArray listed → schedI md l.toArray n s listed = true → wpSched P l Q n s a w → wpG P md l.toArray Q n (lenI s) listed a w
 | [],listed,a,w,_,hX,h => ⟨by simpa [schedI] using hX,h⟩
 | (true,is) :: r,listed,a,w,inv,hX,h => by
  simp only [schedI,Bool.and_eq_true] at hX
  exact S_take (g:=lenI r) hsel hQ hB (R:=fun a' => wpSched P l Q n r a' w) (L:=markI is listed) (fun a' h' inv' => S_all hsel hQ hB r _ _ _ inv' hX.2 h') is listed a inv hX.1 rfl h
 | (false,is) :: r,listed,a,w,inv,hX,h => by
  simp only [schedI,Bool.and_eq_true] at hX
  exact S_one (g:=lenI r) (R:=fun a' w' => wpSched P l Q n r a' w') (L:=markI is listed) (fun _ _ _ h k => zgg h k) (fun a' w' h' inv' => S_all hsel hQ hB r _ _ _ inv' hX.2 h') is listed a w inv hX.1 rfl h
def schedB (l : List Oper) (n : Nat) (s : Sched) : Bool :=
 Region.noSelect l.toArray && lateS .any l.toArray n && (lenI s == l.length) && schedI .any l.toArray n s (Array.replicate l.length false)
theorem zds {id : Nat} (n : Nat) (s : Sched) {a : Act} {w : World} {l : List Oper} (hm : P.follows .mixedOrders = true) (hB : schedB l n s = true)
  (h : ∀ Q',Hid (Q' = NoPanic Q) → wpSched P l Q' n s a w) : (Code.region id l.toArray true).wp P Q a w:=by
 simp only [schedB,Bool.and_eq_true,beq_iff_eq] at hB
 obtain ⟨⟨⟨hsel,hlate⟩,hlen⟩,hs⟩:=hB
 refine wp_region_noPanic ?_
 have inv0 : Closed .any l.toArray (Array.replicate l.length false) :=
  ⟨by simp,fun j oj _ hl => (by rw [getD_replicate_false] at hl; cases hl)⟩
 have H:=S_all (P:=P) (md:=.any) (Q:=NoPanic Q) hsel (fun _ _ _ _ _ h => h) hlate s _ a w inv0 hs (h _ (veil rfl))
 rw [hlen] at H
 refine wp_region_any hm (zeh (n:=n) _ _ _ _ ?_)
 have:=wpG.ext H (Ext.drew w)
 simpa using this
/-! ### how its parts are walked -/
theorem zcx {C : World → Prop} {a : Act} : wpQuiet P ops C (fun a' => a' = a) [] a:=rfl
theorem zbs {l : List Oper} {n : Nat} {is : List Nat} {r : Sched} {a A : Act} {w : World} (os : List Oper) (ho : pickI l is = os) (hB : ownB a.tmps.size os = true)
  (h : ∀ D,Up w D → Nonempty (Gw D) → wpQuiet P l.toArray (fun W => ∃ x : Gw D,W = x.val) (fun a' => a' = A) os a) (h2 : wpSched P l Q n r A w) : wpSched P l Q n ((true,is) :: r) a w:=by
 subst ho
 exact zjq (fun a' e => by subst e; exact h2) (zgt hB fun D hD => h D hD hD.ne)
theorem zdf {l : List Oper} {n k : Nat} {r : Sched} {a : Act} {w : World} (o : Oper) (ho : l[k]? = some o) (hg : o.guard = none)
  (h : ∀ W,Ext w W → o.wp P a W (fun a' W' => (k < n → Ext W W') ∧ wpSched P l Q n r a' W') Q) : wpSched P l Q n ((false,[k]) :: r) a w:=fun W hW =>
 zax (by simpa using ho) hg (h W hW)
theorem zet {l : List Oper} {n k : Nat} {r : Sched} {a : Act} {w : World} {t e : TypeId} {len d : Nat} {ps : List (Nat × Operand)} {vs : List (Nat × Value)} {C : Array Value} (o : Oper) (ho : l[k]? = some o) (hg : o.guard = none) (hop : o.op = .buildSlice t len ps.toArray) (hd : o.dst = some d)
  (hv : ps.map (fun (i,x) => (i,a.eval x)) = vs) (hb : ∀ W,(Instr.buildSlice t len vs.toArray).run P W = .ok (.slice (some ⟨W.heap.size,0,none⟩) len len) (W.alloc (.cells C e)))
  (h : ∀ g W,w.heap.size ≤ g → W.heap[g]? = some (.cells C e (0,0)) → Ext w W → wpSched P l Q n r (a.put (some d) (.slice (some ⟨g,0,none⟩) len len)) W) : wpSched P l Q n ((false,[k]) :: r) a w:=by
 refine zdf o ho hg fun W hW => ?_
 unfold Oper.wp execOp
 simp only [hop,List.map_toArray]
 rw [show ps.map (fun x => match x with | (i,x) => (i,a.eval x)) = vs from hv]
 simp only [Sem.run_bind,hb W,Result.andThen_ok,Sem.run_pure]
 show (k < n → Ext W _) ∧ _
 rw [hd]
 exact ⟨fun _ => Ext.alloc W _,h _ _ (Below.size hW) (zab W _) (hW.trans (Ext.alloc W _))⟩
theorem zcu {l : List Oper} {n : Nat} {a : Act} {w : World} {R : Exit → Act → World → Prop} (hQ : Hid (Q = NoPanic R)) (h : ∀ W,Ext w W → R .normal a W) : wpSched P l Q n [] a w:=fun W hW => by
 rw [hQ.out]
 exact h W hW
end
theorem mayFs_ok {fs : List Fd} (h : mayFs fs = true) {i : Nat} (hi : i < fs.length) : okF fs i:=(of_decide_eq_true h).2 i hi
theorem mayFs_64 {fs : List Fd} (h : mayFs fs = true) : fs.length ≤ 64:=(of_decide_eq_true h).1
theorem zgb {fs : List Fd} (h : mayFs fs = true) (i : Nat) : (encF (fs.take i)).length ≤ 4194432:=by
 have h1:=zgz (fs.take i) 65535 fun f hf => (mayFs_each h f (List.mem_of_mem_take hf)).2.2
 have h2:=mayFs_64 h
 have h3 : (fs.take i).length ≤ 64:=by rw [List.length_take]; omega
 omega
theorem hdr3 {w : World} {g : Nat} {T : Int} {D0 : List Nat} {L : Nat} (h : w.heap[g]? = some (.cells #[.int .u8 T,.int .u8 ((L : Int) / 256),.int .u8 ((L : Int) % 256)] 5 (0,0))) (h1 : 1 ≤ T) (h2 : T ≤ 255) (h3 : L ≤ 65535) (hL : L = D0.length) : Bs w (some ⟨g,0,none⟩) (hdr (T,D0)):=by
 refine ⟨hdr_byt _,.inr ⟨g,0,rfl,(Array.getElem?_eq_some_iff.1 h).1,fun j hj => ?_⟩⟩
 rw [Nat.zero_add,cell_of_row w g j _ _ _ h]
 subst hL
 have e0 : (((T % 256).toNat : Nat) : Int) = T:=by omega
 have e1 : (((D0.length / 256 % 256 : Nat) : Nat) : Int) = (D0.length : Int) / 256:=by omega
 have e2 : (((D0.length % 256 : Nat) : Nat) : Int) = (D0.length : Int) % 256:=by omega
 match j,hj with
 | 0,_ => show some (Value.int .u8 T) = some (.int .u8 (((T % 256).toNat : Nat) : Int)); rw [e0]
 | 1,_ => show some (Value.int .u8 _) = some (.int .u8 ((D0.length / 256 % 256 : Nat) : Int)); rw [e1]
 | 2,_ => show some (Value.int .u8 _) = some (.int .u8 ((D0.length % 256 : Nat) : Int)); rw [e2]
def cellsFs : List Fd → List (Option Addr × Nat) → List Value
 | f :: fs,a :: al => [.int .i64 f.1,.slice a.1 f.2.length a.2] ++ cellsFs fs al
 | _,_ => []
theorem zhd : ∀ {fs : List Fd} {al : List (Option Addr × Nat)} (f : Fd) (a : Option Addr × Nat),al.length = fs.length → cellsFs (fs ++ [f]) (al ++ [a]) = cellsFs fs al ++ [.int .i64 f.1,.slice a.1 f.2.length a.2]
 | [],[],_,_,_ => rfl
 | [],_ :: _,_,_,h => by simp at h
 | _ :: _,[],_,_,h => by simp at h
 | g :: fs,b :: al,f,a,h => by
  show [_,_] ++ cellsFs (fs ++ [f]) (al ++ [a]) = ([_,_] ++ cellsFs fs al) ++ _
  rw [zhd f a (by simpa using h),List.append_assoc]
theorem cellsFs_at : ∀ {fs : List Fd} {al : List (Option Addr × Nat)} {i : Nat},al.length = fs.length → i < fs.length →
  (cellsFs fs al)[i * 2]? = some (.int .i64 (tgF fs i)) ∧ (cellsFs fs al)[i * 2 + 1]? = some (.slice (al.getD i (none,0)).1 (bsF fs i).length (al.getD i (none,0)).2)
 | [],_,_,_,h => by simp at h
 | _ :: _,[],_,h,_ => by simp at h
 | f :: fs,a :: al,0,_,_ => ⟨rfl,rfl⟩
 | f :: fs,a :: al,i + 1,h,hi => by
  have ih:=cellsFs_at (fs:=fs) (al:=al) (i:=i) (by simpa using h) (by simpa using hi)
  have e : (i + 1) * 2 = i * 2 + 1 + 1:=by omega
  rw [e]
  exact ih
def Off (A : Option Addr) (bs : List Nat) (row : Option Nat) : Prop:=bs.length = 0 ∨ ∀ b o,A = some ⟨b,o,none⟩ → row ≠ some b
def OwnFs (w : World) (base : Nat) (v : Value) (fs : List Fd) : Prop:=BytF fs ∧ ∃ al : List (Option Addr × Nat),al.length = fs.length ∧ w.ownsRow base 135 2 v fs.length (cellsFs fs al) ∧
 ∀ i,i < fs.length → (bsF fs i).length ≤ (al.getD i (none,0)).2 ∧ Bs w (al.getD i (none,0)).1 (bsF fs i) ∧ Off (al.getD i (none,0)).1 (bsF fs i) v.ownBlock
theorem Bs.but {w w' : World} {A : Option Addr} {bs : List Nat} {row : Option Nat} (h : Bs w A bs) (k : w.grownBy w' row) (hne : Off A bs row) : Bs w' A bs:=by
 rcases hne with h0 | hne
 ·
  exact ⟨h.1,.inl h0⟩
 ·
  exact ⟨h.1,h.2.imp id fun ⟨b,o,e,hb,hc⟩ => ⟨b,o,e,Nat.lt_of_lt_of_le hb k.size,fun j hj => (World.cell?_of_block (a:=⟨b,o + j,none⟩) (k.block b hb (fun e2 => hne b o e e2.symm))).trans (hc j hj)⟩⟩
theorem OwnFs.nil (w : World) (base : Nat) : OwnFs w base (.slice none 0 0) []:=⟨fun _ h => (by cases h),[],rfl,World.ownsRow_nil _ _ _ _,fun i hi => by simp at hi⟩
theorem OwnFs.keep {w w' : World} {base : Nat} {v : Value} {fs : List Fd} (o : OwnFs w base v fs) (h : Ext w w') : OwnFs w' base v fs:=by
 obtain ⟨hB,al,hl,hr,hx⟩:=o
 refine ⟨hB,al,hl,⟨hr.1,?_⟩,fun i hi => ⟨(hx i hi).1,(hx i hi).2.1.ext h,(hx i hi).2.2⟩⟩
 rcases hr.2 with hn | ⟨g,cap,cur,rfl,hbg,hh,rest⟩
 ·
  exact .inl hn
 ·
  exact .inr ⟨g,cap,cur,rfl,hbg,h.block hh,rest⟩
theorem OwnFs.lt {w : World} {base : Nat} {v : Value} {fs : List Fd} (o : OwnFs w base v fs) {k : Nat} (hk : v.ownBlock = some k) : base ≤ k ∧ k < w.heap.size:=by
 obtain ⟨_,al,_,hr,_⟩:=o
 exact World.ownsRow.lt hr k hk
theorem OwnFs.fl {w : World} {base : Nat} {v : Value} {fs : List Fd} (o : OwnFs w base v fs) : Fl w v fs:=by
 obtain ⟨hB,al,hl,hr,hx⟩:=o
 rcases hr.2 with ⟨rfl,h0⟩ | ⟨g,cap,cur,rfl,hbg,hh,hn,hm,hs,ht⟩
 ·
  exact ⟨hB,none,0,by rw [h0],by omega,.inl h0⟩
 ·
  refine ⟨hB,_,cap,rfl,hn,?_⟩
  by_cases h0 : fs.length = 0
  ·
   exact .inl h0
  ·
   refine .inr ⟨g,0,rfl,(Array.getElem?_eq_some_iff.1 hh).1,fun i hi => ?_⟩
   have hcell : ∀ k,k < fs.length * 2 → w.cell? ⟨g,k,none⟩ = (cellsFs fs al)[k]?:=fun k hk => by
    rw [cell_of_row w g k cur _ _ hh,← ht,List.getElem?_take_of_lt hk]
    simp
   obtain ⟨c0,c1⟩:=cellsFs_at hl hi
   refine ⟨by rw [Nat.zero_add,hcell _ (by omega)]; exact c0,_,_,by rw [Nat.zero_add,hcell _ (by omega)]; exact c1,(hx i hi).1,(hx i hi).2.1⟩
theorem infoF16 : (Tryz.prog.info? 135).map (fun i => (i.zero,i.size,i.bytes)) = some (some (.agg #[.int .i64 0,.slice none 0 0]),2,32):=by kernel_rfl
theorem info_parts2 {i : Option TypeInfo} {z : Value} {n b : Nat} (h : i.map (fun i => (i.zero,i.size,i.bytes)) = some (some z,n,b)) : ∃ j,i = some j ∧ j.zero = some z ∧ j.size = n ∧ j.bytes = b:=by
 cases i with
 | none => simp at h
 | some j =>
  simp only [Option.map_some,Option.some.injEq,Prod.mk.injEq] at h
  exact ⟨j,rfl,h.1,h.2.1,h.2.2⟩
theorem tgF_lt {fs : List Fd} {f : Fd} {i : Nat} (h : i < fs.length) : tgF (fs ++ [f]) i = tgF fs i ∧ bsF (fs ++ [f]) i = bsF fs i:=by
 unfold tgF bsF
 simp only [List.getD_eq_getElem?_getD,List.getElem?_append_left h,and_self]
theorem tgF_last (fs : List Fd) (f : Fd) : tgF (fs ++ [f]) fs.length = f.1 ∧ bsF (fs ++ [f]) fs.length = f.2:=by
 unfold tgF bsF
 simp
theorem run_append_fd {w : World} {base : Nat} {v : Value} {fs : List Fd} (ty : TypeId) (hown : OwnFs w base v fs) (g : Nat) (f : Fd) (a : Option Addr × Nat) (c1 : Nat)
  (hg : w.heap[g]? = some (.cells #[.int .i64 f.1,.slice a.1 f.2.length a.2] 135 (0,0))) (hc : f.2.length ≤ a.2) (hb : Bs w a.1 f.2) (hne : Off a.1 f.2 v.ownBlock)
  (hn : fs.length ≤ 1000000000) (hbase : base ≤ w.heap.size) :
  ∃ v' w',(Builtin.append_ #[131,131] ty #[v,.slice (some ⟨g,0,none⟩) 1 c1]).run Tryz.prog w = .ok v' w' ∧ OwnFs w' base v' (fs ++ [f]) ∧ w.grownBy w' v.ownBlock:=by
 obtain ⟨i,hi,hz,hsz,hby⟩:=info_parts2 infoF16
 obtain ⟨hB,al,hl,hr,hx⟩:=hown
 obtain ⟨v',w',hrun,h2,h3,_,h5⟩:=run_append_own_at (P:=Tryz.prog) w base 131 ty 135 i _ 2 32 Tryz.underlying131 hi hz hsz hby rfl (by decide) v fs.length (cellsFs fs al) hr ⟨g,0,none⟩ 1 c1 [.int .i64 f.1,.slice a.1 f.2.length a.2] rfl
  (fun j u hu => by
   rw [Addr.add_mid,Nat.zero_add,cell_of_row w g j _ _ _ hg]
   simpa using hu)
  (fun u hu => by
   simp only [List.mem_cons,List.not_mem_nil,or_false] at hu
   rcases hu with rfl | rfl <;> rfl) (by unfold maxLen; omega) (by omega) hbase
 refine ⟨v',w',hrun,⟨?_,al ++ [a],by simp [hl],?_,fun k hk => ?_⟩,h3⟩
 ·
  intro x hx'
  rcases List.mem_append.1 hx' with h | h
  ·
   exact hB x h
  ·
   rw [List.mem_singleton.1 h]; exact hb.1
 ·
  rw [zhd f a hl,List.length_append]
  exact h2
 ·
  have hout : ∀ (A : Option Addr) (bs : List Nat),Bs w A bs → Off A bs v.ownBlock → Off A bs v'.ownBlock:=by
   intro A bs hA hn1
   rcases hn1 with h0 | hn1
   ·
    exact .inl h0
   ·
    rcases hA.2 with h | ⟨b',o',e',hb',_⟩
    ·
     exact .inl h
    ·
     refine .inr fun b o e e2 => ?_
     rw [e] at e'
     injection e' with e'
     injection e' with e4
     rcases h5 with h5 | h5
     ·
      rw [h5] at e2; exact hn1 b o e e2
     ·
      rw [h5] at e2
      have e3 : w.heap.size = b:=by injection e2
      omega
  rw [List.length_append,List.length_singleton] at hk
  by_cases hlt : k < fs.length
  ·
   obtain ⟨e1,e2⟩:=tgF_lt (f:=f) hlt
   have e3 : (al ++ [a]).getD k (none,0) = al.getD k (none,0):=by
    simp only [List.getD_eq_getElem?_getD,List.getElem?_append_left (show k < al.length by omega)]
   obtain ⟨x1,x2,x3⟩:=hx k hlt
   rw [e2,e3]
   exact ⟨x1,x2.but h3 x3,hout _ _ x2 x3⟩
  ·
   obtain rfl : k = fs.length:=by omega
   obtain ⟨e1,e2⟩:=tgF_last fs f
   have e3 : (al ++ [a]).getD fs.length (none,0) = a:=by
    rw [← hl]
    simp
   rw [e2,e3]
   exact ⟨hc,hb.but h3 hne,hout _ _ hb hne⟩
theorem infoT1 : (Tryz.prog.info? 5).map (fun i => (i.zero,i.size,i.bytes)) = some (some (.int .u8 0),1,1):=by kernel_rfl
def Fresh (w : World) (A : Option Addr) (bs : List Nat) : Prop:=bs.length = 0 ∨ ∀ b o,A = some ⟨b,o,none⟩ → w.heap.size ≤ b
theorem Fresh.off {w : World} {A : Option Addr} {bs : List Nat} {row : Option Nat} (h : Fresh w A bs) (hr : ∀ k,row = some k → k < w.heap.size) : Off A bs row :=
 h.imp id fun h b o e e2 => by have:=h b o e; have:=hr b e2; omega
theorem zkc {w : World} (ty : TypeId) {g m c : Nat} {A : Option Addr} {bs : List Nat} (hg : w.heap[g]? = some (.cells #[] 5 (0,0))) (hb : Bs w A bs) (hm : m = bs.length) (hle : m ≤ 1000000000) :
  ∃ A' c' w',(Builtin.append_ #[30,30] ty #[.slice (some ⟨g,0,none⟩) 0 0,.slice A m c]).run Tryz.prog w = .ok (.slice A' m c') w' ∧ Ext w w' ∧ m ≤ c' ∧ Bs w' A' bs ∧ Fresh w A' bs:=by
 subst hm
 obtain ⟨i,hi,hz,hsz,hby⟩:=info_parts infoT1
 have hgl : g < w.heap.size:=(Array.getElem?_eq_some_iff.1 hg).1
 have o0 : Own w g 5 (.slice (some ⟨g,0,none⟩) 0 0) 0 (fun j => .int .u8 (bs.getD j 0 : Nat)) :=
  ⟨by simp,.inr ⟨g,0,#[],rfl,Nat.le_refl _,hg,Nat.le_refl _,by unfold maxLen; omega,by simp,by simp⟩⟩
 obtain ⟨v',w',hr,h2,h3,h5,_⟩:=zif (P:=Tryz.prog) w g 30 ty 5 i _ 1 Tryz.underlying30 hi hz hsz hby rfl _ 0 _ o0 A bs.length c (fun j => .int .u8 (bs.getD j 0 : Nat)) hb.from (fun _ => rfl) (by unfold maxLen; omega) (by omega) (by omega)
 rw [Nat.zero_add] at h2
 have hO : OwnB w' g v' bs:=OwnB.of h2 hb.1 rfl fun j hj => by rw [if_neg (by omega),Nat.sub_zero]
 obtain ⟨A',c',rfl,hc',hB'⟩:=hO.bs
 by_cases h0 : bs.length = 0
 ·
  rcases A with _ | ad
  ·
   have hw : w' = w:=by
    have : (Builtin.append_ #[30,30] ty #[.slice (some ⟨g,0,none⟩) 0 0,.slice none bs.length c]).run Tryz.prog w = .ok (.slice (some ⟨g,0,none⟩) 0 0) w:=by
     rw [h0]
     simp [Builtin.append_,run_underlying Tryz.underlying30,sizeOf,typeInfo,hi,Builtin.lenOf,Builtin.firstCells,storeCells]
    rw [hr] at this
    injection this
   subst hw
   exact ⟨A',c',w',hr,Ext.refl _,hc',hB',.inl h0⟩
  ·
   have hr2:=run_append_room_cells (P:=Tryz.prog) (w:=w) 30 ty 5 i Tryz.underlying30 hi g 0 0 0 ad bs.length c [] (by rw [h0]; simp) (fun j u hu => by simp at hu) (fun u hu => by simp at hu) (by omega) (fun j hj => by simp at hj) (fun j hj => by simp at hj)
   rw [hr] at hr2
   injection hr2 with _ hw
   have hw' : w' = w:=hw
   subst hw'
   exact ⟨A',c',w',hr,Ext.refl _,hc',hB',.inl h0⟩
 ·
  rcases hb.2 with h | ⟨b,o,rfl,hbl,hcl⟩
  ·
   exact absurd h h0
  ·
   have hr2:=run_append_grow (P:=Tryz.prog) w 30 ty 5 i _ Tryz.underlying30 hi hz ⟨g,0,none⟩ 0 0 [] (by simp) (fun j u hu => by simp at hu) ⟨b,o,none⟩ bs.length c ((List.range bs.length).map fun j => .int .u8 (bs.getD j 0 : Nat)) (by simp [hsz]) (fun j u hu => by
    have hj : j < bs.length:=by have:=(List.getElem?_eq_some_iff.1 hu).1; simpa using this
    rw [Addr.add_mid,hcl j hj,← hu]; simp [hj]) (by omega) (by omega) (growslice_fits (by omega) (by rw [hby]; omega))
   rw [hr] at hr2
   injection hr2 with hv hw
   injection hv with hA _ _
   subst hA
   exact ⟨_,c',w',hr,by rw [hw]; exact (Ext.drew w).trans (Ext.alloc _ _),hc',hB',.inr fun b' o' e => by injection e with e; injection e with e; omega⟩
/-! ### in schedules -/
section
variable {Q : Exit → Act → World → Prop} {l : List Oper} {n k d : Nat} {r : Sched} {a : Act} {w : World}
theorem sched_val {v : Value} (o : Oper) (ho : l[k]? = some o) (hg : o.guard = none) (hd : o.dst = some d) (hm : ∀ W,Ext w W → (execOp a.eval o).run Tryz.prog W = .ok (.value v) W)
  (h : ∀ W,Ext w W → wpSched Tryz.prog l Q n r (a.put (some d) v) W) : wpSched Tryz.prog l Q n ((false,[k]) :: r) a w:=by
 refine zdf o ho hg fun W hW => ?_
 unfold Oper.wp
 rw [hm W hW,Oper.upon_value,hd]
 exact ⟨fun _ => Ext.refl W,h W hW⟩
theorem zbv {o : Oper} {x : Operand} {v : Value} (ho : o.op = .assign x) (hx : a.eval x = v) (W : World) : (execOp a.eval o).run Tryz.prog W = .ok (.value v) W:=by
 unfold execOp
 simp only [ho,hx,Sem.run_pure]
theorem zfu {x : Operand} (v : Value) (o : Oper) (ho : l[k]? = some o) (hg : o.guard = none) (hd : o.dst = some d) (hop : o.op = .assign x) (hx : a.eval x = v)
  (h : ∀ W,Ext w W → wpSched Tryz.prog l Q n r (a.put (some d) v) W) : wpSched Tryz.prog l Q n ((false,[k]) :: r) a w:=sched_val o ho hg hd (fun W _ => zbv hop hx W) h
theorem sched_append0 {s x : Operand} {g m c : Nat} {A : Option Addr} {bs : List Nat} (o : Oper) (ho : l[k]? = some o) (hgd : o.guard = none) (hop : o.op = .call { callee:=.builtin .append,args:=#[s,x],argTypes:=#[30,30] }) (hd : o.dst = some d)
  (hs : a.eval s = .slice (some ⟨g,0,none⟩) 0 0) (hx : a.eval x = .slice A m c) (hg : w.heap[g]? = some (.cells #[] 5 (0,0))) (hb : Bs w A bs) (hm : m = bs.length) (hle : m ≤ 1000000000)
  (h : ∀ A' c' W,Ext w W → m ≤ c' → Bs W A' bs → Fresh w A' bs → wpSched Tryz.prog l Q n r (a.put (some d) (.slice A' m c')) W) : wpSched Tryz.prog l Q n ((false,[k]) :: r) a w:=by
 refine zdf o ho hgd fun W hW => ?_
 obtain ⟨A',c',w',hr,hE,hc,hB,hF⟩:=zkc (c:=c) o.type (hW.block hg) (hb.ext hW) hm hle
 unfold Oper.wp execOp
 simp only [hop,resolve,invoke,builtin,Sem.run_bind,Sem.run_pure,Result.andThen_ok,List.map_toArray,List.map_cons,List.map_nil,hs,hx,hr]
 show (k < n → Ext W w') ∧ _
 rw [hd]
 exact ⟨fun _ => hE,h A' c' w' (hW.trans hE) hc hB (hF.imp id fun h b o e => Nat.le_trans (Below.size hW) (h b o e))⟩
theorem zgc {s x : Operand} {base g c : Nat} {v : Value} {fs : List Fd} {f : Fd} {al : Option Addr × Nat} (o : Oper) (ho : l[k]? = some o) (hgd : o.guard = none) (hop : o.op = .call { callee:=.builtin .append,args:=#[s,x],argTypes:=#[131,131] }) (hd : o.dst = some d)
  (hs : a.eval s = v) (hx : a.eval x = .slice (some ⟨g,0,none⟩) 1 c) (hkn : ¬ k < n) (hown : OwnFs w base v fs) (hg : w.heap[g]? = some (.cells #[.int .i64 f.1,.slice al.1 f.2.length al.2] 135 (0,0)))
  (hc : f.2.length ≤ al.2) (hb : Bs w al.1 f.2) (hne : Off al.1 f.2 v.ownBlock) (hn : fs.length ≤ 1000000000) (hbase : base ≤ w.heap.size)
  (h : ∀ v' W W',Ext w W → OwnFs W' base v' (fs ++ [f]) → W.grownBy W' v.ownBlock → wpSched Tryz.prog l Q n r (a.put (some d) v') W') : wpSched Tryz.prog l Q n ((false,[k]) :: r) a w:=by
 refine zdf o ho hgd fun W hW => ?_
 obtain ⟨v',w',hr,hO,hG⟩:=run_append_fd (c1:=c) o.type (hown.keep hW) g f al (hW.block hg) hc (hb.ext hW) hne hn (Nat.le_trans hbase (Below.size hW))
 unfold Oper.wp execOp
 simp only [hop,resolve,invoke,builtin,Sem.run_bind,Sem.run_pure,Result.andThen_ok,List.map_toArray,List.map_cons,List.map_nil,hs,hx,hr]
 show (k < n → Ext W w') ∧ _
 rw [hd]
 exact ⟨fun h => absurd h hkn,h v' W w' hW hO hG⟩
end
theorem wpl_append0 {Q : Exit → Act → World → Prop} {ops : Array Oper} {rest : List Oper} {a : Act} {w : World} {s x : Operand} {g m c : Nat} {A : Option Addr} {bs : List Nat} {o : Oper} (hgd : o.guard = none) (hop : o.op = .call { callee:=.builtin .append,args:=#[s,x],argTypes:=#[30,30] })
  (hs : a.eval s = .slice (some ⟨g,0,none⟩) 0 0) (hx : a.eval x = .slice A m c) (hg : w.heap[g]? = some (.cells #[] 5 (0,0))) (hb : Bs w A bs) (hm : m = bs.length) (hle : m ≤ 1000000000)
  (h : ∀ A' c' W,Ext w W → m ≤ c' → Bs W A' bs → Fresh w A' bs → wpList Tryz.prog ops Q rest (a.put o.dst (.slice A' m c')) W) : wpList Tryz.prog ops Q (o :: rest) a w:=by
 refine wpList_plain hgd fun K hK => ?_
 obtain ⟨A',c',w',hr,hE,hc,hB,hF⟩:=zkc (c:=c) o.type hg hb hm hle
 unfold Oper.wp execOp
 simp only [hop,resolve,invoke,builtin,Sem.run_bind,Sem.run_pure,Result.andThen_ok,List.map_toArray,List.map_cons,List.map_nil,hs,hx,hr]
 exact hK _ _ (h A' c' w' hE hc hB hF)
theorem cut_mid (A : Option Addr) (r c p n : Nat) (hp : p + n ≤ c) (w : World) {x y : Int} (hx : x = (p : Int)) (hy : y = ((p + n : Nat) : Int)) : (Instr.sliceAt 30 (.slice A r c) (some (.int .i64 x)) (some (.int .i64 y)) none).run Tryz.prog w = .ok (.slice (cutA A p c) n (c - p)) w:=by
 subst hx hy
 have e2 : ((sizeOf (Tryz.prog.elem 30)).run Tryz.prog w) = .ok 1 w:=by kernel_rfl
 rw [run_sliceAt_slice w 30 _ _ _ _ (by kernel_rfl),run_slice_lh w 30 A r c (by kernel_rfl) .i64 .i64 (p : Int) ((p + n : Nat) : Int) (by omega) (by omega) (by omega),e2]
 simp [sliced,Result.andThen,cutA]
 omega
theorem wpl_val {P : Program} {ops : Array Oper} {Q : Exit → Act → World → Prop} {rest : List Oper} {a : Act} {w : World} {o : Oper} (v : Value) (hg : o.guard = none) (hr : (execOp a.eval o).run P w = .ok (.value v) w) (h : wpList P ops Q rest (a.put o.dst v) w) : wpList P ops Q (o :: rest) a w:=by
 refine wpList_plain hg fun K hK => ?_
 unfold Oper.wp
 rw [hr,Oper.upon_value]
 exact hK _ _ h
theorem run_slice_hv {P : Program} {o : Oper} {a : Act} {t : TypeId} {x z : Operand} {v v' vz : Value} {W : World} (ho : o.op = .slice t x none (some z) none) (hx : a.eval x = v) (hz : a.eval z = vz)
  (h : (Instr.sliceAt t v none (some vz) none).run P W = .ok v' W) : (execOp a.eval o).run P W = .ok (.value v') W:=by
 unfold execOp
 simp only [ho,hx,hz,Option.map_some,Option.map_none,Sem.run_bind,h,Result.andThen_ok,Sem.run_pure]
theorem cutA_zero (A : Option Addr) (c : Nat) : cutA A 0 c = A:=by
 unfold cutA
 split
 ·
  rfl
 ·
  cases A with
  | none => rfl
  | some a => simp [Addr.add]
theorem cut_to_b (A : Option Addr) (r c m : Nat) (hm : m ≤ c) (w : World) {y : Int} (hy : y = (m : Int)) : (Instr.sliceAt 30 (.slice A r c) none (some (.int .i64 y)) none).run Tryz.prog w = .ok (.slice A m c) w:=by
 subst hy
 rw [cut_to A r c m hm w,cutA_zero]
theorem Fl.take {w : World} {A : Option Addr} {n c : Nat} {fs : List Fd} (h : Fl w (.slice A n c) fs) {m : Nat} (hm : m ≤ n) : Fl w (.slice A m c) (fs.take m):=by
 obtain ⟨hB,AL,c',he,hc,hx⟩:=h
 injection he with e1 e2 e3
 subst e1 e3
 have hl : (fs.take m).length = m:=by rw [List.length_take]; omega
 have hg : ∀ i,i < m → tgF (fs.take m) i = tgF fs i ∧ bsF (fs.take m) i = bsF fs i:=fun i hi => by
  unfold tgF bsF
  simp only [List.getD_eq_getElem?_getD,List.getElem?_take_of_lt hi,and_self]
 refine ⟨fun f hf => hB f (List.mem_of_mem_take hf),A,c,by rw [hl],by rw [hl]; omega,?_⟩
 rw [hl]
 by_cases h0 : m = 0
 ·
  exact .inl h0
 ·
  refine .inr ?_
  obtain ⟨b,o,e,hb,hcl⟩:=hx.resolve_left (by omega)
  refine ⟨b,o,e,hb,fun i hi => ?_⟩
  obtain ⟨g1,g2⟩:=hg i hi
  rw [g1,g2]
  exact hcl i (by omega)
theorem bs_take {w : World} {A : Option Addr} {bs : List Nat} (h : Bs w A bs) (m : Nat) : Bs w A (bs.take m):=by
 refine ⟨h.1.take m,?_⟩
 rcases h.2 with h | ⟨b,o,e,hb,hc⟩
 ·
  exact .inl (by rw [List.length_take]; omega)
 ·
  refine .inr ⟨b,o,e,hb,fun j hj => ?_⟩
  rw [List.length_take] at hj
  rw [hc j (by omega)]
  simp only [List.getD_eq_getElem?_getD,List.getElem?_take_of_lt (show j < m by omega)]
end Go.Proofs.YtbfkecfcolcclaaGreatDoor
