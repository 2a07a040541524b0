/-
  Of NS4 KH C1 C2 C4 C3 C5 C6 C7 C8 CM CR CD D4 UB UD D2 D3 UE UF UG.
-/
import Derived.Deep.AppendLies
import Derived.Deep.RegionHeld3
import Derived.Lib.AppendZeros
import Derived.Deep.MidRow
import Derived.Laws.BytesString
import Derived.Test.YtbfkecfcolcclaaGreatDoorZB3
import Derived.Test.YtbfkecfcolcclaaGreatDoorZB18
import Derived.Test.YtbfkecfcolcclaaGreatDoorZB16
import Derived.Test.YtbfkecfcolcclaaGreatDoorZB10
import Derived.Test.YtbfkecfcolcclaaGreatDoorZB12
import Derived.Test.YtbfkecfcolcclaaGreatDoorZB5
import Derived.Test.YtbfkecfcolcclaaGreatDoorZB4
import Derived.Test.YtbfkecfcolcclaaGreatDoorZB11
import Derived.Test.YtbfkecfcolcclaaGreatDoorZB9
import Derived.Test.YtbfkecfcolcclaaGreatDoorZB15
import Derived.Test.YtbfkecfcolcclaaGreatDoorZB2
import Derived.Test.YtbfkecfcolcclaaGreatDoorZB8
import Derived.Test.YtbfkecfcolcclaaGreatDoorZB14
import Derived.Test.YtbfkecfcolcclaaGreatDoorZB1
set_option maxRecDepth 1000000
set_option maxHeartbeats 20000000
namespace Go.Proofs.YtbfkecfcolcclaaGreatDoor
open Go.RowKit
open Go.Value renaming int → vI
open Go.IntKind renaming u64 → vU
open Go.Act renaming put → aP
open List renaming setIfInBounds_toArray → lA, set_cons_zero → lZ, set_cons_succ → lS
theorem pN_is (w : World) : Calls Tryz.prog 144 #[] w fun e w' => e = .returned (nv Pt.nn) ∧ Ext w w':=by
 obtain ⟨l0,l1,l2,l3⟩:=nn_words
 unfold nv nc
 rw [l0,l1,l2,l3]
 clear l0 l1 l2 l3
 go_enter Tryz.func144,Tryz.ntmps144
 go_wp2
 exact bodyPost_ret (results_cell_row rfl _ _ w.heap.size 58 #[vI vU 17562291160714782033,vI vU 13611842547513532036,vI vU 18446744073709551615,vI vU 18446744069414584320] (0,0) _ rfl (heap_alloc_last w _) Tryz.underlying58 rfl (by kernel_rfl)) rfl ⟨rfl,(Below.refl _ _).alloc (Nat.le_refl _) _⟩
theorem nn_odd : Pt.nn % 2 = 1 ∧ 2 < Pt.nn:=by decide +kernel
/-! ### digests -/
def dgL (bs : List Nat) (j : Nat) : Nat:=dByte (shaSt (fun i => bs.getD i 0) bs.length) j
theorem dgL_lt (bs : List Nat) (j : Nat) : dgL bs j < 256:=Nat.mod_lt _ (by decide)
theorem src_bs {w : World} {A : Option Addr} {bs : List Nat} (h : Bs w A bs) : Src w A bs.length (fun j => bs.getD j 0) w.heap.size :=
 h.2.imp id fun ⟨b,o,e,hb,hc⟩ => ⟨b,o,e,hb,by omega,hc⟩
/-! ### signatures -/
theorem on_of {X Y : Nat} (h : onB X Y false = true) : Pt.E256.on (some (Pt.F X,Pt.F Y)):=by
 have h1:=(onB_iff X Y false).1 h
 unfold Pt.isOn at h1
 rw [if_neg (by decide)] at h1
 exact h1.2.2
def vfL (X Y : Nat) (f : Bool) (y : Nat → Nat) (R S : Nat) : Bool:=if h : onB X Y false = true then !f && Pt.verB ⟨_,on_of h⟩ (num32 y) R S else false
theorem vfL_off {X Y : Nat} {f : Bool} (h : onB X Y f = false) (y : Nat → Nat) (R S : Nat) : vfL X Y f y R S = false:=by
 unfold vfL
 split
 ·
  rename_i h1
  cases f with
  | true => rfl
  | false => rw [h] at h1; cases h1
 ·
  rfl
theorem vfL_on (p : Pt.Q) (y : Nat → Nat) (R S : Nat) : vfL (Pt.pX p.1) (Pt.pY p.1) (Pt.pFar p.1) y R S = Pt.verB p (num32 y) R S:=by
 have hon:=onB_of p
 cases hf : Pt.pFar p.1 with
 | true =>
  have e : Pt.verB p (num32 y) R S = false:=by unfold Pt.verB; rw [hf]; rfl
  rw [e]
  unfold vfL
  split <;> rfl
 | false =>
  rw [hf] at hon
  unfold vfL
  rw [dif_pos hon,Bool.not_false,Bool.true_and]
  congr 1
  apply Subtype.ext
  refine Pt.p_inj ?_ ?_ ?_
  ·
   exact Nat.mod_eq_of_lt (Pt.pX_lt p.1)
  ·
   exact Nat.mod_eq_of_lt (Pt.pY_lt p.1)
  ·
   rw [hf]; rfl
def lowL : Low where
 dg:=dgL
 dgb:=dgL_lt
 vf:=vfL
structure CodeL : Prop where
 sum : ∀ A m c bs w,KT w → m = bs.length → m ≤ c → m ≤ 100000 → Bs w A bs → Calls Tryz.prog 67 #[.slice A m c] w fun e w' => e = .returned (dgv (dgL bs)) ∧ Ext w w'
 ver : ∀ X Y f y R S w,X < top → Y < top → R < top → S < top → (∀ j,y j < 256) → Calls Tryz.prog 66 #[qv X Y f,dgv y,gv R S] w fun e w' => e = .returned (.bool (vfL X Y f y R S)) ∧ Ext w w'
 parse_odd : ∀ A m c w,m ≠ 64 → Calls Tryz.prog 64 #[.slice A m c] w fun e w' => e = .returned (.tuple #[gv 0 0,.iface 38 (.int .i64 2)]) ∧ Ext w w'
 parse_64 : ∀ A m c bs w,m = bs.length → m = 64 → m ≤ c → Bs w A bs → Calls Tryz.prog 64 #[.slice A m c] w fun e w' => e = .returned (.tuple #[gv (sigR bs) (sigS bs),.nilIface]) ∧ Ext w w'
def Fp (w : World) (b : Nat) : Prop:=∃ N Q,Fok Pt.pp N Q ∧ Fb w b Pt.pp N Q
theorem Fp.ext {w w' : World} {b : Nat} (h : Fp w b) (k : Ext w w') : Fp w' b:=by
 obtain ⟨N,Q,h1,h2⟩:=h
 exact ⟨N,Q,h1,h2.call k⟩
theorem Fp.lt {w : World} {b : Nat} (h : Fp w b) : b < w.heap.size:=by
 obtain ⟨N,Q,h1,h2⟩:=h
 exact h2.lt
abbrev Fe:=Fin Pt.pp
def sc (x y z : Nat) : Array Value:=#[vI vU (wd x 0),vI vU (wd x 1),vI vU (wd x 2),vI vU (wd x 3),vI vU (wd y 0),vI vU (wd y 1),vI vU (wd y 2),vI vU (wd y 3),vI vU (wd z 0),vI vU (wd z 1),vI vU (wd z 2),vI vU (wd z 3)]
def sv (x y z : Nat) : Value:=.agg (sc x y z)
def fv (k b : Nat) : Value:=.func (.func k) #[ptrTo b] #[]
def cc (b : Nat) : Array Value:=#[fv 156 b,fv 175 b,fv 99 b,fv 97 b]
def cv (b : Nat) : Value:=.agg (cc b)
theorem zdc (x : Fe) : x.val < top:=Nat.lt_trans x.isLt zcf
theorem fe_mod (x : Fe) : x.val % Pt.pp = x.val:=Nat.mod_eq_of_lt x.isLt
theorem kadd_p {b : Nat} {x y t : Fe} (ht : t = x + y) {w : World} (hF : Fp w b) : Calls Tryz.prog 156 #[ptrTo b,nv x.val,nv y.val] w fun e w' => e = .returned (nv t.val) ∧ Ext w w':=by
 obtain ⟨N,Q,h1,h2⟩:=hF
 exact fadd2_calls b x.val y.val Pt.pp N Q t.val (zdc x) (zdc y) h1 (by rw [fe_mod,fe_mod,Pt.v_add,ht]) w h2
theorem zct {b : Nat} {x y t : Fe} (ht : t = x - y) {w : World} (hF : Fp w b) : Calls Tryz.prog 175 #[ptrTo b,nv x.val,nv y.val] w fun e w' => e = .returned (nv t.val) ∧ Ext w w':=by
 obtain ⟨N,Q,h1,h2⟩:=hF
 exact fsub2_calls b x.val y.val Pt.pp N Q t.val (zdc x) (zdc y) h1 (by rw [fe_mod,fe_mod,Pt.v_sub,ht]) w h2
theorem zav {b : Nat} {x y t : Fe} (ht : t = x * y) {w : World} (hF : Fp w b) : Calls Tryz.prog 99 #[ptrTo b,nv x.val,nv y.val] w fun e w' => e = .returned (nv t.val) ∧ Ext w w':=by
 obtain ⟨N,Q,h1,h2⟩:=hF
 exact fmul2_calls b x.val y.val Pt.pp N Q t.val (zdc x) (zdc y) h1 (by rw [Pt.v_mul,ht]) w h2
theorem kinv_p {b : Nat} {x t : Fe} (hx : x ≠ 0) (ht : t = Pt.E256.inv x) {w : World} (hF : Fp w b) : Calls Tryz.prog 97 #[ptrTo b,nv x.val] w fun e w' => e = .returned (.tuple #[nv t.val,.nilIface]) ∧ Ext w w':=by
 obtain ⟨N,Q,h1,h2⟩:=hF
 refine (ziv b x.val Pt.pp N Q (zdc x) h1 w h2).mono ?_
 rintro e w' ⟨⟨y,hy,hi,rfl⟩,hb⟩
 have hg:=Pt.v_gcd hx
 rw [ziq hg,Pt.v_inv hy (hi hg),ht]
 exact ⟨rfl,hb⟩
theorem kinv_z {b : Nat} {w : World} (hF : Fp w b) : Calls Tryz.prog 97 #[ptrTo b,nv 0] w fun e w' => e = .returned (.tuple #[nv 0,.iface 38 (.int .i64 4)]) ∧ Ext w w':=by
 obtain ⟨N,Q,h1,h2⟩:=hF
 refine (ziv b 0 Pt.pp N Q (Nat.two_pow_pos 256) h1 w h2).mono ?_
 rintro e w' ⟨⟨y,hy,hi,rfl⟩,hb⟩
 have hg : ¬ Nat.gcd 0 Pt.pp = 1:=by rw [Nat.gcd_zero_left]; decide +kernel
 rw [invRet_no hg]
 exact ⟨rfl,hb⟩
/-! ### operations -/
section
variable {P : Program} {o : Oper} {a : Act} {w : World}
end
section
variable (g : Nat) (W : World)
end
theorem zcj {b : Nat} {x t : Fe} (ht : t = x + x) {w : World} (hF : Fp w b) :
  Calls Tryz.prog 202 #[cv b,nv x.val] w fun e w' => e = .returned (nv t.val) ∧ Ext w w':=by
 have kt:=veil ht
 clear ht
 exact way1 Tryz.func202 [cv b,nv x.val] (.call _ _ _ (fun W hW => kadd_p kt.out (hF.ext hW)) <|
  .ret _ fun _ h => ⟨rfl,h⟩) (by kernel_rfl)
theorem trp_calls {b : Nat} {x t : Fe} (ht : t = x + x + x) {w : World} (hF : Fp w b) :
  Calls Tryz.prog 177 #[cv b,nv x.val] w fun e w' => e = .returned (nv t.val) ∧ Ext w w':=by
 obtain ⟨y,hy⟩ : ∃ t : Fe,t = x + x:=⟨_,rfl⟩
 rw [← hy] at ht
 have ky:=veil hy
 clear hy
 have kt:=veil ht
 clear ht
 exact way1 Tryz.func177 [cv b,nv x.val] (.call _ _ _ (fun W hW => zcj ky.out (hF.ext hW)) <|
  .call _ _ _ (fun W hW => kadd_p kt.out (hF.ext hW)) <|
  .ret _ fun _ h => ⟨rfl,h⟩) (by kernel_rfl)
def twice3 (x y z : Fe) : Fe × Fe × Fe :=
 let zz : Fe:=z * z
 let yy : Fe:=y * y
 let s : Fe:=x - zz
 let u : Fe:=x + zz
 let su : Fe:=s * u
 let m : Fe:=su + su + su
 let q : Fe:=x * yy
 let q2 : Fe:=q + q
 let cr : Fe:=q2 + q2
 let mm : Fe:=m * m
 let c2 : Fe:=cr + cr
 let X : Fe:=mm - c2
 let e : Fe:=yy * yy
 let e2 : Fe:=e + e
 let e4 : Fe:=e2 + e2
 let tl : Fe:=e4 + e4
 let d : Fe:=cr - X
 let md : Fe:=m * d
 let Y : Fe:=md - tl
 let yz : Fe:=y * z
 let Z : Fe:=yz + yz
 (X,Y,Z)
theorem twice_calls {b : Nat} (x y z : Fe) {w : World} (hF : Fp w b) :
  Calls Tryz.prog 187 #[cv b,sv x.val y.val z.val] w fun e w' => e = .returned (sv (twice3 x y z).1.val (twice3 x y z).2.1.val (twice3 x y z).2.2.val) ∧ Ext w w':=by
 obtain ⟨zz,hzz⟩ : ∃ t : Fe,t = z * z:=⟨_,rfl⟩
 obtain ⟨yy,hyy⟩ : ∃ t : Fe,t = y * y:=⟨_,rfl⟩
 obtain ⟨s,hs⟩ : ∃ t : Fe,t = x - zz:=⟨_,rfl⟩
 obtain ⟨u,hu⟩ : ∃ t : Fe,t = x + zz:=⟨_,rfl⟩
 obtain ⟨su,hsu⟩ : ∃ t : Fe,t = s * u:=⟨_,rfl⟩
 obtain ⟨m,hm⟩ : ∃ t : Fe,t = su + su + su:=⟨_,rfl⟩
 obtain ⟨q,hq⟩ : ∃ t : Fe,t = x * yy:=⟨_,rfl⟩
 obtain ⟨q2,hq2⟩ : ∃ t : Fe,t = q + q:=⟨_,rfl⟩
 obtain ⟨cr,hcr⟩ : ∃ t : Fe,t = q2 + q2:=⟨_,rfl⟩
 obtain ⟨mm,hmm⟩ : ∃ t : Fe,t = m * m:=⟨_,rfl⟩
 obtain ⟨c2,hc2⟩ : ∃ t : Fe,t = cr + cr:=⟨_,rfl⟩
 obtain ⟨X,hX⟩ : ∃ t : Fe,t = mm - c2:=⟨_,rfl⟩
 obtain ⟨e,he⟩ : ∃ t : Fe,t = yy * yy:=⟨_,rfl⟩
 obtain ⟨e2,he2⟩ : ∃ t : Fe,t = e + e:=⟨_,rfl⟩
 obtain ⟨e4,he4⟩ : ∃ t : Fe,t = e2 + e2:=⟨_,rfl⟩
 obtain ⟨tl,htl⟩ : ∃ t : Fe,t = e4 + e4:=⟨_,rfl⟩
 obtain ⟨d,hd⟩ : ∃ t : Fe,t = cr - X:=⟨_,rfl⟩
 obtain ⟨md,hmd⟩ : ∃ t : Fe,t = m * d:=⟨_,rfl⟩
 obtain ⟨Y,hY⟩ : ∃ t : Fe,t = md - tl:=⟨_,rfl⟩
 obtain ⟨yz,hyz⟩ : ∃ t : Fe,t = y * z:=⟨_,rfl⟩
 obtain ⟨Z,hZ⟩ : ∃ t : Fe,t = yz + yz:=⟨_,rfl⟩
 have hfin : twice3 x y z = (X,Y,Z):=by
  subst hZ hyz hY hmd hd htl he4 he2 he hX hc2 hmm hcr hq2 hq hm hsu hu hs hyy hzz
  rfl
 rw [hfin]
 clear hfin
 have kzz:=veil hzz
 have kyy:=veil hyy
 have ks:=veil hs
 have ku:=veil hu
 have ksu:=veil hsu
 have km:=veil hm
 have kq:=veil hq
 have kq2:=veil hq2
 have kcr:=veil hcr
 have kmm:=veil hmm
 have kc2:=veil hc2
 have kX:=veil hX
 have ke:=veil he
 have ke2:=veil he2
 have ke4:=veil he4
 have ktl:=veil htl
 have kd:=veil hd
 have kmd:=veil hmd
 have kY:=veil hY
 have kyz:=veil hyz
 have kZ:=veil hZ
 clear hZ hyz hY hmd hd htl he4 he2 he hX hc2 hmm hcr hq2 hq hm hsu hu hs hyy hzz
 show Calls Tryz.prog 187 #[cv b,sv x.val y.val z.val] w fun e w' => e = .returned (sv X.val Y.val Z.val) ∧ Ext w w'
 exact way1 Tryz.func187 [cv b,sv x.val y.val z.val] (.call _ _ _ (fun W hW => zav kzz.out (hF.ext hW)) <|
  .call _ _ _ (fun W hW => zav kyy.out (hF.ext hW)) <|
  .call _ _ _ (fun W hW => zct ks.out (hF.ext hW)) <|
  .call _ _ _ (fun W hW => kadd_p ku.out (hF.ext hW)) <|
  .call _ _ _ (fun W hW => zav ksu.out (hF.ext hW)) <|
  .call _ _ _ (fun W hW => trp_calls km.out (hF.ext hW)) <|
  .call _ _ _ (fun W hW => zav kq.out (hF.ext hW)) <|
  .call _ _ _ (fun W hW => zcj kq2.out (hF.ext hW)) <|
  .call _ _ _ (fun W hW => zcj kcr.out (hF.ext hW)) <|
  .call _ _ _ (fun W hW => zav kmm.out (hF.ext hW)) <|
  .call _ _ _ (fun W hW => zcj kc2.out (hF.ext hW)) <|
  .call _ _ _ (fun W hW => zct kX.out (hF.ext hW)) <|
  .call _ _ _ (fun W hW => zav ke.out (hF.ext hW)) <|
  .call _ _ _ (fun W hW => zcj ke2.out (hF.ext hW)) <|
  .call _ _ _ (fun W hW => zcj ke4.out (hF.ext hW)) <|
  .call _ _ _ (fun W hW => zcj ktl.out (hF.ext hW)) <|
  .call _ _ _ (fun W hW => zct kd.out (hF.ext hW)) <|
  .call _ _ _ (fun W hW => zav kmd.out (hF.ext hW)) <|
  .call _ _ _ (fun W hW => zct kY.out (hF.ext hW)) <|
  .call _ _ _ (fun W hW => zav kyz.out (hF.ext hW)) <|
  .call _ _ _ (fun W hW => zcj kZ.out (hF.ext hW)) <|
  .ret _ fun _ h => ⟨rfl,h⟩) (by kernel_rfl)
theorem pP_calls (w : World) : Calls Tryz.prog 174 #[] w fun e w' => e = .returned (.agg #[vI vU (wd (Pt.pp) 0),vI vU (wd (Pt.pp) 1),vI vU (wd (Pt.pp) 2),vI vU (wd (Pt.pp) 3)]) ∧ Below w.heap.size w w' :=
 way1 Tryz.func174 [] (.ret _ fun _ h => ⟨rfl,h⟩) (by kernel_rfl)
theorem bb_calls (w : World) : Calls Tryz.prog 178 #[] w fun e w' => e = .returned (.agg #[vI vU (wd (Pt.bb) 0),vI vU (wd (Pt.bb) 1),vI vU (wd (Pt.bb) 2),vI vU (wd (Pt.bb) 3)]) ∧ Below w.heap.size w w' :=
 way1 Tryz.func178 [] (.ret _ fun _ h => ⟨rfl,h⟩) (by kernel_rfl)
theorem isz_calls (X : Nat) (hX : X < top) (w : World) :
  Calls Tryz.prog 176 #[nv X] w fun e w' => e = .returned (.bool (decide (X = 0))) ∧ Ext w w':=by
 have k:=veil fun W => zju hX W
 clear hX
 exact way1 Tryz.func176 [nv X] (.ins 5 (binK .eql 58 (.tmp 3) (.tmp 4) (nv X) (nv 0)) (.bool (decide (X = 0))) (fun W _ => zba (gN _ _ _ _ _ W) (k.out W)) <| .ret _ fun _ h => ⟨rfl,h⟩) (by kernel_rfl)
theorem isz_no {X : Nat} (h : X ≠ 0) (hX : X < top) (w : World) : Calls Tryz.prog 176 #[nv X] w fun e w' => e = .returned (.bool false) ∧ Ext w w':=by
 have k:=isz_calls X hX w
 rwa [decide_eq_false h] at k
theorem zjs {X : Nat} (h : X = 0) (w : World) : Calls Tryz.prog 176 #[nv X] w fun e w' => e = .returned (.bool true) ∧ Ext w w':=by
 have k:=isz_calls X (by rw [h]; exact Nat.two_pow_pos 256) w
 rwa [decide_eq_true h] at k
section
variable {P : Program} {o : Oper} {a : Act} {w : World}
end
theorem cmp_in {X : Nat} (h : X < Pt.pp) (w : World) : Calls Tryz.prog 143 #[nv X,nv Pt.pp] w fun e w' => e = .returned (.int .i64 (-1)) ∧ Ext w w' :=
 kcmp X Pt.pp (-1) (by unfold cmpN; rw [if_pos h]) (Nat.lt_trans h zcf) zcf w
theorem cmp_no {X : Nat} (hX : X < top) (w : World) : Calls Tryz.prog 143 #[nv X,nv Pt.pp] w fun e w' => e = .returned (.int .i64 (cmpN X Pt.pp)) ∧ Ext w w' :=
 kcmp X Pt.pp _ rfl hX zcf w
theorem cmp_no_ge {X : Nat} (h : ¬ X < Pt.pp) : decide (0 ≤ cmpN X Pt.pp) = true:=by
 have:=cmp_ge X Pt.pp
 simp only [this,h,not_false_eq_true,decide_true]
theorem pP_is (w : World) : Calls Tryz.prog 174 #[] w fun e w' => e = .returned (nv Pt.pp) ∧ Ext w w':=pP_calls w
theorem bb_is (w : World) : Calls Tryz.prog 178 #[] w fun e w' => e = .returned (nv (Pt.F Pt.bb : Fe).val) ∧ Ext w w':=by
 have h : (Pt.F Pt.bb : Fe).val = Pt.bb:=Nat.mod_eq_of_lt bb_lt
 rw [h]
 exact bb_calls w
theorem Fp.cells {W : World} {b g o : Nat} {vs : List Value} (h : Fp W b) (hne : ¬ g = b) : Fp (W.setCells g o vs) b:=by
 obtain ⟨N,Q,h1,h2⟩:=h
 exact ⟨N,Q,h1,h2.of_block (zht (fun e => hne e.symm) vs o W)⟩
theorem curve_new (w : World) : Calls Tryz.prog 136 #[] w fun e w' => ∃ b,e = .returned (cv b) ∧ Ext w w' ∧ Fp w' b ∧ w.heap.size ≤ b:=by
 have hp : Pt.pp % 2 = 1:=by decide +kernel
 have hp2 : 2 < Pt.pp:=by decide +kernel
 refine (way0 (Post:=fun v W => ∃ b,v = cv b ∧ Ext w W ∧ Fp W b ∧ w.heap.size ≤ b) Tryz.func136 [] (.call _ _ _ (fun W _ => pP_calls W) <|
  .hang 145 #[nv Pt.pp] (α:=Nat) (fun b => .tuple #[ptrTo b,.nilIface]) (fun b W => Fp W b ∧ w.heap.size ≤ b) (fun b g => g = b) (fun _ _ _ h k => ⟨h.1.ext k,h.2⟩) (fun _ _ _ _ _ h hn => ⟨h.1.cells hn,h.2⟩)
   (fun W hW => (new_good Pt.pp hp hp2 zcf W).mono fun e w' ⟨⟨b,N,Q,h1,h2,h3,h4⟩,h5⟩ => ⟨b,h4,h5,⟨⟨N,Q,h1,h2⟩,Nat.le_trans (Below.size hW) h3⟩,fun g hg => by subst hg; exact ⟨.inl h3,h2.lt⟩⟩)
   fun b => .ret (cv b) fun _ h => ⟨b,rfl,h.1,h.2⟩) (by kernel_rfl)).mono fun e w' ⟨v,he,b,hv,h⟩ => ⟨b,by rw [he,hv],h⟩
theorem curve_calls (w : World) : Calls Tryz.prog 136 #[] w fun e w' => ∃ b,e = .returned (cv b) ∧ Fp w' b ∧ Ext w w' :=
 (curve_new w).mono fun _ _ ⟨b,he,hE,hF,_⟩ => ⟨b,he,hF,hE⟩
def hCurve {w0 : World} {Post : Value → World → Prop} {J : World → Prop} (r : ∀ b,OT Tryz.prog w0 Post (fun W => J W ∧ Fp W b)) : OT Tryz.prog w0 Post J :=
 .hang 136 #[] cv (fun b W => Fp W b) (fun b g => g = b) (fun _ _ _ h k => h.ext k) (fun _ _ _ _ _ h hn => h.cells hn)
  (fun W _ => (curve_new W).mono fun _ _ ⟨b,he,hE,hF,hb⟩ => ⟨b,he,hE,hF,fun g hg => by subst hg; exact ⟨.inl hb,hF.lt⟩⟩) r
theorem lift_far (x y : Nat) (w : World) :
  Calls Tryz.prog 185 #[qv x y true] w fun e w' => e = .returned (sv 0 0 0) ∧ Ext w w':=by
 exact way1 Tryz.func185 [qv x y true] (.ret _ fun _ h => ⟨rfl,h⟩) (by kernel_rfl)
theorem lift_near (x y : Nat) (w : World) :
  Calls Tryz.prog 185 #[qv x y false] w fun e w' => e = .returned (sv x y 1) ∧ Ext w w':=by
 exact way1 Tryz.func185 [qv x y false] (.ret _ fun _ h => ⟨rfl,h⟩) (by kernel_rfl)
theorem base_calls (w : World) :
  Calls Tryz.prog 152 #[] w fun e w' => e = .returned (qv Pt.gx Pt.gy false) ∧ Ext w w':=by
 exact way1 Tryz.func152 [] (.ret _ fun _ h => ⟨rfl,h⟩) (by kernel_rfl)
theorem plus_far {b : Nat} (x y z X Y : Nat) {w : World} (_hF : Fp w b) :
  Calls Tryz.prog 188 #[cv b,sv x y z,qv X Y true] w fun e w' => e = .returned (sv x y z) ∧ Ext w w':=by
 exact way1 Tryz.func188 [cv b,sv x y z,qv X Y true] (.ret _ fun _ h => ⟨rfl,h⟩) (by kernel_rfl)
theorem plus_lift {b : Nat} (x y X Y : Nat) {w : World} (_hF : Fp w b) :
  Calls Tryz.prog 188 #[cv b,sv x y 0,qv X Y false] w fun e w' => e = .returned (sv X Y 1) ∧ Ext w w':=by
 exact way1 Tryz.func188 [cv b,sv x y 0,qv X Y false] (.call _ _ _ (fun W _ => zjs rfl W) <|
  .call _ _ _ (fun W _ => lift_near X Y W) <|
  .ret _ fun _ h => ⟨rfl,h⟩) (by kernel_rfl)
def runOf (x z X : Fe) : Fe:=X * (z * z) - x
def riseOf (y z Y : Fe) : Fe:=Y * (z * z * z) - y
def plus3 (x y z X Y : Fe) : Fe × Fe × Fe :=
 let zz : Fe:=z * z
 let u : Fe:=X * zz
 let run : Fe:=u - x
 let zzz : Fe:=zz * z
 let v : Fe:=Y * zzz
 let rise : Fe:=v - y
 let sq : Fe:=run * run
 let cube : Fe:=sq * run
 let cross : Fe:=x * sq
 let rr : Fe:=rise * rise
 let r1 : Fe:=rr - cube
 let c2 : Fe:=cross + cross
 let x3 : Fe:=r1 - c2
 let d : Fe:=cross - x3
 let rd : Fe:=rise * d
 let yc : Fe:=y * cube
 let y3 : Fe:=rd - yc
 let z3 : Fe:=z * run
 (x3,y3,z3)
theorem plus_same {b : Nat} (x y z X Y : Fe) (hz : z.val ≠ 0) (hr : (runOf x z X).val = 0) (hs : (riseOf y z Y).val = 0) {w : World} (hF : Fp w b) :
  Calls Tryz.prog 188 #[cv b,sv x.val y.val z.val,qv X.val Y.val false] w fun e w' => e = .returned (sv (twice3 x y z).1.val (twice3 x y z).2.1.val (twice3 x y z).2.2.val) ∧ Ext w w':=by
 obtain ⟨zz,hzz⟩ : ∃ t : Fe,t = z * z:=⟨_,rfl⟩
 obtain ⟨u,hu⟩ : ∃ t : Fe,t = X * zz:=⟨_,rfl⟩
 obtain ⟨run,hrun⟩ : ∃ t : Fe,t = u - x:=⟨_,rfl⟩
 obtain ⟨zzz,hzzz⟩ : ∃ t : Fe,t = zz * z:=⟨_,rfl⟩
 obtain ⟨v,hv⟩ : ∃ t : Fe,t = Y * zzz:=⟨_,rfl⟩
 obtain ⟨rise,hrise⟩ : ∃ t : Fe,t = v - y:=⟨_,rfl⟩
 have h1 : runOf x z X = run:=by subst hrun hu hzz; rfl
 have h2 : riseOf y z Y = rise:=by subst hrise hv hzzz hzz; rfl
 rw [h1] at hr
 rw [h2] at hs
 clear h1 h2
 have kzz:=veil hzz
 have ku:=veil hu
 have krun:=veil hrun
 have kzzz:=veil hzzz
 have kv:=veil hv
 have krise:=veil hrise
 clear hrise hv hzzz hrun hu hzz
 have kz0:=veil hz
 have kr:=veil hr
 have ks:=veil hs
 clear hz hr hs
 obtain ⟨X3,Y3,Z3,h3⟩ : ∃ X3 Y3 Z3,twice3 x y z = (X3,Y3,Z3):=⟨_,_,_,rfl⟩
 have KT:=veil (fun W (hF : Fp W b) => twice_calls x y z hF)
 rw [h3] at KT ⊢
 clear h3
 show Calls Tryz.prog 188 #[cv b,sv x.val y.val z.val,qv X.val Y.val false] w fun e w' => e = .returned (sv X3.val Y3.val Z3.val) ∧ Ext w w'
 exact way1 Tryz.func188 [cv b,sv x.val y.val z.val,qv X.val Y.val false] (.call _ _ _ (fun W _ => isz_no kz0.out (zdc _) W) <|
  .call _ _ _ (fun W hW => zav kzz.out (hF.ext hW)) <|
  .call _ _ _ (fun W hW => zav ku.out (hF.ext hW)) <|
  .call _ _ _ (fun W hW => zct krun.out (hF.ext hW)) <|
  .call _ _ _ (fun W hW => zav kzzz.out (hF.ext hW)) <|
  .call _ _ _ (fun W hW => zav kv.out (hF.ext hW)) <|
  .call _ _ _ (fun W hW => zct krise.out (hF.ext hW)) <|
  .call _ _ _ (fun W _ => zjs kr.out W) <|
  .call _ _ _ (fun W _ => zjs ks.out W) <|
  .call _ _ _ (fun W hW => KT.out W (hF.ext hW)) <|
  .ret _ fun _ h => ⟨rfl,h⟩) (by kernel_rfl)
theorem plus_opp {b : Nat} (x y z X Y : Fe) (hz : z.val ≠ 0) (hr : (runOf x z X).val = 0) (hs : (riseOf y z Y).val ≠ 0) {w : World} (hF : Fp w b) :
  Calls Tryz.prog 188 #[cv b,sv x.val y.val z.val,qv X.val Y.val false] w fun e w' => e = .returned (sv 0 0 0) ∧ Ext w w':=by
 obtain ⟨zz,hzz⟩ : ∃ t : Fe,t = z * z:=⟨_,rfl⟩
 obtain ⟨u,hu⟩ : ∃ t : Fe,t = X * zz:=⟨_,rfl⟩
 obtain ⟨run,hrun⟩ : ∃ t : Fe,t = u - x:=⟨_,rfl⟩
 obtain ⟨zzz,hzzz⟩ : ∃ t : Fe,t = zz * z:=⟨_,rfl⟩
 obtain ⟨v,hv⟩ : ∃ t : Fe,t = Y * zzz:=⟨_,rfl⟩
 obtain ⟨rise,hrise⟩ : ∃ t : Fe,t = v - y:=⟨_,rfl⟩
 have h1 : runOf x z X = run:=by subst hrun hu hzz; rfl
 have h2 : riseOf y z Y = rise:=by subst hrise hv hzzz hzz; rfl
 rw [h1] at hr
 rw [h2] at hs
 clear h1 h2
 have kzz:=veil hzz
 have ku:=veil hu
 have krun:=veil hrun
 have kzzz:=veil hzzz
 have kv:=veil hv
 have krise:=veil hrise
 clear hrise hv hzzz hrun hu hzz
 have kz0:=veil hz
 have kr:=veil hr
 have ks:=veil hs
 clear hz hr hs
 exact way1 Tryz.func188 [cv b,sv x.val y.val z.val,qv X.val Y.val false] (.call _ _ _ (fun W _ => isz_no kz0.out (zdc _) W) <|
  .call _ _ _ (fun W hW => zav kzz.out (hF.ext hW)) <|
  .call _ _ _ (fun W hW => zav ku.out (hF.ext hW)) <|
  .call _ _ _ (fun W hW => zct krun.out (hF.ext hW)) <|
  .call _ _ _ (fun W hW => zav kzzz.out (hF.ext hW)) <|
  .call _ _ _ (fun W hW => zav kv.out (hF.ext hW)) <|
  .call _ _ _ (fun W hW => zct krise.out (hF.ext hW)) <|
  .call _ _ _ (fun W _ => zjs kr.out W) <|
  .call _ _ _ (fun W _ => isz_no ks.out (zdc _) W) <|
  .ret _ fun _ h => ⟨rfl,h⟩) (by kernel_rfl)
theorem plus_else {b : Nat} (x y z X Y : Fe) (hz : z.val ≠ 0) (hr : (runOf x z X).val ≠ 0) {w : World} (hF : Fp w b) :
  Calls Tryz.prog 188 #[cv b,sv x.val y.val z.val,qv X.val Y.val false] w fun e w' => e = .returned (sv (plus3 x y z X Y).1.val (plus3 x y z X Y).2.1.val (plus3 x y z X Y).2.2.val) ∧ Ext w w':=by
 obtain ⟨zz,hzz⟩ : ∃ t : Fe,t = z * z:=⟨_,rfl⟩
 obtain ⟨u,hu⟩ : ∃ t : Fe,t = X * zz:=⟨_,rfl⟩
 obtain ⟨run,hrun⟩ : ∃ t : Fe,t = u - x:=⟨_,rfl⟩
 obtain ⟨zzz,hzzz⟩ : ∃ t : Fe,t = zz * z:=⟨_,rfl⟩
 obtain ⟨v,hv⟩ : ∃ t : Fe,t = Y * zzz:=⟨_,rfl⟩
 obtain ⟨rise,hrise⟩ : ∃ t : Fe,t = v - y:=⟨_,rfl⟩
 obtain ⟨sq,hsq⟩ : ∃ t : Fe,t = run * run:=⟨_,rfl⟩
 obtain ⟨cube,hcube⟩ : ∃ t : Fe,t = sq * run:=⟨_,rfl⟩
 obtain ⟨cross,hcross⟩ : ∃ t : Fe,t = x * sq:=⟨_,rfl⟩
 obtain ⟨rr,hrr⟩ : ∃ t : Fe,t = rise * rise:=⟨_,rfl⟩
 obtain ⟨r1,hr1⟩ : ∃ t : Fe,t = rr - cube:=⟨_,rfl⟩
 obtain ⟨c2,hc2⟩ : ∃ t : Fe,t = cross + cross:=⟨_,rfl⟩
 obtain ⟨x3,hx3⟩ : ∃ t : Fe,t = r1 - c2:=⟨_,rfl⟩
 obtain ⟨d,hd⟩ : ∃ t : Fe,t = cross - x3:=⟨_,rfl⟩
 obtain ⟨rd,hrd⟩ : ∃ t : Fe,t = rise * d:=⟨_,rfl⟩
 obtain ⟨yc,hyc⟩ : ∃ t : Fe,t = y * cube:=⟨_,rfl⟩
 obtain ⟨y3,hy3⟩ : ∃ t : Fe,t = rd - yc:=⟨_,rfl⟩
 obtain ⟨z3,hz3⟩ : ∃ t : Fe,t = z * run:=⟨_,rfl⟩
 have h1 : runOf x z X = run:=by subst hrun hu hzz; rfl
 rw [h1] at hr
 clear h1
 have hfin : plus3 x y z X Y = (x3,y3,z3):=by
  subst hz3 hy3 hyc hrd hd hx3 hc2 hr1 hrr hcross hcube hsq hrise hv hzzz hrun hu hzz
  rfl
 rw [hfin]
 clear hfin
 have kzz:=veil hzz
 have ku:=veil hu
 have krun:=veil hrun
 have kzzz:=veil hzzz
 have kv:=veil hv
 have krise:=veil hrise
 have ksq:=veil hsq
 have kcube:=veil hcube
 have kcross:=veil hcross
 have krr:=veil hrr
 have kr1:=veil hr1
 have kc2:=veil hc2
 have kx3:=veil hx3
 have kd:=veil hd
 have krd:=veil hrd
 have kyc:=veil hyc
 have ky3:=veil hy3
 have kz3:=veil hz3
 clear hz3 hy3 hyc hrd hd hx3 hc2 hr1 hrr hcross hcube hsq hrise hv hzzz hrun hu hzz
 have kz0:=veil hz
 have kr:=veil hr
 clear hz hr
 show Calls Tryz.prog 188 #[cv b,sv x.val y.val z.val,qv X.val Y.val false] w fun e w' => e = .returned (sv x3.val y3.val z3.val) ∧ Ext w w'
 exact way1 Tryz.func188 [cv b,sv x.val y.val z.val,qv X.val Y.val false] (.call _ _ _ (fun W _ => isz_no kz0.out (zdc _) W) <|
  .call _ _ _ (fun W hW => zav kzz.out (hF.ext hW)) <|
  .call _ _ _ (fun W hW => zav ku.out (hF.ext hW)) <|
  .call _ _ _ (fun W hW => zct krun.out (hF.ext hW)) <|
  .call _ _ _ (fun W hW => zav kzzz.out (hF.ext hW)) <|
  .call _ _ _ (fun W hW => zav kv.out (hF.ext hW)) <|
  .call _ _ _ (fun W hW => zct krise.out (hF.ext hW)) <|
  .call _ _ _ (fun W _ => isz_no kr.out (zdc _) W) <|
  .call _ _ _ (fun W hW => zav ksq.out (hF.ext hW)) <|
  .call _ _ _ (fun W hW => zav kcube.out (hF.ext hW)) <|
  .call _ _ _ (fun W hW => zav kcross.out (hF.ext hW)) <|
  .call _ _ _ (fun W hW => zav krr.out (hF.ext hW)) <|
  .call _ _ _ (fun W hW => zct kr1.out (hF.ext hW)) <|
  .call _ _ _ (fun W hW => zcj kc2.out (hF.ext hW)) <|
  .call _ _ _ (fun W hW => zct kx3.out (hF.ext hW)) <|
  .call _ _ _ (fun W hW => zct kd.out (hF.ext hW)) <|
  .call _ _ _ (fun W hW => zav krd.out (hF.ext hW)) <|
  .call _ _ _ (fun W hW => zav kyc.out (hF.ext hW)) <|
  .call _ _ _ (fun W hW => zct ky3.out (hF.ext hW)) <|
  .call _ _ _ (fun W hW => zav kz3.out (hF.ext hW)) <|
  .ret _ fun _ h => ⟨rfl,h⟩) (by kernel_rfl)
theorem flat_far {b : Nat} (x y : Nat) {w : World} (hF : Fp w b) :
  Calls Tryz.prog 189 #[cv b,sv x y 0] w fun e w' => e = .returned (qv 0 0 true) ∧ Ext w w':=by
 exact way1 Tryz.func189 [cv b,sv x y 0] (.call _ _ _ (fun W hW => kinv_z (hF.ext hW)) <|
  .ret _ fun _ h => ⟨rfl,h⟩) (by kernel_rfl)
def flat2 (x y z : Fe) : Fe × Fe:=(x * (Pt.E256.inv z * Pt.E256.inv z),y * (Pt.E256.inv z * Pt.E256.inv z * Pt.E256.inv z))
theorem flat_near {b : Nat} (x y z : Fe) (hz : z ≠ 0) {w : World} (hF : Fp w b) :
  Calls Tryz.prog 189 #[cv b,sv x.val y.val z.val] w fun e w' => e = .returned (qv (flat2 x y z).1.val (flat2 x y z).2.val false) ∧ Ext w w':=by
 obtain ⟨iv,hiv⟩ : ∃ t : Fe,t = Pt.E256.inv z:=⟨_,rfl⟩
 obtain ⟨sq,hsq⟩ : ∃ t : Fe,t = iv * iv:=⟨_,rfl⟩
 obtain ⟨X,hX⟩ : ∃ t : Fe,t = x * sq:=⟨_,rfl⟩
 obtain ⟨cb,hcb⟩ : ∃ t : Fe,t = sq * iv:=⟨_,rfl⟩
 obtain ⟨Y,hY⟩ : ∃ t : Fe,t = y * cb:=⟨_,rfl⟩
 have hfin : flat2 x y z = (X,Y):=by
  unfold flat2
  rw [hY,hcb,hX,hsq,hiv]
 rw [hfin]
 clear hfin
 have kiv:=veil hiv
 have ksq:=veil hsq
 have kX:=veil hX
 have kcb:=veil hcb
 have kY:=veil hY
 clear hY hcb hX hsq hiv
 have kz0:=veil hz
 clear hz
 show Calls Tryz.prog 189 #[cv b,sv x.val y.val z.val] w fun e w' => e = .returned (qv X.val Y.val false) ∧ Ext w w'
 exact way1 Tryz.func189 [cv b,sv x.val y.val z.val] (.call _ _ _ (fun W hW => kinv_p kz0.out kiv.out (hF.ext hW)) <|
  .call _ _ _ (fun W hW => zav ksq.out (hF.ext hW)) <|
  .call _ _ _ (fun W hW => zav kX.out (hF.ext hW)) <|
  .call _ _ _ (fun W hW => zav kcb.out (hF.ext hW)) <|
  .call _ _ _ (fun W hW => zav kY.out (hF.ext hW)) <|
  .ret _ fun _ h => ⟨rfl,h⟩) (by kernel_rfl)
theorem on_far0 {b : Nat} (Y : Nat) (hY : Y < top) {w : World} (_hF : Fp w b) :
  Calls Tryz.prog 137 #[cv b,qv 0 Y true] w fun e w' => e = .returned (.bool (decide (Y = 0))) ∧ Ext w w':=by
 have kY:=veil hY
 clear hY
 obtain ⟨q,hq⟩ : ∃ q,q = decide (Y = 0):=⟨_,rfl⟩
 rw [← hq]
 have kq:=veil hq
 clear hq
 exact way1 Tryz.func137 [cv b,qv 0 Y true] (.call _ _ _ (fun W _ => zjs rfl W) <|
  .call 176 #[nv Y] (.bool q) (fun W _ => by rw [kq.out]; exact isz_calls Y kY.out W) <|
  .ret _ fun _ h => ⟨rfl,h⟩) (by kernel_rfl)
theorem on_far1 {b : Nat} (X Y : Nat) (hX : X < top) (h0 : X ≠ 0) {w : World} (_hF : Fp w b) :
  Calls Tryz.prog 137 #[cv b,qv X Y true] w fun e w' => e = .returned (.bool false) ∧ Ext w w':=by
 have kX:=veil hX
 have k0:=veil h0
 clear hX h0
 exact way1 Tryz.func137 [cv b,qv X Y true] (.call _ _ _ (fun W _ => isz_no k0.out kX.out W) <|
  .ret _ fun _ h => ⟨rfl,h⟩) (by kernel_rfl)
theorem on_out {b : Nat} (X Y : Nat) (hX : X < top) (h0 : ¬ X < Pt.pp) {w : World} (_hF : Fp w b) :
  Calls Tryz.prog 137 #[cv b,qv X Y false] w fun e w' => e = .returned (.bool false) ∧ Ext w w':=by
 have kX:=veil hX
 have k0:=veil h0
 clear hX h0
 exact way1 Tryz.func137 [cv b,qv X Y false] (.call _ _ _ (fun W _ => pP_is W) <|
  .call _ _ _ (fun W _ => cmp_no kX.out W) <|
  .ins 20 (binK .geq 3 (.tmp 19) (.const (.int .i64 0)) (.int .i64 (cmpN X Pt.pp)) (.int .i64 0)) _ (fun W _ => zed (cmp_no_ge k0.out) W) <|
  .ret _ fun _ h => ⟨rfl,h⟩) (by kernel_rfl)
theorem on_high {b : Nat} (X Y : Nat) (hX : X < Pt.pp) (hY : Y < top) (h0 : ¬ Y < Pt.pp) {w : World} (_hF : Fp w b) :
  Calls Tryz.prog 137 #[cv b,qv X Y false] w fun e w' => e = .returned (.bool false) ∧ Ext w w':=by
 have kX:=veil hX
 have kY:=veil hY
 have k0:=veil h0
 clear hX hY h0
 exact way1 Tryz.func137 [cv b,qv X Y false] (.call _ _ _ (fun W _ => pP_is W) <|
  .call _ _ _ (fun W _ => cmp_in kX.out W) <|
  .call _ _ _ (fun W _ => pP_is W) <|
  .call _ _ _ (fun W _ => cmp_no kY.out W) <|
  .ins 26 (binK .geq 3 (.tmp 25) (.const (.int .i64 0)) (.int .i64 (cmpN Y Pt.pp)) (.int .i64 0)) _ (fun W _ => zed (cmp_no_ge k0.out) W) <|
  .ret _ fun _ h => ⟨rfl,h⟩) (by kernel_rfl)
theorem on_near {b : Nat} (x y : Fe) {w : World} (hF : Fp w b) :
  Calls Tryz.prog 137 #[cv b,qv x.val y.val false] w fun e w' => e = .returned (.bool (decide ((y * y).val = (x * x * x - (x + x + x) + Pt.F Pt.bb).val))) ∧ Ext w w':=by
 obtain ⟨sq,hsq⟩ : ∃ t : Fe,t = x * x:=⟨_,rfl⟩
 obtain ⟨cube,hcube⟩ : ∃ t : Fe,t = sq * x:=⟨_,rfl⟩
 obtain ⟨lhs,hlhs⟩ : ∃ t : Fe,t = y * y:=⟨_,rfl⟩
 obtain ⟨tr,htr⟩ : ∃ t : Fe,t = x + x + x:=⟨_,rfl⟩
 obtain ⟨d,hd⟩ : ∃ t : Fe,t = cube - tr:=⟨_,rfl⟩
 obtain ⟨r,hr⟩ : ∃ t : Fe,t = d + Pt.F Pt.bb:=⟨_,rfl⟩
 have hfin : x * x * x - (x + x + x) + Pt.F Pt.bb = r:=by
  subst hr hd htr hlhs hcube hsq
  rfl
 rw [hfin,← hlhs]
 clear hfin
 have ksq:=veil hsq
 have kcube:=veil hcube
 have klhs:=veil hlhs
 have ktr:=veil htr
 have kd:=veil hd
 have kr:=veil hr
 clear hr hd htr hlhs hcube hsq
 have kx:=veil x.isLt
 have ky:=veil y.isLt
 exact way1 Tryz.func137 [cv b,qv x.val y.val false] (.call _ _ _ (fun W _ => pP_is W) <|
  .call _ _ _ (fun W _ => cmp_in kx.out W) <|
  .call _ _ _ (fun W _ => pP_is W) <|
  .call _ _ _ (fun W _ => cmp_in ky.out W) <|
  .call _ _ _ (fun W hW => zav ksq.out (hF.ext hW)) <|
  .call _ _ _ (fun W hW => zav kcube.out (hF.ext hW)) <|
  .call _ _ _ (fun W hW => zav klhs.out (hF.ext hW)) <|
  .call _ _ _ (fun W hW => trp_calls ktr.out (hF.ext hW)) <|
  .call _ _ _ (fun W hW => zct kd.out (hF.ext hW)) <|
  .call _ _ _ (fun W _ => bb_is W) <|
  .call _ _ _ (fun W hW => kadd_p kr.out (hF.ext hW)) <|
  .ins 59 (binK .eql 58 (.tmp 46) (.tmp 58) (nv lhs.val) (nv r.val)) (.bool (decide (lhs.val = r.val))) (fun W _ => zba (gN _ _ _ _ _ W) (zga (zdc _) (zdc _) W)) <|
  .ret _ fun _ h => ⟨rfl,h⟩) (by kernel_rfl)
def Rep (x y z : Fe) : Pt.P Pt.pp → Prop
 | none => z = 0
 | some (X,Y) => z ≠ 0 ∧ x = X * (z * z) ∧ y = Y * (z * z * z)
section
variable {n : Nat} [NeZero n]
theorem rt_m {X Y z l x Z s u : Fin n} (hl : l * (Y + Y) = 3 * (X * X - 1)) (hx : x = X * (z * z)) (hZ : Z = Y * (z * z * z) * z + Y * (z * z * z) * z) (hs : s = x - z * z) (hu : u = x + z * z) : s * u + s * u + s * u = l * Z:=by
 subst hs hu hx hZ
 have h : l * (Y * (z * z * z) * z + Y * (z * z * z) * z) = l * (Y + Y) * (z * z * z * z):=by grobner
 rw [h,hl]
 grobner
theorem rt_c {X Y z x y Z : Fin n} (hx : x = X * (z * z)) (hy : y = Y * (z * z * z)) (hZ : Z = y * z + y * z) : (x * (y * y) + x * (y * y)) + (x * (y * y) + x * (y * y)) = X * (Z * Z):=by
 subst hZ hy hx
 grobner
theorem rt_x {m l Z c X : Fin n} (hm : m = l * Z) (hc : c = X * (Z * Z)) : m * m - (c + c) = (l * l - X - X) * (Z * Z):=by
 subst hm hc
 grobner
theorem rt_t {Y z y Z : Fin n} (hy : y = Y * (z * z * z)) (hZ : Z = y * z + y * z) : ((y * y * (y * y) + y * y * (y * y)) + (y * y * (y * y) + y * y * (y * y))) + ((y * y * (y * y) + y * y * (y * y)) + (y * y * (y * y) + y * y * (y * y))) = Y * (Z * Z * Z):=by
 subst hZ hy
 grobner
theorem rt_y {m l Z c X x3 X3 t Y : Fin n} (hm : m = l * Z) (hc : c = X * (Z * Z)) (hx : x3 = X3 * (Z * Z)) (ht : t = Y * (Z * Z * Z)) : m * (c - x3) - t = (l * (X - X3) - Y) * (Z * Z * Z):=by
 subst hm hc hx ht
 grobner
theorem rp_run {X1 X2 z x : Fin n} (hx : x = X1 * (z * z)) : X2 * (z * z) - x = (X2 - X1) * (z * z):=by subst hx; grobner
theorem rp_rise {Y1 Y2 z y : Fin n} (hy : y = Y1 * (z * z * z)) : Y2 * (z * z * z) - y = (Y2 - Y1) * (z * z * z):=by subst hy; grobner
theorem rp_l {X1 X2 Y1 Y2 z l run Z : Fin n} (hl : l * (X2 - X1) = Y2 - Y1) (hr : run = (X2 - X1) * (z * z)) (hZ : Z = z * run) : (Y2 - Y1) * (z * z * z) = l * Z:=by
 subst hZ hr
 rw [← hl]
 grobner
theorem rp_x {X1 X2 z l run Z rise x : Fin n} (hx : x = X1 * (z * z)) (hr : run = (X2 - X1) * (z * z)) (hZ : Z = z * run) (hs : rise = l * Z) :
  rise * rise - run * run * run - (x * (run * run) + x * (run * run)) = (l * l - X1 - X2) * (Z * Z):=by
 subst hs hZ hr hx
 grobner
theorem rp_y {X1 Y1 X2 z l run Z rise x y x3 X3 : Fin n} (hx : x = X1 * (z * z)) (hy : y = Y1 * (z * z * z)) (hr : run = (X2 - X1) * (z * z)) (hZ : Z = z * run) (hs : rise = l * Z) (h3 : x3 = X3 * (Z * Z)) :
  rise * (x * (run * run) - x3) - y * (run * run * run) = (l * (X1 - X3) - Y1) * (Z * Z * Z):=by
 subst h3 hs hZ hr hx hy
 grobner
theorem rf_x {X x z t : Fin n} (hx : x = X * (z * z)) (ht : z * t = 1) : x * (t * t) = X:=by
 subst hx
 have h : X * (z * z) * (t * t) = X * (z * t) * (z * t):=by grobner
 rw [h,ht]
 grobner
theorem rf_y {Y y z t : Fin n} (hy : y = Y * (z * z * z)) (ht : z * t = 1) : y * (t * t * t) = Y:=by
 subst hy
 have h : Y * (z * z * z) * (t * t * t) = Y * (z * t) * (z * t) * (z * t):=by grobner
 rw [h,ht]
 grobner
theorem three_x (x : Fin n) : x + x + x = 3 * x:=by grobner
theorem opp_of {y1 y2 : Fin n} (h : (y1 - y2) * (y1 - (0 - y2)) = 0) (hz : ∀ x y : Fin n,x * y = 0 → x = 0 ∨ y = 0) (hn : y1 ≠ y2) : y1 = 0 - y2:=by
 rcases hz _ _ h with h | h
 ·
  exact absurd (Pt.eq_of_sub h) hn
 ·
  exact Pt.eq_of_sub h
theorem opp_sq {y1 y2 : Fin n} (h : y1 * y1 = y2 * y2) : (y1 - y2) * (y1 - (0 - y2)) = 0:=by grobner
end
theorem fe_ne {x : Fe} (h : x ≠ 0) : x.val ≠ 0:=fun e => h (Fin.ext (by rw [e,zfq]))
theorem fe_z {x : Fe} (h : x = 0) : x.val = 0:=by rw [h,zfq]
theorem noz {x y : Fe} (hx : x ≠ 0) (hy : y ≠ 0) : x * y ≠ 0:=fun e => by
 rcases Pt.good.hz _ _ e with h | h
 ·
  exact hx h
 ·
  exact hy h
section
variable {n : Nat} [NeZero n]
theorem r0 (y : Fin n) : y * 0 + y * 0 = 0:=by grobner
theorem r1 (Y z : Fin n) : Y * (z * z * z) * z + Y * (z * z * z) * z = (Y + Y) * (z * z * (z * z)):=by grobner
theorem r2 (u i d : Fin n) (h : d * i = 1) : u * i * d = u:=by
 have e : u * i * d = u * (d * i):=by grobner
 rw [e,h]
 grobner
theorem r3 (X : Fin n) : X = X * (1 * 1):=by grobner
theorem r4 (X : Fin n) : X = X * (1 * 1 * 1):=by grobner
theorem r5 (X z : Fin n) : (X - X) * z = 0:=by grobner
end
theorem rep_twice {x y z : Fe} {p : Pt.P Pt.pp} (hp : Pt.E256.on p) (h : Rep x y z p) : Rep (twice3 x y z).1 (twice3 x y z).2.1 (twice3 x y z).2.2 (Pt.E256.add p p):=by
 rcases p with _ | ⟨X,Y⟩
 ·
  have hz : z = 0:=h
  subst hz
  exact r0 y
 ·
  obtain ⟨hz,hx,hy⟩:=h
  have hd:=Pt.down_same hp
  have hn : ¬ (X = X ∧ Y = 0 - Y):=fun e => hd ((Pt.ring_neg _ _).1 e.2)
  rw [Pt.add_near hn,Pt.lam_same]
  have hl:=r2 (3 * (X * X - 1)) _ _ (Pt.good.hinv (Y + Y) hd)
  generalize 3 * (X * X - 1) * Pt.E256.inv (Y + Y) = l at hl ⊢
  have hZ : y * z + y * z = Y * (z * z * z) * z + Y * (z * z * z) * z:=by rw [hy]
  have hm:=rt_m hl hx hZ rfl rfl
  have hc:=rt_c hx hy rfl
  have h3:=rt_x hm hc
  refine ⟨?_,h3,rt_y hm hc h3 (rt_t hy rfl)⟩
  show y * z + y * z ≠ 0
  rw [hZ,r1]
  exact noz hd (noz (noz hz hz) (noz hz hz))
def qvP (p : Pt.P Pt.pp) : Value:=qv (Pt.pX p) (Pt.pY p) (Pt.pFar p)
theorem twice_rep {x y z : Fe} {p : Pt.P Pt.pp} (hp : Pt.E256.on p) (h : Rep x y z p) : ∃ x' y' z' : Fe,Rep x' y' z' (Pt.E256.add p p) ∧
  ∀ (b : Nat) (w : World),Fp w b → Calls Tryz.prog 187 #[cv b,sv x.val y.val z.val] w fun e w' => e = .returned (sv x'.val y'.val z'.val) ∧ Ext w w' :=
 ⟨_,_,_,rep_twice hp h,fun _ _ hF => twice_calls x y z hF⟩
theorem plus_rep {x y z : Fe} {p q : Pt.P Pt.pp} (hp : Pt.E256.on p) (hq : Pt.E256.on q) (h : Rep x y z p) : ∃ x' y' z' : Fe,Rep x' y' z' (Pt.E256.add p q) ∧
  ∀ (b : Nat) (w : World),Fp w b → Calls Tryz.prog 188 #[cv b,sv x.val y.val z.val,qvP q] w fun e w' => e = .returned (sv x'.val y'.val z'.val) ∧ Ext w w':=by
 rcases q with _ | ⟨X2,Y2⟩
 ·
  rw [Pt.add_none]
  exact ⟨_,_,_,h,fun _ _ hF => plus_far x.val y.val z.val 0 0 hF⟩
 rcases p with _ | ⟨X1,Y1⟩
 ·
  have hz : z = 0:=h
  subst hz
  rw [Pt.none_add,zfq]
  refine ⟨X2,Y2,1,⟨?_,r3 X2,r4 Y2⟩,fun b w hF => ?_⟩
  ·
   intro e
   have:=congrArg Fin.val e
   rw [v_one,zfq] at this
   exact absurd this (by decide)
  ·
   rw [v_one]
   exact plus_lift x.val y.val X2.val Y2.val hF
 ·
  obtain ⟨hz,hx,hy⟩:=h
  have hz3 : z * z * z ≠ 0:=noz (noz hz hz) hz
  have hrun : runOf x z X2 = (X2 - X1) * (z * z):=rp_run hx
  have hrise : riseOf y z Y2 = (Y2 - Y1) * (z * z * z):=rp_rise hy
  by_cases hX : X1 = X2
  ·
   subst hX
   have h0 : (runOf x z X1).val = 0:=fe_z (by rw [hrun]; exact r5 _ _)
   by_cases hY : Y1 = Y2
   ·
    subst hY
    have h1 : (riseOf y z Y1).val = 0:=fe_z (by rw [hrise]; exact r5 _ _)
    exact ⟨_,_,_,rep_twice hp ⟨hz,hx,hy⟩,fun _ _ hF => plus_same x y z X1 Y1 (fe_ne hz) h0 h1 hF⟩
   ·
    have h1 : (riseOf y z Y2).val ≠ 0:=fe_ne (by rw [hrise]; exact noz (fun e => hY (Pt.eq_of_sub e).symm) hz3)
    have he : Y1 * Y1 = Y2 * Y2:=by
     have e1 : Y1 * Y1 = _:=(Pt.on_iff X1 Y1).1 hp
     have e2 : Y2 * Y2 = _:=(Pt.on_iff X1 Y2).1 hq
     rw [e1,e2]
    have ho:=opp_of (opp_sq he) Pt.good.hz hY
    rw [Pt.add_far ⟨rfl,ho⟩]
    refine ⟨0,0,0,rfl,fun b w hF => ?_⟩
    rw [zfq]
    exact plus_opp x y z X1 Y2 (fe_ne hz) h0 h1 hF
  ·
   have hd : X2 - X1 ≠ 0:=fun e => hX (Pt.eq_of_sub e).symm
   have h0 : runOf x z X2 ≠ 0:=by rw [hrun]; exact noz hd (noz hz hz)
   rw [Pt.add_near (fun e => hX e.1),Pt.lam_else (fun e => hX e.1)]
   have hl:=r2 (Y2 - Y1) _ _ (Pt.good.hinv (X2 - X1) hd)
   generalize (Y2 - Y1) * Pt.E256.inv (X2 - X1) = l at hl ⊢
   have hs : riseOf y z Y2 = l * (z * runOf x z X2):=by rw [hrise]; exact rp_l hl hrun rfl
   have h3:=rp_x (X2:=X2) hx hrun rfl hs
   exact ⟨_,_,_,⟨noz hz h0,h3,rp_y (X2:=X2) hx hy hrun rfl hs h3⟩,fun _ _ hF => plus_else x y z X2 Y2 (fe_ne hz) (fe_ne h0) hF⟩
theorem lift_rep (p : Pt.P Pt.pp) : ∃ x y z : Fe,Rep x y z p ∧ ∀ w,Calls Tryz.prog 185 #[qvP p] w fun e w' => e = .returned (sv x.val y.val z.val) ∧ Ext w w':=by
 rcases p with _ | ⟨X,Y⟩
 ·
  refine ⟨0,0,0,rfl,fun w => ?_⟩
  rw [zfq]
  exact lift_far 0 0 w
 ·
  refine ⟨X,Y,1,⟨?_,r3 X,r4 Y⟩,fun w => ?_⟩
  ·
   intro e
   have:=congrArg Fin.val e
   rw [v_one,zfq] at this
   exact absurd this (by decide)
  ·
   rw [v_one]
   exact lift_near X.val Y.val w
theorem flat_rep {b : Nat} {x y z : Fe} {p : Pt.P Pt.pp} (h : Rep x y z p) {w : World} (hF : Fp w b) :
  Calls Tryz.prog 189 #[cv b,sv x.val y.val z.val] w fun e w' => e = .returned (qvP p) ∧ Ext w w':=by
 rcases p with _ | ⟨X,Y⟩
 ·
  have hz : z = 0:=h
  subst hz
  rw [zfq]
  exact flat_far x.val y.val hF
 ·
  obtain ⟨hz,hx,hy⟩:=h
  have ht:=Pt.good.hinv z hz
  refine (flat_near x y z hz hF).mono fun _ _ ⟨he,hw⟩ => ⟨?_,hw⟩
  rw [he]
  have e1 : (flat2 x y z).1 = X:=rf_x hx ht
  have e2 : (flat2 x y z).2 = Y:=rf_y hy ht
  rw [e1,e2]
  rfl
theorem on_calls {b : Nat} (X Y : Nat) (f : Bool) (hX : X < top) (hY : Y < top) {w : World} (hF : Fp w b) :
  Calls Tryz.prog 137 #[cv b,qv X Y f] w fun e w' => e = .returned (.bool (onB X Y f)) ∧ Ext w w':=by
 unfold onB
 cases f with
 | true =>
  by_cases h0 : X = 0
  ·
   subst h0
   simp only [if_true,decide_true,Bool.true_and]
   exact on_far0 Y hY hF
  ·
   simp only [if_true,h0,decide_false,Bool.false_and]
   exact on_far1 X Y hX h0 hF
 | false =>
  by_cases hx : X < Pt.pp
  ·
   by_cases hy : Y < Pt.pp
   ·
    simp only [Bool.false_eq_true,if_false,hx,hy,decide_true,Bool.true_and]
    have k:=on_near (b:=b) ⟨X,hx⟩ ⟨Y,hy⟩ hF
    rw [three_x,← zhm,← Pt.v_mul] at k
    exact k
   ·
    simp only [Bool.false_eq_true,if_false,hx,hy,decide_true,decide_false,Bool.true_and,Bool.false_and]
    exact on_high X Y hx hY hy hF
  ·
   simp only [Bool.false_eq_true,if_false,hx,decide_false,Bool.false_and]
   exact on_out X Y hX hx hF
theorem on_yes {b : Nat} (q : Pt.Q) {w : World} (hF : Fp w b) : Calls Tryz.prog 137 #[cv b,qvP q.1] w fun e w' => e = .returned (.bool true) ∧ Ext w w':=by
 have k:=on_calls (Pt.pX q.1) (Pt.pY q.1) (Pt.pFar q.1) (p_top q.1).1 (p_top q.1).2 hF
 rw [onB_of] at k
 exact k
theorem Fp.but {w W : World} {b r : Nat} (h : Fp w b) (hB : But r w W) (hne : b ≠ r) : Fp W b:=by
 obtain ⟨N,Q,h1,h2⟩:=h
 exact ⟨N,Q,h1,h2.of_block (hB.block b h2.lt (by intro e; simp at e; exact hne e))⟩
theorem on_is (X Y : Nat) (f : Bool) (hX : X < top) (hY : Y < top) (w : World) :
  Calls Tryz.prog 89 #[qv X Y f] w fun e w' => e = .returned (.bool (onB X Y f)) ∧ Ext w w':=by
 have KO:=veil (fun (b : Nat) (w : World) (hF : Fp w b) => on_calls X Y f hX hY hF)
 obtain ⟨r,hr⟩ : ∃ r,r = onB X Y f:=⟨_,rfl⟩
 rw [← hr] at KO ⊢
 clear hX hY hr
 unfold qv qc
 go_enter Tryz.func89,Tryz.ntmps89
 go_upto_region 1 with (fail)
 refine wp_via1 fun w1 hx b0 => ?_
 have b0 : w1.heap[w.heap.size]? = some (.cells (qc X Y f) 60 (0,0)):=b0
 refine wp_region_noPanic ?_
 refine wp_region_held_drew (S:=fun W => Ext w1 W) (by kernel_rfl) (Ext.drew _) (fun hH => ?_)
 refine wpAnyH_take (i:=1) (v:=qv X Y f) rfl (by kernel_rfl) (by kernel_rfl) (by decide +kernel) (fun _ _ _ h => h) (yieldsIf_load_mid (by rfl) _ _ rfl _ _ rfl (qc X Y f).toList _ (fun W hW j v hv => by rw [cell_of_row W _ _ (qc X Y f) 60 (0,0) (hW.block b0),Nat.zero_add]; simpa using hv) Tryz.underlying60 rfl (iT X Y f)) hH ?_
 refine wpAnyH_ready (rs:=[0]) (by decide +kernel) (by simp) ?_
 refine AllReadyH.cons rfl (fun K hK => ?_) AllReadyH.nil
 go_simp
 refine (curve_calls _).mono ?_
 rintro e w2 ⟨b,rfl,hF,hE⟩
 refine hK.out _ _ (hH.trans hE) (fun hH => ?_)
 clear hK K hE
 refine wpAnyH_ready (rs:=[2]) (by decide +kernel) (by simp) ?_
 refine AllReadyH.cons rfl (fun K hK => ?_) AllReadyH.nil
 go_simp
 refine (KO.out _ _ hF).mono ?_
 rintro e w3 ⟨rfl,hE⟩
 refine hK.out _ _ (hH.trans hE) (fun hH => ?_)
 clear hK K hE
 refine wpAnyH_take (i:=3) (v:=.bool r) rfl (by kernel_rfl) (by kernel_rfl) (by decide +kernel) (fun _ _ _ h => h) (Or.inl ⟨by rfl,fun W hSw => (by dsimp only at hSw; go_simp)⟩) hH ?_
 refine wpAnyH_done (by decide +kernel) ?_ _
 refine NoPanic.normal ?_
 go_wp2
 go_ret
 exact ⟨rfl,hx.trans hH⟩
def prevI (l : List Ky) (j : Nat) : Int:=if j = 0 then 0 else (l.getD (j - 1) ky0).i
def okO (l : List Ky) (j : Nat) : Prop:=prevI l j < (l.getD j ky0).i ∧ (l.getD j ky0).i ≤ 2147483647 ∧ 0 ≤ (l.getD j ky0).a ∧ (l.getD j ky0).a ≤ (l.getD j ky0).b ∧ (l.getD j ky0).b ≤ 1073741824
instance (l : List Ky) (j : Nat) : Decidable (okO l j):=by unfold okO; exact inferInstance
def ordK (l : List Ky) : Bool:=decide (l.length ≤ 32 ∧ ∀ j,j < l.length → okO l j)
def offK (k : Ky) : Bool:=k.f || !onB k.x k.y k.f
theorem ordK_false {l : List Ky} {j : Nat} (hj : j < l.length) (h : ¬ okO l j) : ordK l = false:=decide_eq_false fun hh => h (hh.2 j hj)
theorem okO_pos {l : List Ky} : ∀ j,(∀ q,q ≤ j → okO l q) → 1 ≤ (l.getD j ky0).i
 | 0,h => by
  have h1:=(h 0 (Nat.le_refl _)).1
  unfold prevI at h1
  rw [if_pos rfl] at h1
  omega
 | j + 1,h => by
  have h1:=(h (j + 1) (Nat.le_refl _)).1
  have h2:=okO_pos j fun q hq => h q (by omega)
  unfold prevI at h1
  rw [if_neg (by omega),show j + 1 - 1 = j by omega] at h1
  omega
theorem any_off {l : List Ky} (h : l.any offK = false) {j : Nat} (hj : j < l.length) : offK (l.getD j ky0) = false:=by
 rw [List.any_eq_false] at h
 have:=h (l.getD j ky0) (List.mem_of_getElem? (zim hj))
 simpa using this
theorem mayK_ord (l : List Ky) : mayK l = (ordK l && !l.any offK):=by
 rw [Bool.eq_iff_iff,Bool.and_eq_true,Bool.not_eq_true']
 constructor
 ·
  intro h
  refine ⟨decide_eq_true ⟨mayK_32 h,fun j hj => ?_⟩,?_⟩
  ·
   obtain ⟨h1,h2,_,_,h5,h6,h7,h8⟩:=mayK_ok h hj
   refine ⟨?_,h2,h5,h6,h7⟩
   unfold prevI
   by_cases e : j = 0
   ·
    rw [if_pos e]; omega
   ·
    rw [if_neg e]; exact h8 (by omega)
  ·
   rw [List.any_eq_false]
   intro k hk
   obtain ⟨_,_,h3,h4,_⟩:=mayK_each h k hk
   unfold offK
   rw [h4,h3]
   decide
 ·
  rintro ⟨h,ha⟩
  have h:=of_decide_eq_true h
  refine decide_eq_true ⟨h.1,fun j hj => ?_⟩
  obtain ⟨h1,h2,h3,h4,h5⟩:=h.2 j hj
  have hp:=okO_pos j fun q hq => h.2 q (by omega)
  have ho:=any_off ha hj
  unfold offK at ho
  rw [Bool.or_eq_false_iff,Bool.not_eq_false'] at ho
  refine ⟨hp,h2,ho.2,ho.1,h3,h4,h5,fun h0 => ?_⟩
  unfold prevI at h1
  rwa [if_neg (by omega)] at h1
theorem inOrder_calls (v : Value) (l : List Ky) (w : World) (hF : Ks w v l) (hL : l.length ≤ 1000000000) :
  Calls Tryz.prog 59 #[v] w fun e w' => e = .returned (.bool (ordK l)) ∧ Ext w w':=by
 obtain ⟨AL,c,rfl,hc,hx⟩:=hF
 obtain ⟨R,hR⟩ : ∃ R,R = ordK l:=⟨_,rfl⟩
 rw [← hR]
 obtain ⟨n,hn⟩ : ∃ n,n = l.length:=⟨_,rfl⟩
 rw [← hn] at hx hc hL ⊢
 have HR:=veil (And.intro hR hn)
 have HX:=veil hx
 clear hR hx hn
 by_cases h32 : (32 : Int) < (n : Int)
 ·
  have hd : decide ((32 : Int) < (n : Int)) = true:=decide_eq_true h32
  have e : R = false:=by
   rw [HR.out.1]
   exact decide_eq_false fun hh => by have:=hh.1; have:=HR.out.2; omega
  subst e
  go_enter Tryz.func59,Tryz.ntmps59
  go_wp2
  go_ret
  exact ⟨rfl,Ext.refl _⟩
 ·
  have hd : decide ((32 : Int) < (n : Int)) = false:=decide_eq_false h32
  have hn32 : n ≤ 32:=by omega
  clear hL h32
  go_enter Tryz.func59,Tryz.ntmps59
  go_wp2
  go_loopw [3,11] (fun s v wr => ∃ (i : Nat) (P : Int),i ≤ n ∧ s = .int .i64 P ∧ v = .int .i64 (i : Int) ∧ (∀ j,j < i → okO l j) ∧ P = prevI l i ∧ Ext w wr)
   (fun _ v _ => n - (intOf v).toNat)
  case atStart => exact ⟨0,0,by omega,rfl,rfl,fun j hj => by omega,rfl,Ext.refl _⟩
  case round =>
   obtain ⟨i,P,hi,rfl,rfl,hall,hP,hE⟩:=hrel
   by_cases hlt : i < n
   ·
    have hd1 : decide ((i : Int) < (n : Int)) = true:=by simp; omega
    have hii : (i : Int) < (n : Int):=by omega
    obtain ⟨b,o,hAL,hb,hcl⟩:=HX.out.resolve_left (by omega)
    have hil : i < l.length:=by have:=HR.out.2; omega
    have HRG:=veil (zan hE hb (hcl i _ (zim hil)))
    obtain ⟨k,hk⟩ : ∃ k,k = l.getD i ky0:=⟨_,rfl⟩
    rw [← hk] at HRG
    have hfalse : ¬ (P < k.i ∧ k.i ≤ 2147483647 ∧ 0 ≤ k.a ∧ k.a ≤ k.b ∧ k.b ≤ 1073741824) → R = false:=fun h => HR.out.1.trans (ordK_false hil (by unfold okO; rw [← hk,← hP]; exact h))
    have htrue : (P < k.i ∧ k.i ≤ 2147483647 ∧ 0 ≤ k.a ∧ k.a ≤ k.b ∧ k.b ≤ 1073741824) → ∀ j,j < i + 1 → okO l j:=fun h j hj => by
     by_cases e : j = i
     ·
      subst e
      unfold okO
      rw [← hk,← hP]
      exact h
     ·
      exact hall j (by omega)
    have hnx : k.i = prevI l (i + 1):=by
     unfold prevI
     rw [if_neg (by omega),show i + 1 - 1 = i by omega,hk]
    have HF:=veil (And.intro hfalse (And.intro htrue hnx))
    clear hfalse htrue hnx hall hP hk hcl hil
    subst hAL
    go_upto_region 7 with (first
     | ((with_reducible refine zaa 14 ?_); refine wpList_load_mid rfl 62 _ rfl b _ rfl (kyC k) _ HRG.out Tryz.underlying62 rfl (iKy k) ?_)
     | ((with_reducible refine zaa 5 ?_); refine zcq _ _ rfl rfl rfl rfl rfl rfl hzKy (fun _ => rfl) (fun _ => rfl) (iKyA k) (kyA_size k) (kyA_one k) ?_; intro g W hg hW hEW))
    have hEE:=hE.trans hEW
    have c0:=ky_i (zfb hW)
    have c10:=ky_a (zfb hW)
    have c11:=ky_b (zfb hW)
    simp only [Nat.zero_add] at c0 c10 c11
    clear hW hEW hE hb HRG
    by_cases g1 : k.i ≤ P
    ·
     obtain rfl : R = false:=HF.out.1 fun h => by omega
     have hd2 : decide (k.i ≤ P) = true:=decide_eq_true g1
     go_wp2
     go_ret
     exact ⟨rfl,hEE⟩
    ·
     have hd2 : decide (k.i ≤ P) = false:=decide_eq_false g1
     by_cases g2 : 2147483647 < k.i
     ·
      obtain rfl : R = false:=HF.out.1 fun h => by omega
      have hd3 : decide (2147483647 < k.i) = true:=decide_eq_true g2
      go_wp2
      go_ret
      exact ⟨rfl,hEE⟩
     ·
      have hd3 : decide (2147483647 < k.i) = false:=decide_eq_false g2
      by_cases g3 : k.a < 0
      ·
       obtain rfl : R = false:=HF.out.1 fun h => by omega
       have hd4 : decide (k.a < 0) = true:=decide_eq_true g3
       go_wp2
       go_ret
       exact ⟨rfl,hEE⟩
      ·
       have hd4 : decide (k.a < 0) = false:=decide_eq_false g3
       by_cases g4 : k.b < k.a
       ·
        obtain rfl : R = false:=HF.out.1 fun h => by omega
        have hd5 : decide (k.b < k.a) = true:=decide_eq_true g4
        go_wp2
        go_ret
        exact ⟨rfl,hEE⟩
       ·
        have hd5 : decide (k.b < k.a) = false:=decide_eq_false g4
        by_cases g5 : 1073741824 < k.b
        ·
         obtain rfl : R = false:=HF.out.1 fun h => by omega
         have hd6 : decide (1073741824 < k.b) = true:=decide_eq_true g5
         go_wp2
         go_ret
         exact ⟨rfl,hEE⟩
        ·
         have hd6 : decide (1073741824 < k.b) = false:=decide_eq_false g5
         go_wp2
         go_roundw
         case rel => exact ⟨i + 1,k.i,by omega,rfl,by go_num,HF.out.2.1 (by omega),HF.out.2.2,hEE⟩
         case measure => simp [intOf]; omega
   ·
    obtain rfl : i = n:=by omega
    have hd1 : decide ((i : Int) < (i : Int)) = false:=by simp
    have e : R = true:=by
     rw [HR.out.1]
     exact decide_eq_true ⟨by have:=HR.out.2; omega,fun j hj => hall j (by have:=HR.out.2; omega)⟩
    subst e
    clear hall hP
    go_wp2
    go_ret
    exact ⟨rfl,hE⟩
theorem wpl_midG {P : Program} {ops : Array Oper} {rest : List Oper} {op : Oper} {a : Act} {w : World} {Q : Exit → Act → World → Prop} (hgd : Region.wanted op (yielded ops a.tmps) = true) (ty : TypeId) (x : Operand) (ho : op.op = .load ty x)
  (b o : Nat) (hx : a.eval x = .pointer (some ⟨b,o,none⟩)) (cs : List Value) (d : TypeDesc) (hc : w.rangeAt b o cs)
  (hu : P.underlying ty = some d) (hd : d.isRow = true) (hi : (P.info? ty).map (·.size) = some cs.length)
  (h : wpList P ops Q rest (a.put op.dst (.agg cs.toArray)) w) : wpList P ops Q (op :: rest) a w :=
 wpList_step fun K hK => by
  rw [if_pos hgd]
  exact wp_load_mid ty x ho b o hx cs d hc hu hd hi (hK _ _ h)
theorem isOff_calls (k : Ky) (hx : k.x < top) (hy : k.y < top) (w : World) :
  Calls Tryz.prog 61 #[.agg (kyC k).toArray] w fun e w' => e = .returned (.bool (offK k)) ∧ Ext w w':=by
 have KO:=veil (fun W => on_is k.x k.y k.f hx hy W)
 obtain ⟨R,hR⟩ : ∃ R,R = offK k:=⟨_,rfl⟩
 rw [← hR]
 have HR:=veil hR
 clear hx hy hR
 obtain ⟨C,hC⟩ : ∃ C,C = (kyC k).toArray:=⟨_,rfl⟩
 rw [← hC]
 have HC:=veil hC
 clear hC
 go_enter Tryz.func61,Tryz.ntmps61
 go_upto_region 1 with (fail)
 obtain ⟨g,hg⟩ : ∃ g,g = w.heap.size:=⟨_,rfl⟩
 have h0:=zab w (.cells C 62)
 have hE0:=Ext.alloc w (.cells C 62)
 generalize w.alloc (.cells C 62) = w0 at *
 rw [← hg] at h0 ⊢
 rw [HC.out] at h0
 have c9:=ky_f (zfb h0)
 have HQ:=veil (ky_q (zfb h0))
 simp only [Nat.zero_add] at c9 HQ
 have HE:=veil hE0
 clear h0 hE0 hg
 cases hf : k.f with
 | true =>
  rw [hf] at c9
  obtain rfl : R = true:=by rw [HR.out]; unfold offK; rw [hf]; rfl
  clear hf KO HQ HR
  go_wp2
  go_ret
  exact ⟨rfl,HE.out⟩
 | false =>
  rw [hf] at c9
  have e : R = !onB k.x k.y k.f:=by rw [HR.out]; unfold offK; rw [hf]; rfl
  obtain ⟨r,hr⟩ : ∃ r,r = onB k.x k.y k.f:=⟨_,rfl⟩
  rw [← hr] at KO e
  clear hr hf HR
  cases r with
  | true =>
   obtain rfl : R = false:=e
   go_wp2_with (first
    | ((with_reducible refine zaa 8 ?_); refine wpl_midG rfl 60 _ rfl g 1 rfl _ _ HQ.out Tryz.underlying60 rfl (iT k.x k.y k.f) ?_)
    | (go_at_call 89; refine (KO.out _).mono ?_; rintro e w1 ⟨rfl,hE1⟩))
   go_ret
   exact ⟨rfl,HE.out.trans hE1⟩
  | false =>
   obtain rfl : R = true:=e
   go_wp2_with (first
    | ((with_reducible refine zaa 8 ?_); refine wpl_midG rfl 60 _ rfl g 1 rfl _ _ HQ.out Tryz.underlying60 rfl (iT k.x k.y k.f) ?_)
    | (go_at_call 89; refine (KO.out _).mono ?_; rintro e w1 ⟨rfl,hE1⟩))
   go_ret
   exact ⟨rfl,HE.out.trans hE1⟩
theorem index_calls (v : Value) (l : List Ky) (w : World) (hF : Ks w v l) (hT : TopK l) (hL : l.length ≤ 1000000000) :
  Calls Tryz.prog 88 #[v,.func (.func 61) #[] #[]] w fun e w' => ∃ z : Int,e = .returned (.int .i64 z) ∧ decide (0 ≤ z) = l.any offK ∧ Ext w w':=by
 obtain ⟨AL,c,rfl,hc,hx⟩:=hF
 obtain ⟨n,hn⟩ : ∃ n,n = l.length:=⟨_,rfl⟩
 rw [← hn] at hx hc hL ⊢
 obtain ⟨R,hR⟩ : ∃ R,R = l.any offK:=⟨_,rfl⟩
 rw [← hR]
 have HR:=veil (And.intro hR (And.intro hn hT))
 have HX:=veil hx
 clear hR hx hn hT
 go_enter Tryz.func88,Tryz.ntmps88
 go_wp2
 go_loopw [5,8] (fun _ v wr => ∃ i : Nat,i ≤ n ∧ v = .int .i64 (i : Int) ∧ (∀ j,j < i → offK (l.getD j ky0) = false) ∧ Ext w wr)
  (fun _ v _ => n - (intOf v).toNat)
 case atStart => exact ⟨0,by omega,rfl,fun j hj => by omega,Ext.refl _⟩
 case round =>
  obtain ⟨i,hi,rfl,hall,hE⟩:=hrel
  by_cases hlt : i < n
  ·
   have hd1 : decide ((i : Int) < (n : Int)) = true:=by simp; omega
   have hii : (i : Int) < (n : Int):=by omega
   obtain ⟨b,o,hAL,hb,hcl⟩:=HX.out.resolve_left (by omega)
   have hil : i < l.length:=by have:=HR.out.2.1; omega
   have HRG:=veil (zan hE hb (hcl i _ (zim hil)))
   have hkt:=HR.out.2.2 (l.getD i ky0) (List.mem_of_getElem? (zim hil))
   have hmem : l.getD i ky0 ∈ l:=List.mem_of_getElem? (zim hil)
   obtain ⟨k,hk⟩ : ∃ k,k = l.getD i ky0:=⟨_,rfl⟩
   rw [← hk] at HRG hkt hmem
   have KO:=veil (fun W => isOff_calls k hkt.1 hkt.2 W)
   cases ho : offK k with
   | true =>
    rw [ho] at KO
    have e : R = true:=by
     rw [HR.out.1,List.any_eq_true]
     exact ⟨k,hmem,ho⟩
    subst e
    clear hmem hkt ho hk hil hcl hall
    subst hAL
    go_wp2_with (first
     | ((with_reducible refine zaa 15 ?_); refine wpList_load_mid rfl 62 _ rfl b _ rfl (kyC k) _ HRG.out Tryz.underlying62 rfl (iKy k) ?_)
     | (go_at_call 61; refine (KO.out _).mono ?_; rintro e w1 ⟨rfl,hE1⟩))
    go_ret
    exact ⟨(i : Int),rfl,by simp,hE.trans hE1⟩
   | false =>
    rw [ho] at KO
    have hnext : ∀ j,j < i + 1 → offK (l.getD j ky0) = false:=fun j hj => by
     by_cases e : j = i
     ·
      subst e
      rw [← hk]
      exact ho
     ·
      exact hall j (by omega)
    have HN:=veil hnext
    clear hmem hkt ho hk hil hcl hall hnext
    subst hAL
    go_wp2_with (first
     | ((with_reducible refine zaa 15 ?_); refine wpList_load_mid rfl 62 _ rfl b _ rfl (kyC k) _ HRG.out Tryz.underlying62 rfl (iKy k) ?_)
     | (go_at_call 61; refine (KO.out _).mono ?_; rintro e w1 ⟨rfl,hE1⟩))
    go_roundw
    case rel => exact ⟨i + 1,by omega,by go_num,HN.out,hE.trans hE1⟩
    case measure => simp [intOf]; omega
  ·
   obtain rfl : i = n:=by omega
   have hd1 : decide ((i : Int) < (i : Int)) = false:=by simp
   have e : R = false:=by
    rw [HR.out.1,List.any_eq_false]
    intro k hk
    obtain ⟨j,hj,rfl⟩:=List.mem_iff_getElem.1 hk
    have:=hall j (by have:=HR.out.2.1; omega)
    rw [List.getD_eq_getElem?_getD,List.getElem?_eq_getElem hj] at this
    simpa using this
   subst e
   clear hall
   go_wp2
   go_ret
   exact ⟨-1,rfl,by decide,hE⟩
theorem contains_calls (v : Value) (l : List Ky) (w : World) (hF : Ks w v l) (hT : TopK l) (hL : l.length ≤ 1000000000) :
  Calls Tryz.prog 60 #[v,.func (.func 61) #[] #[]] w fun e w' => e = .returned (.bool (l.any offK)) ∧ Ext w w':=by
 have KI:=veil (index_calls v l w hF hT hL)
 obtain ⟨R,hR⟩ : ∃ R,R = l.any offK:=⟨_,rfl⟩
 rw [← hR] at KI ⊢
 clear hF hT hL hR
 go_enter Tryz.func60,Tryz.ntmps60
 go_wp2_with (go_at_call 88; refine KI.out.mono ?_; rintro e w1 ⟨z,rfl,hz,hE1⟩)
 go_ret
 exact ⟨by first | rfl | rw [hz],hE1⟩
theorem may10_calls (v : Value) (l : List Ky) (w : World) (hF : Ks w v l) (hT : TopK l) (hL : l.length ≤ 1000000000) :
  Calls Tryz.prog 31 #[v] w fun e w' => e = .returned (.bool (mayK l)) ∧ Ext w w':=by
 have KO:=veil (fun W (hW : Ks W v l) => inOrder_calls v l W hW hL)
 have KC:=veil (fun W (hW : Ks W v l) => contains_calls v l W hW hT hL)
 rw [mayK_ord]
 have HV:=veil hF
 clear hF hT hL
 generalize ordK l = r at *
 generalize l.any offK = s at *
 cases r with
 | false =>
  go_enter Tryz.func31,Tryz.ntmps31
  go_wp2_with (go_at_call 59; refine (KO.out _ HV.out).mono ?_; rintro e w1 ⟨rfl,hE1⟩)
  go_ret
  exact ⟨rfl,hE1⟩
 | true =>
  cases s with
  | false =>
   go_enter Tryz.func31,Tryz.ntmps31
   go_wp2_with (first
    | (go_at_call 59; refine (KO.out _ HV.out).mono ?_; rintro e w1 ⟨rfl,hE1⟩)
    | (go_at_call 60; refine (KC.out _ (HV.out.ext hE1)).mono ?_; rintro e w2 ⟨rfl,hE2⟩))
   go_ret
   exact ⟨rfl,hE1.trans hE2⟩
  | true =>
   go_enter Tryz.func31,Tryz.ntmps31
   go_wp2_with (first
    | (go_at_call 59; refine (KO.out _ HV.out).mono ?_; rintro e w1 ⟨rfl,hE1⟩)
    | (go_at_call 60; refine (KC.out _ (HV.out.ext hE1)).mono ?_; rintro e w2 ⟨rfl,hE2⟩))
   go_ret
   exact ⟨rfl,hE1.trans hE2⟩
theorem find_calls (v : Value) (l : List Ky) (id at_ : Int) (w : World) (hF : Ks w v l) (hL : l.length ≤ 1000000000) :
  Calls Tryz.prog 33 #[v,.int .i64 id,.int .i64 at_] w fun e w' => e = .returned (.tuple #[.agg (qO (findK l id at_)),.bool (findK l id at_).isSome]) ∧ Ext w w':=by
 obtain ⟨AL,c,rfl,hc,hx⟩:=hF
 obtain ⟨n,hn⟩ : ∃ n,n = l.length:=⟨_,rfl⟩
 rw [← hn] at hx hc hL ⊢
 have HX:=veil (And.intro hx hn)
 obtain ⟨R,hR⟩ : ∃ R,R = findK l id at_:=⟨_,rfl⟩
 rw [← hR]
 have HR:=veil hR
 clear hx hn hR
 go_enter Tryz.func33,Tryz.ntmps33
 go_upto_region 1 with (fail)
 obtain ⟨g,hg⟩ : ∃ g,g = w.heap.size:=⟨_,rfl⟩
 obtain ⟨w0,hw0⟩ : ∃ W,W = w.alloc (.cells PZ 60):=⟨_,rfl⟩
 have h0:=zab w (.cells PZ 60)
 have hE0:=Ext.alloc w (.cells PZ 60)
 rw [← hw0] at hE0
 rw [← hw0,← hg] at h0
 have H0:=veil (And.intro hE0 (And.intro h0 (show w.heap.size ≤ g by omega)))
 unfold PZ at hw0
 rw [← hw0,← hg]
 clear hw0 hg h0 hE0
 go_wp2
 go_loopw [12] (fun v wr => ∃ i : Nat,i ≤ n ∧ v = .int .i64 (i : Int) ∧ (∀ j,j < i → cntK (l.getD j ky0) id at_ = false) ∧ Ext w0 wr)
  (fun v _ => n - (intOf v).toNat)
 case atStart => exact ⟨0,by omega,rfl,fun j hj => by omega,Ext.refl _⟩
 case round =>
  obtain ⟨i,hi,rfl,hall,hE⟩:=hrel
  by_cases hlt : i < n
  ·
   have hd1 : decide ((i : Int) < (n : Int)) = true:=by simp; omega
   have hii : (i : Int) < (n : Int):=by omega
   have hil : i < l.length:=by have:=HX.out.2; omega
   obtain ⟨b,o,hAL,hb,hcl⟩:=HX.out.1.resolve_left (by omega)
   have HRG:=veil (zan (H0.out.1.trans hE) hb (hcl i _ (zim hil)))
   obtain ⟨k,hk⟩ : ∃ k,k = l.getD i ky0:=⟨_,rfl⟩
   rw [← hk] at HRG
   have HK:=veil (And.intro hk (And.intro hall (And.intro hE hil)))
   subst hAL
   clear hk hall hE hil hb hcl
   go_upto_region 4 with (first
    | ((with_reducible refine zaa 15 ?_); refine wpList_load_mid rfl 62 _ rfl b _ rfl (kyC k) _ HRG.out Tryz.underlying62 rfl (iKy k) ?_)
    | ((with_reducible refine zaa 9 ?_); refine zcq _ _ rfl rfl rfl rfl rfl rfl hzKy (fun _ => rfl) (fun _ => rfl) (iKyA k) (kyA_size k) (kyA_one k) ?_; intro gk W hg hW hEW))
   have hEE:=HK.out.2.2.1.trans hEW
   have c0:=ky_i (zfb hW)
   have c10:=ky_a (zfb hW)
   have c11:=ky_b (zfb hW)
   simp only [Nat.zero_add] at c0 c10 c11
   have HW:=veil (And.intro (ky_q (zfb hW)) hEE)
   simp only [Nat.zero_add] at HW
   clear hW hEW hEE HRG
   by_cases gc : k.i = id ∧ k.a ≤ at_ ∧ at_ < k.b
   ·
    have hr : R = some k:=by
     rw [HR.out,HK.out.1]
     exact findK_at HK.out.2.2.2 HK.out.2.1 (by rw [← HK.out.1]; exact cntK_yes gc)
    have hd2 : decide (k.a ≤ at_) = true:=decide_eq_true gc.2.1
    have hd3 : decide (at_ < k.b) = true:=decide_eq_true gc.2.2
    have f1 : (k.i == id) = true:=by simp [gc.1]
    have HF:=veil (And.intro hr (HW.out.2.block H0.out.2.1))
    have g1:=gc.1
    rw [g1] at c0 f1
    clear hr gc g1
    go_wp2_with (first
     | ((with_reducible refine zaa 33 ?_); refine wpList_load_mid rfl 60 _ rfl gk 1 rfl _ _ HW.out.1 Tryz.underlying60 rfl (iT k.x k.y k.f) ?_)
     | ((with_reducible refine zac ?_); refine wpList_store_row rfl 60 _ _ rfl g (qc k.x k.y k.f) rfl rfl 60 _ HF.out.2 (iT _ _ _) rfl (zgm _ _ _) ?_))
    refine bodyPost_ret (zaj rfl _ _ g 60 (qc k.x k.y k.f) (0,0) _ rfl (setRow_heap W g _ (qc k.x k.y k.f) 60 (0,0) HF.out.2) Tryz.underlying60 rfl (iT _ _ _)) rfl ⟨by rw [HF.out.1]; rfl,zae (H0.out.1.trans HW.out.2) H0.out.2.2 _⟩
   ·
    have hno:=cntK_no gc
    have HN:=veil hno
    have go : ∀ j,j < i + 1 → cntK (l.getD j ky0) id at_ = false:=fun j hj => by
     by_cases e : j = i
     ·
      subst e
      rw [← HK.out.1]
      exact HN.out
     ·
      exact HK.out.2.1 j (by omega)
    have GO:=veil go
    clear hno go
    by_cases g1 : k.i = id
    ·
     have f1 : (k.i == id) = true:=by simp [g1]
     rw [g1] at c0 f1
     by_cases g2 : k.a ≤ at_
     ·
      have hd2 : decide (k.a ≤ at_) = true:=decide_eq_true g2
      have hd3 : decide (at_ < k.b) = false:=decide_eq_false fun h => gc ⟨g1,g2,h⟩
      clear gc g1 g2
      go_wp2
      go_roundw
      case rel => exact ⟨i + 1,by omega,by go_num,GO.out,HW.out.2⟩
      case measure => simp [intOf]; omega
     ·
      have hd2 : decide (k.a ≤ at_) = false:=decide_eq_false g2
      clear gc g1 g2
      go_wp2
      go_roundw
      case rel => exact ⟨i + 1,by omega,by go_num,GO.out,HW.out.2⟩
      case measure => simp [intOf]; omega
    ·
     have f1 : (k.i == id) = false:=by simp [g1]
     clear gc
     go_wp2
     go_roundw
     case rel => exact ⟨i + 1,by omega,by go_num,GO.out,HW.out.2⟩
     case measure => simp [intOf]; omega
  ·
   obtain rfl : i = n:=by omega
   have hd1 : decide ((i : Int) < (i : Int)) = false:=by simp
   have hr : R = none:=by
    rw [HR.out]
    exact zgd (by rw [← HX.out.2]; exact hall)
   have HE:=veil (And.intro hr (And.intro hE (hE.block H0.out.2.1)))
   clear hall hr hE
   go_wp2_with ((with_reducible refine zac ?_); refine wpList_store_row rfl 60 _ _ rfl g PZ rfl rfl 60 _ HE.out.2.2 iPZ rfl pz_one ?_)
   refine bodyPost_ret (zaj rfl _ _ g 60 PZ (0,0) _ rfl (setRow_heap wr g _ PZ 60 (0,0) HE.out.2.2) Tryz.underlying60 rfl iPZ) rfl ⟨by rw [HE.out.1,pz_qc]; rfl,zae (H0.out.1.trans HE.out.2.1) H0.out.2.2 _⟩
theorem add_yes (q r : Pt.Q) (w : World) :
  Calls Tryz.prog 153 #[qvP q.1,qvP r.1] w fun e w' => e = .returned (.tuple #[qvP (Pt.grp.op q r).1,.nilIface]) ∧ Ext w w':=by
 obtain ⟨x1,y1,z1,h1,k1⟩:=lift_rep q.1
 obtain ⟨x2,y2,z2,h2,k2⟩:=plus_rep q.2 r.2 h1
 have k3:=fun (b : Nat) (w : World) (hF : Fp w b) => flat_rep h2 hF
 obtain ⟨t,ht⟩ : ∃ t : Pt.Q,t = Pt.grp.op q r:=⟨_,rfl⟩
 have ht2 : Pt.E256.add q.1 r.1 = t.1:=by rw [ht]; rfl
 rw [ht2] at k3
 rw [← ht]
 have K1:=veil k1
 have K2:=veil k2
 have K3:=veil k3
 clear k1 k2 k3 h1 h2 ht ht2
 exact way1 Tryz.func153 [qvP q.1,qvP r.1] (hCurve fun b => .call _ _ _ (fun W hW => on_yes q hW.2) <|
  .call _ _ _ (fun W hW => on_yes r hW.2) <|
  .call _ _ _ (fun W _ => K1.out W) <|
  .call _ _ _ (fun W hW => K2.out _ _ hW.2) <|
  .call _ _ _ (fun W hW => K3.out _ _ hW.2) <|
  .ret _ fun _ h => ⟨rfl,h.1⟩) (by kernel_rfl)
def mlT (n : Nat) : List (Nat × SV):=[(2,.p 0 0),(3,.p 1 0),(4,.p 2 0),(6,.p 3 0),(7,.p 4 0),(8,.v (.int .i64 ((n : Int) - 1)))]
def mlM (K b : Nat) (q : Pt.Q) (x y z : Fe) : List Blk:=[⟨58,cN K⟩,⟨60,cQ (Pt.pX q.1) (Pt.pY q.1) (Pt.pFar q.1)⟩,⟨60,cQ 0 0 false⟩,⟨180,(cc b).toList.map SV.v⟩,⟨218,(sc x.val y.val z.val).toList.map SV.v⟩]
section
variable {w0 : World} {Post : Value → World → Prop} {J : World → Prop}
def mlNext (K n b : Nat) (q : Pt.Q) (x y z : Fe) (h : n ≤ 256) (h0 : ¬ n = 0) (hr : Rep x y z (Pt.grp.mul (K / 2 ^ (n - 1)) q).1) : OT Tryz.prog w0 Post J :=
 .ins 24 (binK .sub 3 (.tmp 23) (.const (.int .i64 1)) (.int .i64 ((n : Int) - 1)) (.int .i64 1)) (.int .i64 (((n - 1 : Nat) : Int) - 1)) (fun _ _ => zjn (by omega) (by omega) (by omega)) <|
 .nextG (mlT (n - 1)) (mlM K b q x y z) (∃ l : Nat × Fe × Fe × Fe,((l.1 ≤ 256 ∧ Rep l.2.1 l.2.2.1 l.2.2.2 (Pt.grp.mul (K / 2 ^ l.1) q).1) ∧ l.1 < n) ∧ mlT l.1 = mlT (n - 1) ∧ mlM K b q l.2.1 l.2.2.1 l.2.2.2 = mlM K b q x y z)
  ⟨(n - 1,x,y,z),⟨⟨by show n - 1 ≤ 256; omega,hr⟩,by show n - 1 < n; omega⟩,rfl,rfl⟩
end
theorem mul_yes (K : Nat) (hK : K < top) (q : Pt.Q) (w : World) :
  Calls Tryz.prog 151 #[nv K,qvP q.1] w fun e w' => e = .returned (.tuple #[qvP (Pt.grp.mul K q).1,.nilIface]) ∧ Ext w w' :=
 have h0 : ∃ t : Fe × Fe × Fe,Rep t.1 t.2.1 t.2.2 none ∧ ∀ w,Calls Tryz.prog 185 #[qvP none] w fun e w' => e = .returned (sv t.1.val t.2.1.val t.2.2.val) ∧ Ext w w':=by
  obtain ⟨x,y,z,h⟩:=lift_rep none
  exact ⟨(x,y,z),h⟩
 have h2 : ∀ {x y z : Fe} {p : Pt.Q},Rep x y z p.1 → ∃ t : Fe × Fe × Fe,Rep t.1 t.2.1 t.2.2 (Pt.grp.op p p).1 ∧ ∀ (b : Nat) (w : World),Fp w b → Calls Tryz.prog 187 #[cv b,sv x.val y.val z.val] w fun e w' => e = .returned (sv t.1.val t.2.1.val t.2.2.val) ∧ Ext w w':=fun {x y z p} h => by
  obtain ⟨x,y,z,h⟩:=twice_rep p.2 h
  exact ⟨(x,y,z),h⟩
 have h3 : ∀ {x y z : Fe} {p : Pt.Q},Rep x y z p.1 → ∃ t : Fe × Fe × Fe,Rep t.1 t.2.1 t.2.2 (Pt.grp.op p q).1 ∧ ∀ (b : Nat) (w : World),Fp w b → Calls Tryz.prog 188 #[cv b,sv x.val y.val z.val,qvP q.1] w fun e w' => e = .returned (sv t.1.val t.2.1.val t.2.2.val) ∧ Ext w w':=fun {x y z p} h => by
  obtain ⟨x,y,z,h⟩:=plus_rep p.2 q.2 h
  exact ⟨(x,y,z),h⟩
 way1 Tryz.func151 [nv K,qvP q.1] (hCurve fun b => .call _ _ _ (fun _ hW => on_yes q hW.2) <| .get _ h0 fun t ht => .call _ _ _ (fun W _ => ht.2 W) <| .call _ _ _ (fun W _ => klen K (bitLen K) rfl hK W) <|
  .ins 20 (binK .sub 3 (.tmp 19) (.const (.int .i64 1)) (.int .i64 (bitLen K : Int)) (.int .i64 1)) (.int .i64 ((bitLen K : Int) - 1)) (fun _ _ => by have:=bl_le hK; exact zjn rfl (by omega) (by omega)) <|
  .loopG (α:=Nat × Fe × Fe × Fe) (fun s => mlT s.1) (fun s => mlM K b q s.2.1 s.2.2.1 s.2.2.2) (fun s => s.1) (fun s => s.1 ≤ 256 ∧ Rep s.2.1 s.2.2.1 s.2.2.2 (Pt.grp.mul (K / 2 ^ s.1) q).1) (bitLen K,t) ⟨bl_le hK,by
   show Rep t.1 t.2.1 t.2.2 (Pt.grp.mul (K / 2 ^ bitLen K) q).1
   rw [bl_div]
   exact ht.1⟩ (mlT (bitLen K)) (mlM K b q t.1 t.2.1 t.2.2) ⟨rfl,rfl⟩ fun s h =>
  .cases (s.1 = 0)
   (fun h0 => .ins 22 (binK .geq 3 (.tmp 21) (.const (.int .i64 0)) (.int .i64 ((s.1 : Int) - 1)) (.int .i64 0)) (.bool false) (fun W _ => zed (decide_eq_false (by omega)) W) <|
    .call _ _ _ (fun _ hW => flat_rep h.2 hW.2) <| .ret (.tuple #[qvP (Pt.grp.mul (K / 2 ^ s.1) q).1,.nilIface]) fun _ hW => ⟨by rw [h0,Nat.pow_zero,Nat.div_one],hW.1⟩)
   (fun h0 => .ins 22 (binK .geq 3 (.tmp 21) (.const (.int .i64 0)) (.int .i64 ((s.1 : Int) - 1)) (.int .i64 0)) (.bool true) (fun W _ => zed (decide_eq_true (by omega)) W) <|
    .get _ (h2 h.2) fun u hu => .call _ _ _ (fun W hW => hu.2 b W hW.2) <|
    .cases (bit K (s.1 - 1) = true)
     (fun hb => .call _ #[nv K,.int .i64 ((s.1 : Int) - 1)] (.bool true) (fun W _ => by have k:=kbit K (s.1 - 1) true hb (by omega) W; rw [show ((s.1 - 1 : Nat) : Int) = (s.1 : Int) - 1 by omega] at k; exact k) <|
      .get _ (h3 hu.1) fun v hv => .call _ _ _ (fun W hW => hv.2 b W hW.2) <| mlNext K s.1 b q v.1 v.2.1 v.2.2 h.1 h0 (by rw [zfr,if_pos hb,show s.1 - 1 + 1 = s.1 by omega]; exact hv.1))
     (fun hb => .call _ #[nv K,.int .i64 ((s.1 : Int) - 1)] (.bool false) (fun W _ => by have k:=kbit K (s.1 - 1) false (Bool.eq_false_iff.2 hb) (by omega) W; rw [show ((s.1 - 1 : Nat) : Int) = (s.1 : Int) - 1 by omega] at k; exact k) <|
      mlNext K s.1 b q u.1 u.2.1 u.2.2 h.1 h0 (by rw [zfr,if_neg hb,show s.1 - 1 + 1 = s.1 by omega]; exact hu.1)))) (by kernel_rfl)
theorem zgv {g k : Nat} (hne : k ≠ g) : ∀ (vs : List Value) (o : Nat) (w : World),(w.setCells g o vs).heap[k]? = w.heap[k]?
 | [],_,_ => rfl
 | _ :: r,o,_ => (zgv hne r (o + 1) _).trans (Below.heap_setCell _ _ _ _ hne)
theorem Bs.off {w : World} {A : Option Addr} {bs : List Nat} {g o : Nat} {vs : List Value} (h : Bs w A bs) (hne : ∀ b o,A = some ⟨b,o,none⟩ → b ≠ g) : Bs (w.setCells g o vs) A bs :=
 ⟨h.1,h.2.imp id fun ⟨b,o',e,hb,hc⟩ => by
  have hk:=zgv (hne b o' e) vs o w
  have hs : b < (w.setCells g o vs).heap.size:=by
   rw [Array.getElem?_eq_getElem hb] at hk
   exact (Array.getElem?_eq_some_iff.1 hk).1
  exact ⟨b,o',e,hs,fun j hj => (World.cell?_of_block (a:=⟨b,o' + j,none⟩) hk).trans (hc j hj)⟩⟩
def KZ : Array Value:=#[.int .i64 0,vI vU 0,vI vU 0,vI vU 0,vI vU 0,vI vU 0,vI vU 0,vI vU 0,vI vU 0,.bool false,.int .i64 0,.int .i64 0]
theorem Pre.cells {g t n : Nat} : ∀ (vs : List Value) (o : Nat) {w : World} {f : Nat → Value},Pre w g t n f → ∃ h,Pre (w.setCells g o vs) g t n h
 | [],_,_,f,p => ⟨f,p⟩
 | v :: r,o,_,_,p => Pre.cells r (o + 1) (p.set o v)
end Go.Proofs.YtbfkecfcolcclaaGreatDoor
