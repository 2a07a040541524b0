/-
  Of Rdh FSub2 FMul2 C1 C2 C4 C3 C5 C6 C7 C8 CM CR CD D2 D3 D4 Y0 Y1 Y5 Y7 KJ.
-/
import Derived.Deep.LoopGhost
import Derived.Deep.RegionWith
import Derived.Deep.Cut
import Derived.Deep.CutRange
import Derived.Deep.MidRow
import Derived.Laws.OwnMore
import Derived.Lib.AppendZeros
import Derived.Test.YtihophdbkjhopaaGreatDoorZC18
import Derived.Test.YtihophdbkjhopaaGreatDoorZC15
import Derived.Test.YtihophdbkjhopaaGreatDoorZC16
import Derived.Test.YtihophdbkjhopaaGreatDoorZC11
import Derived.Test.YtihophdbkjhopaaGreatDoorZC3
import Derived.Test.YtihophdbkjhopaaGreatDoorZC4
import Derived.Test.YtihophdbkjhopaaGreatDoorZC6
import Derived.Test.YtihophdbkjhopaaGreatDoorZC2
import Derived.Test.YtihophdbkjhopaaGreatDoorZC10
import Derived.Test.YtihophdbkjhopaaGreatDoorZC12
set_option maxRecDepth 1000000
set_option maxHeartbeats 20000000
namespace Go.Proofs.YtihophdbkjhopaaGreatDoor
open Go.RowKit
open Go.Value renaming int → vI
open Go.IntKind renaming u64 → vU
open Go.Act renaming put → aP
open List renaming setIfInBounds_toArray → lA, set_cons_zero → lZ, set_cons_succ → lS
theorem code17 (C : CodeL) : Code17 lowL KT where
 keep:=kt_ext
 body:=fun X r w hF hL => body17_calls X r w hF (Nat.le_trans hL (by decide))
 open_:=fun A m c bs w hK hm hmc hle hS => (zhv C A m c bs hm hmc (Nat.le_trans hle (by decide)) w hK hS).mono fun _ _ ⟨X,D,G,ev,he,hE,hA⟩ => ⟨X,D,G,ev,he,hE,hA.all⟩
 chain:=fun v l dev X Y f w hK hX hY hl hle hT => chain17_of (chainL_low C) v l dev X Y f hX hY (Nat.le_trans hl (by decide)) (fun x hx => Nat.le_trans (hle x hx) (by decide)) w hK hT
theorem fsub2_calls (b X Y M : Nat) (N : Int) (Q Z : Nat) (hX : X < top) (hY : Y < top) (hK : Fok M N Q) (hZ : (X % M + M - Y % M) % M = Z) (w : World) (hF : Fb w b M N Q) :
  Calls Tryz.prog 136 #[.pointer (some ⟨b,0,none⟩),.agg #[vI vU (wd X 0),vI vU (wd X 1),vI vU (wd X 2),vI vU (wd X 3)],.agg #[vI vU (wd Y 0),vI vU (wd Y 1),vI vU (wd Y 2),vI vU (wd Y 3)]] w fun e w' => e = .returned (.agg #[vI vU (wd Z 0),vI vU (wd Z 1),vI vU (wd Z 2),vI vU (wd Z 3)]) ∧ Below w.heap.size w w':=by
 have hM0 : 0 < M:=by have:=hK.m2; omega
 have hX2:=Nat.mod_lt X hM0
 have hY2:=Nat.mod_lt Y hM0
 have K3:=veil (fun W (h : Fb W b M N Q) => zin b (X % M) (Y % M) M N Q Z hX2 hY2 hK.mt hZ W h)
 have HK:=veil hK
 clear hK hZ hM0 hX2 hY2
 have hA : (((w.alloc (.cells #[vI vU (wd X 0),vI vU (wd X 1),vI vU (wd X 2),vI vU (wd X 3)] 29)).alloc (.cells #[vI vU (wd Y 0),vI vU (wd Y 1),vI vU (wd Y 2),vI vU (wd Y 3)] 29)).alloc (.cells #[vI vU 0,vI vU 0,vI vU 0,vI vU 0] 29)).rowIs w.heap.size 29 4 (fun j => .int .u64 (wd X j)):=((zag (n:=4) (by simp) rfl (arr4 fun j => .int .u64 (wd X j))).alloc _).alloc _
 have hB : (((w.alloc (.cells #[vI vU (wd X 0),vI vU (wd X 1),vI vU (wd X 2),vI vU (wd X 3)] 29)).alloc (.cells #[vI vU (wd Y 0),vI vU (wd Y 1),vI vU (wd Y 2),vI vU (wd Y 3)] 29)).alloc (.cells #[vI vU 0,vI vU 0,vI vU 0,vI vU 0] 29)).rowIs (w.heap.size + 1) 29 4 (fun j => .int .u64 (wd Y j)):=(zag (n:=4) (by simp) rfl (arr4 fun j => .int .u64 (wd Y j))).alloc _
 have hR : (((w.alloc (.cells #[vI vU (wd X 0),vI vU (wd X 1),vI vU (wd X 2),vI vU (wd X 3)] 29)).alloc (.cells #[vI vU (wd Y 0),vI vU (wd Y 1),vI vU (wd Y 2),vI vU (wd Y 3)] 29)).alloc (.cells #[vI vU 0,vI vU 0,vI vU 0,vI vU 0] 29)).rowIs (w.heap.size + 1 + 1) 29 4 (fun _ => .int .u64 0):=zag (n:=4) (by simp) rfl (arr4 fun _ => .int .u64 0)
 have hbel : Below w.heap.size w (((w.alloc (.cells #[vI vU (wd X 0),vI vU (wd X 1),vI vU (wd X 2),vI vU (wd X 3)] 29)).alloc (.cells #[vI vU (wd Y 0),vI vU (wd Y 1),vI vU (wd Y 2),vI vU (wd Y 3)] 29)).alloc (.cells #[vI vU 0,vI vU 0,vI vU 0,vI vU 0] 29)):=(((Below.refl _ _).alloc (by simp) _).alloc (by simp) _).alloc (by simp; omega) _
 have hFr : Fb (((w.alloc (.cells #[vI vU (wd X 0),vI vU (wd X 1),vI vU (wd X 2),vI vU (wd X 3)] 29)).alloc (.cells #[vI vU (wd Y 0),vI vU (wd Y 1),vI vU (wd Y 2),vI vU (wd Y 3)] 29)).alloc (.cells #[vI vU 0,vI vU 0,vI vU 0,vI vU 0] 29)) b M N Q:=(((hF).alloc _).alloc _).alloc _
 have hbs:=hF.lt
 clear hF
 go_enter Tryz.func136,Tryz.ntmps136
 go_wp2_with fail
 generalize (((w.alloc (.cells #[vI vU (wd X 0),vI vU (wd X 1),vI vU (wd X 2),vI vU (wd X 3)] 29)).alloc (.cells #[vI vU (wd Y 0),vI vU (wd Y 1),vI vU (wd Y 2),vI vU (wd Y 3)] 29)).alloc (.cells #[vI vU 0,vI vU 0,vI vU 0,vI vU 0] 29)) = w0 at *
 obtain ⟨a0,a1,a2,a3⟩:=zaj hA
 obtain ⟨b0,b1,b2,b3⟩:=zaj hB
 obtain ⟨f0,f1,f2,f3⟩:=zbm hR
 obtain ⟨d0,d1,d2,d3⟩:=zaj hR
 go_region_with (first
  | (go_at_call 159; refine (fcut_calls b _ M N Q _ (by assumption) HK.out rfl _ (by exact hFr)).mono ?_; rintro e w1 ⟨rfl,hb1⟩; replace hB:=zae (by exact hB) hb1 (by exact hB.lt); replace hA:=zae (by exact hA) hb1 (by exact hA.lt); replace hR:=zae (by exact hR) hb1 (by exact hR.lt); replace hFr:=Fb.below (by exact hFr) hb1 (by exact hFr.lt); replace hbel:=Below.trans (by first | exact hbel | exact hbel.drew) (hb1.mono (by exact hbel.size)); obtain ⟨b0,b1,b2,b3⟩:=zaj hB; obtain ⟨a0,a1,a2,a3⟩:=zaj hA)
  | (go_at_call 129; refine (K3.out _ (by exact hFr)).mono ?_; rintro e w3 ⟨rfl,hb3⟩; replace hR:=zae (by exact hR) hb3 (by exact hR.lt); replace hFr:=Fb.below (by exact hFr) hb3 (by exact hFr.lt); replace hbel:=Below.trans (by first | exact hbel | exact hbel.drew) (hb3.mono (by exact hbel.size)); obtain ⟨f0,f1,f2,f3⟩:=zbm hR; obtain ⟨d0,d1,d2,d3⟩:=zaj hR))
 all_goals
  clear a0 a1 a2 a3 b0 b1 b2 b3 f0 f1 f2 f3 d0 d1 d2 d3
  go_wp2
  refine bodyPost_ret (results_cell_row rfl _ _ (w.heap.size + 1 + 1) 29 #[vI vU (wd Z 0),vI vU (wd Z 1),vI vU (wd Z 2),vI vU (wd Z 3)] (0,0) _ rfl (blk4 (put4 hR fun j => .int .u64 (wd (Z) j))) Tryz.underlying29 rfl (by kernel_rfl)) rfl ⟨rfl,zax hbel (by omega) _ _ _ _⟩
theorem fmul2_calls (b X Y M : Nat) (N : Int) (Q Z : Nat) (hX : X < top) (hY : Y < top) (hK : Fok M N Q) (hZ : X * Y % M = Z) (w : World) (hF : Fb w b M N Q) :
  Calls Tryz.prog 81 #[.pointer (some ⟨b,0,none⟩),.agg #[vI vU (wd X 0),vI vU (wd X 1),vI vU (wd X 2),vI vU (wd X 3)],.agg #[vI vU (wd Y 0),vI vU (wd Y 1),vI vU (wd Y 2),vI vU (wd Y 3)]] w fun e w' => e = .returned (.agg #[vI vU (wd Z 0),vI vU (wd Z 1),vI vU (wd Z 2),vI vU (wd Z 3)]) ∧ Below w.heap.size w w':=by
 have K1:=veil (fun W => kmul X Y _ rfl hX hY W)
 have K2:=veil (fun W (h : Fb W b M N Q) => cutw_calls b (X * Y) M N Q Z (mul_lt8 hX hY) hK hZ W h)
 clear hX hY hK hZ
 generalize X * Y = P at *
 have hA : (((w.alloc (.cells #[vI vU (wd X 0),vI vU (wd X 1),vI vU (wd X 2),vI vU (wd X 3)] 29)).alloc (.cells #[vI vU (wd Y 0),vI vU (wd Y 1),vI vU (wd Y 2),vI vU (wd Y 3)] 29)).alloc (.cells #[vI vU 0,vI vU 0,vI vU 0,vI vU 0] 29)).rowIs w.heap.size 29 4 (fun j => .int .u64 (wd X j)):=((zag (n:=4) (by simp) rfl (arr4 fun j => .int .u64 (wd X j))).alloc _).alloc _
 have hB : (((w.alloc (.cells #[vI vU (wd X 0),vI vU (wd X 1),vI vU (wd X 2),vI vU (wd X 3)] 29)).alloc (.cells #[vI vU (wd Y 0),vI vU (wd Y 1),vI vU (wd Y 2),vI vU (wd Y 3)] 29)).alloc (.cells #[vI vU 0,vI vU 0,vI vU 0,vI vU 0] 29)).rowIs (w.heap.size + 1) 29 4 (fun j => .int .u64 (wd Y j)):=(zag (n:=4) (by simp) rfl (arr4 fun j => .int .u64 (wd Y j))).alloc _
 have hR : (((w.alloc (.cells #[vI vU (wd X 0),vI vU (wd X 1),vI vU (wd X 2),vI vU (wd X 3)] 29)).alloc (.cells #[vI vU (wd Y 0),vI vU (wd Y 1),vI vU (wd Y 2),vI vU (wd Y 3)] 29)).alloc (.cells #[vI vU 0,vI vU 0,vI vU 0,vI vU 0] 29)).rowIs (w.heap.size + 1 + 1) 29 4 (fun _ => .int .u64 0):=zag (n:=4) (by simp) rfl (arr4 fun _ => .int .u64 0)
 have hbel : Below w.heap.size w (((w.alloc (.cells #[vI vU (wd X 0),vI vU (wd X 1),vI vU (wd X 2),vI vU (wd X 3)] 29)).alloc (.cells #[vI vU (wd Y 0),vI vU (wd Y 1),vI vU (wd Y 2),vI vU (wd Y 3)] 29)).alloc (.cells #[vI vU 0,vI vU 0,vI vU 0,vI vU 0] 29)):=(((Below.refl _ _).alloc (by simp) _).alloc (by simp) _).alloc (by simp; omega) _
 have hFr : Fb (((w.alloc (.cells #[vI vU (wd X 0),vI vU (wd X 1),vI vU (wd X 2),vI vU (wd X 3)] 29)).alloc (.cells #[vI vU (wd Y 0),vI vU (wd Y 1),vI vU (wd Y 2),vI vU (wd Y 3)] 29)).alloc (.cells #[vI vU 0,vI vU 0,vI vU 0,vI vU 0] 29)) b M N Q:=(((hF).alloc _).alloc _).alloc _
 have hbs:=hF.lt
 clear hF
 go_enter Tryz.func81,Tryz.ntmps81
 obtain ⟨a0,a1,a2,a3⟩:=zaj hA
 obtain ⟨b0,b1,b2,b3⟩:=zaj hB
 go_wp2_with fail
 refine (K1.out _).mono ?_
 rintro e w1 ⟨rfl,hb1⟩
 replace hR:=zae (by exact hR) hb1 (by exact hR.lt)
 replace hFr:=Fb.below (by exact hFr) hb1 (by exact hFr.lt)
 replace hbel:=Below.trans (by first | exact hbel | exact hbel.drew) (hb1.mono (by exact hbel.size))
 clear a0 a1 a2 a3 b0 b1 b2 b3 hA hB hb1
 go_wp2_with fail
 refine (K2.out _ hFr).mono ?_
 rintro e w2 ⟨rfl,hb2⟩
 replace hR:=zae (by exact hR) hb2 (by exact hR.lt)
 replace hFr:=Fb.below (by exact hFr) hb2 (by exact hFr.lt)
 replace hbel:=Below.trans (by first | exact hbel | exact hbel.drew) (hb2.mono (by exact hbel.size))
 clear hb2 hFr
 obtain ⟨f0,f1,f2,f3⟩:=zbm hR
 obtain ⟨d0,d1,d2,d3⟩:=zaj hR
 go_wp2
 refine bodyPost_ret (results_cell_row rfl _ _ (w.heap.size + 1 + 1) 29 #[vI vU (wd Z 0),vI vU (wd Z 1),vI vU (wd Z 2),vI vU (wd Z 3)] (0,0) _ rfl (blk4 (put4 hR fun j => .int .u64 (wd (Z) j))) Tryz.underlying29 rfl (by kernel_rfl)) rfl ⟨rfl,zax hbel (by omega) _ _ _ _⟩
def Fp (w : World) (b : Nat) : Prop:=∃ N Q,Fok Pt.pp N Q ∧ Fb w b Pt.pp N Q
theorem Fp.ext {w w' : World} {b : Nat} (h : Fp w b) (k : Ext w w') : Fp w' b:=by
 obtain ⟨N,Q,h1,h2⟩:=h
 exact ⟨N,Q,h1,h2.call k⟩
theorem Fp.lt {w : World} {b : Nat} (h : Fp w b) : b < w.heap.size:=by
 obtain ⟨N,Q,h1,h2⟩:=h
 exact h2.lt
abbrev Fe:=Fin Pt.pp
def sc (x y z : Nat) : Array Value:=#[vI vU (wd x 0),vI vU (wd x 1),vI vU (wd x 2),vI vU (wd x 3),vI vU (wd y 0),vI vU (wd y 1),vI vU (wd y 2),vI vU (wd y 3),vI vU (wd z 0),vI vU (wd z 1),vI vU (wd z 2),vI vU (wd z 3)]
def sv (x y z : Nat) : Value:=.agg (sc x y z)
def fv (k b : Nat) : Value:=.func (.func k) #[ptrTo b] #[]
def cc (b : Nat) : Array Value:=#[fv 133 b,fv 136 b,fv 81 b,fv 79 b]
def cv (b : Nat) : Value:=.agg (cc b)
theorem zdg (x : Fe) : x.val < top:=Nat.lt_trans x.isLt zci
theorem fe_mod (x : Fe) : x.val % Pt.pp = x.val:=Nat.mod_eq_of_lt x.isLt
theorem kadd_p {b : Nat} {x y t : Fe} (ht : t = x + y) {w : World} (hF : Fp w b) : Calls Tryz.prog 133 #[ptrTo b,nv x.val,nv y.val] w fun e w' => e = .returned (nv t.val) ∧ Ext w w':=by
 obtain ⟨N,Q,h1,h2⟩:=hF
 exact fadd2_calls b x.val y.val Pt.pp N Q t.val (zdg x) (zdg y) h1 (by rw [fe_mod,fe_mod,Pt.v_add,ht]) w h2
theorem zcv {b : Nat} {x y t : Fe} (ht : t = x - y) {w : World} (hF : Fp w b) : Calls Tryz.prog 136 #[ptrTo b,nv x.val,nv y.val] w fun e w' => e = .returned (nv t.val) ∧ Ext w w':=by
 obtain ⟨N,Q,h1,h2⟩:=hF
 exact fsub2_calls b x.val y.val Pt.pp N Q t.val (zdg x) (zdg y) h1 (by rw [fe_mod,fe_mod,Pt.v_sub,ht]) w h2
theorem zbb {b : Nat} {x y t : Fe} (ht : t = x * y) {w : World} (hF : Fp w b) : Calls Tryz.prog 81 #[ptrTo b,nv x.val,nv y.val] w fun e w' => e = .returned (nv t.val) ∧ Ext w w':=by
 obtain ⟨N,Q,h1,h2⟩:=hF
 exact fmul2_calls b x.val y.val Pt.pp N Q t.val (zdg x) (zdg y) h1 (by rw [Pt.v_mul,ht]) w h2
theorem kinv_p {b : Nat} {x t : Fe} (hx : x ≠ 0) (ht : t = Pt.E256.inv x) {w : World} (hF : Fp w b) : Calls Tryz.prog 79 #[ptrTo b,nv x.val] w fun e w' => e = .returned (.tuple #[nv t.val,.nilIface]) ∧ Ext w w':=by
 obtain ⟨N,Q,h1,h2⟩:=hF
 refine (ziq b x.val Pt.pp N Q (zdg x) h1 w h2).mono ?_
 rintro e w' ⟨⟨y,hy,hi,rfl⟩,hb⟩
 have hg:=Pt.v_gcd hx
 rw [zij hg,Pt.v_inv hy (hi hg),ht]
 exact ⟨rfl,hb⟩
theorem kinv_z {b : Nat} {w : World} (hF : Fp w b) : Calls Tryz.prog 79 #[ptrTo b,nv 0] w fun e w' => e = .returned (.tuple #[nv 0,.iface 37 (.int .i64 4)]) ∧ Ext w w':=by
 obtain ⟨N,Q,h1,h2⟩:=hF
 refine (ziq b 0 Pt.pp N Q (Nat.two_pow_pos 256) h1 w h2).mono ?_
 rintro e w' ⟨⟨y,hy,hi,rfl⟩,hb⟩
 have hg : ¬ Nat.gcd 0 Pt.pp = 1:=by rw [Nat.gcd_zero_left]; decide +kernel
 rw [invRet_no hg]
 exact ⟨rfl,hb⟩
/-! ### operations -/
section
variable {P : Program} {o : Oper} {a : Act} {w : World}
end
section
variable (g : Nat) (W : World)
end
theorem zcp {b : Nat} {x t : Fe} (ht : t = x + x) {w : World} (hF : Fp w b) :
  Calls Tryz.prog 141 #[cv b,nv x.val] w fun e w' => e = .returned (nv t.val) ∧ Ext w w':=by
 have kt:=veil ht
 clear ht
 exact way1 Tryz.func141 [cv b,nv x.val] (.call _ _ _ (fun W hW => kadd_p kt.out (hF.ext hW)) <|
  .ret _ fun _ h => ⟨rfl,h⟩) (by kernel_rfl)
theorem trp_calls {b : Nat} {x t : Fe} (ht : t = x + x + x) {w : World} (hF : Fp w b) :
  Calls Tryz.prog 138 #[cv b,nv x.val] w fun e w' => e = .returned (nv t.val) ∧ Ext w w':=by
 obtain ⟨y,hy⟩ : ∃ t : Fe,t = x + x:=⟨_,rfl⟩
 rw [← hy] at ht
 have ky:=veil hy
 clear hy
 have kt:=veil ht
 clear ht
 exact way1 Tryz.func138 [cv b,nv x.val] (.call _ _ _ (fun W hW => zcp ky.out (hF.ext hW)) <|
  .call _ _ _ (fun W hW => kadd_p kt.out (hF.ext hW)) <|
  .ret _ fun _ h => ⟨rfl,h⟩) (by kernel_rfl)
def twice3 (x y z : Fe) : Fe × Fe × Fe :=
 let zz : Fe:=z * z
 let yy : Fe:=y * y
 let s : Fe:=x - zz
 let u : Fe:=x + zz
 let su : Fe:=s * u
 let m : Fe:=su + su + su
 let q : Fe:=x * yy
 let q2 : Fe:=q + q
 let cr : Fe:=q2 + q2
 let mm : Fe:=m * m
 let c2 : Fe:=cr + cr
 let X : Fe:=mm - c2
 let e : Fe:=yy * yy
 let e2 : Fe:=e + e
 let e4 : Fe:=e2 + e2
 let tl : Fe:=e4 + e4
 let d : Fe:=cr - X
 let md : Fe:=m * d
 let Y : Fe:=md - tl
 let yz : Fe:=y * z
 let Z : Fe:=yz + yz
 (X,Y,Z)
theorem twice_calls {b : Nat} (x y z : Fe) {w : World} (hF : Fp w b) :
  Calls Tryz.prog 104 #[cv b,sv x.val y.val z.val] w fun e w' => e = .returned (sv (twice3 x y z).1.val (twice3 x y z).2.1.val (twice3 x y z).2.2.val) ∧ Ext w w':=by
 obtain ⟨zz,hzz⟩ : ∃ t : Fe,t = z * z:=⟨_,rfl⟩
 obtain ⟨yy,hyy⟩ : ∃ t : Fe,t = y * y:=⟨_,rfl⟩
 obtain ⟨s,hs⟩ : ∃ t : Fe,t = x - zz:=⟨_,rfl⟩
 obtain ⟨u,hu⟩ : ∃ t : Fe,t = x + zz:=⟨_,rfl⟩
 obtain ⟨su,hsu⟩ : ∃ t : Fe,t = s * u:=⟨_,rfl⟩
 obtain ⟨m,hm⟩ : ∃ t : Fe,t = su + su + su:=⟨_,rfl⟩
 obtain ⟨q,hq⟩ : ∃ t : Fe,t = x * yy:=⟨_,rfl⟩
 obtain ⟨q2,hq2⟩ : ∃ t : Fe,t = q + q:=⟨_,rfl⟩
 obtain ⟨cr,hcr⟩ : ∃ t : Fe,t = q2 + q2:=⟨_,rfl⟩
 obtain ⟨mm,hmm⟩ : ∃ t : Fe,t = m * m:=⟨_,rfl⟩
 obtain ⟨c2,hc2⟩ : ∃ t : Fe,t = cr + cr:=⟨_,rfl⟩
 obtain ⟨X,hX⟩ : ∃ t : Fe,t = mm - c2:=⟨_,rfl⟩
 obtain ⟨e,he⟩ : ∃ t : Fe,t = yy * yy:=⟨_,rfl⟩
 obtain ⟨e2,he2⟩ : ∃ t : Fe,t = e + e:=⟨_,rfl⟩
 obtain ⟨e4,he4⟩ : ∃ t : Fe,t = e2 + e2:=⟨_,rfl⟩
 obtain ⟨tl,htl⟩ : ∃ t : Fe,t = e4 + e4:=⟨_,rfl⟩
 obtain ⟨d,hd⟩ : ∃ t : Fe,t = cr - X:=⟨_,rfl⟩
 obtain ⟨md,hmd⟩ : ∃ t : Fe,t = m * d:=⟨_,rfl⟩
 obtain ⟨Y,hY⟩ : ∃ t : Fe,t = md - tl:=⟨_,rfl⟩
 obtain ⟨yz,hyz⟩ : ∃ t : Fe,t = y * z:=⟨_,rfl⟩
 obtain ⟨Z,hZ⟩ : ∃ t : Fe,t = yz + yz:=⟨_,rfl⟩
 have hfin : twice3 x y z = (X,Y,Z):=by
  subst hZ hyz hY hmd hd htl he4 he2 he hX hc2 hmm hcr hq2 hq hm hsu hu hs hyy hzz
  rfl
 rw [hfin]
 clear hfin
 have kzz:=veil hzz
 have kyy:=veil hyy
 have ks:=veil hs
 have ku:=veil hu
 have ksu:=veil hsu
 have km:=veil hm
 have kq:=veil hq
 have kq2:=veil hq2
 have kcr:=veil hcr
 have kmm:=veil hmm
 have kc2:=veil hc2
 have kX:=veil hX
 have ke:=veil he
 have ke2:=veil he2
 have ke4:=veil he4
 have ktl:=veil htl
 have kd:=veil hd
 have kmd:=veil hmd
 have kY:=veil hY
 have kyz:=veil hyz
 have kZ:=veil hZ
 clear hZ hyz hY hmd hd htl he4 he2 he hX hc2 hmm hcr hq2 hq hm hsu hu hs hyy hzz
 show Calls Tryz.prog 104 #[cv b,sv x.val y.val z.val] w fun e w' => e = .returned (sv X.val Y.val Z.val) ∧ Ext w w'
 exact way1 Tryz.func104 [cv b,sv x.val y.val z.val] (.call _ _ _ (fun W hW => zbb kzz.out (hF.ext hW)) <|
  .call _ _ _ (fun W hW => zbb kyy.out (hF.ext hW)) <|
  .call _ _ _ (fun W hW => zcv ks.out (hF.ext hW)) <|
  .call _ _ _ (fun W hW => kadd_p ku.out (hF.ext hW)) <|
  .call _ _ _ (fun W hW => zbb ksu.out (hF.ext hW)) <|
  .call _ _ _ (fun W hW => trp_calls km.out (hF.ext hW)) <|
  .call _ _ _ (fun W hW => zbb kq.out (hF.ext hW)) <|
  .call _ _ _ (fun W hW => zcp kq2.out (hF.ext hW)) <|
  .call _ _ _ (fun W hW => zcp kcr.out (hF.ext hW)) <|
  .call _ _ _ (fun W hW => zbb kmm.out (hF.ext hW)) <|
  .call _ _ _ (fun W hW => zcp kc2.out (hF.ext hW)) <|
  .call _ _ _ (fun W hW => zcv kX.out (hF.ext hW)) <|
  .call _ _ _ (fun W hW => zbb ke.out (hF.ext hW)) <|
  .call _ _ _ (fun W hW => zcp ke2.out (hF.ext hW)) <|
  .call _ _ _ (fun W hW => zcp ke4.out (hF.ext hW)) <|
  .call _ _ _ (fun W hW => zcp ktl.out (hF.ext hW)) <|
  .call _ _ _ (fun W hW => zcv kd.out (hF.ext hW)) <|
  .call _ _ _ (fun W hW => zbb kmd.out (hF.ext hW)) <|
  .call _ _ _ (fun W hW => zcv kY.out (hF.ext hW)) <|
  .call _ _ _ (fun W hW => zbb kyz.out (hF.ext hW)) <|
  .call _ _ _ (fun W hW => zcp kZ.out (hF.ext hW)) <|
  .ret _ fun _ h => ⟨rfl,h⟩) (by kernel_rfl)
theorem pP_calls (w : World) : Calls Tryz.prog 135 #[] w fun e w' => e = .returned (.agg #[vI vU (wd (Pt.pp) 0),vI vU (wd (Pt.pp) 1),vI vU (wd (Pt.pp) 2),vI vU (wd (Pt.pp) 3)]) ∧ Below w.heap.size w w' :=
 way1 Tryz.func135 [] (.ret _ fun _ h => ⟨rfl,h⟩) (by kernel_rfl)
theorem bb_calls (w : World) : Calls Tryz.prog 139 #[] w fun e w' => e = .returned (.agg #[vI vU (wd (Pt.bb) 0),vI vU (wd (Pt.bb) 1),vI vU (wd (Pt.bb) 2),vI vU (wd (Pt.bb) 3)]) ∧ Below w.heap.size w w' :=
 way1 Tryz.func139 [] (.ret _ fun _ h => ⟨rfl,h⟩) (by kernel_rfl)
theorem isz_calls (X : Nat) (hX : X < top) (w : World) :
  Calls Tryz.prog 137 #[nv X] w fun e w' => e = .returned (.bool (decide (X = 0))) ∧ Ext w w':=by
 have k:=veil fun W => zjq hX W
 clear hX
 exact way1 Tryz.func137 [nv X] (.ins 5 (binK .eql 29 (.tmp 3) (.tmp 4) (nv X) (nv 0)) (.bool (decide (X = 0))) (fun W _ => zbe (gN _ _ _ _ _ W) (k.out W)) <| .ret _ fun _ h => ⟨rfl,h⟩) (by kernel_rfl)
theorem isz_no {X : Nat} (h : X ≠ 0) (hX : X < top) (w : World) : Calls Tryz.prog 137 #[nv X] w fun e w' => e = .returned (.bool false) ∧ Ext w w':=by
 have k:=isz_calls X hX w
 rwa [decide_eq_false h] at k
theorem zjn {X : Nat} (h : X = 0) (w : World) : Calls Tryz.prog 137 #[nv X] w fun e w' => e = .returned (.bool true) ∧ Ext w w':=by
 have k:=isz_calls X (by rw [h]; exact Nat.two_pow_pos 256) w
 rwa [decide_eq_true h] at k
section
variable {P : Program} {o : Oper} {a : Act} {w : World}
end
theorem cmp_in {X : Nat} (h : X < Pt.pp) (w : World) : Calls Tryz.prog 98 #[nv X,nv Pt.pp] w fun e w' => e = .returned (.int .i64 (-1)) ∧ Ext w w' :=
 kcmp X Pt.pp (-1) (by unfold cmpN; rw [if_pos h]) (Nat.lt_trans h zci) zci w
theorem cmp_no {X : Nat} (hX : X < top) (w : World) : Calls Tryz.prog 98 #[nv X,nv Pt.pp] w fun e w' => e = .returned (.int .i64 (cmpN X Pt.pp)) ∧ Ext w w' :=
 kcmp X Pt.pp _ rfl hX zci w
theorem cmp_no_ge {X : Nat} (h : ¬ X < Pt.pp) : decide (0 ≤ cmpN X Pt.pp) = true:=by
 have:=cmp_ge X Pt.pp
 simp only [this,h,not_false_eq_true,decide_true]
theorem pP_is (w : World) : Calls Tryz.prog 135 #[] w fun e w' => e = .returned (nv Pt.pp) ∧ Ext w w':=pP_calls w
theorem bb_is (w : World) : Calls Tryz.prog 139 #[] w fun e w' => e = .returned (nv (Pt.F Pt.bb : Fe).val) ∧ Ext w w':=by
 have h : (Pt.F Pt.bb : Fe).val = Pt.bb:=Nat.mod_eq_of_lt bb_lt
 rw [h]
 exact bb_calls w
theorem Fp.cells {W : World} {b g o : Nat} {vs : List Value} (h : Fp W b) (hne : ¬ g = b) : Fp (W.setCells g o vs) b:=by
 obtain ⟨N,Q,h1,h2⟩:=h
 exact ⟨N,Q,h1,h2.of_block (zhp (fun e => hne e.symm) vs o W)⟩
theorem curve_new (w : World) : Calls Tryz.prog 100 #[] w fun e w' => ∃ b,e = .returned (cv b) ∧ Ext w w' ∧ Fp w' b ∧ w.heap.size ≤ b:=by
 have hp : Pt.pp % 2 = 1:=by decide +kernel
 have hp2 : 2 < Pt.pp:=by decide +kernel
 refine (way0 (Post:=fun v W => ∃ b,v = cv b ∧ Ext w W ∧ Fp W b ∧ w.heap.size ≤ b) Tryz.func100 [] (.call _ _ _ (fun W _ => pP_calls W) <|
  .hang 125 #[nv Pt.pp] (α:=Nat) (fun b => .tuple #[ptrTo b,.nilIface]) (fun b W => Fp W b ∧ w.heap.size ≤ b) (fun b g => g = b) (fun _ _ _ h k => ⟨h.1.ext k,h.2⟩) (fun _ _ _ _ _ h hn => ⟨h.1.cells hn,h.2⟩)
   (fun W hW => (new_good Pt.pp hp hp2 zci W).mono fun e w' ⟨⟨b,N,Q,h1,h2,h3,h4⟩,h5⟩ => ⟨b,h4,h5,⟨⟨N,Q,h1,h2⟩,Nat.le_trans (Below.size hW) h3⟩,fun g hg => by subst hg; exact ⟨.inl h3,h2.lt⟩⟩)
   fun b => .ret (cv b) fun _ h => ⟨b,rfl,h.1,h.2⟩) (by kernel_rfl)).mono fun e w' ⟨v,he,b,hv,h⟩ => ⟨b,by rw [he,hv],h⟩
theorem curve_calls (w : World) : Calls Tryz.prog 100 #[] w fun e w' => ∃ b,e = .returned (cv b) ∧ Fp w' b ∧ Ext w w' :=
 (curve_new w).mono fun _ _ ⟨b,he,hE,hF,_⟩ => ⟨b,he,hF,hE⟩
def hCurve {w0 : World} {Post : Value → World → Prop} {J : World → Prop} (r : ∀ b,OT Tryz.prog w0 Post (fun W => J W ∧ Fp W b)) : OT Tryz.prog w0 Post J :=
 .hang 100 #[] cv (fun b W => Fp W b) (fun b g => g = b) (fun _ _ _ h k => h.ext k) (fun _ _ _ _ _ h hn => h.cells hn)
  (fun W _ => (curve_new W).mono fun _ _ ⟨b,he,hE,hF,hb⟩ => ⟨b,he,hE,hF,fun g hg => by subst hg; exact ⟨.inl hb,hF.lt⟩⟩) r
theorem lift_far (x y : Nat) (w : World) :
  Calls Tryz.prog 102 #[qv x y true] w fun e w' => e = .returned (sv 0 0 0) ∧ Ext w w':=by
 exact way1 Tryz.func102 [qv x y true] (.ret _ fun _ h => ⟨rfl,h⟩) (by kernel_rfl)
theorem lift_near (x y : Nat) (w : World) :
  Calls Tryz.prog 102 #[qv x y false] w fun e w' => e = .returned (sv x y 1) ∧ Ext w w':=by
 exact way1 Tryz.func102 [qv x y false] (.ret _ fun _ h => ⟨rfl,h⟩) (by kernel_rfl)
theorem base_calls (w : World) :
  Calls Tryz.prog 54 #[] w fun e w' => e = .returned (qv Pt.gx Pt.gy false) ∧ Ext w w':=by
 exact way1 Tryz.func54 [] (.ret _ fun _ h => ⟨rfl,h⟩) (by kernel_rfl)
theorem plus_far {b : Nat} (x y z X Y : Nat) {w : World} (_hF : Fp w b) :
  Calls Tryz.prog 106 #[cv b,sv x y z,qv X Y true] w fun e w' => e = .returned (sv x y z) ∧ Ext w w':=by
 exact way1 Tryz.func106 [cv b,sv x y z,qv X Y true] (.ret _ fun _ h => ⟨rfl,h⟩) (by kernel_rfl)
theorem plus_lift {b : Nat} (x y X Y : Nat) {w : World} (_hF : Fp w b) :
  Calls Tryz.prog 106 #[cv b,sv x y 0,qv X Y false] w fun e w' => e = .returned (sv X Y 1) ∧ Ext w w':=by
 exact way1 Tryz.func106 [cv b,sv x y 0,qv X Y false] (.call _ _ _ (fun W _ => zjn rfl W) <|
  .call _ _ _ (fun W _ => lift_near X Y W) <|
  .ret _ fun _ h => ⟨rfl,h⟩) (by kernel_rfl)
def runOf (x z X : Fe) : Fe:=X * (z * z) - x
def riseOf (y z Y : Fe) : Fe:=Y * (z * z * z) - y
def plus3 (x y z X Y : Fe) : Fe × Fe × Fe :=
 let zz : Fe:=z * z
 let u : Fe:=X * zz
 let run : Fe:=u - x
 let zzz : Fe:=zz * z
 let v : Fe:=Y * zzz
 let rise : Fe:=v - y
 let sq : Fe:=run * run
 let cube : Fe:=sq * run
 let cross : Fe:=x * sq
 let rr : Fe:=rise * rise
 let r1 : Fe:=rr - cube
 let c2 : Fe:=cross + cross
 let x3 : Fe:=r1 - c2
 let d : Fe:=cross - x3
 let rd : Fe:=rise * d
 let yc : Fe:=y * cube
 let y3 : Fe:=rd - yc
 let z3 : Fe:=z * run
 (x3,y3,z3)
theorem plus_same {b : Nat} (x y z X Y : Fe) (hz : z.val ≠ 0) (hr : (runOf x z X).val = 0) (hs : (riseOf y z Y).val = 0) {w : World} (hF : Fp w b) :
  Calls Tryz.prog 106 #[cv b,sv x.val y.val z.val,qv X.val Y.val false] w fun e w' => e = .returned (sv (twice3 x y z).1.val (twice3 x y z).2.1.val (twice3 x y z).2.2.val) ∧ Ext w w':=by
 obtain ⟨zz,hzz⟩ : ∃ t : Fe,t = z * z:=⟨_,rfl⟩
 obtain ⟨u,hu⟩ : ∃ t : Fe,t = X * zz:=⟨_,rfl⟩
 obtain ⟨run,hrun⟩ : ∃ t : Fe,t = u - x:=⟨_,rfl⟩
 obtain ⟨zzz,hzzz⟩ : ∃ t : Fe,t = zz * z:=⟨_,rfl⟩
 obtain ⟨v,hv⟩ : ∃ t : Fe,t = Y * zzz:=⟨_,rfl⟩
 obtain ⟨rise,hrise⟩ : ∃ t : Fe,t = v - y:=⟨_,rfl⟩
 have h1 : runOf x z X = run:=by subst hrun hu hzz; rfl
 have h2 : riseOf y z Y = rise:=by subst hrise hv hzzz hzz; rfl
 rw [h1] at hr
 rw [h2] at hs
 clear h1 h2
 have kzz:=veil hzz
 have ku:=veil hu
 have krun:=veil hrun
 have kzzz:=veil hzzz
 have kv:=veil hv
 have krise:=veil hrise
 clear hrise hv hzzz hrun hu hzz
 have kz0:=veil hz
 have kr:=veil hr
 have ks:=veil hs
 clear hz hr hs
 obtain ⟨X3,Y3,Z3,h3⟩ : ∃ X3 Y3 Z3,twice3 x y z = (X3,Y3,Z3):=⟨_,_,_,rfl⟩
 have KT:=veil (fun W (hF : Fp W b) => twice_calls x y z hF)
 rw [h3] at KT ⊢
 clear h3
 show Calls Tryz.prog 106 #[cv b,sv x.val y.val z.val,qv X.val Y.val false] w fun e w' => e = .returned (sv X3.val Y3.val Z3.val) ∧ Ext w w'
 exact way1 Tryz.func106 [cv b,sv x.val y.val z.val,qv X.val Y.val false] (.call _ _ _ (fun W _ => isz_no kz0.out (zdg _) W) <|
  .call _ _ _ (fun W hW => zbb kzz.out (hF.ext hW)) <|
  .call _ _ _ (fun W hW => zbb ku.out (hF.ext hW)) <|
  .call _ _ _ (fun W hW => zcv krun.out (hF.ext hW)) <|
  .call _ _ _ (fun W hW => zbb kzzz.out (hF.ext hW)) <|
  .call _ _ _ (fun W hW => zbb kv.out (hF.ext hW)) <|
  .call _ _ _ (fun W hW => zcv krise.out (hF.ext hW)) <|
  .call _ _ _ (fun W _ => zjn kr.out W) <|
  .call _ _ _ (fun W _ => zjn ks.out W) <|
  .call _ _ _ (fun W hW => KT.out W (hF.ext hW)) <|
  .ret _ fun _ h => ⟨rfl,h⟩) (by kernel_rfl)
theorem plus_opp {b : Nat} (x y z X Y : Fe) (hz : z.val ≠ 0) (hr : (runOf x z X).val = 0) (hs : (riseOf y z Y).val ≠ 0) {w : World} (hF : Fp w b) :
  Calls Tryz.prog 106 #[cv b,sv x.val y.val z.val,qv X.val Y.val false] w fun e w' => e = .returned (sv 0 0 0) ∧ Ext w w':=by
 obtain ⟨zz,hzz⟩ : ∃ t : Fe,t = z * z:=⟨_,rfl⟩
 obtain ⟨u,hu⟩ : ∃ t : Fe,t = X * zz:=⟨_,rfl⟩
 obtain ⟨run,hrun⟩ : ∃ t : Fe,t = u - x:=⟨_,rfl⟩
 obtain ⟨zzz,hzzz⟩ : ∃ t : Fe,t = zz * z:=⟨_,rfl⟩
 obtain ⟨v,hv⟩ : ∃ t : Fe,t = Y * zzz:=⟨_,rfl⟩
 obtain ⟨rise,hrise⟩ : ∃ t : Fe,t = v - y:=⟨_,rfl⟩
 have h1 : runOf x z X = run:=by subst hrun hu hzz; rfl
 have h2 : riseOf y z Y = rise:=by subst hrise hv hzzz hzz; rfl
 rw [h1] at hr
 rw [h2] at hs
 clear h1 h2
 have kzz:=veil hzz
 have ku:=veil hu
 have krun:=veil hrun
 have kzzz:=veil hzzz
 have kv:=veil hv
 have krise:=veil hrise
 clear hrise hv hzzz hrun hu hzz
 have kz0:=veil hz
 have kr:=veil hr
 have ks:=veil hs
 clear hz hr hs
 exact way1 Tryz.func106 [cv b,sv x.val y.val z.val,qv X.val Y.val false] (.call _ _ _ (fun W _ => isz_no kz0.out (zdg _) W) <|
  .call _ _ _ (fun W hW => zbb kzz.out (hF.ext hW)) <|
  .call _ _ _ (fun W hW => zbb ku.out (hF.ext hW)) <|
  .call _ _ _ (fun W hW => zcv krun.out (hF.ext hW)) <|
  .call _ _ _ (fun W hW => zbb kzzz.out (hF.ext hW)) <|
  .call _ _ _ (fun W hW => zbb kv.out (hF.ext hW)) <|
  .call _ _ _ (fun W hW => zcv krise.out (hF.ext hW)) <|
  .call _ _ _ (fun W _ => zjn kr.out W) <|
  .call _ _ _ (fun W _ => isz_no ks.out (zdg _) W) <|
  .ret _ fun _ h => ⟨rfl,h⟩) (by kernel_rfl)
theorem plus_else {b : Nat} (x y z X Y : Fe) (hz : z.val ≠ 0) (hr : (runOf x z X).val ≠ 0) {w : World} (hF : Fp w b) :
  Calls Tryz.prog 106 #[cv b,sv x.val y.val z.val,qv X.val Y.val false] w fun e w' => e = .returned (sv (plus3 x y z X Y).1.val (plus3 x y z X Y).2.1.val (plus3 x y z X Y).2.2.val) ∧ Ext w w':=by
 obtain ⟨zz,hzz⟩ : ∃ t : Fe,t = z * z:=⟨_,rfl⟩
 obtain ⟨u,hu⟩ : ∃ t : Fe,t = X * zz:=⟨_,rfl⟩
 obtain ⟨run,hrun⟩ : ∃ t : Fe,t = u - x:=⟨_,rfl⟩
 obtain ⟨zzz,hzzz⟩ : ∃ t : Fe,t = zz * z:=⟨_,rfl⟩
 obtain ⟨v,hv⟩ : ∃ t : Fe,t = Y * zzz:=⟨_,rfl⟩
 obtain ⟨rise,hrise⟩ : ∃ t : Fe,t = v - y:=⟨_,rfl⟩
 obtain ⟨sq,hsq⟩ : ∃ t : Fe,t = run * run:=⟨_,rfl⟩
 obtain ⟨cube,hcube⟩ : ∃ t : Fe,t = sq * run:=⟨_,rfl⟩
 obtain ⟨cross,hcross⟩ : ∃ t : Fe,t = x * sq:=⟨_,rfl⟩
 obtain ⟨rr,hrr⟩ : ∃ t : Fe,t = rise * rise:=⟨_,rfl⟩
 obtain ⟨r1,hr1⟩ : ∃ t : Fe,t = rr - cube:=⟨_,rfl⟩
 obtain ⟨c2,hc2⟩ : ∃ t : Fe,t = cross + cross:=⟨_,rfl⟩
 obtain ⟨x3,hx3⟩ : ∃ t : Fe,t = r1 - c2:=⟨_,rfl⟩
 obtain ⟨d,hd⟩ : ∃ t : Fe,t = cross - x3:=⟨_,rfl⟩
 obtain ⟨rd,hrd⟩ : ∃ t : Fe,t = rise * d:=⟨_,rfl⟩
 obtain ⟨yc,hyc⟩ : ∃ t : Fe,t = y * cube:=⟨_,rfl⟩
 obtain ⟨y3,hy3⟩ : ∃ t : Fe,t = rd - yc:=⟨_,rfl⟩
 obtain ⟨z3,hz3⟩ : ∃ t : Fe,t = z * run:=⟨_,rfl⟩
 have h1 : runOf x z X = run:=by subst hrun hu hzz; rfl
 rw [h1] at hr
 clear h1
 have hfin : plus3 x y z X Y = (x3,y3,z3):=by
  subst hz3 hy3 hyc hrd hd hx3 hc2 hr1 hrr hcross hcube hsq hrise hv hzzz hrun hu hzz
  rfl
 rw [hfin]
 clear hfin
 have kzz:=veil hzz
 have ku:=veil hu
 have krun:=veil hrun
 have kzzz:=veil hzzz
 have kv:=veil hv
 have krise:=veil hrise
 have ksq:=veil hsq
 have kcube:=veil hcube
 have kcross:=veil hcross
 have krr:=veil hrr
 have kr1:=veil hr1
 have kc2:=veil hc2
 have kx3:=veil hx3
 have kd:=veil hd
 have krd:=veil hrd
 have kyc:=veil hyc
 have ky3:=veil hy3
 have kz3:=veil hz3
 clear hz3 hy3 hyc hrd hd hx3 hc2 hr1 hrr hcross hcube hsq hrise hv hzzz hrun hu hzz
 have kz0:=veil hz
 have kr:=veil hr
 clear hz hr
 show Calls Tryz.prog 106 #[cv b,sv x.val y.val z.val,qv X.val Y.val false] w fun e w' => e = .returned (sv x3.val y3.val z3.val) ∧ Ext w w'
 exact way1 Tryz.func106 [cv b,sv x.val y.val z.val,qv X.val Y.val false] (.call _ _ _ (fun W _ => isz_no kz0.out (zdg _) W) <|
  .call _ _ _ (fun W hW => zbb kzz.out (hF.ext hW)) <|
  .call _ _ _ (fun W hW => zbb ku.out (hF.ext hW)) <|
  .call _ _ _ (fun W hW => zcv krun.out (hF.ext hW)) <|
  .call _ _ _ (fun W hW => zbb kzzz.out (hF.ext hW)) <|
  .call _ _ _ (fun W hW => zbb kv.out (hF.ext hW)) <|
  .call _ _ _ (fun W hW => zcv krise.out (hF.ext hW)) <|
  .call _ _ _ (fun W _ => isz_no kr.out (zdg _) W) <|
  .call _ _ _ (fun W hW => zbb ksq.out (hF.ext hW)) <|
  .call _ _ _ (fun W hW => zbb kcube.out (hF.ext hW)) <|
  .call _ _ _ (fun W hW => zbb kcross.out (hF.ext hW)) <|
  .call _ _ _ (fun W hW => zbb krr.out (hF.ext hW)) <|
  .call _ _ _ (fun W hW => zcv kr1.out (hF.ext hW)) <|
  .call _ _ _ (fun W hW => zcp kc2.out (hF.ext hW)) <|
  .call _ _ _ (fun W hW => zcv kx3.out (hF.ext hW)) <|
  .call _ _ _ (fun W hW => zcv kd.out (hF.ext hW)) <|
  .call _ _ _ (fun W hW => zbb krd.out (hF.ext hW)) <|
  .call _ _ _ (fun W hW => zbb kyc.out (hF.ext hW)) <|
  .call _ _ _ (fun W hW => zcv ky3.out (hF.ext hW)) <|
  .call _ _ _ (fun W hW => zbb kz3.out (hF.ext hW)) <|
  .ret _ fun _ h => ⟨rfl,h⟩) (by kernel_rfl)
theorem flat_far {b : Nat} (x y : Nat) {w : World} (hF : Fp w b) :
  Calls Tryz.prog 107 #[cv b,sv x y 0] w fun e w' => e = .returned (qv 0 0 true) ∧ Ext w w':=by
 exact way1 Tryz.func107 [cv b,sv x y 0] (.call _ _ _ (fun W hW => kinv_z (hF.ext hW)) <|
  .ret _ fun _ h => ⟨rfl,h⟩) (by kernel_rfl)
def flat2 (x y z : Fe) : Fe × Fe:=(x * (Pt.E256.inv z * Pt.E256.inv z),y * (Pt.E256.inv z * Pt.E256.inv z * Pt.E256.inv z))
theorem flat_near {b : Nat} (x y z : Fe) (hz : z ≠ 0) {w : World} (hF : Fp w b) :
  Calls Tryz.prog 107 #[cv b,sv x.val y.val z.val] w fun e w' => e = .returned (qv (flat2 x y z).1.val (flat2 x y z).2.val false) ∧ Ext w w':=by
 obtain ⟨iv,hiv⟩ : ∃ t : Fe,t = Pt.E256.inv z:=⟨_,rfl⟩
 obtain ⟨sq,hsq⟩ : ∃ t : Fe,t = iv * iv:=⟨_,rfl⟩
 obtain ⟨X,hX⟩ : ∃ t : Fe,t = x * sq:=⟨_,rfl⟩
 obtain ⟨cb,hcb⟩ : ∃ t : Fe,t = sq * iv:=⟨_,rfl⟩
 obtain ⟨Y,hY⟩ : ∃ t : Fe,t = y * cb:=⟨_,rfl⟩
 have hfin : flat2 x y z = (X,Y):=by
  unfold flat2
  rw [hY,hcb,hX,hsq,hiv]
 rw [hfin]
 clear hfin
 have kiv:=veil hiv
 have ksq:=veil hsq
 have kX:=veil hX
 have kcb:=veil hcb
 have kY:=veil hY
 clear hY hcb hX hsq hiv
 have kz0:=veil hz
 clear hz
 show Calls Tryz.prog 107 #[cv b,sv x.val y.val z.val] w fun e w' => e = .returned (qv X.val Y.val false) ∧ Ext w w'
 exact way1 Tryz.func107 [cv b,sv x.val y.val z.val] (.call _ _ _ (fun W hW => kinv_p kz0.out kiv.out (hF.ext hW)) <|
  .call _ _ _ (fun W hW => zbb ksq.out (hF.ext hW)) <|
  .call _ _ _ (fun W hW => zbb kX.out (hF.ext hW)) <|
  .call _ _ _ (fun W hW => zbb kcb.out (hF.ext hW)) <|
  .call _ _ _ (fun W hW => zbb kY.out (hF.ext hW)) <|
  .ret _ fun _ h => ⟨rfl,h⟩) (by kernel_rfl)
theorem on_far0 {b : Nat} (Y : Nat) (hY : Y < top) {w : World} (_hF : Fp w b) :
  Calls Tryz.prog 101 #[cv b,qv 0 Y true] w fun e w' => e = .returned (.bool (decide (Y = 0))) ∧ Ext w w':=by
 have kY:=veil hY
 clear hY
 obtain ⟨q,hq⟩ : ∃ q,q = decide (Y = 0):=⟨_,rfl⟩
 rw [← hq]
 have kq:=veil hq
 clear hq
 exact way1 Tryz.func101 [cv b,qv 0 Y true] (.call _ _ _ (fun W _ => zjn rfl W) <|
  .call 137 #[nv Y] (.bool q) (fun W _ => by rw [kq.out]; exact isz_calls Y kY.out W) <|
  .ret _ fun _ h => ⟨rfl,h⟩) (by kernel_rfl)
theorem on_far1 {b : Nat} (X Y : Nat) (hX : X < top) (h0 : X ≠ 0) {w : World} (_hF : Fp w b) :
  Calls Tryz.prog 101 #[cv b,qv X Y true] w fun e w' => e = .returned (.bool false) ∧ Ext w w':=by
 have kX:=veil hX
 have k0:=veil h0
 clear hX h0
 exact way1 Tryz.func101 [cv b,qv X Y true] (.call _ _ _ (fun W _ => isz_no k0.out kX.out W) <|
  .ret _ fun _ h => ⟨rfl,h⟩) (by kernel_rfl)
theorem on_out {b : Nat} (X Y : Nat) (hX : X < top) (h0 : ¬ X < Pt.pp) {w : World} (_hF : Fp w b) :
  Calls Tryz.prog 101 #[cv b,qv X Y false] w fun e w' => e = .returned (.bool false) ∧ Ext w w':=by
 have kX:=veil hX
 have k0:=veil h0
 clear hX h0
 exact way1 Tryz.func101 [cv b,qv X Y false] (.call _ _ _ (fun W _ => pP_is W) <|
  .call _ _ _ (fun W _ => cmp_no kX.out W) <|
  .ins 20 (binK .geq 3 (.tmp 19) (.const (.int .i64 0)) (.int .i64 (cmpN X Pt.pp)) (.int .i64 0)) _ (fun W _ => zed (cmp_no_ge k0.out) W) <|
  .ret _ fun _ h => ⟨rfl,h⟩) (by kernel_rfl)
theorem on_high {b : Nat} (X Y : Nat) (hX : X < Pt.pp) (hY : Y < top) (h0 : ¬ Y < Pt.pp) {w : World} (_hF : Fp w b) :
  Calls Tryz.prog 101 #[cv b,qv X Y false] w fun e w' => e = .returned (.bool false) ∧ Ext w w':=by
 have kX:=veil hX
 have kY:=veil hY
 have k0:=veil h0
 clear hX hY h0
 exact way1 Tryz.func101 [cv b,qv X Y false] (.call _ _ _ (fun W _ => pP_is W) <|
  .call _ _ _ (fun W _ => cmp_in kX.out W) <|
  .call _ _ _ (fun W _ => pP_is W) <|
  .call _ _ _ (fun W _ => cmp_no kY.out W) <|
  .ins 26 (binK .geq 3 (.tmp 25) (.const (.int .i64 0)) (.int .i64 (cmpN Y Pt.pp)) (.int .i64 0)) _ (fun W _ => zed (cmp_no_ge k0.out) W) <|
  .ret _ fun _ h => ⟨rfl,h⟩) (by kernel_rfl)
theorem on_near {b : Nat} (x y : Fe) {w : World} (hF : Fp w b) :
  Calls Tryz.prog 101 #[cv b,qv x.val y.val false] w fun e w' => e = .returned (.bool (decide ((y * y).val = (x * x * x - (x + x + x) + Pt.F Pt.bb).val))) ∧ Ext w w':=by
 obtain ⟨sq,hsq⟩ : ∃ t : Fe,t = x * x:=⟨_,rfl⟩
 obtain ⟨cube,hcube⟩ : ∃ t : Fe,t = sq * x:=⟨_,rfl⟩
 obtain ⟨lhs,hlhs⟩ : ∃ t : Fe,t = y * y:=⟨_,rfl⟩
 obtain ⟨tr,htr⟩ : ∃ t : Fe,t = x + x + x:=⟨_,rfl⟩
 obtain ⟨d,hd⟩ : ∃ t : Fe,t = cube - tr:=⟨_,rfl⟩
 obtain ⟨r,hr⟩ : ∃ t : Fe,t = d + Pt.F Pt.bb:=⟨_,rfl⟩
 have hfin : x * x * x - (x + x + x) + Pt.F Pt.bb = r:=by
  subst hr hd htr hlhs hcube hsq
  rfl
 rw [hfin,← hlhs]
 clear hfin
 have ksq:=veil hsq
 have kcube:=veil hcube
 have klhs:=veil hlhs
 have ktr:=veil htr
 have kd:=veil hd
 have kr:=veil hr
 clear hr hd htr hlhs hcube hsq
 have kx:=veil x.isLt
 have ky:=veil y.isLt
 exact way1 Tryz.func101 [cv b,qv x.val y.val false] (.call _ _ _ (fun W _ => pP_is W) <|
  .call _ _ _ (fun W _ => cmp_in kx.out W) <|
  .call _ _ _ (fun W _ => pP_is W) <|
  .call _ _ _ (fun W _ => cmp_in ky.out W) <|
  .call _ _ _ (fun W hW => zbb ksq.out (hF.ext hW)) <|
  .call _ _ _ (fun W hW => zbb kcube.out (hF.ext hW)) <|
  .call _ _ _ (fun W hW => zbb klhs.out (hF.ext hW)) <|
  .call _ _ _ (fun W hW => trp_calls ktr.out (hF.ext hW)) <|
  .call _ _ _ (fun W hW => zcv kd.out (hF.ext hW)) <|
  .call _ _ _ (fun W _ => bb_is W) <|
  .call _ _ _ (fun W hW => kadd_p kr.out (hF.ext hW)) <|
  .ins 59 (binK .eql 29 (.tmp 46) (.tmp 58) (nv lhs.val) (nv r.val)) (.bool (decide (lhs.val = r.val))) (fun W _ => zbe (gN _ _ _ _ _ W) (zgd (zdg _) (zdg _) W)) <|
  .ret _ fun _ h => ⟨rfl,h⟩) (by kernel_rfl)
def Rep (x y z : Fe) : Pt.P Pt.pp → Prop
 | none => z = 0
 | some (X,Y) => z ≠ 0 ∧ x = X * (z * z) ∧ y = Y * (z * z * z)
section
variable {n : Nat} [NeZero n]
theorem rt_m {X Y z l x Z s u : Fin n} (hl : l * (Y + Y) = 3 * (X * X - 1)) (hx : x = X * (z * z)) (hZ : Z = Y * (z * z * z) * z + Y * (z * z * z) * z) (hs : s = x - z * z) (hu : u = x + z * z) : s * u + s * u + s * u = l * Z:=by
 subst hs hu hx hZ
 have h : l * (Y * (z * z * z) * z + Y * (z * z * z) * z) = l * (Y + Y) * (z * z * z * z):=by grobner
 rw [h,hl]
 grobner
theorem rt_c {X Y z x y Z : Fin n} (hx : x = X * (z * z)) (hy : y = Y * (z * z * z)) (hZ : Z = y * z + y * z) : (x * (y * y) + x * (y * y)) + (x * (y * y) + x * (y * y)) = X * (Z * Z):=by
 subst hZ hy hx
 grobner
theorem rt_x {m l Z c X : Fin n} (hm : m = l * Z) (hc : c = X * (Z * Z)) : m * m - (c + c) = (l * l - X - X) * (Z * Z):=by
 subst hm hc
 grobner
theorem rt_t {Y z y Z : Fin n} (hy : y = Y * (z * z * z)) (hZ : Z = y * z + y * z) : ((y * y * (y * y) + y * y * (y * y)) + (y * y * (y * y) + y * y * (y * y))) + ((y * y * (y * y) + y * y * (y * y)) + (y * y * (y * y) + y * y * (y * y))) = Y * (Z * Z * Z):=by
 subst hZ hy
 grobner
theorem rt_y {m l Z c X x3 X3 t Y : Fin n} (hm : m = l * Z) (hc : c = X * (Z * Z)) (hx : x3 = X3 * (Z * Z)) (ht : t = Y * (Z * Z * Z)) : m * (c - x3) - t = (l * (X - X3) - Y) * (Z * Z * Z):=by
 subst hm hc hx ht
 grobner
theorem rp_run {X1 X2 z x : Fin n} (hx : x = X1 * (z * z)) : X2 * (z * z) - x = (X2 - X1) * (z * z):=by subst hx; grobner
theorem rp_rise {Y1 Y2 z y : Fin n} (hy : y = Y1 * (z * z * z)) : Y2 * (z * z * z) - y = (Y2 - Y1) * (z * z * z):=by subst hy; grobner
theorem rp_l {X1 X2 Y1 Y2 z l run Z : Fin n} (hl : l * (X2 - X1) = Y2 - Y1) (hr : run = (X2 - X1) * (z * z)) (hZ : Z = z * run) : (Y2 - Y1) * (z * z * z) = l * Z:=by
 subst hZ hr
 rw [← hl]
 grobner
theorem rp_x {X1 X2 z l run Z rise x : Fin n} (hx : x = X1 * (z * z)) (hr : run = (X2 - X1) * (z * z)) (hZ : Z = z * run) (hs : rise = l * Z) :
  rise * rise - run * run * run - (x * (run * run) + x * (run * run)) = (l * l - X1 - X2) * (Z * Z):=by
 subst hs hZ hr hx
 grobner
theorem rp_y {X1 Y1 X2 z l run Z rise x y x3 X3 : Fin n} (hx : x = X1 * (z * z)) (hy : y = Y1 * (z * z * z)) (hr : run = (X2 - X1) * (z * z)) (hZ : Z = z * run) (hs : rise = l * Z) (h3 : x3 = X3 * (Z * Z)) :
  rise * (x * (run * run) - x3) - y * (run * run * run) = (l * (X1 - X3) - Y1) * (Z * Z * Z):=by
 subst h3 hs hZ hr hx hy
 grobner
theorem rf_x {X x z t : Fin n} (hx : x = X * (z * z)) (ht : z * t = 1) : x * (t * t) = X:=by
 subst hx
 have h : X * (z * z) * (t * t) = X * (z * t) * (z * t):=by grobner
 rw [h,ht]
 grobner
theorem rf_y {Y y z t : Fin n} (hy : y = Y * (z * z * z)) (ht : z * t = 1) : y * (t * t * t) = Y:=by
 subst hy
 have h : Y * (z * z * z) * (t * t * t) = Y * (z * t) * (z * t) * (z * t):=by grobner
 rw [h,ht]
 grobner
theorem three_x (x : Fin n) : x + x + x = 3 * x:=by grobner
theorem opp_of {y1 y2 : Fin n} (h : (y1 - y2) * (y1 - (0 - y2)) = 0) (hz : ∀ x y : Fin n,x * y = 0 → x = 0 ∨ y = 0) (hn : y1 ≠ y2) : y1 = 0 - y2:=by
 rcases hz _ _ h with h | h
 ·
  exact absurd (Pt.eq_of_sub h) hn
 ·
  exact Pt.eq_of_sub h
theorem opp_sq {y1 y2 : Fin n} (h : y1 * y1 = y2 * y2) : (y1 - y2) * (y1 - (0 - y2)) = 0:=by grobner
end
theorem fe_ne {x : Fe} (h : x ≠ 0) : x.val ≠ 0:=fun e => h (Fin.ext (by rw [e,zfs]))
theorem fe_z {x : Fe} (h : x = 0) : x.val = 0:=by rw [h,zfs]
theorem noz {x y : Fe} (hx : x ≠ 0) (hy : y ≠ 0) : x * y ≠ 0:=fun e => by
 rcases Pt.good.hz _ _ e with h | h
 ·
  exact hx h
 ·
  exact hy h
section
variable {n : Nat} [NeZero n]
theorem r0 (y : Fin n) : y * 0 + y * 0 = 0:=by grobner
theorem r1 (Y z : Fin n) : Y * (z * z * z) * z + Y * (z * z * z) * z = (Y + Y) * (z * z * (z * z)):=by grobner
theorem r2 (u i d : Fin n) (h : d * i = 1) : u * i * d = u:=by
 have e : u * i * d = u * (d * i):=by grobner
 rw [e,h]
 grobner
theorem r3 (X : Fin n) : X = X * (1 * 1):=by grobner
theorem r4 (X : Fin n) : X = X * (1 * 1 * 1):=by grobner
theorem r5 (X z : Fin n) : (X - X) * z = 0:=by grobner
end
theorem rep_twice {x y z : Fe} {p : Pt.P Pt.pp} (hp : Pt.E256.on p) (h : Rep x y z p) : Rep (twice3 x y z).1 (twice3 x y z).2.1 (twice3 x y z).2.2 (Pt.E256.add p p):=by
 rcases p with _ | ⟨X,Y⟩
 ·
  have hz : z = 0:=h
  subst hz
  exact r0 y
 ·
  obtain ⟨hz,hx,hy⟩:=h
  have hd:=Pt.down_same hp
  have hn : ¬ (X = X ∧ Y = 0 - Y):=fun e => hd ((Pt.ring_neg _ _).1 e.2)
  rw [Pt.add_near hn,Pt.lam_same]
  have hl:=r2 (3 * (X * X - 1)) _ _ (Pt.good.hinv (Y + Y) hd)
  generalize 3 * (X * X - 1) * Pt.E256.inv (Y + Y) = l at hl ⊢
  have hZ : y * z + y * z = Y * (z * z * z) * z + Y * (z * z * z) * z:=by rw [hy]
  have hm:=rt_m hl hx hZ rfl rfl
  have hc:=rt_c hx hy rfl
  have h3:=rt_x hm hc
  refine ⟨?_,h3,rt_y hm hc h3 (rt_t hy rfl)⟩
  show y * z + y * z ≠ 0
  rw [hZ,r1]
  exact noz hd (noz (noz hz hz) (noz hz hz))
def qvP (p : Pt.P Pt.pp) : Value:=qv (Pt.pX p) (Pt.pY p) (Pt.pFar p)
theorem twice_rep {x y z : Fe} {p : Pt.P Pt.pp} (hp : Pt.E256.on p) (h : Rep x y z p) : ∃ x' y' z' : Fe,Rep x' y' z' (Pt.E256.add p p) ∧
  ∀ (b : Nat) (w : World),Fp w b → Calls Tryz.prog 104 #[cv b,sv x.val y.val z.val] w fun e w' => e = .returned (sv x'.val y'.val z'.val) ∧ Ext w w' :=
 ⟨_,_,_,rep_twice hp h,fun _ _ hF => twice_calls x y z hF⟩
theorem plus_rep {x y z : Fe} {p q : Pt.P Pt.pp} (hp : Pt.E256.on p) (hq : Pt.E256.on q) (h : Rep x y z p) : ∃ x' y' z' : Fe,Rep x' y' z' (Pt.E256.add p q) ∧
  ∀ (b : Nat) (w : World),Fp w b → Calls Tryz.prog 106 #[cv b,sv x.val y.val z.val,qvP q] w fun e w' => e = .returned (sv x'.val y'.val z'.val) ∧ Ext w w':=by
 rcases q with _ | ⟨X2,Y2⟩
 ·
  rw [Pt.add_none]
  exact ⟨_,_,_,h,fun _ _ hF => plus_far x.val y.val z.val 0 0 hF⟩
 rcases p with _ | ⟨X1,Y1⟩
 ·
  have hz : z = 0:=h
  subst hz
  rw [Pt.none_add,zfs]
  refine ⟨X2,Y2,1,⟨?_,r3 X2,r4 Y2⟩,fun b w hF => ?_⟩
  ·
   intro e
   have:=congrArg Fin.val e
   rw [v_one,zfs] at this
   exact absurd this (by decide)
  ·
   rw [v_one]
   exact plus_lift x.val y.val X2.val Y2.val hF
 ·
  obtain ⟨hz,hx,hy⟩:=h
  have hz3 : z * z * z ≠ 0:=noz (noz hz hz) hz
  have hrun : runOf x z X2 = (X2 - X1) * (z * z):=rp_run hx
  have hrise : riseOf y z Y2 = (Y2 - Y1) * (z * z * z):=rp_rise hy
  by_cases hX : X1 = X2
  ·
   subst hX
   have h0 : (runOf x z X1).val = 0:=fe_z (by rw [hrun]; exact r5 _ _)
   by_cases hY : Y1 = Y2
   ·
    subst hY
    have h1 : (riseOf y z Y1).val = 0:=fe_z (by rw [hrise]; exact r5 _ _)
    exact ⟨_,_,_,rep_twice hp ⟨hz,hx,hy⟩,fun _ _ hF => plus_same x y z X1 Y1 (fe_ne hz) h0 h1 hF⟩
   ·
    have h1 : (riseOf y z Y2).val ≠ 0:=fe_ne (by rw [hrise]; exact noz (fun e => hY (Pt.eq_of_sub e).symm) hz3)
    have he : Y1 * Y1 = Y2 * Y2:=by
     have e1 : Y1 * Y1 = _:=(Pt.on_iff X1 Y1).1 hp
     have e2 : Y2 * Y2 = _:=(Pt.on_iff X1 Y2).1 hq
     rw [e1,e2]
    have ho:=opp_of (opp_sq he) Pt.good.hz hY
    rw [Pt.add_far ⟨rfl,ho⟩]
    refine ⟨0,0,0,rfl,fun b w hF => ?_⟩
    rw [zfs]
    exact plus_opp x y z X1 Y2 (fe_ne hz) h0 h1 hF
  ·
   have hd : X2 - X1 ≠ 0:=fun e => hX (Pt.eq_of_sub e).symm
   have h0 : runOf x z X2 ≠ 0:=by rw [hrun]; exact noz hd (noz hz hz)
   rw [Pt.add_near (fun e => hX e.1),Pt.lam_else (fun e => hX e.1)]
   have hl:=r2 (Y2 - Y1) _ _ (Pt.good.hinv (X2 - X1) hd)
   generalize (Y2 - Y1) * Pt.E256.inv (X2 - X1) = l at hl ⊢
   have hs : riseOf y z Y2 = l * (z * runOf x z X2):=by rw [hrise]; exact rp_l hl hrun rfl
   have h3:=rp_x (X2:=X2) hx hrun rfl hs
   exact ⟨_,_,_,⟨noz hz h0,h3,rp_y (X2:=X2) hx hy hrun rfl hs h3⟩,fun _ _ hF => plus_else x y z X2 Y2 (fe_ne hz) (fe_ne h0) hF⟩
theorem lift_rep (p : Pt.P Pt.pp) : ∃ x y z : Fe,Rep x y z p ∧ ∀ w,Calls Tryz.prog 102 #[qvP p] w fun e w' => e = .returned (sv x.val y.val z.val) ∧ Ext w w':=by
 rcases p with _ | ⟨X,Y⟩
 ·
  refine ⟨0,0,0,rfl,fun w => ?_⟩
  rw [zfs]
  exact lift_far 0 0 w
 ·
  refine ⟨X,Y,1,⟨?_,r3 X,r4 Y⟩,fun w => ?_⟩
  ·
   intro e
   have:=congrArg Fin.val e
   rw [v_one,zfs] at this
   exact absurd this (by decide)
  ·
   rw [v_one]
   exact lift_near X.val Y.val w
theorem flat_rep {b : Nat} {x y z : Fe} {p : Pt.P Pt.pp} (h : Rep x y z p) {w : World} (hF : Fp w b) :
  Calls Tryz.prog 107 #[cv b,sv x.val y.val z.val] w fun e w' => e = .returned (qvP p) ∧ Ext w w':=by
 rcases p with _ | ⟨X,Y⟩
 ·
  have hz : z = 0:=h
  subst hz
  rw [zfs]
  exact flat_far x.val y.val hF
 ·
  obtain ⟨hz,hx,hy⟩:=h
  have ht:=Pt.good.hinv z hz
  refine (flat_near x y z hz hF).mono fun _ _ ⟨he,hw⟩ => ⟨?_,hw⟩
  rw [he]
  have e1 : (flat2 x y z).1 = X:=rf_x hx ht
  have e2 : (flat2 x y z).2 = Y:=rf_y hy ht
  rw [e1,e2]
  rfl
theorem on_calls {b : Nat} (X Y : Nat) (f : Bool) (hX : X < top) (hY : Y < top) {w : World} (hF : Fp w b) :
  Calls Tryz.prog 101 #[cv b,qv X Y f] w fun e w' => e = .returned (.bool (onB X Y f)) ∧ Ext w w':=by
 unfold onB
 cases f with
 | true =>
  by_cases h0 : X = 0
  ·
   subst h0
   simp only [if_true,decide_true,Bool.true_and]
   exact on_far0 Y hY hF
  ·
   simp only [if_true,h0,decide_false,Bool.false_and]
   exact on_far1 X Y hX h0 hF
 | false =>
  by_cases hx : X < Pt.pp
  ·
   by_cases hy : Y < Pt.pp
   ·
    simp only [Bool.false_eq_true,if_false,hx,hy,decide_true,Bool.true_and]
    have k:=on_near (b:=b) ⟨X,hx⟩ ⟨Y,hy⟩ hF
    rw [three_x,← zhg,← Pt.v_mul] at k
    exact k
   ·
    simp only [Bool.false_eq_true,if_false,hx,hy,decide_true,decide_false,Bool.true_and,Bool.false_and]
    exact on_high X Y hx hY hy hF
  ·
   simp only [Bool.false_eq_true,if_false,hx,decide_false,Bool.false_and]
   exact on_out X Y hX hx hF
theorem on_yes {b : Nat} (q : Pt.Q) {w : World} (hF : Fp w b) : Calls Tryz.prog 101 #[cv b,qvP q.1] w fun e w' => e = .returned (.bool true) ∧ Ext w w':=by
 have k:=on_calls (Pt.pX q.1) (Pt.pY q.1) (Pt.pFar q.1) (p_top q.1).1 (p_top q.1).2 hF
 rw [onB_of] at k
 exact k
theorem Fp.but {w W : World} {b r : Nat} (h : Fp w b) (hB : But r w W) (hne : b ≠ r) : Fp W b:=by
 obtain ⟨N,Q,h1,h2⟩:=h
 exact ⟨N,Q,h1,h2.of_block (hB.block b h2.lt (by intro e; simp at e; exact hne e))⟩
theorem add_yes (q r : Pt.Q) (w : World) :
  Calls Tryz.prog 130 #[qvP q.1,qvP r.1] w fun e w' => e = .returned (.tuple #[qvP (Pt.grp.op q r).1,.nilIface]) ∧ Ext w w':=by
 obtain ⟨x1,y1,z1,h1,k1⟩:=lift_rep q.1
 obtain ⟨x2,y2,z2,h2,k2⟩:=plus_rep q.2 r.2 h1
 have k3:=fun (b : Nat) (w : World) (hF : Fp w b) => flat_rep h2 hF
 obtain ⟨t,ht⟩ : ∃ t : Pt.Q,t = Pt.grp.op q r:=⟨_,rfl⟩
 have ht2 : Pt.E256.add q.1 r.1 = t.1:=by rw [ht]; rfl
 rw [ht2] at k3
 rw [← ht]
 have K1:=veil k1
 have K2:=veil k2
 have K3:=veil k3
 clear k1 k2 k3 h1 h2 ht ht2
 exact way1 Tryz.func130 [qvP q.1,qvP r.1] (hCurve fun b => .call _ _ _ (fun W hW => on_yes q hW.2) <|
  .call _ _ _ (fun W hW => on_yes r hW.2) <|
  .call _ _ _ (fun W _ => K1.out W) <|
  .call _ _ _ (fun W hW => K2.out _ _ hW.2) <|
  .call _ _ _ (fun W hW => K3.out _ _ hW.2) <|
  .ret _ fun _ h => ⟨rfl,h.1⟩) (by kernel_rfl)
def mlT (n : Nat) : List (Nat × SV):=[(2,.p 0 0),(3,.p 1 0),(4,.p 2 0),(6,.p 3 0),(7,.p 4 0),(8,.v (.int .i64 ((n : Int) - 1)))]
def mlM (K b : Nat) (q : Pt.Q) (x y z : Fe) : List Blk:=[⟨29,cN K⟩,⟨44,cQ (Pt.pX q.1) (Pt.pY q.1) (Pt.pFar q.1)⟩,⟨44,cQ 0 0 false⟩,⟨144,(cc b).toList.map SV.v⟩,⟨147,(sc x.val y.val z.val).toList.map SV.v⟩]
section
variable {w0 : World} {Post : Value → World → Prop} {J : World → Prop}
def mlNext (K n b : Nat) (q : Pt.Q) (x y z : Fe) (h : n ≤ 256) (h0 : ¬ n = 0) (hr : Rep x y z (Pt.grp.mul (K / 2 ^ (n - 1)) q).1) : OT Tryz.prog w0 Post J :=
 .ins 24 (binK .sub 3 (.tmp 23) (.const (.int .i64 1)) (.int .i64 ((n : Int) - 1)) (.int .i64 1)) (.int .i64 (((n - 1 : Nat) : Int) - 1)) (fun _ _ => zji (by omega) (by omega) (by omega)) <|
 .nextG (mlT (n - 1)) (mlM K b q x y z) (∃ l : Nat × Fe × Fe × Fe,((l.1 ≤ 256 ∧ Rep l.2.1 l.2.2.1 l.2.2.2 (Pt.grp.mul (K / 2 ^ l.1) q).1) ∧ l.1 < n) ∧ mlT l.1 = mlT (n - 1) ∧ mlM K b q l.2.1 l.2.2.1 l.2.2.2 = mlM K b q x y z)
  ⟨(n - 1,x,y,z),⟨⟨by show n - 1 ≤ 256; omega,hr⟩,by show n - 1 < n; omega⟩,rfl,rfl⟩
end
theorem mul_yes (K : Nat) (hK : K < top) (q : Pt.Q) (w : World) :
  Calls Tryz.prog 53 #[nv K,qvP q.1] w fun e w' => e = .returned (.tuple #[qvP (Pt.grp.mul K q).1,.nilIface]) ∧ Ext w w' :=
 have h0 : ∃ t : Fe × Fe × Fe,Rep t.1 t.2.1 t.2.2 none ∧ ∀ w,Calls Tryz.prog 102 #[qvP none] w fun e w' => e = .returned (sv t.1.val t.2.1.val t.2.2.val) ∧ Ext w w':=by
  obtain ⟨x,y,z,h⟩:=lift_rep none
  exact ⟨(x,y,z),h⟩
 have h2 : ∀ {x y z : Fe} {p : Pt.Q},Rep x y z p.1 → ∃ t : Fe × Fe × Fe,Rep t.1 t.2.1 t.2.2 (Pt.grp.op p p).1 ∧ ∀ (b : Nat) (w : World),Fp w b → Calls Tryz.prog 104 #[cv b,sv x.val y.val z.val] w fun e w' => e = .returned (sv t.1.val t.2.1.val t.2.2.val) ∧ Ext w w':=fun {x y z p} h => by
  obtain ⟨x,y,z,h⟩:=twice_rep p.2 h
  exact ⟨(x,y,z),h⟩
 have h3 : ∀ {x y z : Fe} {p : Pt.Q},Rep x y z p.1 → ∃ t : Fe × Fe × Fe,Rep t.1 t.2.1 t.2.2 (Pt.grp.op p q).1 ∧ ∀ (b : Nat) (w : World),Fp w b → Calls Tryz.prog 106 #[cv b,sv x.val y.val z.val,qvP q.1] w fun e w' => e = .returned (sv t.1.val t.2.1.val t.2.2.val) ∧ Ext w w':=fun {x y z p} h => by
  obtain ⟨x,y,z,h⟩:=plus_rep p.2 q.2 h
  exact ⟨(x,y,z),h⟩
 way1 Tryz.func53 [nv K,qvP q.1] (hCurve fun b => .call _ _ _ (fun _ hW => on_yes q hW.2) <| .get _ h0 fun t ht => .call _ _ _ (fun W _ => ht.2 W) <| .call _ _ _ (fun W _ => klen K (bitLen K) rfl hK W) <|
  .ins 20 (binK .sub 3 (.tmp 19) (.const (.int .i64 1)) (.int .i64 (bitLen K : Int)) (.int .i64 1)) (.int .i64 ((bitLen K : Int) - 1)) (fun _ _ => by have:=bl_le hK; exact zji rfl (by omega) (by omega)) <|
  .loopG (α:=Nat × Fe × Fe × Fe) (fun s => mlT s.1) (fun s => mlM K b q s.2.1 s.2.2.1 s.2.2.2) (fun s => s.1) (fun s => s.1 ≤ 256 ∧ Rep s.2.1 s.2.2.1 s.2.2.2 (Pt.grp.mul (K / 2 ^ s.1) q).1) (bitLen K,t) ⟨bl_le hK,by
   show Rep t.1 t.2.1 t.2.2 (Pt.grp.mul (K / 2 ^ bitLen K) q).1
   rw [bl_div]
   exact ht.1⟩ (mlT (bitLen K)) (mlM K b q t.1 t.2.1 t.2.2) ⟨rfl,rfl⟩ fun s h =>
  .cases (s.1 = 0)
   (fun h0 => .ins 22 (binK .geq 3 (.tmp 21) (.const (.int .i64 0)) (.int .i64 ((s.1 : Int) - 1)) (.int .i64 0)) (.bool false) (fun W _ => zed (decide_eq_false (by omega)) W) <|
    .call _ _ _ (fun _ hW => flat_rep h.2 hW.2) <| .ret (.tuple #[qvP (Pt.grp.mul (K / 2 ^ s.1) q).1,.nilIface]) fun _ hW => ⟨by rw [h0,Nat.pow_zero,Nat.div_one],hW.1⟩)
   (fun h0 => .ins 22 (binK .geq 3 (.tmp 21) (.const (.int .i64 0)) (.int .i64 ((s.1 : Int) - 1)) (.int .i64 0)) (.bool true) (fun W _ => zed (decide_eq_true (by omega)) W) <|
    .get _ (h2 h.2) fun u hu => .call _ _ _ (fun W hW => hu.2 b W hW.2) <|
    .cases (bit K (s.1 - 1) = true)
     (fun hb => .call _ #[nv K,.int .i64 ((s.1 : Int) - 1)] (.bool true) (fun W _ => by have k:=kbit K (s.1 - 1) true hb (by omega) W; rw [show ((s.1 - 1 : Nat) : Int) = (s.1 : Int) - 1 by omega] at k; exact k) <|
      .get _ (h3 hu.1) fun v hv => .call _ _ _ (fun W hW => hv.2 b W hW.2) <| mlNext K s.1 b q v.1 v.2.1 v.2.2 h.1 h0 (by rw [zfu,if_pos hb,show s.1 - 1 + 1 = s.1 by omega]; exact hv.1))
     (fun hb => .call _ #[nv K,.int .i64 ((s.1 : Int) - 1)] (.bool false) (fun W _ => by have k:=kbit K (s.1 - 1) false (Bool.eq_false_iff.2 hb) (by omega) W; rw [show ((s.1 - 1 : Nat) : Int) = (s.1 : Int) - 1 by omega] at k; exact k) <|
      mlNext K s.1 b q u.1 u.2.1 u.2.2 h.1 h0 (by rw [zfu,if_neg hb,show s.1 - 1 + 1 = s.1 by omega]; exact hu.1)))) (by kernel_rfl)
theorem on_is (X Y : Nat) (f : Bool) (hX : X < top) (hY : Y < top) (w : World) :
  Calls Tryz.prog 77 #[qv X Y f] w fun e w' => e = .returned (.bool (onB X Y f)) ∧ Ext w w':=by
 have KO:=veil (fun (b : Nat) (w : World) (hF : Fp w b) => on_calls X Y f hX hY hF)
 obtain ⟨r,hr⟩ : ∃ r,r = onB X Y f:=⟨_,rfl⟩
 rw [← hr] at KO ⊢
 clear hX hY hr
 unfold qv qc
 go_enter Tryz.func77,Tryz.ntmps77
 go_upto_region 1 with (fail)
 refine wp_via1 fun w1 hx b0 => ?_
 have b0 : w1.heap[w.heap.size]? = some (.cells (qc X Y f) 44 (0,0)):=b0
 refine wp_region_noPanic ?_
 refine wp_region_held_drew (S:=fun W => Ext w1 W) (by kernel_rfl) (Ext.drew _) (fun hH => ?_)
 refine wpAnyH_take (i:=1) (v:=qv X Y f) rfl (by kernel_rfl) (by kernel_rfl) (by decide +kernel) (fun _ _ _ h => h) (yieldsIf_load_mid (by rfl) _ _ rfl _ _ rfl (qc X Y f).toList _ (fun W hW j v hv => by rw [cell_of_row W _ _ (qc X Y f) 44 (0,0) (hW.block b0),Nat.zero_add]; simpa using hv) Tryz.underlying44 rfl (iT X Y f)) hH ?_
 refine wpAnyH_ready (rs:=[0]) (by decide +kernel) (by simp) ?_
 refine AllReadyH.cons rfl (fun K hK => ?_) AllReadyH.nil
 go_simp
 refine (curve_calls _).mono ?_
 rintro e w2 ⟨b,rfl,hF,hE⟩
 refine hK.out _ _ (hH.trans hE) (fun hH => ?_)
 clear hK K hE
 refine wpAnyH_ready (rs:=[2]) (by decide +kernel) (by simp) ?_
 refine AllReadyH.cons rfl (fun K hK => ?_) AllReadyH.nil
 go_simp
 refine (KO.out _ _ hF).mono ?_
 rintro e w3 ⟨rfl,hE⟩
 refine hK.out _ _ (hH.trans hE) (fun hH => ?_)
 clear hK K hE
 refine wpAnyH_take (i:=3) (v:=.bool r) rfl (by kernel_rfl) (by kernel_rfl) (by decide +kernel) (fun _ _ _ h => h) (Or.inl ⟨by rfl,fun W hSw => (by dsimp only at hSw; go_simp)⟩) hH ?_
 refine wpAnyH_done (by decide +kernel) ?_ _
 refine NoPanic.normal ?_
 go_wp2
 go_ret
 exact ⟨rfl,hx.trans hH⟩
/-! ### the field of n -/
def Fn (w : World) (b : Nat) : Prop:=∃ N Q,Fok Pt.nn N Q ∧ Fb w b Pt.nn N Q
theorem Fn.ext {w w' : World} {b : Nat} (h : Fn w b) (k : Ext w w') : Fn w' b:=by
 obtain ⟨N,Q,h1,h2⟩:=h
 exact ⟨N,Q,h1,h2.call k⟩
theorem Fn.but {w w' : World} {b r : Nat} (h : Fn w b) (k : But r w w') (hne : b ≠ r) : Fn w' b:=by
 obtain ⟨N,Q,h1,h2⟩:=h
 exact ⟨N,Q,h1,World.rowIs.of_block h2 (k.block b h2.lt (fun e => hne (Option.some.inj e)))⟩
section
variable {b : Nat} {w : World}
theorem nadd_p {X Y Z : Nat} (hZ : Z = (X % Pt.nn + Y % Pt.nn) % Pt.nn) (hX : X < top) (hY : Y < top) (hF : Fn w b) : Calls Tryz.prog 133 #[ptrTo b,nv X,nv Y] w fun e w' => e = .returned (nv Z) ∧ Ext w w':=by
 obtain ⟨N,Q,h1,h2⟩:=hF
 exact fadd2_calls b X Y Pt.nn N Q Z hX hY h1 hZ.symm w h2
theorem ncut_p {X Z : Nat} (hZ : Z = X % Pt.nn) (hX : X < top) (hF : Fn w b) : Calls Tryz.prog 133 #[ptrTo b,nv X,nv 0] w fun e w' => e = .returned (nv Z) ∧ Ext w w' :=
 nadd_p (by rw [hZ,Nat.zero_mod,Nat.add_zero,Nat.mod_mod]) hX zbk hF
theorem nmul_p {X Y Z : Nat} (hZ : Z = X * Y % Pt.nn) (hX : X < top) (hY : Y < top) (hF : Fn w b) : Calls Tryz.prog 81 #[ptrTo b,nv X,nv Y] w fun e w' => e = .returned (nv Z) ∧ Ext w w':=by
 obtain ⟨N,Q,h1,h2⟩:=hF
 exact fmul2_calls b X Y Pt.nn N Q Z hX hY h1 hZ.symm w h2
theorem ninv_p {X t : Nat} (h0 : X ≠ 0) (hX : X < Pt.nn) (ht : t = Pt.iG Pt.nn X) (hF : Fn w b) : Calls Tryz.prog 79 #[ptrTo b,nv X] w fun e w' => e = .returned (.tuple #[nv t,.nilIface]) ∧ Ext w w':=by
 obtain ⟨N,Q,h1,h2⟩:=hF
 refine (ziq b X Pt.nn N Q (Nat.lt_trans hX zdp) h1 w h2).mono ?_
 rintro e w' ⟨⟨y,hy,hi,rfl⟩,hb⟩
 have hg:=Pt.gcd_nn h0 hX
 have e1 : y = t:=by rw [ht]; exact Pt.iG_of Pt.nn Pt.nn_root Pt.nn_one hy (hi hg)
 rw [zij hg,e1]
 exact ⟨rfl,hb⟩
end
/-! ### a maker -/
section
variable (g : Nat) (W : World)
end
/-! ### what the layers below answer -/
theorem ofl_is {y : Nat → Nat} {X : Nat} (hy : ∀ j,y j < 256) (hX : X = num32 y) {g : Nat} (w : World) (hb : w.heap[g]? = some (.cells (dgc y) 23 (0,0))) : Calls Tryz.prog 74 #[.slice (some ⟨g,0,none⟩) 32 32] w fun e w' => e = .returned (.tuple #[nv X,.nilIface]) ∧ Ext w w':=by
 subst hX
 exact of_some g 0 32 32 y hy (by decide) w (Array.getElem?_eq_some_iff.1 hb).1 (fun j hj => by rw [Nat.zero_add,cell_of_row w g j _ _ _ hb]; exact zca _ hj)
theorem mulb_is {K : Nat} (hK : K < top) {P : Pt.Q} (hP : P = Pt.grp.mul K Pt.base) (w : World) : Calls Tryz.prog 53 #[nv K,qv Pt.gx Pt.gy false] w fun e w' => e = .returned (.tuple #[qv (Pt.pX P.1) (Pt.pY P.1) (Pt.pFar P.1),.nilIface]) ∧ Ext w w':=by
 subst hP
 have h:=mul_yes K hK Pt.base w
 unfold qvP at h
 rwa [base_x.1,base_x.2.1,base_x.2.2] at h
theorem mulq_is {K X Y : Nat} {f : Bool} (hK : K < top) {p q : Pt.Q} (hp : X = Pt.pX p.1 ∧ Y = Pt.pY p.1 ∧ f = Pt.pFar p.1) (hq : q = Pt.grp.mul K p) (w : World) : Calls Tryz.prog 53 #[nv K,qv X Y f] w fun e w' => e = .returned (.tuple #[qv (Pt.pX q.1) (Pt.pY q.1) (Pt.pFar q.1),.nilIface]) ∧ Ext w w':=by
 obtain ⟨rfl,rfl,rfl⟩:=hp
 subst hq
 exact mul_yes K hK p w
theorem addq_is {a b c : Pt.Q} (hc : c = Pt.grp.op a b) (w : World) : Calls Tryz.prog 130 #[qv (Pt.pX a.1) (Pt.pY a.1) (Pt.pFar a.1),qv (Pt.pX b.1) (Pt.pY b.1) (Pt.pFar b.1)] w fun e w' => e = .returned (.tuple #[qv (Pt.pX c.1) (Pt.pY c.1) (Pt.pFar c.1),.nilIface]) ∧ Ext w w':=by
 subst hc; exact add_yes a b w
theorem onp_is {X Y : Nat} {f r : Bool} (h : onB X Y f = r) (hX : X < top) (hY : Y < top) (w : World) : Calls Tryz.prog 77 #[qv X Y f] w fun e w' => e = .returned (.bool r) ∧ Ext w w':=by
 subst h; exact on_is X Y f hX hY w
theorem iz_is {X : Nat} {b : Bool} (hb : decide (X = 0) = b) (hX : X < top) (w : World) :
  Calls Tryz.prog 97 #[nv X] w fun e w' => e = .returned (.bool b) ∧ Ext w w':=by
 have k:=veil fun W => zjq hX W
 rw [hb] at k
 clear hb hX
 exact way1 Tryz.func97 [nv X] (.ins 5 (binK .eql 29 (.tmp 3) (.tmp 4) (nv X) (nv 0)) (.bool b) (fun W _ => zbe (gN _ _ _ _ _ W) (k.out W)) <| .ret _ fun _ h => ⟨rfl,h⟩) (by kernel_rfl)
theorem rng_zero (w : World) : Calls Tryz.prog 52 #[nv 0] w fun e w' => e = .returned (.bool false) ∧ Ext w w' :=
 way1 Tryz.func52 [nv 0] (.call _ _ _ (fun W _ => iz_is (b:=true) rfl (Nat.two_pow_pos 256) W) <| .ret _ fun _ h => ⟨rfl,h⟩) (by kernel_rfl)
theorem rng_else {X : Nat} {b : Bool} (hX : X < top) (h0 : X ≠ 0) (hb : decide (X < Pt.nn) = b) (w : World) :
  Calls Tryz.prog 52 #[nv X] w fun e w' => e = .returned (.bool b) ∧ Ext w w':=by
 have hl : decide (cmpN X Pt.nn < 0) = b:=by
  subst hb
  unfold cmpN
  by_cases h : X < Pt.nn
  ·
   simp [h]
  ·
   simp only [h,if_false,decide_false]
   split <;> decide
 have k:=veil (And.intro hX (And.intro h0 hl))
 clear hX h0 hb hl
 exact way1 Tryz.func52 [nv X] (.call _ _ _ (fun W _ => iz_is (decide_eq_false k.out.2.1) k.out.1 W) <| .call _ _ _ (fun W _ => pN_is W) <| .call _ _ _ (fun W _ => kcmp X Pt.nn _ rfl k.out.1 zdp W) <|
  .ins 10 (binK .lss 3 (.tmp 9) (.const (.int .i64 0)) (.int .i64 (cmpN X Pt.nn)) (.int .i64 0)) (.bool b) (fun _ _ => lss_run k.out.2.2) <| .ret _ fun _ h => ⟨rfl,h⟩) (by kernel_rfl)
theorem zib {X : Nat} {b : Bool} (hb : mayB X = b) (hX : X < top) (w : World) :
  Calls Tryz.prog 52 #[nv X] w fun e w' => e = .returned (.bool b) ∧ Ext w w':=by
 subst hb
 unfold mayB
 by_cases h0 : X = 0
 ·
  subst h0
  exact rng_zero w
 ·
  rw [decide_eq_true h0,Bool.true_and]
  exact rng_else hX h0 rfl w
theorem modulo_calls (w : World) :
  Calls Tryz.prog 78 #[] w fun e w' => (∃ b,e = .returned (ptrTo b) ∧ w.heap.size ≤ b ∧ Fn w' b) ∧ Ext w w':=by
 go_enter Tryz.func78,Tryz.ntmps78
 go_upto_region 1 with (fail)
 have HN:=veil (pN_is w)
 go_wp2_with (first
  | (go_at_call 99; refine HN.out.mono ?_; rintro e w5 ⟨rfl,hb5⟩)
  | (go_at_call 125; refine (new_good Pt.nn nn_odd.1 nn_odd.2 zdp w5).mono ?_; rintro e w6 ⟨⟨b,N,Q,hok,hfb,hge,rfl⟩,hb6⟩))
 go_ret
 exact ⟨⟨b,rfl,Nat.le_trans (Below.size hb5) hge,N,Q,hok,hfb⟩,hb5.trans hb6⟩
theorem Fn.cells {W : World} {b g o : Nat} {vs : List Value} (h : Fn W b) (hne : ¬ g = b) : Fn (W.setCells g o vs) b:=by
 obtain ⟨N,Q,h1,h2⟩:=h
 exact ⟨N,Q,h1,h2.of_block (zhp (fun e => hne e.symm) vs o W)⟩
def hMod {w0 : World} {Post : Value → World → Prop} {J : World → Prop} (r : ∀ b,OT Tryz.prog w0 Post (fun W => J W ∧ Fn W b)) : OT Tryz.prog w0 Post J :=
 .hang 78 #[] ptrTo (fun b W => Fn W b) (fun b g => g = b) (fun _ _ _ h k => h.ext k) (fun _ _ _ _ _ h hn => h.cells hn)
  (fun W _ => (modulo_calls W).mono fun _ _ ⟨⟨b,he,hge,hF⟩,hE⟩ => ⟨b,he,hE,hF,fun g hg => by
   subst hg
   obtain ⟨_,_,_,h2⟩:=hF
   exact ⟨.inl hge,h2.lt⟩⟩) r
theorem numof_calls {y : Nat → Nat} (hy : ∀ j,y j < 256) {X : Nat} (hX : X = num32 y) (w : World) :
  Calls Tryz.prog 82 #[dgv y] w fun e w' => e = .returned (nv X) ∧ Ext w w':=by
 have ky:=veil hy
 have kX:=veil hX
 clear hX hy
 unfold nv nc dgv dgc
 go_enter Tryz.func82,Tryz.ntmps82
 go_upto_region 1 with (fail)
 refine wp_via2 fun w1 hx b0 b1 => ?_
 have b0 : w1.heap[w.heap.size]? = some (.cells (dgc y) 23 (0,0)):=b0
 refine' ziu (m:=5) (A:=_) (by kernel_rfl) ?h1 ?h2
 case h1 =>
  refine zab (.slice (some ⟨w.heap.size,0,none⟩) 32 32) rfl (made_slice rfl rfl (sliceD _ ·)) ?_
  refine zab (.tuple #[nv X,.nilIface]) rfl (zaz (args:=[.slice (some ⟨w.heap.size,0,none⟩) 32 32]) rfl rfl (fun W => zad Tryz.func74 rfl rfl _ W) (fun W hW => ofl_is ky.out kX.out W (hW.block b0))) ?_;simp only [aP,lA,lZ,lS]
  refine zab (.tuple #[nv X,.nilIface]) rfl (zai (.inl rfl) rfl) ?_
  refine zab (nv X) rfl (made_ext rfl rfl rfl) ?_;simp only [aP,lA,lZ,lS]
  refine zab (.nilIface) rfl (made_ext rfl rfl rfl) ?_;simp only [aP,lA,lZ,lS]
  exact zdq
 refine prest_var' _ _ rfl rfl rfl rfl rfl rfl rfl (hzN ·) (fun _ => rfl) (fun _ => rfl) (iN _) rfl (nc_one _) ?_
 intro gx w2 hgx bx hE
 replace b1:=hE.block b1
 replace hx:=hx.trans hE
 clear hE
 simp only [aP,lA,lZ,lS]
 clear hgx
 go_upto_region 2 with (fail)
 refine' ziu (m:=1) (A:=_) (by kernel_rfl) ?h2a ?h2b
 case h2a =>
  refine zab (nv X) rfl (zbd rfl rfl bx rfl uN rfl (iN _)) ?_;simp only [aP,lA,lZ,lS]
  exact zdq
 refine prest_store _ rfl rfl rfl rfl rfl rfl b1 (iN _) rfl (nc_one _) ?_
 intro w3 hB hb
 go_wp2
 exact bodyPost_ret (results_cell_row rfl _ _ (w.heap.size + 1) 29 (nc X) (0,0) _ rfl hb Tryz.underlying29 rfl (by kernel_rfl)) rfl ⟨rfl,hx.new hB (by omega)⟩
theorem scut_calls {b X Z : Nat} (hZ : Z = X % Pt.nn) (hX : X < top) {w : World} (hF : Fn w b) :
  Calls Tryz.prog 83 #[ptrTo b,nv X] w fun e w' => e = .returned (nv Z) ∧ Ext w w':=by
 have kZ:=veil hZ
 have kX:=veil hX
 clear hX hZ
 exact way1 Tryz.func83 [ptrTo b,nv X] (.call _ _ _ (fun W hW => ncut_p kZ.out kX.out (hF.ext hW)) <|
  .ret _ fun _ h => ⟨rfl,h⟩) (by kernel_rfl)
theorem sumof_calls {u v X Y : Nat} {f : Bool} {p a b c : Pt.Q} (hu : u < top) (hv : v < top) (hp : X = Pt.pX p.1 ∧ Y = Pt.pY p.1 ∧ f = Pt.pFar p.1) (ha : a = Pt.grp.mul u Pt.base) (hb : b = Pt.grp.mul v p) (hc : c = Pt.grp.op a b) (w : World) :
  Calls Tryz.prog 80 #[nv u,nv v,qv X Y f] w fun e w' => e = .returned (qv (Pt.pX c.1) (Pt.pY c.1) (Pt.pFar c.1)) ∧ Ext w w':=by
 have ku:=veil hu
 have kv:=veil hv
 have kp:=veil hp
 have ka:=veil ha
 have kb:=veil hb
 have kc:=veil hc
 clear hc hb ha hp hv hu
 exact way1 Tryz.func80 [nv u,nv v,qv X Y f] (.call _ _ _ (fun W _ => base_calls W) <|
  .call _ _ _ (fun W _ => mulb_is ku.out ka.out W) <|
  .call _ _ _ (fun W _ => mulq_is kv.out kp.out kb.out W) <|
  .call _ _ _ (fun W _ => addq_is kc.out W) <|
  .ret _ fun _ h => ⟨rfl,h⟩) (by kernel_rfl)
theorem sver_far {X Y R S : Nat} (hX : X < top) (hY : Y < top) (hR : R < top) (hS : S < top) (y : Nat → Nat) (w : World) :
  Calls Tryz.prog 43 #[qv X Y true,dgv y,gv R S] w fun e w' => e = .returned (.bool false) ∧ Ext w w':=by
 have kX:=veil hX
 have kY:=veil hY
 have kR:=veil hR
 have kS:=veil hS
 clear hS hR hY hX
 exact way1 Tryz.func43 [qv X Y true,dgv y,gv R S] (.ret _ fun _ h => ⟨rfl,h⟩) (by kernel_rfl)
theorem sver_off {X Y R S : Nat} (hX : X < top) (hY : Y < top) (hR : R < top) (hS : S < top) (hon : onB X Y false = false) (y : Nat → Nat) (w : World) :
  Calls Tryz.prog 43 #[qv X Y false,dgv y,gv R S] w fun e w' => e = .returned (.bool false) ∧ Ext w w':=by
 have kX:=veil hX
 have kY:=veil hY
 have kR:=veil hR
 have kS:=veil hS
 have kon:=veil hon
 clear hon hS hR hY hX
 exact way1 Tryz.func43 [qv X Y false,dgv y,gv R S] (.call _ _ _ (fun W _ => onp_is kon.out kX.out kY.out W) <|
  .ret _ fun _ h => ⟨rfl,h⟩) (by kernel_rfl)
theorem sver_r {X Y R S : Nat} (hX : X < top) (hY : Y < top) (hR : R < top) (hS : S < top) (hon : onB X Y false = true) (hr : mayB R = false) (y : Nat → Nat) (w : World) :
  Calls Tryz.prog 43 #[qv X Y false,dgv y,gv R S] w fun e w' => e = .returned (.bool false) ∧ Ext w w':=by
 have kX:=veil hX
 have kY:=veil hY
 have kR:=veil hR
 have kS:=veil hS
 have kon:=veil hon
 have kr:=veil hr
 clear hr hon hS hR hY hX
 exact way1 Tryz.func43 [qv X Y false,dgv y,gv R S] (.call _ _ _ (fun W _ => onp_is kon.out kX.out kY.out W) <|
  .call _ _ _ (fun W _ => zib kr.out kR.out W) <|
  .ret _ fun _ h => ⟨rfl,h⟩) (by kernel_rfl)
theorem sver_s {X Y R S : Nat} (hX : X < top) (hY : Y < top) (hR : R < top) (hS : S < top) (hon : onB X Y false = true) (hr : mayB R = true) (hs : mayB S = false) (y : Nat → Nat) (w : World) :
  Calls Tryz.prog 43 #[qv X Y false,dgv y,gv R S] w fun e w' => e = .returned (.bool false) ∧ Ext w w':=by
 have kX:=veil hX
 have kY:=veil hY
 have kR:=veil hR
 have kS:=veil hS
 have kon:=veil hon
 have kr:=veil hr
 have ks:=veil hs
 clear hs hr hon hS hR hY hX
 exact way1 Tryz.func43 [qv X Y false,dgv y,gv R S] (.call _ _ _ (fun W _ => onp_is kon.out kX.out kY.out W) <|
  .call _ _ _ (fun W _ => zib kr.out kR.out W) <|
  .call _ _ _ (fun W _ => zib ks.out kS.out W) <|
  .ret _ fun _ h => ⟨rfl,h⟩) (by kernel_rfl)
theorem sver_all (y : Nat → Nat) {p a b c : Pt.Q} {X Y R S t E u v m : Nat} {f : Bool} (hX : X < top) (hY : Y < top) (hR : R < top) (hS : S < top) (hon : onB X Y false = true) (hr : mayB R = true) (hs : mayB S = true) (hp : X = Pt.pX p.1 ∧ Y = Pt.pY p.1 ∧ false = Pt.pFar p.1) (hy : ∀ j,y j < 256) (hE : E = num32 y) (ht : t = Pt.iG Pt.nn S) (hu : u = E * t % Pt.nn) (hv : v = R * t % Pt.nn) (ha : a = Pt.grp.mul u Pt.base) (hb : b = Pt.grp.mul v p) (hc : c = Pt.grp.op a b) (hfar : Pt.pFar c.1 = f) (hm : m = Pt.pX c.1 % Pt.nn) (w : World) :
  Calls Tryz.prog 43 #[qv X Y false,dgv y,gv R S] w fun e w' => e = .returned (.bool (!f && decide (m = R))) ∧ Ext w w':=by
 obtain ⟨x,hx0⟩ : ∃ x,x = Pt.pX c.1:=⟨_,rfl⟩
 obtain ⟨z,hz0⟩ : ∃ z,z = Pt.pY c.1:=⟨_,rfl⟩
 have kEt:=veil (show E < top from by rw [hE]; exact num32_lt hy)
 have ksum:=fun W => sumof_calls (w:=W) (mul_top hu) (mul_top hv) hp ha hb hc
 rw [← hx0,← hz0,hfar] at ksum
 have KS:=veil ksum
 have km:=veil (show m = x % Pt.nn ∧ x < top ∧ m < top from ⟨by rw [hx0]; exact hm,by rw [hx0]; exact (p_top _).1,by rw [hm]; exact Nat.lt_trans (Nat.mod_lt _ (Nat.lt_trans (by decide) nn_odd.2)) zdp⟩)
 have kX:=veil hX
 have kY:=veil hY
 have kR:=veil hR
 have kS:=veil hS
 have kon:=veil hon
 have kr:=veil hr
 have ks:=veil hs
 have ky:=veil hy
 have kE:=veil hE
 have kt:=veil ht
 have ku:=veil hu
 have kv:=veil hv
 clear hv hu ht hE hy hs hr hon hS hR hY hX
 clear ksum hp ha hb hc hfar hm hx0 hz0
 cases f
 ·
  exact way1 Tryz.func43 [qv X Y false,dgv y,gv R S] (.call _ _ _ (fun W _ => onp_is kon.out kX.out kY.out W) <| .call _ _ _ (fun W _ => zib kr.out kR.out W) <| .call _ _ _ (fun W _ => zib ks.out kS.out W) <| hMod fun g =>
   .call _ _ _ (fun W hW => ninv_p (may_ne ks.out) (may_lt ks.out) kt.out hW.2) <| .call _ _ _ (fun W _ => numof_calls ky.out kE.out W) <| .call _ _ _ (fun W hW => nmul_p ku.out kEt.out (zhk kt.out) hW.2) <|
   .call _ _ _ (fun W hW => nmul_p kv.out kR.out (zhk kt.out) hW.2) <| .call _ _ _ (fun W _ => KS.out W) <| .call _ _ _ (fun W hW => scut_calls km.out.1 km.out.2.1 hW.2) <|
   .ins 60 (binK .eql 29 (.tmp 57) (.tmp 59) (nv m) (nv R)) (.bool (decide (m = R))) (fun W _ => zbe (gN _ _ _ _ _ W) (zgd km.out.2.2 kR.out W)) <| .ret _ fun _ h => ⟨rfl,h.1⟩) (by kernel_rfl)
 ·
  exact way1 Tryz.func43 [qv X Y false,dgv y,gv R S] (.call _ _ _ (fun W _ => onp_is kon.out kX.out kY.out W) <| .call _ _ _ (fun W _ => zib kr.out kR.out W) <| .call _ _ _ (fun W _ => zib ks.out kS.out W) <| hMod fun g =>
   .call _ _ _ (fun W hW => ninv_p (may_ne ks.out) (may_lt ks.out) kt.out hW.2) <| .call _ _ _ (fun W _ => numof_calls ky.out kE.out W) <| .call _ _ _ (fun W hW => nmul_p ku.out kEt.out (zhk kt.out) hW.2) <|
   .call _ _ _ (fun W hW => nmul_p kv.out kR.out (zhk kt.out) hW.2) <| .call _ _ _ (fun W _ => KS.out W) <| .ret _ fun _ h => ⟨rfl,h.1⟩) (by kernel_rfl)
theorem sver_no {X Y R S : Nat} {f : Bool} (hX : X < top) (hY : Y < top) (hR : R < top) (hS : S < top) (h : onB X Y f = false) (y : Nat → Nat) (w : World) :
  Calls Tryz.prog 43 #[qv X Y f,dgv y,gv R S] w fun e w' => e = .returned (.bool false) ∧ Ext w w':=by
 cases f with
 | true => exact sver_far hX hY hR hS y w
 | false => exact sver_off hX hY hR hS h y w
theorem mod_mul_l (E t : Nat) : E * t % Pt.nn = E % Pt.nn * t % Pt.nn:=by
 have h1:=Nat.mul_mod E t Pt.nn
 have h2:=Nat.mul_mod (E % Pt.nn) t Pt.nn
 rw [Nat.mod_mod] at h2
 rw [h1,h2]
theorem sver_yes (p : Pt.Q) {R S : Nat} (hR : R < top) (hS : S < top) (y : Nat → Nat) (hy : ∀ j,y j < 256) (w : World) :
  Calls Tryz.prog 43 #[pv p,dgv y,gv R S] w fun e w' => e = .returned (.bool (Pt.verB p (num32 y) R S)) ∧ Ext w w':=by
 have hon:=onB_of p
 have hX:=(p_top p.1).1
 have hY:=(p_top p.1).2
 have hsum : Pt.sumOf p (num32 y) R S = Pt.grp.op (Pt.grp.mul (num32 y * Pt.iG Pt.nn S % Pt.nn) Pt.base) (Pt.grp.mul (R * Pt.iG Pt.nn S % Pt.nn) p):=by
  unfold Pt.sumOf
  rw [← mod_mul_l]
 unfold pv Pt.verB
 rw [inR_may,inR_may]
 cases hf : Pt.pFar p.1 with
 | true => exact sver_far hX hY hR hS y w
 | false =>
  rw [hf] at hon
  cases hr : mayB R with
  | false => exact sver_r hX hY hR hS hon hr y w
  | true =>
   cases hs : mayB S with
   | false => exact sver_s hX hY hR hS hon hr hs y w
   | true =>
    refine (sver_all (p:=p) (m:=Pt.pX (Pt.sumOf p (num32 y) R S).1 % Pt.nn) y hX hY hR hS hon hr hs ⟨rfl,rfl,hf.symm⟩ hy rfl rfl rfl rfl rfl rfl hsum rfl rfl w).mono ?_
    rintro e w' ⟨rfl,hE⟩
    exact ⟨by simp only [Bool.not_false,Bool.true_and],hE⟩
theorem le_lo (y : Nat → Nat) : lev (fun k => y (32 - 1 - k)) 32 = be32 y 0:=by
 unfold be32
 simp only [Nat.zero_add]
theorem le_hi (y : Nat → Nat) : lev (fun k => y (32 + (32 - 1 - k))) 32 = be32 y 32:=rfl
theorem ofl_lo {b o c : Nat} {y : Nat → Nat} (hy : ∀ j,y j < 256) {w : World} (hlt : b < w.heap.size) (hcell : ∀ j,j < 64 → w.cell? ⟨b,o + j,none⟩ = some (.int .u8 (y j : Nat))) (W : World) (hW : Ext w W) : Calls Tryz.prog 74 #[.slice (some ⟨b,o,none⟩) 32 c] W fun e W' => e = .returned (.tuple #[nv (be32 y 0),.nilIface]) ∧ Ext W W':=by
 have h:=of_some b o 32 c y hy (by decide) W (Nat.lt_of_lt_of_le hlt (Below.size hW)) (fun j hj => (Below.cell (p:=⟨b,o + j,none⟩) hW hlt).trans (hcell j (by omega)))
 rw [le_lo] at h
 exact h
theorem ofl_hi {b o c : Nat} {y : Nat → Nat} (hy : ∀ j,y j < 256) {w : World} (hlt : b < w.heap.size) (hcell : ∀ j,j < 64 → w.cell? ⟨b,o + j,none⟩ = some (.int .u8 (y j : Nat))) (W : World) (hW : Ext w W) : Calls Tryz.prog 74 #[.slice (some ⟨b,o + 32,none⟩) 32 (c - 32)] W fun e W' => e = .returned (.tuple #[nv (be32 y 32),.nilIface]) ∧ Ext W W':=by
 have h:=of_some b (o + 32) 32 (c - 32) (fun j => y (32 + j)) (fun j => hy _) (by decide) W (Nat.lt_of_lt_of_le hlt (Below.size hW)) (fun j hj => by
  rw [Nat.add_assoc]
  exact (Below.cell (p:=⟨b,o + (32 + j),none⟩) hW hlt).trans (hcell (32 + j) (by omega)))
 rw [le_hi] at h
 exact h
theorem cut_lo (b o : Nat) {c : Nat} (hc : 64 ≤ c) (W : World) : (Instr.sliceAt 24 (.slice (some ⟨b,o,none⟩) 64 c) none (some (.int .i64 32)) none).run Tryz.prog W = .ok (.slice (some ⟨b,o,none⟩) 32 c) W:=by
 have h:=cut_to (some ⟨b,o,none⟩) 64 c 32 (by omega) W
 unfold cutA at h
 by_cases h0 : c = 0
 ·
  omega
 ·
  simpa [Addr.add_mid,h0] using h
theorem cut_hi (b o : Nat) {c : Nat} (hc : 64 ≤ c) (W : World) : (Instr.sliceAt 24 (.slice (some ⟨b,o,none⟩) 64 c) (some (.int .i64 32)) none none).run Tryz.prog W = .ok (.slice (some ⟨b,o + 32,none⟩) 32 (c - 32)) W:=by
 have h:=cut_from (some ⟨b,o,none⟩) 64 c 32 (by omega) W
 unfold cutA at h
 rw [if_neg (by omega)] at h
 simpa [Addr.add_mid] using h
theorem sparse_no (A : Option Addr) (n c : Nat) (hn : n ≠ 64) (w : World) :
  Calls Tryz.prog 39 #[.slice A n c] w fun e w' => e = .returned (.tuple #[gv 0 0,.iface 37 (.int .i64 2)]) ∧ Ext w w':=by
 have hn2 : ¬ (n : Int) = 64:=by omega
 clear hn
 exact way1 Tryz.func39 [.slice A n c] (.ins 10 (binK .neq 3 (.tmp 9) (.const (.int .i64 64)) (.int .i64 n) (.int .i64 64)) _ (fun W _ => neq_run hn2 W) <| .ret _ fun _ h => ⟨rfl,h⟩) (by kernel_rfl)
theorem sparse_64 (b o c : Nat) (y : Nat → Nat) (hy : ∀ j,y j < 256) (hc : 64 ≤ c) (w : World) (hlt : b < w.heap.size) (hcell : ∀ j,j < 64 → w.cell? ⟨b,o + j,none⟩ = some (.int .u8 (y j : Nat))) :
  Calls Tryz.prog 39 #[.slice (some ⟨b,o,none⟩) 64 c] w fun e w' => e = .returned (.tuple #[gv (be32 y 0) (be32 y 32),.nilIface]) ∧ Ext w w':=by
 have kx:=fun (W : World) (hW : Ext w W) => ofl_lo (c:=c) hy hlt hcell W hW
 have ky:=fun (W : World) (hW : Ext w W) => ofl_hi (c:=c) hy hlt hcell W hW
 have q1:=cut_lo b o hc
 have q2:=cut_hi b o hc
 clear hy hc hlt hcell
 generalize be32 y 0 = PX at *
 generalize be32 y 32 = PY at *
 have KX:=veil kx
 have KY:=veil ky
 have Q1:=veil q1
 have Q2:=veil q2
 clear q1 q2 kx ky
 exact way1 Tryz.func39 [.slice (some ⟨b,o,none⟩) 64 c] (.ins 15 (Instr.sliceAt 24 (.slice (some ⟨b,o,none⟩) 64 c) none (some (.int .i64 32)) none) _ (fun W _ => Q1.out W) <|
  .call _ _ _ (fun W hW => KX.out W hW) <|
  .ins 21 (Instr.sliceAt 24 (.slice (some ⟨b,o,none⟩) 64 c) (some (.int .i64 32)) none none) _ (fun W _ => Q2.out W) <|
  .call _ _ _ (fun W hW => KY.out W hW) <|
  .ret _ fun _ h => ⟨rfl,h⟩) (by kernel_rfl)
theorem code_sum (A : Option Addr) (m c : Nat) (bs : List Nat) (w : World) (hK : KT w) (hm : m = bs.length) (hmc : m ≤ c) (hle : m ≤ 100000) (hS : Bs w A bs) : Calls Tryz.prog 27 #[.slice A m c] w fun e w' => e = .returned (dgv (dgL bs)) ∧ Ext w w':=by
 subst hm
 exact sum_calls A bs.length c (fun j => bs.getD j 0) hS.1.getD hmc (by omega) w hK (src_bs hS)
theorem code_ver (X Y : Nat) (f : Bool) (y : Nat → Nat) (R S : Nat) (w : World) (hX : X < top) (hY : Y < top) (hR : R < top) (hS : S < top) (hy : ∀ j,y j < 256) : Calls Tryz.prog 43 #[qv X Y f,dgv y,gv R S] w fun e w' => e = .returned (.bool (vfL X Y f y R S)) ∧ Ext w w':=by
 cases h : onB X Y f with
 | false =>
  rw [vfL_off h]
  exact sver_no hX hY hR hS h y w
 | true =>
  obtain ⟨p,rfl,rfl,rfl⟩:=onB_some h
  rw [vfL_on]
  exact sver_yes p hR hS y hy w
theorem code_parse_no (A : Option Addr) (m c : Nat) (w : World) (hm : m ≠ 64) : Calls Tryz.prog 39 #[.slice A m c] w fun e w' => e = .returned (.tuple #[gv 0 0,.iface 37 (.int .i64 2)]) ∧ Ext w w':=sparse_no A m c hm w
theorem code_parse_64 (A : Option Addr) (m c : Nat) (bs : List Nat) (w : World) (hm : m = bs.length) (h64 : m = 64) (hc : m ≤ c) (hS : Bs w A bs) : Calls Tryz.prog 39 #[.slice A m c] w fun e w' => e = .returned (.tuple #[gv (sigR bs) (sigS bs),.nilIface]) ∧ Ext w w':=by
 subst h64
 obtain ⟨b,o,rfl,hb,hcl⟩:=hS.2.resolve_left (by omega)
 have e1 : be32 (fun j => bs.getD j 0) 0 = sigR bs:=lev_valB (bs:=bs.take 32) (hS.1.take 32) (by rw [List.length_take]; omega) fun k hk => by
  simp only [List.getD_eq_getElem?_getD,List.getElem?_take_of_lt (show 32 - 1 - k < 32 by omega),Nat.zero_add]
 have e2 : be32 (fun j => bs.getD j 0) 32 = sigS bs:=lev_valB (bs:=bs.drop 32) (hS.1.drop 32) (by rw [List.length_drop]; omega) fun k hk => by
  simp only [List.getD_eq_getElem?_getD,List.getElem?_drop]
 refine (sparse_64 b o c (fun j => bs.getD j 0) hS.1.getD hc w hb fun j hj => hcl j (by omega)).mono fun e w' ⟨he,hE⟩ => ⟨?_,hE⟩
 rw [he,e1,e2]
theorem codeL : CodeL where
 sum:=code_sum
 ver:=code_ver
 parse_odd:=code_parse_no
 parse_64:=code_parse_64
end Go.Proofs.YtihophdbkjhopaaGreatDoor
