/-
  Of CR CD D3 Y0 Y1 Y2 Y3 Y4 Y6 Y8.
-/
import Derived.Test.YtmfjigcdhijkjaaGreatDoorZS20
import Derived.Test.YtmfjigcdhijkjaaGreatDoorZS3
import Derived.Test.YtmfjigcdhijkjaaGreatDoorZS13
import Derived.Test.YtmfjigcdhijkjaaGreatDoorZS10
import Derived.Test.YtmfjigcdhijkjaaGreatDoorZS11
import Derived.Test.YtmfjigcdhijkjaaGreatDoorZS19
import Derived.Test.YtmfjigcdhijkjaaGreatDoorZS17
import Derived.Test.YtmfjigcdhijkjaaGreatDoorZS21
import Derived.Test.YtmfjigcdhijkjaaGreatDoorZS23
set_option maxRecDepth 1000000
set_option maxHeartbeats 20000000
namespace Go.Proofs.YtmfjigcdhijkjaaGreatDoor
open Go.RowKit
open Go.Value renaming int → vI
open Go.IntKind renaming u64 → vU
open Go.Act renaming put → aP
open List renaming setIfInBounds_toArray → lA, set_cons_zero → lZ, set_cons_succ → lS
theorem fe_ne {x : Fe} (h : x ≠ 0) : x.val ≠ 0:=fun e => h (Fin.ext (by rw [e,zfd]))
theorem fe_z {x : Fe} (h : x = 0) : x.val = 0:=by rw [h,zfd]
theorem noz {x y : Fe} (hx : x ≠ 0) (hy : y ≠ 0) : x * y ≠ 0:=fun e => by
 rcases Pt.good.hz _ _ e with h | h
 ·
  exact hx h
 ·
  exact hy h
section
variable {n : Nat} [NeZero n]
theorem r0 (y : Fin n) : y * 0 + y * 0 = 0:=by grobner
theorem r1 (Y z : Fin n) : Y * (z * z * z) * z + Y * (z * z * z) * z = (Y + Y) * (z * z * (z * z)):=by grobner
theorem r2 (u i d : Fin n) (h : d * i = 1) : u * i * d = u:=by
 have e : u * i * d = u * (d * i):=by grobner
 rw [e,h]
 grobner
theorem r3 (X : Fin n) : X = X * (1 * 1):=by grobner
theorem r4 (X : Fin n) : X = X * (1 * 1 * 1):=by grobner
theorem r5 (X z : Fin n) : (X - X) * z = 0:=by grobner
end
theorem rep_twice {x y z : Fe} {p : Pt.P Pt.pp} (hp : Pt.E256.on p) (h : Rep x y z p) : Rep (twice3 x y z).1 (twice3 x y z).2.1 (twice3 x y z).2.2 (Pt.E256.add p p):=by
 rcases p with _ | ⟨X,Y⟩
 ·
  have hz : z = 0:=h
  subst hz
  exact r0 y
 ·
  obtain ⟨hz,hx,hy⟩:=h
  have hd:=Pt.down_same hp
  have hn : ¬ (X = X ∧ Y = 0 - Y):=fun e => hd ((Pt.ring_neg _ _).1 e.2)
  rw [Pt.add_near hn,Pt.lam_same]
  have hl:=r2 (3 * (X * X - 1)) _ _ (Pt.good.hinv (Y + Y) hd)
  generalize 3 * (X * X - 1) * Pt.E256.inv (Y + Y) = l at hl ⊢
  have hZ : y * z + y * z = Y * (z * z * z) * z + Y * (z * z * z) * z:=by rw [hy]
  have hm:=rt_m hl hx hZ rfl rfl
  have hc:=rt_c hx hy rfl
  have h3:=rt_x hm hc
  refine ⟨?_,h3,rt_y hm hc h3 (rt_t hy rfl)⟩
  show y * z + y * z ≠ 0
  rw [hZ,r1]
  exact noz hd (noz (noz hz hz) (noz hz hz))
def qvP (p : Pt.P Pt.pp) : Value:=qv (Pt.pX p) (Pt.pY p) (Pt.pFar p)
theorem twice_rep {x y z : Fe} {p : Pt.P Pt.pp} (hp : Pt.E256.on p) (h : Rep x y z p) : ∃ x' y' z' : Fe,Rep x' y' z' (Pt.E256.add p p) ∧
  ∀ (b : Nat) (w : World),Fp w b → Calls Tryz.prog 52 #[cv b,sv x.val y.val z.val] w fun e w' => e = .returned (sv x'.val y'.val z'.val) ∧ Ext w w' :=
 ⟨_,_,_,rep_twice hp h,fun _ _ hF => twice_calls x y z hF⟩
theorem plus_rep {x y z : Fe} {p q : Pt.P Pt.pp} (hp : Pt.E256.on p) (hq : Pt.E256.on q) (h : Rep x y z p) : ∃ x' y' z' : Fe,Rep x' y' z' (Pt.E256.add p q) ∧
  ∀ (b : Nat) (w : World),Fp w b → Calls Tryz.prog 54 #[cv b,sv x.val y.val z.val,qvP q] w fun e w' => e = .returned (sv x'.val y'.val z'.val) ∧ Ext w w':=by
 rcases q with _ | ⟨X2,Y2⟩
 ·
  rw [Pt.add_none]
  exact ⟨_,_,_,h,fun _ _ hF => plus_far x.val y.val z.val 0 0 hF⟩
 rcases p with _ | ⟨X1,Y1⟩
 ·
  have hz : z = 0:=h
  subst hz
  rw [Pt.none_add,zfd]
  refine ⟨X2,Y2,1,⟨?_,r3 X2,r4 Y2⟩,fun b w hF => ?_⟩
  ·
   intro e
   have:=congrArg Fin.val e
   rw [v_one,zfd] at this
   exact absurd this (by decide)
  ·
   rw [v_one]
   exact plus_lift x.val y.val X2.val Y2.val hF
 ·
  obtain ⟨hz,hx,hy⟩:=h
  have hz3 : z * z * z ≠ 0:=noz (noz hz hz) hz
  have hrun : runOf x z X2 = (X2 - X1) * (z * z):=rp_run hx
  have hrise : riseOf y z Y2 = (Y2 - Y1) * (z * z * z):=rp_rise hy
  by_cases hX : X1 = X2
  ·
   subst hX
   have h0 : (runOf x z X1).val = 0:=fe_z (by rw [hrun]; exact r5 _ _)
   by_cases hY : Y1 = Y2
   ·
    subst hY
    have h1 : (riseOf y z Y1).val = 0:=fe_z (by rw [hrise]; exact r5 _ _)
    exact ⟨_,_,_,rep_twice hp ⟨hz,hx,hy⟩,fun _ _ hF => plus_same x y z X1 Y1 (fe_ne hz) h0 h1 hF⟩
   ·
    have h1 : (riseOf y z Y2).val ≠ 0:=fe_ne (by rw [hrise]; exact noz (fun e => hY (Pt.eq_of_sub e).symm) hz3)
    have he : Y1 * Y1 = Y2 * Y2:=by
     have e1 : Y1 * Y1 = _:=(Pt.on_iff X1 Y1).1 hp
     have e2 : Y2 * Y2 = _:=(Pt.on_iff X1 Y2).1 hq
     rw [e1,e2]
    have ho:=opp_of (opp_sq he) Pt.good.hz hY
    rw [Pt.add_far ⟨rfl,ho⟩]
    refine ⟨0,0,0,rfl,fun b w hF => ?_⟩
    rw [zfd]
    exact plus_opp x y z X1 Y2 (fe_ne hz) h0 h1 hF
  ·
   have hd : X2 - X1 ≠ 0:=fun e => hX (Pt.eq_of_sub e).symm
   have h0 : runOf x z X2 ≠ 0:=by rw [hrun]; exact noz hd (noz hz hz)
   rw [Pt.add_near (fun e => hX e.1),Pt.lam_else (fun e => hX e.1)]
   have hl:=r2 (Y2 - Y1) _ _ (Pt.good.hinv (X2 - X1) hd)
   generalize (Y2 - Y1) * Pt.E256.inv (X2 - X1) = l at hl ⊢
   have hs : riseOf y z Y2 = l * (z * runOf x z X2):=by rw [hrise]; exact rp_l hl hrun rfl
   have h3:=rp_x (X2:=X2) hx hrun rfl hs
   exact ⟨_,_,_,⟨noz hz h0,h3,rp_y (X2:=X2) hx hy hrun rfl hs h3⟩,fun _ _ hF => plus_else x y z X2 Y2 (fe_ne hz) (fe_ne h0) hF⟩
theorem lift_rep (p : Pt.P Pt.pp) : ∃ x y z : Fe,Rep x y z p ∧ ∀ w,Calls Tryz.prog 50 #[qvP p] w fun e w' => e = .returned (sv x.val y.val z.val) ∧ Ext w w':=by
 rcases p with _ | ⟨X,Y⟩
 ·
  refine ⟨0,0,0,rfl,fun w => ?_⟩
  rw [zfd]
  exact lift_far 0 0 w
 ·
  refine ⟨X,Y,1,⟨?_,r3 X,r4 Y⟩,fun w => ?_⟩
  ·
   intro e
   have:=congrArg Fin.val e
   rw [v_one,zfd] at this
   exact absurd this (by decide)
  ·
   rw [v_one]
   exact lift_near X.val Y.val w
theorem flat_rep {b : Nat} {x y z : Fe} {p : Pt.P Pt.pp} (h : Rep x y z p) {w : World} (hF : Fp w b) :
  Calls Tryz.prog 55 #[cv b,sv x.val y.val z.val] w fun e w' => e = .returned (qvP p) ∧ Ext w w':=by
 rcases p with _ | ⟨X,Y⟩
 ·
  have hz : z = 0:=h
  subst hz
  rw [zfd]
  exact flat_far x.val y.val hF
 ·
  obtain ⟨hz,hx,hy⟩:=h
  have ht:=Pt.good.hinv z hz
  refine (flat_near x y z hz hF).mono fun _ _ ⟨he,hw⟩ => ⟨?_,hw⟩
  rw [he]
  have e1 : (flat2 x y z).1 = X:=rf_x hx ht
  have e2 : (flat2 x y z).2 = Y:=rf_y hy ht
  rw [e1,e2]
  rfl
theorem on_calls {b : Nat} (X Y : Nat) (f : Bool) (hX : X < top) (hY : Y < top) {w : World} (hF : Fp w b) :
  Calls Tryz.prog 49 #[cv b,qv X Y f] w fun e w' => e = .returned (.bool (onB X Y f)) ∧ Ext w w':=by
 unfold onB
 cases f with
 | true =>
  by_cases h0 : X = 0
  ·
   subst h0
   simp only [if_true,decide_true,Bool.true_and]
   exact on_far0 Y hY hF
  ·
   simp only [if_true,h0,decide_false,Bool.false_and]
   exact on_far1 X Y hX h0 hF
 | false =>
  by_cases hx : X < Pt.pp
  ·
   by_cases hy : Y < Pt.pp
   ·
    simp only [Bool.false_eq_true,if_false,hx,hy,decide_true,Bool.true_and]
    have k:=on_near (b:=b) ⟨X,hx⟩ ⟨Y,hy⟩ hF
    rw [three_x,← right_val,← Pt.v_mul] at k
    exact k
   ·
    simp only [Bool.false_eq_true,if_false,hx,hy,decide_true,decide_false,Bool.true_and,Bool.false_and]
    exact on_high X Y hx hY hy hF
  ·
   simp only [Bool.false_eq_true,if_false,hx,decide_false,Bool.false_and]
   exact on_out X Y hX hx hF
theorem on_yes {b : Nat} (q : Pt.Q) {w : World} (hF : Fp w b) : Calls Tryz.prog 49 #[cv b,qvP q.1] w fun e w' => e = .returned (.bool true) ∧ Ext w w':=by
 have k:=on_calls (Pt.pX q.1) (Pt.pY q.1) (Pt.pFar q.1) (p_top q.1).1 (p_top q.1).2 hF
 rw [onB_of] at k
 exact k
theorem Fp.but {w W : World} {b r : Nat} (h : Fp w b) (hB : But r w W) (hne : b ≠ r) : Fp W b:=by
 obtain ⟨N,Q,h1,h2⟩:=h
 exact ⟨N,Q,h1,h2.of_block (hB.block b h2.lt (by intro e; simp at e; exact hne e))⟩
theorem mul_yes (K : Nat) (hK : K < top) (q : Pt.Q) (w : World) :
  Calls Tryz.prog 16 #[nv K,qvP q.1] w fun e w' => e = .returned (.tuple #[qvP (Pt.grp.mul K q).1,.nilIface]) ∧ Ext w w':=by
 have hL : bitLen K ≤ 256:=bl_le hK
 have hE0 : K / 2 ^ bitLen K = 0:=bl_div K
 have HT:=veil hK
 obtain ⟨x0,y0,z0,h0,k0⟩:=lift_rep none
 have K0:=veil k0
 clear hK k0
 unfold nv nc qvP qv qc
 go_enter Tryz.func16,Tryz.ntmps16
 go_upto_region 1 with (fail)
 obtain ⟨hx,b0,b1,b2⟩:=blocks3 w (.cells #[vI vU (wd K 0),vI vU (wd K 1),vI vU (wd K 2),vI vU (wd K 3)] 24) (.cells #[vI vU (wd (Pt.pX q.1) 0),vI vU (wd (Pt.pX q.1) 1),vI vU (wd (Pt.pX q.1) 2),vI vU (wd (Pt.pX q.1) 3),vI vU (wd (Pt.pY q.1) 0),vI vU (wd (Pt.pY q.1) 1),vI vU (wd (Pt.pY q.1) 2),vI vU (wd (Pt.pY q.1) 3),.bool (Pt.pFar q.1)] 29) (.cells #[vI vU 0,vI vU 0,vI vU 0,vI vU 0,vI vU 0,vI vU 0,vI vU 0,vI vU 0,.bool false] 29)
 generalize ((w.alloc (.cells #[vI vU (wd K 0),vI vU (wd K 1),vI vU (wd K 2),vI vU (wd K 3)] 24)).alloc (.cells #[vI vU (wd (Pt.pX q.1) 0),vI vU (wd (Pt.pX q.1) 1),vI vU (wd (Pt.pX q.1) 2),vI vU (wd (Pt.pX q.1) 3),vI vU (wd (Pt.pY q.1) 0),vI vU (wd (Pt.pY q.1) 1),vI vU (wd (Pt.pY q.1) 2),vI vU (wd (Pt.pY q.1) 3),.bool (Pt.pFar q.1)] 29)).alloc (.cells #[vI vU 0,vI vU 0,vI vU 0,vI vU 0,vI vU 0,vI vU 0,vI vU 0,vI vU 0,.bool false] 29) = w1 at *
 have b0 : w1.heap[w.heap.size]? = some (.cells (nc K) 24 (0,0)):=b0
 have b1 : w1.heap[w.heap.size + 1]? = some (.cells (qc (Pt.pX q.1) (Pt.pY q.1) (Pt.pFar q.1)) 29 (0,0)):=b1
 refine wp_region_lit ?_
 refine wpl_fun (R:=fun v W' => ∃ b,v = cv b ∧ Fp W' b ∧ Ext w1 W') rfl rfl rfl (fun W => zac Tryz.func48 rfl rfl _ W) ((curve_calls w1).mono fun e W' ⟨b,he,hF,hE⟩ => ⟨_,he,b,rfl,hF,hE⟩) ?_
 rintro v w2 ⟨b,rfl,hf,hE⟩
 simp only [aP,lA,lZ,lS]
 replace b0:=hE.block b0
 replace b1:=hE.block b1
 replace b2:=hE.block b2
 replace hx:=hx.trans hE
 clear hE
 refine wpl_var _ _ rfl rfl rfl rfl rfl rfl (hzK ·) (fun _ => rfl) (fun _ => rfl) (iK _) rfl (cc_one _) ?_
 intro gc w3 hgc bc hE
 replace b0:=hE.block b0
 replace b1:=hE.block b1
 replace b2:=hE.block b2
 replace hf:=hf.ext hE
 replace hx:=hx.trans hE
 clear hE
 simp only [aP,lA,lZ,lS]
 clear hgc
 refine wpList_nil ?_
 go_upto_region 2 with (fail)
 refine' zan (m:=4) (A:=_) (by kernel_rfl) ?h1 ?h2
 case h1 =>
  refine zaa (cv b) rfl (zad rfl rfl bc rfl Tryz.underlying82 rfl (iK _)) ?_
  refine zaa (qv (Pt.pX q.1) (Pt.pY q.1) (Pt.pFar q.1)) rfl (zad rfl rfl b1 rfl Tryz.underlying29 rfl (iT _ _ _)) ?_;simp only [aP,lA,lZ,lS]
  refine zaa (.bool true) rfl (zai (args:=[cv b,qv (Pt.pX q.1) (Pt.pY q.1) (Pt.pFar q.1)]) rfl rfl (fun W => zac Tryz.func49 rfl rfl _ W) (fun W hW => on_yes q (hf.ext hW))) ?_
  refine zaa (.bool false) rfl (zcu rfl rfl rfl) ?_;simp only [aP,lA,lZ,lS]
  exact zak
 refine zar rfl ?_
 intro w4 hE
 replace b0:=hE.block b0
 replace b1:=hE.block b1
 replace b2:=hE.block b2
 replace bc:=hE.block bc
 replace hf:=hf.ext hE
 replace hx:=hx.trans hE
 clear hE
 go_upto_region 4 with (fail)
 refine' zan (m:=2) (A:=_) (by kernel_rfl) ?h2a ?h2b
 case h2a =>
  refine zaa (qv 0 0 true) rfl (zba rfl rfl (bldTF ·)) ?_
  refine zaa (sv x0.val y0.val z0.val) rfl (zai (args:=[qv 0 0 true]) rfl rfl (fun W => zac Tryz.func50 rfl rfl _ W) (fun W hW => K0.out W)) ?_;simp only [aP,lA,lZ,lS]
  exact zak
 refine zcm _ _ rfl rfl rfl rfl rfl rfl rfl (hzS ·) (fun _ => rfl) (fun _ => rfl) (iS _ _ _) rfl (zfg _ _ _) ?_
 intro gs w5 hgs bs hE
 have hls : w.heap.size ≤ gs:=Nat.le_trans (Below.size hx) hgs
 replace b0:=hE.block b0
 replace b1:=hE.block b1
 replace b2:=hE.block b2
 replace bc:=hE.block bc
 replace hf:=hf.ext hE
 replace hx:=hx.trans hE
 clear hE
 simp only [aP,lA,lZ,lS]
 clear hgs
 go_upto_region 5 with (fail)
 replace h0 : Rep x0 y0 z0 (Pt.grp.mul (K / 2 ^ bitLen K) q).1:=by rw [hE0]; exact h0
 obtain ⟨N,hN⟩ : ∃ N,N = bitLen K:=⟨_,rfl⟩
 have HN:=veil hN
 rw [← hN] at h0 hL
 clear hE0 hN
 have hNi : (0 : Int) ≤ (N : Int):=by omega
 refine wp_region_lit ?_
 refine zid rfl rfl rfl b0 rfl uN rfl (iN K) ?_
 simp only [aP,lA,lZ,lS]
 refine wpl_fun (R:=fun v W' => v = .int .i64 (N : Int) ∧ Ext w5 W') rfl rfl rfl (fun W => zac Tryz.func51 rfl rfl _ W) ((klen K N (by rw [HN.out]) HT.out w5).mono fun e W' ⟨he,hE⟩ => ⟨_,he,rfl,hE⟩) ?_
 rintro v w6 ⟨rfl,hE⟩
 replace b0:=hE.block b0
 replace b1:=hE.block b1
 replace b2:=hE.block b2
 replace bc:=hE.block bc
 replace bs:=hE.block bs
 replace hf:=hf.ext hE
 replace hx:=hx.trans hE
 clear hE
 simp only [aP,lA,lZ,lS]
 go_wp2
 clear HN hNi K0
 go_loopw [8] (fun v8 wr => ∃ j : Nat,j ≤ 256 ∧ v8 = .int .i64 ((j : Int) - 1) ∧ (∃ x y z : Fe,Rep x y z (Pt.grp.mul (K / 2 ^ j) q).1 ∧ wr.heap[gs]? = some (.cells (sc x.val y.val z.val) 85 (0,0))) ∧ wr.heap[w.heap.size]? = some (.cells (nc K) 24 (0,0)) ∧ wr.heap[w.heap.size + 1]? = some (.cells (qc (Pt.pX q.1) (Pt.pY q.1) (Pt.pFar q.1)) 29 (0,0)) ∧ (∃ c2,wr.heap[w.heap.size + 1 + 1]? = some (.cells c2 29 (0,0)) ∧ c2.size = 9) ∧ wr.heap[gc]? = some (.cells (cc b) 82 (0,0)) ∧ Fp wr b ∧ Ext w wr)
  (fun v8 _ => (intOf v8 + 1).toNat)
 case atStart => exact ⟨N,hL,by go_num,⟨x0,y0,z0,h0,bs⟩,b0,b1,⟨_,b2,rfl⟩,bc,hf,hx⟩
 case round =>
  clear b0 b1 b2 bc bs hf hx h0 hL
  obtain ⟨j,hj,hi,⟨x,y,z,hR,bs⟩,b0,b1,⟨c2,b2,hc2⟩,bc,hf,hx⟩:=hrel
  cases j with
  | zero =>
   obtain rfl : _ = Value.int .i64 (-1):=hi.trans (by congr 1)
   have e1 : Pt.grp.mul (K / 2 ^ 0) q = Pt.grp.mul K q:=by rw [Nat.pow_zero,Nat.div_one]
   rw [e1] at hR
   obtain ⟨t,ht⟩ : ∃ t : Pt.Q,t = Pt.grp.mul K q:=⟨_,rfl⟩
   rw [← ht] at hR
   have HTT:=veil ht
   have KF:=veil (fun (b : Nat) (w : World) (hF : Fp w b) => flat_rep hR hF)
   clear hi e1 ht
   go_upto_region 11 with (fail)
   refine' zan (m:=3) (A:=_) (by kernel_rfl) ?h3a ?h3b
   case h3a =>
    refine zaa (cv b) rfl (zad rfl rfl bc rfl Tryz.underlying82 rfl (iK _)) ?_
    refine zaa (sv x.val y.val z.val) rfl (zad rfl rfl bs rfl Tryz.underlying85 rfl (iS _ _ _)) ?_;simp only [aP,lA,lZ,lS]
    refine zaa (qv (Pt.pX t.1) (Pt.pY t.1) (Pt.pFar t.1)) rfl (zai (args:=[cv b,sv x.val y.val z.val]) rfl rfl (fun W => zac Tryz.func55 rfl rfl _ W) (fun W hW => KF.out _ _ (hf.ext hW))) ?_;simp only [aP,lA,lZ,lS]
    exact zak
   refine zdd _ rfl rfl rfl rfl rfl rfl b2 (iT _ _ _) hc2 (zev _ _ _) ?_
   intro w7 hB hb
   go_wp2
   rw [← HTT.out]
   exact bodyPost_ret (zbc rfl _ _ (w.heap.size + 1 + 1) 29 (qc (Pt.pX t.1) (Pt.pY t.1) (Pt.pFar t.1)) (0,0) _ rfl hb Tryz.underlying29 rfl (iT _ _ _)) rfl ⟨rfl,hx.new hB (by omega)⟩
  | succ m =>
   obtain rfl : _ = Value.int .i64 (m : Int):=hi.trans (by congr 1; omega)
   have hm : m < 256:=by omega
   clear hi
   have hmi : (0 : Int) ≤ (m : Int):=by omega
   obtain ⟨R0,hR0⟩ : ∃ R,R = Pt.grp.mul (K / 2 ^ (m + 1)) q:=⟨_,rfl⟩
   rw [← hR0] at hR
   have HR0:=veil hR0
   clear hR0
   obtain ⟨x1,y1,z1,h1,k1⟩:=twice_rep R0.2 hR
   obtain ⟨R1,hR1⟩ : ∃ R,R = Pt.grp.op R0 R0:=⟨_,rfl⟩
   have HR1:=veil hR1
   replace h1 : Rep x1 y1 z1 R1.1:=by rw [hR1]; exact h1
   have K1:=veil k1
   clear hR1 k1 hR
   have hgs : gs < wr.heap.size:=(Array.getElem?_eq_some_iff.1 bs).1
   have hgs0 : gs ≠ w.heap.size:=fun e => (by rw [e,b0] at bs; injection bs with bs; injection bs with _ bs; exact absurd bs (by decide))
   have hgs1 : gs ≠ w.heap.size + 1:=fun e => (by rw [e,b1] at bs; injection bs with bs; injection bs with _ bs; exact absurd bs (by decide))
   have hgs2 : gs ≠ w.heap.size + 1 + 1:=fun e => (by rw [e,b2] at bs; injection bs with bs; injection bs with _ bs; exact absurd bs (by decide))
   have hgsc : gs ≠ gc:=fun e => (by rw [e,bc] at bs; injection bs with bs; injection bs with _ bs; exact absurd bs (by decide))
   have hgsb : b ≠ gs:=fun e => (by obtain ⟨_,_,_,h2⟩:=hf; have h3:=blkOf h2; rw [e,bs] at h3; injection h3 with h3; injection h3 with _ h3; exact absurd h3 (by decide))
   go_upto_region 8 with (fail)
   refine' zan (m:=3) (A:=_) (by kernel_rfl) ?h4a ?h4b
   case h4a =>
    refine zaa (cv b) rfl (zad rfl rfl bc rfl Tryz.underlying82 rfl (iK _)) ?_
    refine zaa (sv x.val y.val z.val) rfl (zad rfl rfl bs rfl Tryz.underlying85 rfl (iS _ _ _)) ?_;simp only [aP,lA,lZ,lS]
    refine zaa (sv x1.val y1.val z1.val) rfl (zai (args:=[cv b,sv x.val y.val z.val]) rfl rfl (fun W => zac Tryz.func52 rfl rfl _ W) (fun W hW => K1.out _ _ (hf.ext hW))) ?_;simp only [aP,lA,lZ,lS]
    exact zak
   refine zbs _ rfl rfl rfl rfl rfl rfl bs (iS _ _ _) rfl (zfg _ _ _) ?_
   intro w8 hB hb
   replace b0:=zet hB b0 hgs0.symm
   replace b1:=zet hB b1 hgs1.symm
   replace b2:=zet hB b2 hgs2.symm
   replace bc:=zet hB bc hgsc.symm
   replace hf:=hf.but hB hgsb
   replace hx:=hx.new hB hls
   clear hB bs
   have bs:=hb
   clear hb
   go_upto_region 9 with (fail)
   by_cases hbit : bit K m = true
   ·
    have HBIT:=veil hbit
    obtain ⟨x2,y2,z2,h2,k2⟩:=plus_rep R1.2 q.2 h1
    obtain ⟨R2,hR2⟩ : ∃ R,R = Pt.grp.op R1 q:=⟨_,rfl⟩
    have HR2:=veil hR2
    replace h2 : Rep x2 y2 z2 R2.1:=by rw [hR2]; exact h2
    have K2:=veil k2
    clear hR2 k2 h1
    clear hbit
    refine' zan (m:=3) (A:=_) (by kernel_rfl) ?h5a ?h5b
    case h5a =>
     refine zaa (nv K) rfl (zad rfl rfl b0 rfl uN rfl (iN _)) ?_
     refine zaa (.int .i64 (m : Int)) rfl (zah (.inl rfl) rfl) ?_;simp only [aP,lA,lZ,lS]
     refine zaa (.bool true) rfl (zai (args:=[nv K,.int .i64 (m : Int)]) rfl rfl (fun W => zac Tryz.func53 rfl rfl _ W) (fun W hW => kbit K m true HBIT.out hm W)) ?_;simp only [aP,lA,lZ,lS]
     exact zak
    refine zar rfl ?_
    intro w9 hE
    replace b0:=hE.block b0
    replace b1:=hE.block b1
    replace b2:=hE.block b2
    replace bc:=hE.block bc
    replace bs:=hE.block bs
    replace hf:=hf.ext hE
    replace hx:=hx.trans hE
    clear hE
    go_upto_region 10 with (fail)
    refine' zan (m:=4) (A:=_) (by kernel_rfl) ?h6a ?h6b
    case h6a =>
     refine zaa (cv b) rfl (zad rfl rfl bc rfl Tryz.underlying82 rfl (iK _)) ?_
     refine zaa (sv x1.val y1.val z1.val) rfl (zad rfl rfl bs rfl Tryz.underlying85 rfl (iS _ _ _)) ?_;simp only [aP,lA,lZ,lS]
     refine zaa (qv (Pt.pX q.1) (Pt.pY q.1) (Pt.pFar q.1)) rfl (zad rfl rfl b1 rfl Tryz.underlying29 rfl (iT _ _ _)) ?_
     refine zaa (sv x2.val y2.val z2.val) rfl (zai (args:=[cv b,sv x1.val y1.val z1.val,qv (Pt.pX q.1) (Pt.pY q.1) (Pt.pFar q.1)]) rfl rfl (fun W => zac Tryz.func54 rfl rfl _ W) (fun W hW => K2.out _ _ (hf.ext hW))) ?_;simp only [aP,lA,lZ,lS]
     exact zak
    refine zbs _ rfl rfl rfl rfl rfl rfl bs (iS _ _ _) rfl (zfg _ _ _) ?_
    intro w10 hB hb
    replace b0:=zet hB b0 hgs0.symm
    replace b1:=zet hB b1 hgs1.symm
    replace b2:=zet hB b2 hgs2.symm
    replace bc:=zet hB bc hgsc.symm
    replace hf:=hf.but hB hgsb
    replace hx:=hx.new hB hls
    clear hB bs
    have bs:=hb
    clear hb
    go_wp2
    go_roundw
    case rel => exact ⟨m,by omega,by go_num,⟨x2,y2,z2,by rw [zgn,if_pos HBIT.out,← HR0.out,← HR1.out,← HR2.out]; exact h2,bs⟩,b0,b1,⟨c2,b2,hc2⟩,bc,hf,hx⟩
    case measure => simp [intOf]
   ·
    have hbit : bit K m = false:=by simpa using hbit
    have HBIT:=veil hbit
    clear hbit
    refine' zan (m:=3) (A:=_) (by kernel_rfl) ?h7a ?h7b
    case h7a =>
     refine zaa (nv K) rfl (zad rfl rfl b0 rfl uN rfl (iN _)) ?_
     refine zaa (.int .i64 (m : Int)) rfl (zah (.inl rfl) rfl) ?_;simp only [aP,lA,lZ,lS]
     refine zaa (.bool false) rfl (zai (args:=[nv K,.int .i64 (m : Int)]) rfl rfl (fun W => zac Tryz.func53 rfl rfl _ W) (fun W hW => kbit K m false HBIT.out hm W)) ?_;simp only [aP,lA,lZ,lS]
     exact zak
    refine zar rfl ?_
    intro w9 hE
    replace b0:=hE.block b0
    replace b1:=hE.block b1
    replace b2:=hE.block b2
    replace bc:=hE.block bc
    replace bs:=hE.block bs
    replace hf:=hf.ext hE
    replace hx:=hx.trans hE
    clear hE
    go_wp2
    go_roundw
    case rel => exact ⟨m,by omega,by go_num,⟨x1,y1,z1,by rw [zgn,HBIT.out,if_neg (by decide),← HR0.out,← HR1.out]; exact h1,bs⟩,b0,b1,⟨c2,b2,hc2⟩,bc,hf,hx⟩
    case measure => simp [intOf]
/-! ### the field of n -/
def Fn (w : World) (b : Nat) : Prop:=∃ N Q,Fok Pt.nn N Q ∧ Fb w b Pt.nn N Q
theorem Fn.ext {w w' : World} {b : Nat} (h : Fn w b) (k : Ext w w') : Fn w' b:=by
 obtain ⟨N,Q,h1,h2⟩:=h
 exact ⟨N,Q,h1,h2.call k⟩
theorem Fn.but {w w' : World} {b r : Nat} (h : Fn w b) (k : But r w w') (hne : b ≠ r) : Fn w' b:=by
 obtain ⟨N,Q,h1,h2⟩:=h
 exact ⟨N,Q,h1,World.rowIs.of_block h2 (k.block b h2.lt (fun e => hne (Option.some.inj e)))⟩
section
variable {b : Nat} {w : World}
theorem nadd_p {X Y Z : Nat} (hZ : Z = (X % Pt.nn + Y % Pt.nn) % Pt.nn) (hX : X < top) (hY : Y < top) (hF : Fn w b) : Calls Tryz.prog 83 #[ptrTo b,nv X,nv Y] w fun e w' => e = .returned (nv Z) ∧ Ext w w':=by
 obtain ⟨N,Q,h1,h2⟩:=hF
 exact zhc b X Y Pt.nn N Q Z hX hY h1 hZ.symm w h2
theorem ncut_p {X Z : Nat} (hZ : Z = X % Pt.nn) (hX : X < top) (hF : Fn w b) : Calls Tryz.prog 83 #[ptrTo b,nv X,nv 0] w fun e w' => e = .returned (nv Z) ∧ Ext w w' :=
 nadd_p (by rw [hZ,Nat.zero_mod,Nat.add_zero,Nat.mod_mod]) hX zbu hF
theorem nmul_p {X Y Z : Nat} (hZ : Z = X * Y % Pt.nn) (hX : X < top) (hY : Y < top) (hF : Fn w b) : Calls Tryz.prog 35 #[ptrTo b,nv X,nv Y] w fun e w' => e = .returned (nv Z) ∧ Ext w w':=by
 obtain ⟨N,Q,h1,h2⟩:=hF
 exact fmul2_calls b X Y Pt.nn N Q Z hX hY h1 hZ.symm w h2
theorem ninv_p {X t : Nat} (h0 : X ≠ 0) (hX : X < Pt.nn) (ht : t = Pt.iG Pt.nn X) (hF : Fn w b) : Calls Tryz.prog 33 #[ptrTo b,nv X] w fun e w' => e = .returned (.tuple #[nv t,.nilIface]) ∧ Ext w w':=by
 obtain ⟨N,Q,h1,h2⟩:=hF
 refine (zib b X Pt.nn N Q (Nat.lt_trans hX zcp) h1 w h2).mono ?_
 rintro e w' ⟨⟨y,hy,hi,rfl⟩,hb⟩
 have hg:=Pt.gcd_nn h0 hX
 have e1 : y = t:=by rw [ht]; exact Pt.iG_of Pt.nn Pt.nn_root Pt.nn_one hy (hi hg)
 rw [zhx hg,e1]
 exact ⟨rfl,hb⟩
end
/-! ### a maker -/
def mc (g D E : Nat) : Array Value:=#[ptrTo g,vI vU (wd D 0),vI vU (wd D 1),vI vU (wd D 2),vI vU (wd D 3),vI vU (wd E 0),vI vU (wd E 1),vI vU (wd E 2),vI vU (wd E 3)]
def mv (g D E : Nat) : Value:=.agg (mc g D E)
theorem mc_one (g D E : Nat) : (mc g D E).all (·.oneCell') = true:=by simp [mc,ptrTo,Value.oneCell']
theorem iMk (g D E : Nat) : (Tryz.prog.info? 55).map (·.size) = some (mc g D E).size:=by kernel_rfl
theorem gz_size (r s : Nat) : (#[vI vU 0,vI vU 0,vI vU 0,vI vU 0,vI vU 0,vI vU 0,vI vU 0,vI vU 0] : Array Value).size = (gc r s).size:=by simp [gc]
theorem qz_size (x y : Nat) (f : Bool) : (#[vI vU 0,vI vU 0,vI vU 0,vI vU 0,vI vU 0,vI vU 0,vI vU 0,vI vU 0,.bool false] : Array Value).size = (qc x y f).size:=by simp [qc]
theorem zir (W : World) : (isAgg 53).run Tryz.prog W = .ok false W:=by simp [isAgg,go_sem]
section
variable (g : Nat) (W : World)
theorem fldM0 : (Instr.fieldAt 55 (ptrTo g) 0).run Tryz.prog W = .ok (.pointer (some ⟨g,0,none⟩)) W:=by simp [Instr.fieldAt,go_sem]
theorem fldM1 : (Instr.fieldAt 55 (ptrTo g) 1).run Tryz.prog W = .ok (.pointer (some ⟨g,1,none⟩)) W:=by simp [Instr.fieldAt,go_sem]
theorem fldM2 : (Instr.fieldAt 55 (ptrTo g) 2).run Tryz.prog W = .ok (.pointer (some ⟨g,5,none⟩)) W:=by simp [Instr.fieldAt,go_sem]
theorem bldM (D E : Nat) : (Instr.build 55 [(0,ptrTo g),(1,nv D),(2,nv E)].toArray).run Tryz.prog W = .ok (mv g D E) W:=by simp [Instr.build,go_sem,nv,nc,mv,mc]
end
theorem zgk {S : World → Prop} {P : Program} {ops : Array Oper} {o : Oper} {a : Act} {ty : TypeId} {parts : List (Nat × Operand)} {vs : List (Nat × Value)} {v : Value} (hw : Region.wanted o (yielded ops a.tmps) = true) (ho : o.op = .build ty parts.toArray) (hx : parts.map (fun p => (p.1,a.eval p.2)) = vs)
  (hb : ∀ W,(Instr.build ty vs.toArray).run P W = .ok v W) : YieldsIf P ops S o v a:=Or.inl ⟨hw,fun W _ => by
 unfold execOp
 simp only [ho,List.map_toArray]
 rw [show (parts.map fun x => match x with | (i,x) => (i,a.eval x)) = vs from hx]
 simp only [Sem.run_bind,hb W,Result.andThen_ok,Sem.run_pure]⟩
theorem yif_pickB {S : World → Prop} {P : Program} {ops : Array Oper} {o : Oper} {a : Act} {c x y : Operand} {b : Bool} {v : Value} (hw : Region.wanted o (yielded ops a.tmps) = true) (ho : o.op = .pick c x y) (hc : a.eval c = .bool b) (hx : (if b then a.eval x else a.eval y) = v) : YieldsIf P ops S o v a:=Or.inl ⟨hw,fun W _ => by
 unfold execOp
 simp only [ho]
 generalize a.eval = ρ at *
 subst hx
 rw [hc]
 cases b <;> simp [go_sem,asBool]⟩
/-! ### what the layers below answer -/
theorem ofl_is {y : Nat → Nat} {X : Nat} (hy : ∀ j,y j < 256) (hX : X = num32 y) {g : Nat} (w : World) (hb : w.heap[g]? = some (.cells (dgc y) 26 (0,0))) : Calls Tryz.prog 82 #[.slice (some ⟨g,0,none⟩) 32 32] w fun e w' => e = .returned (.tuple #[nv X,.nilIface]) ∧ Ext w w':=by
 subst hX
 exact of_some g 0 32 32 y hy (by decide) w (Array.getElem?_eq_some_iff.1 hb).1 (fun j hj => by rw [Nat.zero_add,cell_of_row w g j _ _ _ hb]; exact zcy _ hj)
theorem mulb_is {K : Nat} (hK : K < top) {P : Pt.Q} (hP : P = Pt.grp.mul K Pt.base) (w : World) : Calls Tryz.prog 16 #[nv K,qv Pt.gx Pt.gy false] w fun e w' => e = .returned (.tuple #[qv (Pt.pX P.1) (Pt.pY P.1) (Pt.pFar P.1),.nilIface]) ∧ Ext w w':=by
 subst hP
 have h:=mul_yes K hK Pt.base w
 unfold qvP at h
 rwa [base_x.1,base_x.2.1,base_x.2.2] at h
theorem eqN0 {X : Nat} (hX : X < top) (h0 : X ≠ 0) (W : World) : (binOp .eql 24 (nv X) (nv 0)).run Tryz.prog W = .ok (.bool false) W:=by
 have e:=zit hX zbu W
 rw [decide_eq_false h0] at e
 exact e
theorem iz_yes (w : World) :
  Calls Tryz.prog 45 #[nv 0] w fun e w' => e = .returned (.bool true) ∧ Ext w w':=by
 unfold nv nc
 go_enter Tryz.func45,Tryz.ntmps45
 go_upto_region 1 with (fail)
 obtain ⟨hx,b0⟩:=blocks1 w (.cells #[vI vU (wd 0 0),vI vU (wd 0 1),vI vU (wd 0 2),vI vU (wd 0 3)] 24)
 generalize w.alloc (.cells #[vI vU (wd 0 0),vI vU (wd 0 1),vI vU (wd 0 2),vI vU (wd 0 3)] 24) = w1 at *
 have b0 : w1.heap[w.heap.size]? = some (.cells (nc 0) 24 (0,0)):=b0
 refine' zan (m:=4) (A:=_) (by kernel_rfl) ?h1 ?h2
 case h1 =>
  refine zaa (nv 0) rfl (zad rfl rfl b0 rfl uN rfl (iN _)) ?_
  refine zaa (nv 0) rfl (zba rfl rfl (bldN0 ·)) ?_;simp only [aP,lA,lZ,lS]
  refine zaa (.bool true) rfl (zcd rfl rfl rfl (gN _ _ _ _ _) eqN) ?_
  refine zaa (.bool true) rfl (zah (.inr rfl) rfl) ?_;simp only [aP,lA,lZ,lS]
  exact zak
 refine zar rfl ?_
 intro w2 hE
 replace hx:=hx.trans hE
 clear hE
 go_wp2
 go_ret
 exact ⟨rfl,hx⟩
theorem iz_no {X : Nat} (hX : X < top) (h0 : X ≠ 0) (w : World) :
  Calls Tryz.prog 45 #[nv X] w fun e w' => e = .returned (.bool false) ∧ Ext w w':=by
 have kX:=veil hX
 have k0:=veil h0
 clear h0 hX
 unfold nv nc
 go_enter Tryz.func45,Tryz.ntmps45
 go_upto_region 1 with (fail)
 obtain ⟨hx,b0⟩:=blocks1 w (.cells #[vI vU (wd X 0),vI vU (wd X 1),vI vU (wd X 2),vI vU (wd X 3)] 24)
 generalize w.alloc (.cells #[vI vU (wd X 0),vI vU (wd X 1),vI vU (wd X 2),vI vU (wd X 3)] 24) = w1 at *
 have b0 : w1.heap[w.heap.size]? = some (.cells (nc X) 24 (0,0)):=b0
 refine' zan (m:=4) (A:=_) (by kernel_rfl) ?h1 ?h2
 case h1 =>
  refine zaa (nv X) rfl (zad rfl rfl b0 rfl uN rfl (iN _)) ?_
  refine zaa (nv 0) rfl (zba rfl rfl (bldN0 ·)) ?_;simp only [aP,lA,lZ,lS]
  refine zaa (.bool false) rfl (zcd rfl rfl rfl (gN _ _ _ _ _) (eqN0 kX.out k0.out ·)) ?_
  refine zaa (.bool false) rfl (zah (.inr rfl) rfl) ?_;simp only [aP,lA,lZ,lS]
  exact zak
 refine zar rfl ?_
 intro w2 hE
 replace hx:=hx.trans hE
 clear hE
 go_wp2
 go_ret
 exact ⟨rfl,hx⟩
theorem iz_is {X : Nat} {b : Bool} (hb : decide (X = 0) = b) (hX : X < top) (w : World) :
  Calls Tryz.prog 45 #[nv X] w fun e w' => e = .returned (.bool b) ∧ Ext w w':=by
 subst hb
 by_cases h : X = 0
 ·
  subst h
  exact iz_yes w
 ·
  rw [decide_eq_false h]
  exact iz_no hX h w
theorem rng_zero (w : World) :
  Calls Tryz.prog 15 #[nv 0] w fun e w' => e = .returned (.bool false) ∧ Ext w w':=by
 unfold nv nc
 go_enter Tryz.func15,Tryz.ntmps15
 go_upto_region 1 with (fail)
 obtain ⟨hx,b0⟩:=blocks1 w (.cells #[vI vU (wd 0 0),vI vU (wd 0 1),vI vU (wd 0 2),vI vU (wd 0 3)] 24)
 generalize w.alloc (.cells #[vI vU (wd 0 0),vI vU (wd 0 1),vI vU (wd 0 2),vI vU (wd 0 3)] 24) = w1 at *
 have b0 : w1.heap[w.heap.size]? = some (.cells (nc 0) 24 (0,0)):=b0
 refine' zdb (m:=10) (A:=_) 10 (by kernel_rfl) (by kernel_rfl) ?h1 ?h2
 case h1 =>
  refine zaa (nv 0) rfl (zad rfl rfl b0 rfl uN rfl (iN _)) ?_
  refine zaa (.bool true) rfl (zai (args:=[nv 0]) rfl rfl (fun W => zac Tryz.func45 rfl rfl _ W) (fun W hW => iz_yes W)) ?_;simp only [aP,lA,lZ,lS]
  refine zaa (.bool false) rfl (zcu rfl rfl rfl) ?_
  refine zaa (.bool false) rfl (zah (.inl rfl) rfl) ?_;simp only [aP,lA,lZ,lS]
  refine zch rfl ?_
  refine zch rfl ?_;simp only [aP,lA,lZ,lS]
  refine zch rfl ?_
  refine zch rfl ?_;simp only [aP,lA,lZ,lS]
  refine zaa (.bool false) rfl (zbd rfl rfl rfl) ?_
  refine zaa (.bool false) rfl (zah (.inr rfl) rfl) ?_;simp only [aP,lA,lZ,lS]
  exact zak
 refine zck rfl (by kernel_rfl) ?_
 intro w2 hE
 refine NoPanic.normal ?_
 replace hx:=hx.trans hE
 clear hE
 go_wp2
 go_ret
 exact ⟨rfl,hx⟩
theorem rng_in {X : Nat} (hX : X < top) (h0 : X ≠ 0) (hl : X < Pt.nn) (w : World) :
  Calls Tryz.prog 15 #[nv X] w fun e w' => e = .returned (.bool true) ∧ Ext w w':=by
 have kX:=veil hX
 have k0:=veil h0
 have kl:=veil hl
 clear hl h0 hX
 unfold nv nc
 go_enter Tryz.func15,Tryz.ntmps15
 go_upto_region 1 with (fail)
 obtain ⟨hx,b0⟩:=blocks1 w (.cells #[vI vU (wd X 0),vI vU (wd X 1),vI vU (wd X 2),vI vU (wd X 3)] 24)
 generalize w.alloc (.cells #[vI vU (wd X 0),vI vU (wd X 1),vI vU (wd X 2),vI vU (wd X 3)] 24) = w1 at *
 have b0 : w1.heap[w.heap.size]? = some (.cells (nc X) 24 (0,0)):=b0
 refine' zdb (m:=10) (A:=_) 10 (by kernel_rfl) (by kernel_rfl) ?h1 ?h2
 case h1 =>
  refine zaa (nv X) rfl (zad rfl rfl b0 rfl uN rfl (iN _)) ?_
  refine zaa (.bool false) rfl (zai (args:=[nv X]) rfl rfl (fun W => zac Tryz.func45 rfl rfl _ W) (fun W hW => iz_no kX.out k0.out W)) ?_;simp only [aP,lA,lZ,lS]
  refine zaa (.bool true) rfl (zcu rfl rfl rfl) ?_
  refine zaa (.bool true) rfl (zah (.inl rfl) rfl) ?_;simp only [aP,lA,lZ,lS]
  refine zat (nv X) rfl (zad rfl rfl b0 rfl uN rfl (iN _)) ?_
  refine zat (nv Pt.nn) rfl (zai (args:=[]) rfl rfl (fun W => zac Tryz.func47 rfl rfl _ W) (fun W hW => pN_is W)) ?_;simp only [aP,lA,lZ,lS]
  refine zat (.int .i64 (cmpN X Pt.nn)) rfl (zai (args:=[nv X,nv Pt.nn]) rfl rfl (fun W => zac Tryz.func46 rfl rfl _ W) (fun W hW => zgj X Pt.nn kX.out zcp W)) ?_
  refine zat (.bool true) rfl (zge rfl rfl (cmpL kl.out)) ?_;simp only [aP,lA,lZ,lS]
  refine zaa (.bool true) rfl (zbd rfl rfl rfl) ?_
  refine zaa (.bool true) rfl (zah (.inr rfl) rfl) ?_;simp only [aP,lA,lZ,lS]
  exact zak
 refine zck rfl (by kernel_rfl) ?_
 intro w2 hE
 refine NoPanic.normal ?_
 replace hx:=hx.trans hE
 clear hE
 go_wp2
 go_ret
 exact ⟨rfl,hx⟩
theorem rng_out {X : Nat} (hX : X < top) (h0 : X ≠ 0) (hl : ¬ X < Pt.nn) (w : World) :
  Calls Tryz.prog 15 #[nv X] w fun e w' => e = .returned (.bool false) ∧ Ext w w':=by
 have kX:=veil hX
 have k0:=veil h0
 have kl:=veil hl
 clear hl h0 hX
 unfold nv nc
 go_enter Tryz.func15,Tryz.ntmps15
 go_upto_region 1 with (fail)
 obtain ⟨hx,b0⟩:=blocks1 w (.cells #[vI vU (wd X 0),vI vU (wd X 1),vI vU (wd X 2),vI vU (wd X 3)] 24)
 generalize w.alloc (.cells #[vI vU (wd X 0),vI vU (wd X 1),vI vU (wd X 2),vI vU (wd X 3)] 24) = w1 at *
 have b0 : w1.heap[w.heap.size]? = some (.cells (nc X) 24 (0,0)):=b0
 refine' zdb (m:=10) (A:=_) 10 (by kernel_rfl) (by kernel_rfl) ?h1 ?h2
 case h1 =>
  refine zaa (nv X) rfl (zad rfl rfl b0 rfl uN rfl (iN _)) ?_
  refine zaa (.bool false) rfl (zai (args:=[nv X]) rfl rfl (fun W => zac Tryz.func45 rfl rfl _ W) (fun W hW => iz_no kX.out k0.out W)) ?_;simp only [aP,lA,lZ,lS]
  refine zaa (.bool true) rfl (zcu rfl rfl rfl) ?_
  refine zaa (.bool true) rfl (zah (.inl rfl) rfl) ?_;simp only [aP,lA,lZ,lS]
  refine zat (nv X) rfl (zad rfl rfl b0 rfl uN rfl (iN _)) ?_
  refine zat (nv Pt.nn) rfl (zai (args:=[]) rfl rfl (fun W => zac Tryz.func47 rfl rfl _ W) (fun W hW => pN_is W)) ?_;simp only [aP,lA,lZ,lS]
  refine zat (.int .i64 (cmpN X Pt.nn)) rfl (zai (args:=[nv X,nv Pt.nn]) rfl rfl (fun W => zac Tryz.func46 rfl rfl _ W) (fun W hW => zgj X Pt.nn kX.out zcp W)) ?_
  refine zat (.bool false) rfl (zge rfl rfl (cmpG kl.out)) ?_;simp only [aP,lA,lZ,lS]
  refine zaa (.bool false) rfl (zbd rfl rfl rfl) ?_
  refine zaa (.bool false) rfl (zah (.inr rfl) rfl) ?_;simp only [aP,lA,lZ,lS]
  exact zak
 refine zck rfl (by kernel_rfl) ?_
 intro w2 hE
 refine NoPanic.normal ?_
 replace hx:=hx.trans hE
 clear hE
 go_wp2
 go_ret
 exact ⟨rfl,hx⟩
theorem rng_is {X : Nat} {b : Bool} (hb : mayB X = b) (hX : X < top) (w : World) :
  Calls Tryz.prog 15 #[nv X] w fun e w' => e = .returned (.bool b) ∧ Ext w w':=by
 subst hb
 unfold mayB
 by_cases h0 : X = 0
 ·
  subst h0
  exact rng_zero w
 ·
  by_cases hl : X < Pt.nn
  ·
   rw [decide_eq_true h0,decide_eq_true hl]
   exact rng_in hX h0 hl w
  ·
   rw [decide_eq_true h0,decide_eq_false hl]
   exact rng_out hX h0 hl w
theorem modulo_calls (w : World) :
  Calls Tryz.prog 32 #[] w fun e w' => (∃ b,e = .returned (ptrTo b) ∧ w.heap.size ≤ b ∧ Fn w' b) ∧ Ext w w':=by
 go_enter Tryz.func32,Tryz.ntmps32
 go_upto_region 1 with (fail)
 have HN:=veil (pN_is w)
 go_wp2_with (first
  | (go_at_call 47; refine HN.out.mono ?_; rintro e w5 ⟨rfl,hb5⟩)
  | (go_at_call 74; refine (new_good Pt.nn nn_odd.1 nn_odd.2 zcp w5).mono ?_; rintro e w6 ⟨⟨b,N,Q,hok,hfb,hge,rfl⟩,hb6⟩))
 go_ret
 exact ⟨⟨b,rfl,Nat.le_trans (Below.size hb5) hge,N,Q,hok,hfb⟩,hb5.trans hb6⟩
theorem numof_calls {y : Nat → Nat} (hy : ∀ j,y j < 256) {X : Nat} (hX : X = num32 y) (w : World) :
  Calls Tryz.prog 36 #[dgv y] w fun e w' => e = .returned (nv X) ∧ Ext w w':=by
 have ky:=veil hy
 have kX:=veil hX
 clear hX hy
 unfold nv nc dgv dgc
 go_enter Tryz.func36,Tryz.ntmps36
 go_upto_region 1 with (fail)
 obtain ⟨hx,b0,b1⟩:=blocks2 w (.cells (arrOf 32 fun i => .int .u8 (y i : Nat)) 26) (.cells #[vI vU 0,vI vU 0,vI vU 0,vI vU 0] 24)
 generalize (w.alloc (.cells (arrOf 32 fun i => .int .u8 (y i : Nat)) 26)).alloc (.cells #[vI vU 0,vI vU 0,vI vU 0,vI vU 0] 24) = w1 at *
 have b0 : w1.heap[w.heap.size]? = some (.cells (dgc y) 26 (0,0)):=b0
 refine' zan (m:=5) (A:=_) (by kernel_rfl) ?h1 ?h2
 case h1 =>
  refine zaa (.slice (some ⟨w.heap.size,0,none⟩) 32 32) rfl (made_slice rfl rfl (sliceD _ ·)) ?_
  refine zaa (.tuple #[nv X,.nilIface]) rfl (zai (args:=[.slice (some ⟨w.heap.size,0,none⟩) 32 32]) rfl rfl (fun W => zac Tryz.func82 rfl rfl _ W) (fun W hW => ofl_is ky.out kX.out W (hW.block b0))) ?_;simp only [aP,lA,lZ,lS]
  refine zaa (.tuple #[nv X,.nilIface]) rfl (zah (.inl rfl) rfl) ?_
  refine zaa (nv X) rfl (zbb rfl rfl rfl) ?_;simp only [aP,lA,lZ,lS]
  refine zaa (.nilIface) rfl (zbb rfl rfl rfl) ?_;simp only [aP,lA,lZ,lS]
  exact zak
 refine zcc _ _ rfl rfl rfl rfl rfl rfl rfl (hzN ·) (fun _ => rfl) (fun _ => rfl) (iN _) rfl (zbe _) ?_
 intro gx w2 hgx bx hE
 replace b1:=hE.block b1
 replace hx:=hx.trans hE
 clear hE
 simp only [aP,lA,lZ,lS]
 clear hgx
 go_upto_region 2 with (fail)
 refine' zan (m:=1) (A:=_) (by kernel_rfl) ?h2a ?h2b
 case h2a =>
  refine zaa (nv X) rfl (zad rfl rfl bx rfl uN rfl (iN _)) ?_;simp only [aP,lA,lZ,lS]
  exact zak
 refine zbs _ rfl rfl rfl rfl rfl rfl b1 (iN _) rfl (zbe _) ?_
 intro w3 hB hb
 go_wp2
 exact bodyPost_ret (results_cell_row rfl _ _ (w.heap.size + 1) 24 (nc X) (0,0) _ rfl hb Tryz.underlying24 rfl (by kernel_rfl)) rfl ⟨rfl,hx.new hB (by omega)⟩
theorem scut_calls {b X Z : Nat} (hZ : Z = X % Pt.nn) (hX : X < top) {w : World} (hF : Fn w b) :
  Calls Tryz.prog 37 #[ptrTo b,nv X] w fun e w' => e = .returned (nv Z) ∧ Ext w w':=by
 have kZ:=veil hZ
 have kX:=veil hX
 clear hX hZ
 unfold nv nc
 go_enter Tryz.func37,Tryz.ntmps37
 go_upto_region 1 with (fail)
 obtain ⟨hx,b0,b1⟩:=blocks2 w (.cells #[vI vU (wd X 0),vI vU (wd X 1),vI vU (wd X 2),vI vU (wd X 3)] 24) (.cells #[vI vU 0,vI vU 0,vI vU 0,vI vU 0] 24)
 generalize (w.alloc (.cells #[vI vU (wd X 0),vI vU (wd X 1),vI vU (wd X 2),vI vU (wd X 3)] 24)).alloc (.cells #[vI vU 0,vI vU 0,vI vU 0,vI vU 0] 24) = w1 at *
 have b0 : w1.heap[w.heap.size]? = some (.cells (nc X) 24 (0,0)):=b0
 have hf:=hF.ext hx
 clear hF
 refine' zan (m:=4) (A:=_) (by kernel_rfl) ?h1 ?h2
 case h1 =>
  refine zaa (ptrTo b) rfl (zah (.inl rfl) rfl) ?_
  refine zaa (nv X) rfl (zad rfl rfl b0 rfl uN rfl (iN _)) ?_;simp only [aP,lA,lZ,lS]
  refine zaa (nv 0) rfl (zba rfl rfl (bldN0 ·)) ?_
  refine zaa (nv Z) rfl (zai (args:=[ptrTo b,nv X,nv 0]) rfl rfl (fun W => zac Tryz.func83 rfl rfl _ W) (fun W hW => ncut_p kZ.out kX.out (hf.ext hW))) ?_;simp only [aP,lA,lZ,lS]
  exact zak
 refine zbs _ rfl rfl rfl rfl rfl rfl b1 (iN _) rfl (zbe _) ?_
 intro w2 hB hb
 go_wp2
 exact bodyPost_ret (results_cell_row rfl _ _ (w.heap.size + 1) 24 (nc Z) (0,0) _ rfl hb Tryz.underlying24 rfl (by kernel_rfl)) rfl ⟨rfl,hx.new hB (by omega)⟩
theorem maker_calls {D E : Nat} {y : Nat → Nat} (hy : ∀ j,y j < 256) (hE : E = num32 y) (w : World) :
  Calls Tryz.prog 19 #[nv D,dgv y] w fun e w' => (∃ g,e = .returned (mv g D E) ∧ Fn w' g) ∧ Ext w w':=by
 have ky:=veil hy
 have kE:=veil hE
 clear hE hy
 unfold nv nc dgv dgc
 go_enter Tryz.func19,Tryz.ntmps19
 go_upto_region 1 with (fail)
 obtain ⟨hx,b0,b1,b2⟩:=blocks3 w (.cells #[vI vU (wd D 0),vI vU (wd D 1),vI vU (wd D 2),vI vU (wd D 3)] 24) (.cells (arrOf 32 fun i => .int .u8 (y i : Nat)) 26) (.cells #[.pointer none,vI vU 0,vI vU 0,vI vU 0,vI vU 0,vI vU 0,vI vU 0,vI vU 0,vI vU 0] 55)
 generalize ((w.alloc (.cells #[vI vU (wd D 0),vI vU (wd D 1),vI vU (wd D 2),vI vU (wd D 3)] 24)).alloc (.cells (arrOf 32 fun i => .int .u8 (y i : Nat)) 26)).alloc (.cells #[.pointer none,vI vU 0,vI vU 0,vI vU 0,vI vU 0,vI vU 0,vI vU 0,vI vU 0,vI vU 0] 55) = w1 at *
 have b0 : w1.heap[w.heap.size]? = some (.cells (nc D) 24 (0,0)):=b0
 have b1 : w1.heap[w.heap.size + 1]? = some (.cells (dgc y) 26 (0,0)):=b1
 have hb0:=(Array.getElem?_eq_some_iff.1 b0).1
 have hb1:=(Array.getElem?_eq_some_iff.1 b1).1
 have hb2:=(Array.getElem?_eq_some_iff.1 b2).1
 refine wp_region_noPanic ?_
 refine wp_region_held_drew (S:=fun W => But (w.heap.size + 1 + 1) w1 W) (by kernel_rfl) (But.of_below (Ext.drew w1)) (fun hH => ?_)
 refine wpAnyH_take (i:=1) (v:=nv D) rfl (by kernel_rfl) (by kernel_rfl) (by decide +kernel) (fun _ _ _ h => h) (yieldsIf_load_mid (by rfl) _ _ rfl _ _ rfl (nc D).toList _ (fun W hW j v hv => by rw [cell_of_row W _ _ (nc D) 24 (0,0) ((hW.block _ hb0 (by intro e; injection e; omega)).trans b0),Nat.zero_add]; simpa using hv) uN rfl (iN D)) hH ?_
 refine wpAnyH_take (i:=2) (v:=dgv y) rfl (by kernel_rfl) (by kernel_rfl) (by decide +kernel) (fun _ _ _ h => h) (yieldsIf_load_mid (by rfl) _ _ rfl _ _ rfl (dgc y).toList _ (fun W hW j v hv => by rw [cell_of_row W _ _ (dgc y) 26 (0,0) ((hW.block _ hb1 (by intro e; injection e; omega)).trans b1),Nat.zero_add]; simpa using hv) Tryz.underlying26 rfl (iDg y)) hH ?_
 refine wpAnyH_ready (rs:=[0]) (by decide +kernel) (by simp) ?_
 refine AllReadyH.cons rfl (fun K hK => ?_) AllReadyH.nil
 go_simp
 refine (modulo_calls _).mono ?_
 rintro e w3 ⟨⟨g,rfl,hg,hF⟩,hE1⟩
 have hX : Ext w1 w3:=(Ext.drew w1).trans hE1
 have hg2 : w1.heap.size ≤ g:=hg
 refine hK.out _ _ (But.of_below hX) (fun hH => ?_)
 clear hK K hE1 hg
 refine wpAnyH_ready (rs:=[3]) (by decide +kernel) (by simp) ?_
 refine AllReadyH.cons rfl (fun K hK => ?_) AllReadyH.nil
 go_simp
 refine (numof_calls ky.out kE.out _).mono ?_
 rintro e w4 ⟨rfl,hE2⟩
 have hF:=hF.ext hE2
 have hX:=hX.trans hE2
 refine hK.out _ _ (But.of_below hX) (fun hH => ?_)
 clear hK K hE2
 refine wpAnyH_take (i:=4) (v:=mv g D E) rfl (by kernel_rfl) (by kernel_rfl) (by decide +kernel) (fun _ _ _ h => h) (zgk (vs:=[(0,ptrTo g),(1,nv D),(2,nv E)]) (by rfl) rfl rfl (fun W => bldM g W D E)) hH ?_
 refine wpAnyH_ready (rs:=[5]) (by decide +kernel) (by simp) ?_
 refine AllReadyH.cons rfl (fun K hK => ?_) AllReadyH.nil
 refine wp_store_row 55 _ _ rfl (w.heap.size + 1 + 1) (mc g D E) rfl rfl 55 _ (hX.block b2) (iMk _ _ _) rfl (mc_one _ _ _) ?_
 have hB:=zdf (But.refl (w.heap.size + 1 + 1) w4) (mc g D E)
 have hb:=setRow_heap w4 _ _ (mc g D E) 55 (0,0) (hX.block b2)
 have hF:=hF.but hB (by omega)
 refine hK.out _ _ (zdf (But.of_below hX) _) (fun hH => ?_)
 clear hK K
 refine wpAnyH_done (by decide +kernel) ?_ _
 refine NoPanic.normal ?_
 go_wp2
 exact bodyPost_ret (results_cell_row rfl _ _ (w.heap.size + 1 + 1) 55 (mc g D E) (0,0) _ rfl hb Tryz.underlying55 rfl (iMk _ _ _)) rfl ⟨⟨g,rfl,hF⟩,hx.new hH (by omega)⟩
theorem made_all {g D E K x r t u v s : Nat} {b : Bool} (hD : D < top) (hE : E < top) (hK : K ≠ 0 ∧ K < Pt.nn) (hx0 : x < top) (ht : t = Pt.iG Pt.nn K) (hr : r = x % Pt.nn) (hu : u = r * D % Pt.nn) (hv : v = (E % Pt.nn + u % Pt.nn) % Pt.nn) (hs : s = v * t % Pt.nn) (hb0 : (!decide (r = 0) && !decide (s = 0)) = b) {w : World} (hF : Fn w g) :
  Calls Tryz.prog 60 #[mv g D E,nv K,nv x] w fun e w' => e = .returned (.tuple #[gv r s,.bool b]) ∧ Ext w w':=by
 have kKt:=veil (Nat.lt_trans hK.2 zcp)
 have kD:=veil hD
 have kE:=veil hE
 have kK:=veil hK
 have kx0:=veil hx0
 have kt:=veil ht
 have kr:=veil hr
 have ku:=veil hu
 have kv:=veil hv
 have ks:=veil hs
 have kb0:=veil hb0
 clear hb0 hs hv hu hr ht hx0 hK hE hD
 unfold mv mc nv nc
 go_enter Tryz.func60,Tryz.ntmps60
 go_upto_region 1 with (fail)
 obtain ⟨hx,b0,b1,b2,b3⟩:=blocks4 w (.cells #[ptrTo g,vI vU (wd D 0),vI vU (wd D 1),vI vU (wd D 2),vI vU (wd D 3),vI vU (wd E 0),vI vU (wd E 1),vI vU (wd E 2),vI vU (wd E 3)] 55) (.cells #[vI vU (wd K 0),vI vU (wd K 1),vI vU (wd K 2),vI vU (wd K 3)] 24) (.cells #[vI vU (wd x 0),vI vU (wd x 1),vI vU (wd x 2),vI vU (wd x 3)] 24) (.cells #[vI vU 0,vI vU 0,vI vU 0,vI vU 0,vI vU 0,vI vU 0,vI vU 0,vI vU 0] 35)
 generalize (((w.alloc (.cells #[ptrTo g,vI vU (wd D 0),vI vU (wd D 1),vI vU (wd D 2),vI vU (wd D 3),vI vU (wd E 0),vI vU (wd E 1),vI vU (wd E 2),vI vU (wd E 3)] 55)).alloc (.cells #[vI vU (wd K 0),vI vU (wd K 1),vI vU (wd K 2),vI vU (wd K 3)] 24)).alloc (.cells #[vI vU (wd x 0),vI vU (wd x 1),vI vU (wd x 2),vI vU (wd x 3)] 24)).alloc (.cells #[vI vU 0,vI vU 0,vI vU 0,vI vU 0,vI vU 0,vI vU 0,vI vU 0,vI vU 0] 35) = w1 at *
 have b0 : w1.heap[w.heap.size]? = some (.cells (mc g D E) 55 (0,0)):=b0
 have b1 : w1.heap[w.heap.size + 1]? = some (.cells (nc K) 24 (0,0)):=b1
 have b2 : w1.heap[w.heap.size + 1 + 1]? = some (.cells (nc x) 24 (0,0)):=b2
 have hf:=hF.ext hx
 clear hF
 refine' zan (m:=7) (A:=_) (by kernel_rfl) ?h1 ?h2
 case h1 =>
  refine zaa (ptrTo w.heap.size) rfl (zaf rfl rfl (fldM0 _ ·)) ?_
  refine zaa (ptrTo g) rfl (zaq rfl rfl b0 rfl (zir ·)) ?_;simp only [aP,lA,lZ,lS]
  refine zaa (nv K) rfl (zad rfl rfl b1 rfl uN rfl (iN _)) ?_
  refine zaa (.tuple #[nv t,.nilIface]) rfl (zai (args:=[ptrTo g,nv K]) rfl rfl (fun W => zac Tryz.func33 rfl rfl _ W) (fun W hW => ninv_p kK.out.1 kK.out.2 kt.out (hf.ext hW))) ?_;simp only [aP,lA,lZ,lS]
  refine zaa (.tuple #[nv t,.nilIface]) rfl (zah (.inl rfl) rfl) ?_
  refine zaa (nv t) rfl (zbb rfl rfl rfl) ?_;simp only [aP,lA,lZ,lS]
  refine zaa (.nilIface) rfl (zbb rfl rfl rfl) ?_;simp only [aP,lA,lZ,lS]
  exact zak
 refine zcc _ _ rfl rfl rfl rfl rfl rfl rfl (hzN ·) (fun _ => rfl) (fun _ => rfl) (iN _) rfl (zbe _) ?_
 intro gt w2 hgt bt hE
 replace b0:=hE.block b0
 replace b2:=hE.block b2
 replace b3:=hE.block b3
 replace hf:=hf.ext hE
 replace hx:=hx.trans hE
 clear hE
 simp only [aP,lA,lZ,lS]
 clear hgt
 go_upto_region 2 with (fail)
 refine' zan (m:=4) (A:=_) (by kernel_rfl) ?h2a ?h2b
 case h2a =>
  refine zaa (ptrTo w.heap.size) rfl (zaf rfl rfl (fldM0 _ ·)) ?_
  refine zaa (ptrTo g) rfl (zaq rfl rfl b0 rfl (zir ·)) ?_;simp only [aP,lA,lZ,lS]
  refine zaa (nv x) rfl (zad rfl rfl b2 rfl uN rfl (iN _)) ?_
  refine zaa (nv r) rfl (zai (args:=[ptrTo g,nv x]) rfl rfl (fun W => zac Tryz.func37 rfl rfl _ W) (fun W hW => scut_calls kr.out kx0.out (hf.ext hW))) ?_;simp only [aP,lA,lZ,lS]
  exact zak
 refine zcm _ _ rfl rfl rfl rfl rfl rfl rfl (hzN ·) (fun _ => rfl) (fun _ => rfl) (iN _) rfl (zbe _) ?_
 intro gr w3 hgr br hE
 replace b0:=hE.block b0
 replace b3:=hE.block b3
 replace bt:=hE.block bt
 replace hf:=hf.ext hE
 replace hx:=hx.trans hE
 clear hE
 simp only [aP,lA,lZ,lS]
 clear hgr
 go_upto_region 3 with (fail)
 refine' zbw (m:=15) (A:=_) 16 (by kernel_rfl) (by kernel_rfl) (by kernel_rfl) ?h3a ?h3b
 case h3a =>
  refine zaa (ptrTo w.heap.size) rfl (zaf rfl rfl (fldM0 _ ·)) ?_
  refine zaa (ptrTo g) rfl (zaq rfl rfl b0 rfl (zir ·)) ?_;simp only [aP,lA,lZ,lS]
  refine zaa (ptrTo w.heap.size) rfl (zaf rfl rfl (fldM0 _ ·)) ?_
  refine zaa (ptrTo g) rfl (zaq rfl rfl b0 rfl (zir ·)) ?_;simp only [aP,lA,lZ,lS]
  refine zaa (.pointer (some ⟨w.heap.size,5,none⟩)) rfl (zaf rfl rfl (fldM2 _ ·)) ?_
  refine zaa (nv E) rfl (zad rfl rfl b0 rfl uN rfl (iN _)) ?_;simp only [aP,lA,lZ,lS]
  refine zaa (ptrTo w.heap.size) rfl (zaf rfl rfl (fldM0 _ ·)) ?_
  refine zaa (ptrTo g) rfl (zaq rfl rfl b0 rfl (zir ·)) ?_;simp only [aP,lA,lZ,lS]
  refine zaa (nv r) rfl (zad rfl rfl br rfl uN rfl (iN _)) ?_
  refine zaa (.pointer (some ⟨w.heap.size,1,none⟩)) rfl (zaf rfl rfl (fldM1 _ ·)) ?_;simp only [aP,lA,lZ,lS]
  refine zaa (nv D) rfl (zad rfl rfl b0 rfl uN rfl (iN _)) ?_
  refine zaa (nv u) rfl (zai (args:=[ptrTo g,nv r,nv D]) rfl rfl (fun W => zac Tryz.func35 rfl rfl _ W) (fun W hW => nmul_p ku.out (zcx kr.out) kD.out (hf.ext hW))) ?_;simp only [aP,lA,lZ,lS]
  refine zaa (nv v) rfl (zai (args:=[ptrTo g,nv E,nv u]) rfl rfl (fun W => zac Tryz.func83 rfl rfl _ W) (fun W hW => nadd_p kv.out kE.out (zcx ku.out) (hf.ext hW))) ?_
  refine zaa (nv t) rfl (zad rfl rfl bt rfl uN rfl (iN _)) ?_;simp only [aP,lA,lZ,lS]
  refine zaa (nv s) rfl (zai (args:=[ptrTo g,nv v,nv t]) rfl rfl (fun W => zac Tryz.func35 rfl rfl _ W) (fun W hW => nmul_p ks.out (zcx kv.out) (inv_top kt.out) (hf.ext hW))) ?_;simp only [aP,lA,lZ,lS]
  exact zak
 refine zcv _ _ rfl rfl rfl rfl rfl rfl rfl rfl rfl (by kernel_rfl) (by kernel_rfl) (by kernel_rfl) rfl rfl (hzN ·) (fun _ => rfl) (fun _ => rfl) (iN _) rfl (zbe _) ?_
 intro gs w4 hgs bs hE
 refine NoPanic.normal ?_
 replace b3:=hE.block b3
 replace br:=hE.block br
 replace hf:=hf.ext hE
 replace hx:=hx.trans hE
 clear hE
 simp only [aP,lA,lZ,lS]
 clear hgs
 go_upto_region 4 with (fail)
 have hgr : gr ≠ w.heap.size + 1 + 1 + 1:=by intro e; rw [e,b3] at br; injection br with br; injection br with _ br; exact absurd br (by decide)
 have hgs : gs ≠ w.heap.size + 1 + 1 + 1:=by intro e; rw [e,b3] at bs; injection bs with bs; injection bs with _ bs; exact absurd bs (by decide)
 cases hzr : decide (r = 0) with
 | true =>
  have kzr:=veil hzr
  obtain rfl : b = false:=by rw [← kb0.out,kzr.out]; rfl
  clear hzr
  have hbr:=(Array.getElem?_eq_some_iff.1 br).1
  have hbs:=(Array.getElem?_eq_some_iff.1 bs).1
  have hRlt:=(Array.getElem?_eq_some_iff.1 b3).1
  refine wp_region_noPanic ?_
  have hS:=But.of_below (r:=w.heap.size + 1 + 1 + 1) (Ext.drew w4)
  have hR:=(Ext.drew w4).block b3
  refine wp_region_held_drew (S:=fun W => But (w.heap.size + 1 + 1 + 1) w4 W) (by kernel_rfl) hS (fun hH => ?_)
  refine wpAnyH_take (i:=0) (v:=nv r) rfl (by kernel_rfl) (by kernel_rfl) (by decide +kernel) (fun _ _ _ h => h) (yieldsIf_load_mid (by rfl) _ _ rfl _ _ rfl (nc r).toList _ (fun W hW j v hv => by rw [cell_of_row W _ _ (nc r) 24 (0,0) ((hW.block _ hbr (fun e => hgr (Option.some.inj e))).trans br),Nat.zero_add]; simpa using hv) uN rfl (iN _)) hH ?_
  simp only [Act.put,List.setIfInBounds_toArray,List.set_cons_zero,List.set_cons_succ,List.getElem_toArray,List.getElem_cons_zero]
  refine wpAnyH_take (i:=1) (v:=nv s) rfl (by kernel_rfl) (by kernel_rfl) (by decide +kernel) (fun _ _ _ h => h) (yieldsIf_load_mid (by rfl) _ _ rfl _ _ rfl (nc s).toList _ (fun W hW j v hv => by rw [cell_of_row W _ _ (nc s) 24 (0,0) ((hW.block _ hbs (fun e => hgs (Option.some.inj e))).trans bs),Nat.zero_add]; simpa using hv) uN rfl (iN _)) hH ?_
  simp only [Act.put,List.setIfInBounds_toArray,List.set_cons_zero,List.set_cons_succ,List.getElem_toArray,List.getElem_cons_zero,List.getElem_cons_succ]
  refine wpAnyH_take (i:=2) (v:=gv r s) rfl (by kernel_rfl) (by kernel_rfl) (by decide +kernel) (fun _ _ _ h => h) (zgk (vs:=[(0,nv r),(1,nv s)]) (by rfl) rfl rfl (fun W => bldG W _ _)) hH ?_
  simp only [Act.put,List.setIfInBounds_toArray,List.set_cons_zero,List.set_cons_succ,List.getElem_toArray,List.getElem_cons_zero,List.getElem_cons_succ]
  refine wpAnyH_take (i:=3) (v:=nv r) rfl (by kernel_rfl) (by kernel_rfl) (by decide +kernel) (fun _ _ _ h => h) (yieldsIf_load_mid (by rfl) _ _ rfl _ _ rfl (nc r).toList _ (fun W hW j v hv => by rw [cell_of_row W _ _ (nc r) 24 (0,0) ((hW.block _ hbr (fun e => hgr (Option.some.inj e))).trans br),Nat.zero_add]; simpa using hv) uN rfl (iN _)) hH ?_
  simp only [Act.put,List.setIfInBounds_toArray,List.set_cons_zero,List.set_cons_succ,List.getElem_toArray,List.getElem_cons_zero,List.getElem_cons_succ]
  refine wpAnyH_ready (rs:=[4]) (by decide +kernel) (by simp) ?_
  refine AllReadyH.cons rfl (fun K hK => ?_) AllReadyH.nil
  go_simp
  refine (iz_is kzr.out (zcx kr.out) _).mono ?_
  rintro e v1 ⟨rfl,hE⟩
  have hS:=hS.below hE
  have hR:=hE.block hR
  refine hK.out _ _ hS (fun hH => ?_)
  clear hK K hE
  try simp only [Act.put,List.setIfInBounds_toArray,List.set_cons_zero,List.set_cons_succ,List.getElem_toArray,List.getElem_cons_zero,List.getElem_cons_succ]
  refine wpAnyH_take (i:=5) (v:=.bool false) rfl (by kernel_rfl) (by kernel_rfl) (by decide +kernel) (fun _ _ _ h => h) (Or.inl ⟨by rfl,fun W hSw => (by dsimp only at hSw; go_simp)⟩) hH ?_
  simp only [Act.put,List.setIfInBounds_toArray,List.set_cons_zero,List.set_cons_succ,List.getElem_toArray,List.getElem_cons_zero,List.getElem_cons_succ]
  refine wpAnyH_take (i:=6) (v:=.bool false) rfl (by kernel_rfl) (by kernel_rfl) (by decide +kernel) (fun _ _ _ h => h) (Or.inl ⟨by rfl,fun W hSw => (by dsimp only at hSw; go_simp)⟩) hH ?_
  simp only [Act.put,List.setIfInBounds_toArray,List.set_cons_zero,List.set_cons_succ,List.getElem_toArray,List.getElem_cons_zero,List.getElem_cons_succ]
  refine wpAnyH_take (i:=7) (v:=undef) rfl (by kernel_rfl) (by kernel_rfl) (by decide +kernel) (fun _ _ _ h => h) (Or.inr ⟨by rfl,rfl⟩) hH ?_
  simp only [Act.put,List.setIfInBounds_toArray,List.set_cons_zero,List.set_cons_succ,List.getElem_toArray,List.getElem_cons_zero,List.getElem_cons_succ]
  refine wpAnyH_take (i:=8) (v:=undef) rfl (by kernel_rfl) (by kernel_rfl) (by decide +kernel) (fun _ _ _ h => h) (Or.inr ⟨by rfl,rfl⟩) hH ?_
  simp only [Act.put,List.setIfInBounds_toArray,List.set_cons_zero,List.set_cons_succ,List.getElem_toArray,List.getElem_cons_zero,List.getElem_cons_succ]
  refine wpAnyH_take (i:=9) (v:=undef) rfl (by kernel_rfl) (by kernel_rfl) (by decide +kernel) (fun _ _ _ h => h) (Or.inr ⟨by rfl,rfl⟩) hH ?_
  simp only [Act.put,List.setIfInBounds_toArray,List.set_cons_zero,List.set_cons_succ,List.getElem_toArray,List.getElem_cons_zero,List.getElem_cons_succ]
  refine wpAnyH_take (i:=10) (v:=.bool false) rfl (by kernel_rfl) (by kernel_rfl) (by decide +kernel) (fun _ _ _ h => h) (yif_pickB (by rfl) rfl rfl rfl) hH ?_
  simp only [Act.put,List.setIfInBounds_toArray,List.set_cons_zero,List.set_cons_succ,List.getElem_toArray,List.getElem_cons_zero,List.getElem_cons_succ]
  refine wpAnyH_ready (rs:=[11]) (by decide +kernel) (by simp) ?_
  refine AllReadyH.cons rfl (fun K hK => ?_) AllReadyH.nil
  refine wp_store_row 35 _ _ rfl (w.heap.size + 1 + 1 + 1) (gc r s) rfl rfl 35 _ hR (iSg _ _) (gz_size _ _) (zce _ _) ?_
  have hR:=setRow_heap _ _ _ (gc r s) 35 (0,0) hR
  have hS:=zdf hS (gc r s)
  refine hK.out _ _ hS (fun hH => ?_)
  clear hK K
  refine wpAnyH_ready (rs:=[12]) (by decide +kernel) (by simp) ?_
  refine AllReadyH.cons rfl (fun K hK => ?_) AllReadyH.nil
  go_simp
  refine hK.out _ _ hS (fun hH => ?_)
  clear hK K
  refine wpAnyH_done (by decide +kernel) ?_ _
  refine NoPanic.normal ?_
  go_wp2
  exact bodyPost_ret (zbc rfl _ _ (w.heap.size + 1 + 1 + 1) 35 (gc r s) (0,0) _ rfl hR Tryz.underlying35 rfl (iSg _ _)) rfl ⟨rfl,hx.new hS (by omega)⟩
 | false =>
  cases hzs : decide (s = 0) with
  | true =>
   have kzr:=veil hzr
   have kzs:=veil hzs
   obtain rfl : b = false:=by rw [← kb0.out,kzr.out,kzs.out]; rfl
   clear hzr hzs
   have hbr:=(Array.getElem?_eq_some_iff.1 br).1
   have hbs:=(Array.getElem?_eq_some_iff.1 bs).1
   have hRlt:=(Array.getElem?_eq_some_iff.1 b3).1
   refine wp_region_noPanic ?_
   have hS:=But.of_below (r:=w.heap.size + 1 + 1 + 1) (Ext.drew w4)
   have hR:=(Ext.drew w4).block b3
   refine wp_region_held_drew (S:=fun W => But (w.heap.size + 1 + 1 + 1) w4 W) (by kernel_rfl) hS (fun hH => ?_)
   refine wpAnyH_take (i:=0) (v:=nv r) rfl (by kernel_rfl) (by kernel_rfl) (by decide +kernel) (fun _ _ _ h => h) (yieldsIf_load_mid (by rfl) _ _ rfl _ _ rfl (nc r).toList _ (fun W hW j v hv => by rw [cell_of_row W _ _ (nc r) 24 (0,0) ((hW.block _ hbr (fun e => hgr (Option.some.inj e))).trans br),Nat.zero_add]; simpa using hv) uN rfl (iN _)) hH ?_
   simp only [Act.put,List.setIfInBounds_toArray,List.set_cons_zero,List.set_cons_succ,List.getElem_toArray,List.getElem_cons_zero]
   refine wpAnyH_take (i:=1) (v:=nv s) rfl (by kernel_rfl) (by kernel_rfl) (by decide +kernel) (fun _ _ _ h => h) (yieldsIf_load_mid (by rfl) _ _ rfl _ _ rfl (nc s).toList _ (fun W hW j v hv => by rw [cell_of_row W _ _ (nc s) 24 (0,0) ((hW.block _ hbs (fun e => hgs (Option.some.inj e))).trans bs),Nat.zero_add]; simpa using hv) uN rfl (iN _)) hH ?_
   simp only [Act.put,List.setIfInBounds_toArray,List.set_cons_zero,List.set_cons_succ,List.getElem_toArray,List.getElem_cons_zero,List.getElem_cons_succ]
   refine wpAnyH_take (i:=2) (v:=gv r s) rfl (by kernel_rfl) (by kernel_rfl) (by decide +kernel) (fun _ _ _ h => h) (zgk (vs:=[(0,nv r),(1,nv s)]) (by rfl) rfl rfl (fun W => bldG W _ _)) hH ?_
   simp only [Act.put,List.setIfInBounds_toArray,List.set_cons_zero,List.set_cons_succ,List.getElem_toArray,List.getElem_cons_zero,List.getElem_cons_succ]
   refine wpAnyH_take (i:=3) (v:=nv r) rfl (by kernel_rfl) (by kernel_rfl) (by decide +kernel) (fun _ _ _ h => h) (yieldsIf_load_mid (by rfl) _ _ rfl _ _ rfl (nc r).toList _ (fun W hW j v hv => by rw [cell_of_row W _ _ (nc r) 24 (0,0) ((hW.block _ hbr (fun e => hgr (Option.some.inj e))).trans br),Nat.zero_add]; simpa using hv) uN rfl (iN _)) hH ?_
   simp only [Act.put,List.setIfInBounds_toArray,List.set_cons_zero,List.set_cons_succ,List.getElem_toArray,List.getElem_cons_zero,List.getElem_cons_succ]
   refine wpAnyH_ready (rs:=[4]) (by decide +kernel) (by simp) ?_
   refine AllReadyH.cons rfl (fun K hK => ?_) AllReadyH.nil
   go_simp
   refine (iz_is kzr.out (zcx kr.out) _).mono ?_
   rintro e v1 ⟨rfl,hE⟩
   have hS:=hS.below hE
   have hR:=hE.block hR
   refine hK.out _ _ hS (fun hH => ?_)
   clear hK K hE
   try simp only [Act.put,List.setIfInBounds_toArray,List.set_cons_zero,List.set_cons_succ,List.getElem_toArray,List.getElem_cons_zero,List.getElem_cons_succ]
   refine wpAnyH_take (i:=5) (v:=.bool true) rfl (by kernel_rfl) (by kernel_rfl) (by decide +kernel) (fun _ _ _ h => h) (Or.inl ⟨by rfl,fun W hSw => (by dsimp only at hSw; go_simp)⟩) hH ?_
   simp only [Act.put,List.setIfInBounds_toArray,List.set_cons_zero,List.set_cons_succ,List.getElem_toArray,List.getElem_cons_zero,List.getElem_cons_succ]
   refine wpAnyH_take (i:=6) (v:=.bool true) rfl (by kernel_rfl) (by kernel_rfl) (by decide +kernel) (fun _ _ _ h => h) (Or.inl ⟨by rfl,fun W hSw => (by dsimp only at hSw; go_simp)⟩) hH ?_
   simp only [Act.put,List.setIfInBounds_toArray,List.set_cons_zero,List.set_cons_succ,List.getElem_toArray,List.getElem_cons_zero,List.getElem_cons_succ]
   refine wpAnyH_take (i:=7) (v:=nv s) rfl (by kernel_rfl) (by kernel_rfl) (by decide +kernel) (fun _ _ _ h => h) (yieldsIf_load_mid (by rfl) _ _ rfl _ _ rfl (nc s).toList _ (fun W hW j v hv => by rw [cell_of_row W _ _ (nc s) 24 (0,0) ((hW.block _ hbs (fun e => hgs (Option.some.inj e))).trans bs),Nat.zero_add]; simpa using hv) uN rfl (iN _)) hH ?_
   simp only [Act.put,List.setIfInBounds_toArray,List.set_cons_zero,List.set_cons_succ,List.getElem_toArray,List.getElem_cons_zero,List.getElem_cons_succ]
   refine wpAnyH_ready (rs:=[8]) (by decide +kernel) (by simp) ?_
   refine AllReadyH.cons rfl (fun K hK => ?_) AllReadyH.nil
   go_simp
   refine (iz_is kzs.out (zcx ks.out) _).mono ?_
   rintro e v2 ⟨rfl,hE⟩
   have hS:=hS.below hE
   have hR:=hE.block hR
   refine hK.out _ _ hS (fun hH => ?_)
   clear hK K hE
   try simp only [Act.put,List.setIfInBounds_toArray,List.set_cons_zero,List.set_cons_succ,List.getElem_toArray,List.getElem_cons_zero,List.getElem_cons_succ]
   refine wpAnyH_take (i:=9) (v:=.bool false) rfl (by kernel_rfl) (by kernel_rfl) (by decide +kernel) (fun _ _ _ h => h) (Or.inl ⟨by rfl,fun W hSw => (by dsimp only at hSw; go_simp)⟩) hH ?_
   simp only [Act.put,List.setIfInBounds_toArray,List.set_cons_zero,List.set_cons_succ,List.getElem_toArray,List.getElem_cons_zero,List.getElem_cons_succ]
   refine wpAnyH_take (i:=10) (v:=.bool false) rfl (by kernel_rfl) (by kernel_rfl) (by decide +kernel) (fun _ _ _ h => h) (yif_pickB (by rfl) rfl rfl rfl) hH ?_
   simp only [Act.put,List.setIfInBounds_toArray,List.set_cons_zero,List.set_cons_succ,List.getElem_toArray,List.getElem_cons_zero,List.getElem_cons_succ]
   refine wpAnyH_ready (rs:=[11]) (by decide +kernel) (by simp) ?_
   refine AllReadyH.cons rfl (fun K hK => ?_) AllReadyH.nil
   refine wp_store_row 35 _ _ rfl (w.heap.size + 1 + 1 + 1) (gc r s) rfl rfl 35 _ hR (iSg _ _) (gz_size _ _) (zce _ _) ?_
   have hR:=setRow_heap _ _ _ (gc r s) 35 (0,0) hR
   have hS:=zdf hS (gc r s)
   refine hK.out _ _ hS (fun hH => ?_)
   clear hK K
   refine wpAnyH_ready (rs:=[12]) (by decide +kernel) (by simp) ?_
   refine AllReadyH.cons rfl (fun K hK => ?_) AllReadyH.nil
   go_simp
   refine hK.out _ _ hS (fun hH => ?_)
   clear hK K
   refine wpAnyH_done (by decide +kernel) ?_ _
   refine NoPanic.normal ?_
   go_wp2
   exact bodyPost_ret (zbc rfl _ _ (w.heap.size + 1 + 1 + 1) 35 (gc r s) (0,0) _ rfl hR Tryz.underlying35 rfl (iSg _ _)) rfl ⟨rfl,hx.new hS (by omega)⟩
  | false =>
   have kzr:=veil hzr
   have kzs:=veil hzs
   obtain rfl : b = true:=by rw [← kb0.out,kzr.out,kzs.out]; rfl
   clear hzr hzs
   have hbr:=(Array.getElem?_eq_some_iff.1 br).1
   have hbs:=(Array.getElem?_eq_some_iff.1 bs).1
   have hRlt:=(Array.getElem?_eq_some_iff.1 b3).1
   refine wp_region_noPanic ?_
   have hS:=But.of_below (r:=w.heap.size + 1 + 1 + 1) (Ext.drew w4)
   have hR:=(Ext.drew w4).block b3
   refine wp_region_held_drew (S:=fun W => But (w.heap.size + 1 + 1 + 1) w4 W) (by kernel_rfl) hS (fun hH => ?_)
   refine wpAnyH_take (i:=0) (v:=nv r) rfl (by kernel_rfl) (by kernel_rfl) (by decide +kernel) (fun _ _ _ h => h) (yieldsIf_load_mid (by rfl) _ _ rfl _ _ rfl (nc r).toList _ (fun W hW j v hv => by rw [cell_of_row W _ _ (nc r) 24 (0,0) ((hW.block _ hbr (fun e => hgr (Option.some.inj e))).trans br),Nat.zero_add]; simpa using hv) uN rfl (iN _)) hH ?_
   simp only [Act.put,List.setIfInBounds_toArray,List.set_cons_zero,List.set_cons_succ,List.getElem_toArray,List.getElem_cons_zero]
   refine wpAnyH_take (i:=1) (v:=nv s) rfl (by kernel_rfl) (by kernel_rfl) (by decide +kernel) (fun _ _ _ h => h) (yieldsIf_load_mid (by rfl) _ _ rfl _ _ rfl (nc s).toList _ (fun W hW j v hv => by rw [cell_of_row W _ _ (nc s) 24 (0,0) ((hW.block _ hbs (fun e => hgs (Option.some.inj e))).trans bs),Nat.zero_add]; simpa using hv) uN rfl (iN _)) hH ?_
   simp only [Act.put,List.setIfInBounds_toArray,List.set_cons_zero,List.set_cons_succ,List.getElem_toArray,List.getElem_cons_zero,List.getElem_cons_succ]
   refine wpAnyH_take (i:=2) (v:=gv r s) rfl (by kernel_rfl) (by kernel_rfl) (by decide +kernel) (fun _ _ _ h => h) (zgk (vs:=[(0,nv r),(1,nv s)]) (by rfl) rfl rfl (fun W => bldG W _ _)) hH ?_
   simp only [Act.put,List.setIfInBounds_toArray,List.set_cons_zero,List.set_cons_succ,List.getElem_toArray,List.getElem_cons_zero,List.getElem_cons_succ]
   refine wpAnyH_take (i:=3) (v:=nv r) rfl (by kernel_rfl) (by kernel_rfl) (by decide +kernel) (fun _ _ _ h => h) (yieldsIf_load_mid (by rfl) _ _ rfl _ _ rfl (nc r).toList _ (fun W hW j v hv => by rw [cell_of_row W _ _ (nc r) 24 (0,0) ((hW.block _ hbr (fun e => hgr (Option.some.inj e))).trans br),Nat.zero_add]; simpa using hv) uN rfl (iN _)) hH ?_
   simp only [Act.put,List.setIfInBounds_toArray,List.set_cons_zero,List.set_cons_succ,List.getElem_toArray,List.getElem_cons_zero,List.getElem_cons_succ]
   refine wpAnyH_ready (rs:=[4]) (by decide +kernel) (by simp) ?_
   refine AllReadyH.cons rfl (fun K hK => ?_) AllReadyH.nil
   go_simp
   refine (iz_is kzr.out (zcx kr.out) _).mono ?_
   rintro e v1 ⟨rfl,hE⟩
   have hS:=hS.below hE
   have hR:=hE.block hR
   refine hK.out _ _ hS (fun hH => ?_)
   clear hK K hE
   try simp only [Act.put,List.setIfInBounds_toArray,List.set_cons_zero,List.set_cons_succ,List.getElem_toArray,List.getElem_cons_zero,List.getElem_cons_succ]
   refine wpAnyH_take (i:=5) (v:=.bool true) rfl (by kernel_rfl) (by kernel_rfl) (by decide +kernel) (fun _ _ _ h => h) (Or.inl ⟨by rfl,fun W hSw => (by dsimp only at hSw; go_simp)⟩) hH ?_
   simp only [Act.put,List.setIfInBounds_toArray,List.set_cons_zero,List.set_cons_succ,List.getElem_toArray,List.getElem_cons_zero,List.getElem_cons_succ]
   refine wpAnyH_take (i:=6) (v:=.bool true) rfl (by kernel_rfl) (by kernel_rfl) (by decide +kernel) (fun _ _ _ h => h) (Or.inl ⟨by rfl,fun W hSw => (by dsimp only at hSw; go_simp)⟩) hH ?_
   simp only [Act.put,List.setIfInBounds_toArray,List.set_cons_zero,List.set_cons_succ,List.getElem_toArray,List.getElem_cons_zero,List.getElem_cons_succ]
   refine wpAnyH_take (i:=7) (v:=nv s) rfl (by kernel_rfl) (by kernel_rfl) (by decide +kernel) (fun _ _ _ h => h) (yieldsIf_load_mid (by rfl) _ _ rfl _ _ rfl (nc s).toList _ (fun W hW j v hv => by rw [cell_of_row W _ _ (nc s) 24 (0,0) ((hW.block _ hbs (fun e => hgs (Option.some.inj e))).trans bs),Nat.zero_add]; simpa using hv) uN rfl (iN _)) hH ?_
   simp only [Act.put,List.setIfInBounds_toArray,List.set_cons_zero,List.set_cons_succ,List.getElem_toArray,List.getElem_cons_zero,List.getElem_cons_succ]
   refine wpAnyH_ready (rs:=[8]) (by decide +kernel) (by simp) ?_
   refine AllReadyH.cons rfl (fun K hK => ?_) AllReadyH.nil
   go_simp
   refine (iz_is kzs.out (zcx ks.out) _).mono ?_
   rintro e v2 ⟨rfl,hE⟩
   have hS:=hS.below hE
   have hR:=hE.block hR
   refine hK.out _ _ hS (fun hH => ?_)
   clear hK K hE
   try simp only [Act.put,List.setIfInBounds_toArray,List.set_cons_zero,List.set_cons_succ,List.getElem_toArray,List.getElem_cons_zero,List.getElem_cons_succ]
   refine wpAnyH_take (i:=9) (v:=.bool true) rfl (by kernel_rfl) (by kernel_rfl) (by decide +kernel) (fun _ _ _ h => h) (Or.inl ⟨by rfl,fun W hSw => (by dsimp only at hSw; go_simp)⟩) hH ?_
   simp only [Act.put,List.setIfInBounds_toArray,List.set_cons_zero,List.set_cons_succ,List.getElem_toArray,List.getElem_cons_zero,List.getElem_cons_succ]
   refine wpAnyH_take (i:=10) (v:=.bool true) rfl (by kernel_rfl) (by kernel_rfl) (by decide +kernel) (fun _ _ _ h => h) (yif_pickB (by rfl) rfl rfl rfl) hH ?_
   simp only [Act.put,List.setIfInBounds_toArray,List.set_cons_zero,List.set_cons_succ,List.getElem_toArray,List.getElem_cons_zero,List.getElem_cons_succ]
   refine wpAnyH_ready (rs:=[11]) (by decide +kernel) (by simp) ?_
   refine AllReadyH.cons rfl (fun K hK => ?_) AllReadyH.nil
   refine wp_store_row 35 _ _ rfl (w.heap.size + 1 + 1 + 1) (gc r s) rfl rfl 35 _ hR (iSg _ _) (gz_size _ _) (zce _ _) ?_
   have hR:=setRow_heap _ _ _ (gc r s) 35 (0,0) hR
   have hS:=zdf hS (gc r s)
   refine hK.out _ _ hS (fun hH => ?_)
   clear hK K
   refine wpAnyH_ready (rs:=[12]) (by decide +kernel) (by simp) ?_
   refine AllReadyH.cons rfl (fun K hK => ?_) AllReadyH.nil
   go_simp
   refine hK.out _ _ hS (fun hH => ?_)
   clear hK K
   refine wpAnyH_done (by decide +kernel) ?_ _
   refine NoPanic.normal ?_
   go_wp2
   exact bodyPost_ret (zbc rfl _ _ (w.heap.size + 1 + 1 + 1) 35 (gc r s) (0,0) _ rfl hR Tryz.underlying35 rfl (iSg _ _)) rfl ⟨rfl,hx.new hS (by omega)⟩
theorem mod_aux (n e u i : Nat) : (e % n + u % n % n) % n * i % n = i * ((e % n + u % n) % n) % n:=by rw [Nat.mod_mod,Nat.mul_comm]
theorem sOf_eq {D E K r t u v s : Nat} (ht : t = Pt.iG Pt.nn K) (hr : r = Pt.rOf K) (hu : u = r * D % Pt.nn) (hv : v = (E % Pt.nn + u % Pt.nn) % Pt.nn) (hs : s = v * t % Pt.nn) : s = Pt.sOf D E K:=by
 rw [hs,hv,hu,ht,hr]
 exact mod_aux Pt.nn E (Pt.rOf K * D) (Pt.iG Pt.nn K)
theorem mayB_mod {X M : Nat} (h : X = M % Pt.nn) : mayB X = !decide (X = 0):=by
 unfold mayB
 rw [decide_eq_true (mod_nn h),Bool.and_true]
 by_cases h0 : X = 0 <;> simp [h0]
theorem made_is {g D E K x : Nat} (hD : D < top) (hE : E < top) (hK : mayB K = true) (hx : x = Pt.pX (Pt.grp.mul K Pt.base).1) {r s : Nat} (hr : r = Pt.rOf K) (hs : s = Pt.sOf D E K) {b : Bool} (hb : (mayB r && mayB s) = b) {w : World} (hF : Fn w g) :
  Calls Tryz.prog 60 #[mv g D E,nv K,nv x] w fun e w' => e = .returned (.tuple #[gv r s,.bool b]) ∧ Ext w w':=by
 have hxt : x < top:=by rw [hx]; exact (p_top _).1
 have hr2 : r = x % Pt.nn:=by rw [hr,hx]; rfl
 have hs2 : s = (E % Pt.nn + (r * D % Pt.nn) % Pt.nn) % Pt.nn * Pt.iG Pt.nn K % Pt.nn:=by rw [hs]; exact (sOf_eq rfl hr rfl rfl rfl).symm
 have hK2 : K ≠ 0 ∧ K < Pt.nn:=⟨may_ne hK,zgz hK⟩
 rw [mayB_mod hr2,mayB_mod hs2] at hb
 exact made_all hD hE hK2 hxt rfl hr2 rfl rfl hs2 hb hF
def sgc : Option (Nat × Nat) → Array Value
 | none => gc 0 0
 | some (r,s) => gc r s
theorem sgv_c (o : Option (Nat × Nat)) : sgv o = .agg (sgc o):=by cases o <;> rfl
theorem sgc_one (o : Option (Nat × Nat)) : (sgc o).all (·.oneCell') = true:=by cases o <;> exact zce _ _
theorem iSo (o : Option (Nat × Nat)) : (Tryz.prog.info? 35).map (·.size) = some (sgc o).size:=by cases o <;> exact iSg _ _
def sge (o : Option (Nat × Nat)) : Value:=if o.isSome then .nilIface else .iface 39 (.int .i64 4)
theorem first_calls {D E g base : Nat} (hD : D < top) (hE : E < top) {xs : List Nat} (hmx : ∀ k ∈ xs,mayB k = true) (h0 : 0 < xs.length) (hn : xs.length ≤ 100) {w : World} {v : Value} (hF : Fn w g) (hO : OwnN w base v xs) :
  Calls Tryz.prog 20 #[mv g D E,v] w fun e w' => e = .returned (.tuple #[sgv (pick D E xs),sge (pick D E xs)]) ∧ Ext w w':=by
 obtain ⟨gL,cap,cur,rfl,bL,hcs⟩:=hO.blk h0
 obtain ⟨n,hnx⟩ : ∃ n,n = xs.length:=⟨_,rfl⟩
 rw [← hnx] at hn h0 ⊢
 have kCS:=veil (And.intro hcs (And.intro hmx hnx))
 have kN:=veil hn
 have kD:=veil hD
 have kE:=veil hE
 clear hO hmx hcs hnx hn hD hE
 unfold mv mc
 go_enter Tryz.func20,Tryz.ntmps20
 go_upto_region 1 with (fail)
 obtain ⟨hx,b0,b1⟩:=blocks2 w (.cells #[ptrTo g,vI vU (wd D 0),vI vU (wd D 1),vI vU (wd D 2),vI vU (wd D 3),vI vU (wd E 0),vI vU (wd E 1),vI vU (wd E 2),vI vU (wd E 3)] 55) (.cells #[vI vU 0,vI vU 0,vI vU 0,vI vU 0,vI vU 0,vI vU 0,vI vU 0,vI vU 0] 35)
 generalize (w.alloc (.cells #[ptrTo g,vI vU (wd D 0),vI vU (wd D 1),vI vU (wd D 2),vI vU (wd D 3),vI vU (wd E 0),vI vU (wd E 1),vI vU (wd E 2),vI vU (wd E 3)] 55)).alloc (.cells #[vI vU 0,vI vU 0,vI vU 0,vI vU 0,vI vU 0,vI vU 0,vI vU 0,vI vU 0] 35) = w1 at *
 have b0 : w1.heap[w.heap.size]? = some (.cells (mc g D E) 55 (0,0)):=b0
 have hf:=hF.ext hx
 clear hF
 replace bL:=hx.block bL
 have kX:=veil hx
 clear hx h0
 go_wp2
 go_loopw [14] (fun v14 wr => ∃ i : Nat,i ≤ n ∧ v14 = .int .i64 (i : Int) ∧ pick D E xs = pick D E (xs.drop i) ∧ Ext w1 wr)
  (fun v14 _ => n - (intOf v14).toNat)
 case atStart => exact ⟨0,by omega,rfl,rfl,Ext.refl _⟩
 case round =>
  obtain ⟨i,hi,rfl,hpk,hx⟩:=hrel
  replace b0:=hx.block b0
  replace b1:=hx.block b1
  replace bL:=hx.block bL
  replace hf:=hf.ext hx
  by_cases hlt : i < n
  ·
   have hn100 : n ≤ 100:=kN.out
   obtain ⟨K,hK⟩ : ∃ K,xs[i]? = some K:=⟨_,List.getElem?_eq_getElem (by rw [← kCS.out.2.2]; exact hlt)⟩
   have hmK:=kCS.out.2.1 K (List.mem_of_getElem? hK)
   have kK:=veil hmK
   have kil:=veil hlt
   have kcs:=veil (kCS.out.1 i K hK)
   have kdrop:=veil (drop_at hK)
   have kpick:=veil hpk
   obtain ⟨P,hP⟩ : ∃ P,P = Pt.grp.mul K Pt.base:=⟨_,rfl⟩
   have kP:=veil hP
   obtain ⟨r,hr⟩ : ∃ r,r = Pt.rOf K:=⟨_,rfl⟩
   obtain ⟨s,hs⟩ : ∃ s,s = Pt.sOf D E K:=⟨_,rfl⟩
   have kr:=veil hr
   have ks:=veil hs
   have hI : (i : Int) < (n : Int):=by omega
   clear hs hr hP hpk hmK hK
   go_upto_region 3 with (fail)
   refine' zan (m:=2) (A:=_) (by kernel_rfl) ?h1 ?h2
   case h1 =>
    refine zaa (.pointer (some ⟨gL,i * 4,none⟩)) rfl (zhu (sz:=4) rfl rfl rfl kil.out Tryz.underlying50 infoN4) ?_
    refine zaa (nv K) rfl (zad (cs:=(nc K).toList) rfl rfl bL kcs.out uN rfl (iN K)) ?_;simp only [aP,lA,lZ,lS]
    exact zak
   refine zcm _ _ rfl rfl rfl rfl rfl rfl rfl (hzN ·) (fun _ => rfl) (fun _ => rfl) (iN _) rfl (zbe _) ?_
   intro gk w2 hgk bk hE
   replace b0:=hE.block b0
   replace b1:=hE.block b1
   replace hf:=hf.ext hE
   replace hx:=hx.trans hE
   clear hE
   simp only [aP,lA,lZ,lS]
   clear hgk
   go_upto_region 4 with (fail)
   refine' zbw (m:=5) (A:=_) 7 (by kernel_rfl) (by kernel_rfl) (by kernel_rfl) ?h2a ?h2b
   case h2a =>
    refine zaa (nv K) rfl (zad rfl rfl bk rfl uN rfl (iN _)) ?_
    refine zaa (qv Pt.gx Pt.gy false) rfl (zai (args:=[]) rfl rfl (fun W => zac Tryz.func17 rfl rfl _ W) (fun W hW => base_calls W)) ?_;simp only [aP,lA,lZ,lS]
    refine zaa (.tuple #[qv (Pt.pX P.1) (Pt.pY P.1) (Pt.pFar P.1),.nilIface]) rfl (zai (args:=[nv K,qv Pt.gx Pt.gy false]) rfl rfl (fun W => zac Tryz.func16 rfl rfl _ W) (fun W hW => mulb_is (Nat.lt_trans (zgz kK.out) zcp) kP.out W)) ?_
    refine zaa (.tuple #[qv (Pt.pX P.1) (Pt.pY P.1) (Pt.pFar P.1),.nilIface]) rfl (zah (.inl rfl) rfl) ?_;simp only [aP,lA,lZ,lS]
    refine zaa (qv (Pt.pX P.1) (Pt.pY P.1) (Pt.pFar P.1)) rfl (zbb rfl rfl rfl) ?_;simp only [aP,lA,lZ,lS]
    exact zak
   refine zfy (v:=.nilIface) (vx:=.nilIface) _ _ _ _ rfl rfl rfl rfl rfl rfl rfl rfl rfl rfl rfl rfl rfl rfl rfl rfl (by decide) (by kernel_rfl) (by kernel_rfl) (by kernel_rfl) (by kernel_rfl) (by kernel_rfl) (by kernel_rfl) (by kernel_rfl) rfl rfl rfl rfl rfl rfl (hzT ·) (zcw rfl rfl rfl) (fun _ => zcw rfl rfl rfl) (fun _ => rfl) (fun _ => rfl) (fun _ => rfl) (fun _ => rfl) (fun _ => rfl) (iT _ _ _) rfl (zev _ _ _) ?_
   intro gp w3 hgp bp hE
   refine NoPanic.normal ?_
   replace b0:=hE.block b0
   replace b1:=hE.block b1
   replace bk:=hE.block bk
   replace hf:=hf.ext hE
   replace hx:=hx.trans hE
   clear hE
   simp only [aP,lA,lZ,lS]
   clear hgp
   go_upto_region 5 with (fail)
   cases hb : (mayB r && mayB s) with
   | false =>
    have kb:=veil hb
    clear hb
    refine' zan (m:=8) (A:=_) (by kernel_rfl) ?h3a ?h3b
    case h3a =>
     refine zaa (mv g D E) rfl (zad rfl rfl b0 rfl Tryz.underlying55 rfl (iMk _ _ _)) ?_
     refine zaa (nv K) rfl (zad rfl rfl bk rfl uN rfl (iN _)) ?_;simp only [aP,lA,lZ,lS]
     refine zaa (ptrTo gp) rfl (zaf rfl rfl (fldT0 _ ·)) ?_
     refine zaa (nv (Pt.pX P.1)) rfl (zad rfl rfl bp rfl uN rfl (iN _)) ?_;simp only [aP,lA,lZ,lS]
     refine zaa (.tuple #[gv r s,.bool false]) rfl (zai (args:=[mv g D E,nv K,nv (Pt.pX P.1)]) rfl rfl (fun W => zac Tryz.func60 rfl rfl _ W) (fun W hW => made_is kD.out kE.out kK.out (by rw [kP.out]) kr.out ks.out kb.out (hf.ext hW))) ?_
     refine zaa (.tuple #[gv r s,.bool false]) rfl (zah (.inl rfl) rfl) ?_;simp only [aP,lA,lZ,lS]
     refine zaa (gv r s) rfl (zbb rfl rfl rfl) ?_
     refine zaa (.bool false) rfl (zbb rfl rfl rfl) ?_;simp only [aP,lA,lZ,lS]
     exact zak
    refine zcc _ _ rfl rfl rfl rfl rfl rfl rfl (hzG ·) (fun _ => rfl) (fun _ => rfl) (iSg _ _) rfl (zce _ _) ?_
    intro gs w4 hgs bs hE
    replace b0:=hE.block b0
    replace b1:=hE.block b1
    replace bk:=hE.block bk
    replace bp:=hE.block bp
    replace hf:=hf.ext hE
    replace hx:=hx.trans hE
    clear hE
    simp only [aP,lA,lZ,lS]
    clear hgs
    go_wp2
    go_roundw
    case rel =>
     exact ⟨i + 1,by omega,by go_num,by rw [kpick.out,kdrop.out,pick_no (by rw [← kr.out,← ks.out,kb.out])],hx⟩
    case measure => simp [intOf]; omega
   | true =>
    have kb:=veil hb
    clear hb
    refine' zan (m:=8) (A:=_) (by kernel_rfl) ?h4a ?h4b
    case h4a =>
     refine zaa (mv g D E) rfl (zad rfl rfl b0 rfl Tryz.underlying55 rfl (iMk _ _ _)) ?_
     refine zaa (nv K) rfl (zad rfl rfl bk rfl uN rfl (iN _)) ?_;simp only [aP,lA,lZ,lS]
     refine zaa (ptrTo gp) rfl (zaf rfl rfl (fldT0 _ ·)) ?_
     refine zaa (nv (Pt.pX P.1)) rfl (zad rfl rfl bp rfl uN rfl (iN _)) ?_;simp only [aP,lA,lZ,lS]
     refine zaa (.tuple #[gv r s,.bool true]) rfl (zai (args:=[mv g D E,nv K,nv (Pt.pX P.1)]) rfl rfl (fun W => zac Tryz.func60 rfl rfl _ W) (fun W hW => made_is kD.out kE.out kK.out (by rw [kP.out]) kr.out ks.out kb.out (hf.ext hW))) ?_
     refine zaa (.tuple #[gv r s,.bool true]) rfl (zah (.inl rfl) rfl) ?_;simp only [aP,lA,lZ,lS]
     refine zaa (gv r s) rfl (zbb rfl rfl rfl) ?_
     refine zaa (.bool true) rfl (zbb rfl rfl rfl) ?_;simp only [aP,lA,lZ,lS]
     exact zak
    refine zcc _ _ rfl rfl rfl rfl rfl rfl rfl (hzG ·) (fun _ => rfl) (fun _ => rfl) (iSg _ _) rfl (zce _ _) ?_
    intro gs w4 hgs bs hE
    replace b1:=hE.block b1
    replace hf:=hf.ext hE
    replace hx:=hx.trans hE
    clear hE
    simp only [aP,lA,lZ,lS]
    clear hgs
    go_upto_region 7 with (fail)
    refine' zan (m:=1) (A:=_) (by kernel_rfl) ?h5a ?h5b
    case h5a =>
     refine zaa (gv r s) rfl (zad rfl rfl bs rfl Tryz.underlying35 rfl (iSg _ _)) ?_;simp only [aP,lA,lZ,lS]
     exact zak
    refine zdd _ rfl rfl rfl rfl rfl rfl b1 (iSg _ _) rfl (zce _ _) ?_
    intro w5 hB hb
    go_wp2
    have hmm:=kb.out
    rw [kr.out,ks.out,Bool.and_eq_true] at hmm
    have hpk : pick D E xs = some (r,s):=by rw [kpick.out,kdrop.out,kr.out,ks.out]; exact pick_yes hmm.1 hmm.2
    clear hmm
    rw [hpk]
    exact bodyPost_ret (zbc rfl _ _ (w.heap.size + 1) 35 (gc r s) (0,0) _ rfl hb Tryz.underlying35 rfl (iSg _ _)) rfl ⟨rfl,(kX.out.trans hx).new hB (by omega)⟩
  ·
   obtain rfl : i = n:=by omega
   have hpk : pick D E xs = none:=by rw [hpk,List.drop_eq_nil_of_le (by rw [← kCS.out.2.2]; exact Nat.le_refl _)]; rfl
   have kpk:=veil hpk
   clear hpk hi hlt
   go_upto_region 9 with (fail)
   refine' zan (m:=2) (A:=_) (by kernel_rfl) ?h6a ?h6b
   case h6a =>
    refine zaa (gv 0 0) rfl (zba rfl rfl (bldG0 ·)) ?_
    refine zaa (.iface 39 (.int .i64 4)) rfl (zeh rfl (mkErr4 ·)) ?_;simp only [aP,lA,lZ,lS]
    exact zak
   refine zdd _ rfl rfl rfl rfl rfl rfl b1 (iSg _ _) rfl (zce _ _) ?_
   intro w2 hB hb
   go_wp2
   rw [kpk.out]
   exact bodyPost_ret (zbc rfl _ _ (w.heap.size + 1) 35 (gc 0 0) (0,0) _ rfl hb Tryz.underlying35 rfl (iSg _ _)) rfl ⟨rfl,(kX.out.trans hx).new hB (by omega)⟩
theorem spub_bad {D : Nat} (hD : D < top) (hm : mayB D = false) (w : World) :
  Calls Tryz.prog 6 #[nv D] w fun e w' => e = .returned (.tuple #[qv 0 0 false,.iface 39 (.int .i64 1)]) ∧ Ext w w':=by
 have kD:=veil hD
 have km:=veil hm
 clear hm hD
 unfold nv nc
 go_enter Tryz.func6,Tryz.ntmps6
 go_upto_region 1 with (fail)
 obtain ⟨hx,b0,b1⟩:=blocks2 w (.cells #[vI vU (wd D 0),vI vU (wd D 1),vI vU (wd D 2),vI vU (wd D 3)] 24) (.cells #[vI vU 0,vI vU 0,vI vU 0,vI vU 0,vI vU 0,vI vU 0,vI vU 0,vI vU 0,.bool false] 29)
 generalize (w.alloc (.cells #[vI vU (wd D 0),vI vU (wd D 1),vI vU (wd D 2),vI vU (wd D 3)] 24)).alloc (.cells #[vI vU 0,vI vU 0,vI vU 0,vI vU 0,vI vU 0,vI vU 0,vI vU 0,vI vU 0,.bool false] 29) = w1 at *
 have b0 : w1.heap[w.heap.size]? = some (.cells (nc D) 24 (0,0)):=b0
 refine' zan (m:=3) (A:=_) (by kernel_rfl) ?h1 ?h2
 case h1 =>
  refine zaa (nv D) rfl (zad rfl rfl b0 rfl uN rfl (iN _)) ?_
  refine zaa (.bool false) rfl (zai (args:=[nv D]) rfl rfl (fun W => zac Tryz.func15 rfl rfl _ W) (fun W hW => rng_is km.out kD.out W)) ?_;simp only [aP,lA,lZ,lS]
  refine zaa (.bool true) rfl (zcu rfl rfl rfl) ?_;simp only [aP,lA,lZ,lS]
  exact zak
 refine zar rfl ?_
 intro w2 hE
 replace b1:=hE.block b1
 replace hx:=hx.trans hE
 clear hE
 go_upto_region 2 with (fail)
 refine' zan (m:=2) (A:=_) (by kernel_rfl) ?h2a ?h2b
 case h2a =>
  refine zaa (qv 0 0 false) rfl (zba rfl rfl (bldT0 ·)) ?_
  refine zaa (.iface 39 (.int .i64 1)) rfl (zeh rfl (mkErr1 ·)) ?_;simp only [aP,lA,lZ,lS]
  exact zak
 refine zdd _ rfl rfl rfl rfl rfl rfl b1 (iT _ _ _) rfl (zev _ _ _) ?_
 intro w3 hB hb
 go_wp2
 exact bodyPost_ret (zbc rfl _ _ (w.heap.size + 1) 29 (qc 0 0 false) (0,0) _ rfl hb Tryz.underlying29 rfl (iT _ _ _)) rfl ⟨rfl,hx.new hB (by omega)⟩
theorem spub_ok {D : Nat} (hm : mayB D = true) {P : Pt.Q} (hP : P = Pt.grp.mul D Pt.base) (w : World) :
  Calls Tryz.prog 6 #[nv D] w fun e w' => e = .returned (.tuple #[qv (Pt.pX P.1) (Pt.pY P.1) (Pt.pFar P.1),.nilIface]) ∧ Ext w w':=by
 have hD:=Nat.lt_trans (zgz hm) zcp
 have km:=veil hm
 have kP:=veil hP
 have kD:=veil hD
 clear hD hP hm
 unfold nv nc
 go_enter Tryz.func6,Tryz.ntmps6
 go_upto_region 1 with (fail)
 obtain ⟨hx,b0,b1⟩:=blocks2 w (.cells #[vI vU (wd D 0),vI vU (wd D 1),vI vU (wd D 2),vI vU (wd D 3)] 24) (.cells #[vI vU 0,vI vU 0,vI vU 0,vI vU 0,vI vU 0,vI vU 0,vI vU 0,vI vU 0,.bool false] 29)
 generalize (w.alloc (.cells #[vI vU (wd D 0),vI vU (wd D 1),vI vU (wd D 2),vI vU (wd D 3)] 24)).alloc (.cells #[vI vU 0,vI vU 0,vI vU 0,vI vU 0,vI vU 0,vI vU 0,vI vU 0,vI vU 0,.bool false] 29) = w1 at *
 have b0 : w1.heap[w.heap.size]? = some (.cells (nc D) 24 (0,0)):=b0
 refine' zan (m:=3) (A:=_) (by kernel_rfl) ?h1 ?h2
 case h1 =>
  refine zaa (nv D) rfl (zad rfl rfl b0 rfl uN rfl (iN _)) ?_
  refine zaa (.bool true) rfl (zai (args:=[nv D]) rfl rfl (fun W => zac Tryz.func15 rfl rfl _ W) (fun W hW => rng_is km.out kD.out W)) ?_;simp only [aP,lA,lZ,lS]
  refine zaa (.bool false) rfl (zcu rfl rfl rfl) ?_;simp only [aP,lA,lZ,lS]
  exact zak
 refine zar rfl ?_
 intro w2 hE
 replace b0:=hE.block b0
 replace b1:=hE.block b1
 replace hx:=hx.trans hE
 clear hE
 go_upto_region 3 with (fail)
 have hb0:=(Array.getElem?_eq_some_iff.1 b0).1
 have hRlt:=(Array.getElem?_eq_some_iff.1 b1).1
 refine wp_region_noPanic ?_
 have hS:=But.of_below (r:=w.heap.size + 1) (Ext.drew w2)
 have hR:=(Ext.drew w2).block b1
 refine wp_region_held_drew (S:=fun W => But (w.heap.size + 1) w2 W) (by kernel_rfl) hS (fun hH => ?_)
 refine wpAnyH_take (i:=0) (v:=nv D) rfl (by kernel_rfl) (by kernel_rfl) (by decide +kernel) (fun _ _ _ h => h) (yieldsIf_load_mid (by rfl) _ _ rfl _ _ rfl (nc D).toList _ (fun W hW j v hv => by rw [cell_of_row W _ _ (nc D) 24 (0,0) ((hW.block _ hb0 (by intro e; injection e; omega)).trans b0),Nat.zero_add]; simpa using hv) uN rfl (iN _)) hH ?_
 simp only [Act.put,List.setIfInBounds_toArray,List.set_cons_zero,List.set_cons_succ,List.getElem_toArray,List.getElem_cons_zero]
 refine wpAnyH_ready (rs:=[1]) (by decide +kernel) (by simp) ?_
 refine AllReadyH.cons rfl (fun K hK => ?_) AllReadyH.nil
 go_simp
 refine (base_calls _).mono ?_
 rintro e v1 ⟨rfl,hE⟩
 have hS:=hS.below hE
 have hR:=hE.block hR
 refine hK.out _ _ hS (fun hH => ?_)
 clear hK K hE
 try simp only [Act.put,List.setIfInBounds_toArray,List.set_cons_zero,List.set_cons_succ,List.getElem_toArray,List.getElem_cons_zero,List.getElem_cons_succ]
 refine wpAnyH_ready (rs:=[2]) (by decide +kernel) (by simp) ?_
 refine AllReadyH.cons rfl (fun K hK => ?_) AllReadyH.nil
 go_simp
 refine (mulb_is kD.out kP.out _).mono ?_
 rintro e v2 ⟨rfl,hE⟩
 have hS:=hS.below hE
 have hR:=hE.block hR
 refine hK.out _ _ hS (fun hH => ?_)
 clear hK K hE
 try simp only [Act.put,List.setIfInBounds_toArray,List.set_cons_zero,List.set_cons_succ,List.getElem_toArray,List.getElem_cons_zero,List.getElem_cons_succ]
 refine wpAnyH_take (i:=3) (v:=qv (Pt.pX P.1) (Pt.pY P.1) (Pt.pFar P.1)) rfl (by kernel_rfl) (by kernel_rfl) (by decide +kernel) (fun _ _ _ h => h) (Or.inl ⟨by rfl,fun W hSw => (by dsimp only at hSw; go_simp)⟩) hH ?_
 simp only [Act.put,List.setIfInBounds_toArray,List.set_cons_zero,List.set_cons_succ,List.getElem_toArray,List.getElem_cons_zero,List.getElem_cons_succ]
 refine wpAnyH_take (i:=4) (v:=.nilIface) rfl (by kernel_rfl) (by kernel_rfl) (by decide +kernel) (fun _ _ _ h => h) (Or.inl ⟨by rfl,fun W hSw => (by dsimp only at hSw; go_simp)⟩) hH ?_
 simp only [Act.put,List.setIfInBounds_toArray,List.set_cons_zero,List.set_cons_succ,List.getElem_toArray,List.getElem_cons_zero,List.getElem_cons_succ]
 refine wpAnyH_ready (rs:=[5]) (by decide +kernel) (by simp) ?_
 refine AllReadyH.cons rfl (fun K hK => ?_) AllReadyH.nil
 refine wp_store_row 29 _ _ rfl (w.heap.size + 1) (qc (Pt.pX P.1) (Pt.pY P.1) (Pt.pFar P.1)) rfl rfl 29 _ hR (iT _ _ _) (qz_size _ _ _) (zev _ _ _) ?_
 have hR:=setRow_heap _ _ _ (qc (Pt.pX P.1) (Pt.pY P.1) (Pt.pFar P.1)) 29 (0,0) hR
 have hS:=zdf hS (qc (Pt.pX P.1) (Pt.pY P.1) (Pt.pFar P.1))
 refine hK.out _ _ hS (fun hH => ?_)
 clear hK K
 refine wpAnyH_ready (rs:=[6]) (by decide +kernel) (by simp) ?_
 refine AllReadyH.cons rfl (fun K hK => ?_) AllReadyH.nil
 go_simp
 refine hK.out _ _ hS (fun hH => ?_)
 clear hK K
 refine wpAnyH_done (by decide +kernel) ?_ _
 refine NoPanic.normal ?_
 go_wp2
 exact bodyPost_ret (zbc rfl _ _ (w.heap.size + 1) 29 (qc (Pt.pX P.1) (Pt.pY P.1) (Pt.pFar P.1)) (0,0) _ rfl hR Tryz.underlying29 rfl (iT _ _ _)) rfl ⟨rfl,hx.new hS (by omega)⟩
theorem ssign_bad {D : Nat} (hD : D < top) (hm : mayB D = false) (y : Nat → Nat) (w : World) :
  Calls Tryz.prog 7 #[nv D,dgv y] w fun e w' => e = .returned (.tuple #[gv 0 0,.iface 39 (.int .i64 1)]) ∧ Ext w w':=by
 have kD:=veil hD
 have km:=veil hm
 clear hm hD
 unfold nv nc dgv dgc
 go_enter Tryz.func7,Tryz.ntmps7
 go_upto_region 1 with (fail)
 obtain ⟨hx,b0,b1,b2⟩:=blocks3 w (.cells #[vI vU (wd D 0),vI vU (wd D 1),vI vU (wd D 2),vI vU (wd D 3)] 24) (.cells (arrOf 32 fun i => .int .u8 (y i : Nat)) 26) (.cells #[vI vU 0,vI vU 0,vI vU 0,vI vU 0,vI vU 0,vI vU 0,vI vU 0,vI vU 0] 35)
 generalize ((w.alloc (.cells #[vI vU (wd D 0),vI vU (wd D 1),vI vU (wd D 2),vI vU (wd D 3)] 24)).alloc (.cells (arrOf 32 fun i => .int .u8 (y i : Nat)) 26)).alloc (.cells #[vI vU 0,vI vU 0,vI vU 0,vI vU 0,vI vU 0,vI vU 0,vI vU 0,vI vU 0] 35) = w1 at *
 have b0 : w1.heap[w.heap.size]? = some (.cells (nc D) 24 (0,0)):=b0
 have b1 : w1.heap[w.heap.size + 1]? = some (.cells (dgc y) 26 (0,0)):=b1
 refine' zan (m:=3) (A:=_) (by kernel_rfl) ?h1 ?h2
 case h1 =>
  refine zaa (nv D) rfl (zad rfl rfl b0 rfl uN rfl (iN _)) ?_
  refine zaa (.bool false) rfl (zai (args:=[nv D]) rfl rfl (fun W => zac Tryz.func15 rfl rfl _ W) (fun W hW => rng_is km.out kD.out W)) ?_;simp only [aP,lA,lZ,lS]
  refine zaa (.bool true) rfl (zcu rfl rfl rfl) ?_;simp only [aP,lA,lZ,lS]
  exact zak
 refine zar rfl ?_
 intro w2 hE
 replace b2:=hE.block b2
 replace hx:=hx.trans hE
 clear hE
 go_upto_region 2 with (fail)
 refine' zan (m:=2) (A:=_) (by kernel_rfl) ?h2a ?h2b
 case h2a =>
  refine zaa (gv 0 0) rfl (zba rfl rfl (bldG0 ·)) ?_
  refine zaa (.iface 39 (.int .i64 1)) rfl (zeh rfl (mkErr1 ·)) ?_;simp only [aP,lA,lZ,lS]
  exact zak
 refine zdd _ rfl rfl rfl rfl rfl rfl b2 (iSg _ _) rfl (zce _ _) ?_
 intro w3 hB hb
 go_wp2
 exact bodyPost_ret (zbc rfl _ _ (w.heap.size + 1 + 1) 35 (gc 0 0) (0,0) _ rfl hb Tryz.underlying35 rfl (iSg _ _)) rfl ⟨rfl,hx.new hB (by omega)⟩
theorem ssign_ok {D : Nat} (hm : mayB D = true) (y : Nat → Nat) (hy : ∀ j,y j < 256) {w : World} (hK : KT w) :
  Calls Tryz.prog 7 #[nv D,dgv y] w fun e w' => ∃ s o,Ends D (num32 y % Pt.nn) 16 s ∧ sigOf D (num32 y) (outN D (num32 y % Pt.nn) s) = o ∧ e = .returned (.tuple #[sgv o,sge o]) ∧ Ext w w':=by
 have hD:=Nat.lt_trans (zgz hm) zcp
 have KL:=veil (fun W (hW : KT W) => list_good D hD y hy 16 (by decide) hm W hW)
 obtain ⟨E,hE⟩ : ∃ E,E = num32 y:=⟨_,rfl⟩
 obtain ⟨M,hM⟩ : ∃ M,M = num32 y % Pt.nn:=⟨_,rfl⟩
 have kEt:=veil (show E < top from by rw [hE]; exact zgx hy)
 rw [← hM] at KL ⊢
 rw [← hE]
 have kE:=veil hE
 have kM:=veil hM
 have km:=veil hm
 have ky:=veil hy
 have kD:=veil hD
 have kK:=veil hK
 clear hK hD hy hm hM hE
 unfold nv nc dgv dgc
 go_enter Tryz.func7,Tryz.ntmps7
 go_upto_region 1 with (fail)
 obtain ⟨hx,b0,b1,b2⟩:=blocks3 w (.cells #[vI vU (wd D 0),vI vU (wd D 1),vI vU (wd D 2),vI vU (wd D 3)] 24) (.cells (arrOf 32 fun i => .int .u8 (y i : Nat)) 26) (.cells #[vI vU 0,vI vU 0,vI vU 0,vI vU 0,vI vU 0,vI vU 0,vI vU 0,vI vU 0] 35)
 generalize ((w.alloc (.cells #[vI vU (wd D 0),vI vU (wd D 1),vI vU (wd D 2),vI vU (wd D 3)] 24)).alloc (.cells (arrOf 32 fun i => .int .u8 (y i : Nat)) 26)).alloc (.cells #[vI vU 0,vI vU 0,vI vU 0,vI vU 0,vI vU 0,vI vU 0,vI vU 0,vI vU 0] 35) = w1 at *
 have b0 : w1.heap[w.heap.size]? = some (.cells (nc D) 24 (0,0)):=b0
 have b1 : w1.heap[w.heap.size + 1]? = some (.cells (dgc y) 26 (0,0)):=b1
 refine' zan (m:=3) (A:=_) (by kernel_rfl) ?h1 ?h2
 case h1 =>
  refine zaa (nv D) rfl (zad rfl rfl b0 rfl uN rfl (iN _)) ?_
  refine zaa (.bool true) rfl (zai (args:=[nv D]) rfl rfl (fun W => zac Tryz.func15 rfl rfl _ W) (fun W hW => rng_is km.out kD.out W)) ?_;simp only [aP,lA,lZ,lS]
  refine zaa (.bool false) rfl (zcu rfl rfl rfl) ?_;simp only [aP,lA,lZ,lS]
  exact zak
 refine zar rfl ?_
 intro w2 hE
 replace b0:=hE.block b0
 replace b1:=hE.block b1
 replace b2:=hE.block b2
 replace hx:=hx.trans hE
 clear hE
 go_upto_region 3 with (fail)
 refine wp_region_lit ?_
 refine zid rfl rfl rfl b0 rfl uN rfl (iN D) ?_
 simp only [aP,lA,lZ,lS]
 refine zid rfl rfl rfl b1 rfl Tryz.underlying26 rfl (iDg y) ?_
 simp only [aP,lA,lZ,lS]
 refine wpl_fun (R:=fun t W' => ∃ v ev,t = .tuple #[v,ev] ∧ Res D M 16 W' w2.heap.size v ev ∧ Ext w2 W') (args:=[nv D,dgv y,.int .i64 16]) rfl rfl rfl (fun W => zac Tryz.func18 rfl rfl _ W) ((KL.out w2 (kK.out.call hx)).mono fun e W' ⟨v,ev,he,hR,hE⟩ => ⟨_,he,v,ev,rfl,hR,hE⟩) ?_
 rintro t w3 ⟨v,ev,rfl,⟨s',hEn,hR⟩,hE⟩
 replace b0:=hE.block b0
 replace b1:=hE.block b1
 replace b2:=hE.block b2
 replace hx:=hx.trans hE
 clear hE
 simp only [aP,lA,lZ,lS]
 have kEn:=veil hEn
 clear hEn KL
 obtain ⟨xs,hxs⟩ : ∃ xs,xs = outN D M s':=⟨_,rfl⟩
 have kmx:=veil (show ∀ k ∈ xs,mayB k = true from fun k hk => by rw [hxs] at hk; exact (zij D M s' k hk).1)
 have kln:=veil (show xs.length ≤ 100 from by rw [hxs]; exact Nat.le_trans kEn.out.most (by decide))
 rw [← hxs] at hR
 have kxs:=veil hxs
 clear hxs
 rcases hR with ⟨h16,rfl,hO⟩ | ⟨h16,rfl,rfl⟩
 ·
  have hsg : sigOf D E xs = pick D E xs:=if_neg h16
  have ksg:=veil hsg
  have k0:=veil (show 0 < xs.length from by omega)
  clear hsg h16
  obtain ⟨o,ho⟩ : ∃ o,o = pick D E xs:=⟨_,rfl⟩
  have ko:=veil ho
  have KF:=veil (fun (W : World) (g : Nat) (hF : Fn W g) (hW : Ext w3 W) => first_calls (D:=D) (E:=E) kD.out kEt.out kmx.out k0.out kln.out hF (hO.ext hW))
  rw [← ho] at KF
  rw [sgv_c o] at KF
  obtain ⟨A,c,rfl,-⟩:=hO.form
  generalize xs.length = n at *
  clear ho hO
  go_upto_region 6 with (fail)
  go_wp2_with (first
   | ((with_reducible refine zax 23 ?_); refine wpList_load_row rfl 24 _ rfl w.heap.size rfl 24 (nc D) (0,0) _ b0 Tryz.underlying24 rfl (iN D) ?_)
   | ((with_reducible refine zax 24 ?_); refine wpList_load_row rfl 26 _ rfl (w.heap.size + 1) rfl 26 (dgc y) (0,0) _ b1 Tryz.underlying26 rfl (iDg y) ?_)
   | (go_at_call 19; refine (maker_calls (D:=D) ky.out kE.out _).mono ?_; rintro e w5 ⟨⟨g,rfl,hF⟩,hE5⟩)
   | (go_at_call 20; refine (KF.out w5 g hF hE5).mono ?_; rintro e w6 ⟨rfl,hE6⟩)
   | ((with_reducible refine zbh ?_); refine wpList_store_row rfl 35 _ _ rfl (w.heap.size + 1 + 1) (sgc o) rfl rfl 35 _ (hE6.block (hE5.block b2)) (iSo o) (by cases o <;> rfl) (sgc_one o) ?_))
  exact bodyPost_ret (zbc rfl _ _ (w.heap.size + 1 + 1) 35 (sgc o) (0,0) _ rfl (setRow_heap w6 _ _ (sgc o) 35 (0,0) (hE6.block (hE5.block b2))) Tryz.underlying35 rfl (iSo o)) rfl ⟨s',o,kEn.out,by rw [← kxs.out,ksg.out,ko.out],by rw [sgv_c]; rfl,zcf ((hx.trans hE5).trans hE6) (by omega) _⟩
 ·
  have hsg : sigOf D E xs = none:=if_pos h16
  have ksg:=veil hsg
  clear hsg h16
  go_upto_region 5 with (fail)
  refine' zan (m:=2) (A:=_) (by kernel_rfl) ?h2a ?h2b
  case h2a =>
   refine zaa (gv 0 0) rfl (zba rfl rfl (bldG0 ·)) ?_
   refine zaa (.iface 39 (.int .i64 4)) rfl (zah (.inl rfl) rfl) ?_;simp only [aP,lA,lZ,lS]
   exact zak
  refine zdd _ rfl rfl rfl rfl rfl rfl b2 (iSg _ _) rfl (zce _ _) ?_
  intro w4 hB hb
  go_wp2
  exact bodyPost_ret (zbc rfl _ _ (w.heap.size + 1 + 1) 35 (gc 0 0) (0,0) _ rfl hb Tryz.underlying35 rfl (iSg _ _)) rfl ⟨s',none,kEn.out,by rw [← kxs.out]; exact ksg.out,rfl,hx.new hB (by omega)⟩
theorem bsv_one (X : Nat) : ∀ j,(bsv X j).oneCell' = true:=fun j => by simp [bsv,Value.oneCell']
theorem sbytes_calls (R S : Nat) (w : World) :
  Calls Tryz.prog 14 #[gv R S] w fun e w' => (∃ v,e = .returned v ∧ Own w' w.heap.size 5 v 64 (ptB R S)) ∧ Ext w w':=by
 have kb:=fun X W => bytes_calls X W
 have KB:=veil kb
 clear kb
 unfold gv gc
 go_enter Tryz.func14,Tryz.ntmps14
 go_upto_region 1 with (fail)
 obtain ⟨hx,b0⟩:=blocks1 w (.cells #[vI vU (wd R 0),vI vU (wd R 1),vI vU (wd R 2),vI vU (wd R 3),vI vU (wd S 0),vI vU (wd S 1),vI vU (wd S 2),vI vU (wd S 3)] 35)
 generalize w.alloc (.cells #[vI vU (wd R 0),vI vU (wd R 1),vI vU (wd R 2),vI vU (wd R 3),vI vU (wd S 0),vI vU (wd S 1),vI vU (wd S 2),vI vU (wd S 3)] 35) = w1 at *
 have b0 : w1.heap[w.heap.size]? = some (.cells (gc R S) 35 (0,0)):=b0
 refine wp_region_noPanic ?_
 refine wp_region_held_drew (S:=fun W => Ext w1 W) (by kernel_rfl) (Ext.drew _) (fun hH => ?_)
 have hS : ∀ W,Ext w1 W → W.rangeAt w.heap.size 0 (nc R).toList:=fun W hW j v hv => by
  rw [cell_of_row W _ _ (gc R S) 35 (0,0) (hW.block b0),Nat.zero_add]
  have hj : j < 4:=(List.getElem?_eq_some_iff.1 hv).1
  rw [← hv]
  match j,hj with
  | 0,_ => rfl
  | 1,_ => rfl
  | 2,_ => rfl
  | 3,_ => rfl
 have hS4 : ∀ W,Ext w1 W → W.rangeAt w.heap.size 4 (nc S).toList:=fun W hW j v hv => by
  rw [cell_of_row W _ _ (gc R S) 35 (0,0) (hW.block b0)]
  have hj : j < 4:=(List.getElem?_eq_some_iff.1 hv).1
  rw [← hv]
  match j,hj with
  | 0,_ => rfl
  | 1,_ => rfl
  | 2,_ => rfl
  | 3,_ => rfl
 refine wpAnyH_take (i:=0) (v:=ptrTo w.heap.size) rfl (by kernel_rfl) (by kernel_rfl) (by decide +kernel) (fun _ _ _ h => h) (Or.inl ⟨by rfl,fun W hSw => (by dsimp only at hSw; go_simp)⟩) hH ?_
 refine wpAnyH_take (i:=1) (v:=nv R) rfl (by kernel_rfl) (by kernel_rfl) (by decide +kernel) (fun _ _ _ h => h) (yieldsIf_load_mid (by rfl) _ _ rfl _ _ rfl (nc R).toList _ hS uN rfl (iN R)) hH ?_
 refine wpAnyH_take (i:=3) (v:=.pointer (some ⟨w.heap.size,4,none⟩)) rfl (by kernel_rfl) (by kernel_rfl) (by decide +kernel) (fun _ _ _ h => h) (Or.inl ⟨by rfl,fun W hSw => (by dsimp only at hSw; go_simp)⟩) hH ?_
 refine wpAnyH_take (i:=4) (v:=nv S) rfl (by kernel_rfl) (by kernel_rfl) (by decide +kernel) (fun _ _ _ h => h) (yieldsIf_load_mid (by rfl) _ _ rfl _ _ rfl (nc S).toList _ hS4 uN rfl (iN S)) hH ?_
 refine wpAnyH_ready (rs:=[2]) (by decide +kernel) (by simp) ?_
 refine AllReadyH.cons rfl (fun K hK => ?_) AllReadyH.nil
 go_simp
 refine (KB.out R _).mono ?_
 rintro e w3 ⟨g1,rfl,hg1,r1,hE1⟩
 have hE1 : Ext _ w3:=hE1
 refine hK.out _ _ (hH.trans hE1) (fun hH => ?_)
 clear hK K hE1
 refine wpAnyH_ready (rs:=[5]) (by decide +kernel) (by simp) ?_
 refine AllReadyH.cons rfl (fun K hK => ?_) AllReadyH.nil
 go_simp
 refine (KB.out S _).mono ?_
 rintro e w4 ⟨g2,rfl,hg2,r2,hE2⟩
 have hE2 : Ext w3 w4:=hE2
 have r1:=Ext.row r1 hE2
 refine hK.out _ _ (hH.trans hE2) (fun hH => ?_)
 clear hK K hE2
 refine wpAnyH_ready (rs:=[6]) (by decide +kernel) (by simp) ?_
 refine AllReadyH.cons rfl (fun K hK => ?_) AllReadyH.nil
 go_simp
 have hb4:=zbv w4 (.cells #[.slice (some ⟨g1,0,none⟩) 32 32,.slice (some ⟨g2,0,none⟩) 32 32] 46)
 have r1:=r1.alloc (.cells #[.slice (some ⟨g1,0,none⟩) 32 32,.slice (some ⟨g2,0,none⟩) 32 32] 46)
 have r2:=r2.alloc (.cells #[.slice (some ⟨g1,0,none⟩) 32 32,.slice (some ⟨g2,0,none⟩) 32 32] 46)
 refine hK.out _ _ (hH.trans (Ext.alloc _ _)) (fun hH => ?_)
 clear hK K
 refine wpAnyH_ready (rs:=[7]) (by decide +kernel) (by simp) ?_
 refine AllReadyH.cons rfl (fun K hK => ?_) AllReadyH.nil
 go_simp
 refine (concat_calls w4.heap.size g1 g2 32 32 (bsv R) (bsv S) (bsv_one R) (bsv_one S) _ hb4 r1 r2).mono ?_
 rintro e w5 ⟨⟨v,rfl,ho⟩,hE5⟩
 have ho : Own w5 w.heap.size 5 v 64 (ptB R S):=ho.base_le (Nat.le_trans (Below.size hx) (Below.size hH))
 refine hK.out _ _ (hH.trans hE5) (fun hH => ?_)
 clear hK K hE5
 refine wpAnyH_ready (rs:=[8]) (by decide +kernel) (by simp) ?_
 refine AllReadyH.cons rfl (fun K hK => ?_) AllReadyH.nil
 go_simp
 refine hK.out _ _ hH (fun hH => ?_)
 clear hK K
 refine wpAnyH_done (by decide +kernel) ?_ _
 refine NoPanic.normal ?_
 go_wp2
 go_ret
 exact ⟨⟨_,rfl,ho⟩,hx.trans hH⟩
theorem up_code (w : World) (hK : KT w) : Calls Tryz.prog 5 #[] w fun e w' => e = .returned (.bool true) ∧ Ext w w' :=
 up7_calls (ex_sign fun _ y _ hK hm hy => ssign_ok hm y hy hK) (fun W => (sbytes_calls Pt.exR Pt.exS W).mono fun _ _ ⟨⟨v,he,ho⟩,hE⟩ => ⟨⟨v,he,ho⟩,hE⟩) w hK
theorem code7 : Code7 where
 up:=up_code
 pub_bad:=fun _ w hD hm => spub_bad hD hm w
 pub_ok:=fun _ w hm => spub_ok hm rfl w
 sign_bad:=fun _ y w hD _ hm => ssign_bad hD hm y w
 sign_ok:=fun _ y _ hK hm hy => ssign_ok hm y hy hK
end Go.Proofs.YtmfjigcdhijkjaaGreatDoor
