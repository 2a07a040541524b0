/-
  Of CR CD D2 D3 D4 NS3 NS5 NS6 NS7 Y0.
-/
import Derived.Deep.RegionWith
import Derived.Deep.Cut
import Derived.Deep.CutRange
import Derived.Deep.LoopGhost
import Derived.Test.YtedehdbajiaaiaaGreatDoorZK19
import Derived.Test.YtedehdbajiaaiaaGreatDoorZK5
import Derived.Test.YtedehdbajiaaiaaGreatDoorZK12
import Derived.Test.YtedehdbajiaaiaaGreatDoorZK8
import Derived.Test.YtedehdbajiaaiaaGreatDoorZK11
import Derived.Test.YtedehdbajiaaiaaGreatDoorZK4
import Derived.Test.YtedehdbajiaaiaaGreatDoorZK14
import Derived.Test.YtedehdbajiaaiaaGreatDoorZK20
import Derived.Test.YtedehdbajiaaiaaGreatDoorZK17
import Derived.Test.YtedehdbajiaaiaaGreatDoorZK18
set_option maxRecDepth 1000000
set_option maxHeartbeats 20000000
namespace Go.Proofs.YtedehdbajiaaiaaGreatDoor
open Go.RowKit
open Go.Value renaming int → vI
open Go.IntKind renaming u64 → vU
open Go.Act renaming put → aP
open List renaming setIfInBounds_toArray → lA, set_cons_zero → lZ, set_cons_succ → lS
theorem fe_ne {x : Fe} (h : x ≠ 0) : x.val ≠ 0:=fun e => h (Fin.ext (by rw [e,zgm]))
theorem fe_z {x : Fe} (h : x = 0) : x.val = 0:=by rw [h,zgm]
theorem noz {x y : Fe} (hx : x ≠ 0) (hy : y ≠ 0) : x * y ≠ 0:=fun e => by
 rcases Pt.good.hz _ _ e with h | h
 ·
  exact hx h
 ·
  exact hy h
section
variable {n : Nat} [NeZero n]
theorem r0 (y : Fin n) : y * 0 + y * 0 = 0:=by grobner
theorem r1 (Y z : Fin n) : Y * (z * z * z) * z + Y * (z * z * z) * z = (Y + Y) * (z * z * (z * z)):=by grobner
theorem r2 (u i d : Fin n) (h : d * i = 1) : u * i * d = u:=by
 have e : u * i * d = u * (d * i):=by grobner
 rw [e,h]
 grobner
theorem r3 (X : Fin n) : X = X * (1 * 1):=by grobner
theorem r4 (X : Fin n) : X = X * (1 * 1 * 1):=by grobner
theorem r5 (X z : Fin n) : (X - X) * z = 0:=by grobner
end
theorem rep_twice {x y z : Fe} {p : Pt.P Pt.pp} (hp : Pt.E256.on p) (h : Rep x y z p) : Rep (twice3 x y z).1 (twice3 x y z).2.1 (twice3 x y z).2.2 (Pt.E256.add p p):=by
 rcases p with _ | ⟨X,Y⟩
 ·
  have hz : z = 0:=h
  subst hz
  exact r0 y
 ·
  obtain ⟨hz,hx,hy⟩:=h
  have hd:=Pt.down_same hp
  have hn : ¬ (X = X ∧ Y = 0 - Y):=fun e => hd ((Pt.ring_neg _ _).1 e.2)
  rw [Pt.add_near hn,Pt.lam_same]
  have hl:=r2 (3 * (X * X - 1)) _ _ (Pt.good.hinv (Y + Y) hd)
  generalize 3 * (X * X - 1) * Pt.E256.inv (Y + Y) = l at hl ⊢
  have hZ : y * z + y * z = Y * (z * z * z) * z + Y * (z * z * z) * z:=by rw [hy]
  have hm:=rt_m hl hx hZ rfl rfl
  have hc:=rt_c hx hy rfl
  have h3:=rt_x hm hc
  refine ⟨?_,h3,rt_y hm hc h3 (rt_t hy rfl)⟩
  show y * z + y * z ≠ 0
  rw [hZ,r1]
  exact noz hd (noz (noz hz hz) (noz hz hz))
def qvP (p : Pt.P Pt.pp) : Value:=qv (Pt.pX p) (Pt.pY p) (Pt.pFar p)
theorem twice_rep {x y z : Fe} {p : Pt.P Pt.pp} (hp : Pt.E256.on p) (h : Rep x y z p) : ∃ x' y' z' : Fe,Rep x' y' z' (Pt.E256.add p p) ∧
  ∀ (b : Nat) (w : World),Fp w b → Calls Tryz.prog 98 #[cv b,sv x.val y.val z.val] w fun e w' => e = .returned (sv x'.val y'.val z'.val) ∧ Ext w w' :=
 ⟨_,_,_,rep_twice hp h,fun _ _ hF => twice_calls x y z hF⟩
theorem plus_rep {x y z : Fe} {p q : Pt.P Pt.pp} (hp : Pt.E256.on p) (hq : Pt.E256.on q) (h : Rep x y z p) : ∃ x' y' z' : Fe,Rep x' y' z' (Pt.E256.add p q) ∧
  ∀ (b : Nat) (w : World),Fp w b → Calls Tryz.prog 100 #[cv b,sv x.val y.val z.val,qvP q] w fun e w' => e = .returned (sv x'.val y'.val z'.val) ∧ Ext w w':=by
 rcases q with _ | ⟨X2,Y2⟩
 ·
  rw [Pt.add_none]
  exact ⟨_,_,_,h,fun _ _ hF => plus_far x.val y.val z.val 0 0 hF⟩
 rcases p with _ | ⟨X1,Y1⟩
 ·
  have hz : z = 0:=h
  subst hz
  rw [Pt.none_add,zgm]
  refine ⟨X2,Y2,1,⟨?_,r3 X2,r4 Y2⟩,fun b w hF => ?_⟩
  ·
   intro e
   have:=congrArg Fin.val e
   rw [v_one,zgm] at this
   exact absurd this (by decide)
  ·
   rw [v_one]
   exact plus_lift x.val y.val X2.val Y2.val hF
 ·
  obtain ⟨hz,hx,hy⟩:=h
  have hz3 : z * z * z ≠ 0:=noz (noz hz hz) hz
  have hrun : runOf x z X2 = (X2 - X1) * (z * z):=rp_run hx
  have hrise : riseOf y z Y2 = (Y2 - Y1) * (z * z * z):=rp_rise hy
  by_cases hX : X1 = X2
  ·
   subst hX
   have h0 : (runOf x z X1).val = 0:=fe_z (by rw [hrun]; exact r5 _ _)
   by_cases hY : Y1 = Y2
   ·
    subst hY
    have h1 : (riseOf y z Y1).val = 0:=fe_z (by rw [hrise]; exact r5 _ _)
    exact ⟨_,_,_,rep_twice hp ⟨hz,hx,hy⟩,fun _ _ hF => plus_same x y z X1 Y1 (fe_ne hz) h0 h1 hF⟩
   ·
    have h1 : (riseOf y z Y2).val ≠ 0:=fe_ne (by rw [hrise]; exact noz (fun e => hY (Pt.eq_of_sub e).symm) hz3)
    have he : Y1 * Y1 = Y2 * Y2:=by
     have e1 : Y1 * Y1 = _:=(Pt.on_iff X1 Y1).1 hp
     have e2 : Y2 * Y2 = _:=(Pt.on_iff X1 Y2).1 hq
     rw [e1,e2]
    have ho:=opp_of (opp_sq he) Pt.good.hz hY
    rw [Pt.add_far ⟨rfl,ho⟩]
    refine ⟨0,0,0,rfl,fun b w hF => ?_⟩
    rw [zgm]
    exact plus_opp x y z X1 Y2 (fe_ne hz) h0 h1 hF
  ·
   have hd : X2 - X1 ≠ 0:=fun e => hX (Pt.eq_of_sub e).symm
   have h0 : runOf x z X2 ≠ 0:=by rw [hrun]; exact noz hd (noz hz hz)
   rw [Pt.add_near (fun e => hX e.1),Pt.lam_else (fun e => hX e.1)]
   have hl:=r2 (Y2 - Y1) _ _ (Pt.good.hinv (X2 - X1) hd)
   generalize (Y2 - Y1) * Pt.E256.inv (X2 - X1) = l at hl ⊢
   have hs : riseOf y z Y2 = l * (z * runOf x z X2):=by rw [hrise]; exact rp_l hl hrun rfl
   have h3:=rp_x (X2:=X2) hx hrun rfl hs
   exact ⟨_,_,_,⟨noz hz h0,h3,rp_y (X2:=X2) hx hy hrun rfl hs h3⟩,fun _ _ hF => plus_else x y z X2 Y2 (fe_ne hz) (fe_ne h0) hF⟩
theorem lift_rep (p : Pt.P Pt.pp) : ∃ x y z : Fe,Rep x y z p ∧ ∀ w,Calls Tryz.prog 96 #[qvP p] w fun e w' => e = .returned (sv x.val y.val z.val) ∧ Ext w w':=by
 rcases p with _ | ⟨X,Y⟩
 ·
  refine ⟨0,0,0,rfl,fun w => ?_⟩
  rw [zgm]
  exact lift_far 0 0 w
 ·
  refine ⟨X,Y,1,⟨?_,r3 X,r4 Y⟩,fun w => ?_⟩
  ·
   intro e
   have:=congrArg Fin.val e
   rw [v_one,zgm] at this
   exact absurd this (by decide)
  ·
   rw [v_one]
   exact lift_near X.val Y.val w
theorem flat_rep {b : Nat} {x y z : Fe} {p : Pt.P Pt.pp} (h : Rep x y z p) {w : World} (hF : Fp w b) :
  Calls Tryz.prog 101 #[cv b,sv x.val y.val z.val] w fun e w' => e = .returned (qvP p) ∧ Ext w w':=by
 rcases p with _ | ⟨X,Y⟩
 ·
  have hz : z = 0:=h
  subst hz
  rw [zgm]
  exact flat_far x.val y.val hF
 ·
  obtain ⟨hz,hx,hy⟩:=h
  have ht:=Pt.good.hinv z hz
  refine (flat_near x y z hz hF).mono fun _ _ ⟨he,hw⟩ => ⟨?_,hw⟩
  rw [he]
  have e1 : (flat2 x y z).1 = X:=rf_x hx ht
  have e2 : (flat2 x y z).2 = Y:=rf_y hy ht
  rw [e1,e2]
  rfl
theorem on_calls {b : Nat} (X Y : Nat) (f : Bool) (hX : X < top) (hY : Y < top) {w : World} (hF : Fp w b) :
  Calls Tryz.prog 56 #[cv b,qv X Y f] w fun e w' => e = .returned (.bool (onB X Y f)) ∧ Ext w w':=by
 unfold onB
 cases f with
 | true =>
  by_cases h0 : X = 0
  ·
   subst h0
   simp only [if_true,decide_true,Bool.true_and]
   exact on_far0 Y hY hF
  ·
   simp only [if_true,h0,decide_false,Bool.false_and]
   exact on_far1 X Y hX h0 hF
 | false =>
  by_cases hx : X < Pt.pp
  ·
   by_cases hy : Y < Pt.pp
   ·
    simp only [Bool.false_eq_true,if_false,hx,hy,decide_true,Bool.true_and]
    have k:=on_near (b:=b) ⟨X,hx⟩ ⟨Y,hy⟩ hF
    rw [three_x,← right_val,← Pt.v_mul] at k
    exact k
   ·
    simp only [Bool.false_eq_true,if_false,hx,hy,decide_true,decide_false,Bool.true_and,Bool.false_and]
    exact on_high X Y hx hY hy hF
  ·
   simp only [Bool.false_eq_true,if_false,hx,decide_false,Bool.false_and]
   exact on_out X Y hX hx hF
theorem on_yes {b : Nat} (q : Pt.Q) {w : World} (hF : Fp w b) : Calls Tryz.prog 56 #[cv b,qvP q.1] w fun e w' => e = .returned (.bool true) ∧ Ext w w':=by
 have k:=on_calls (Pt.pX q.1) (Pt.pY q.1) (Pt.pFar q.1) (p_top q.1).1 (p_top q.1).2 hF
 rw [onB_of] at k
 exact k
theorem Fp.but {w W : World} {b r : Nat} (h : Fp w b) (hB : But r w W) (hne : b ≠ r) : Fp W b:=by
 obtain ⟨N,Q,h1,h2⟩:=h
 exact ⟨N,Q,h1,h2.of_block (hB.block b h2.lt (by intro e; simp at e; exact hne e))⟩
theorem add_yes (q r : Pt.Q) (w : World) :
  Calls Tryz.prog 134 #[qvP q.1,qvP r.1] w fun e w' => e = .returned (.tuple #[qvP (Pt.grp.op q r).1,.nilIface]) ∧ Ext w w':=by
 obtain ⟨x1,y1,z1,h1,k1⟩:=lift_rep q.1
 obtain ⟨x2,y2,z2,h2,k2⟩:=plus_rep q.2 r.2 h1
 have k3:=fun (b : Nat) (w : World) (hF : Fp w b) => flat_rep h2 hF
 obtain ⟨t,ht⟩ : ∃ t : Pt.Q,t = Pt.grp.op q r:=⟨_,rfl⟩
 have ht2 : Pt.E256.add q.1 r.1 = t.1:=by rw [ht]; rfl
 rw [ht2] at k3
 rw [← ht]
 have K1:=veil k1
 have K2:=veil k2
 have K3:=veil k3
 clear k1 k2 k3 h1 h2 ht ht2
 unfold qvP qv qc
 go_enter Tryz.func134,Tryz.ntmps134
 go_upto_region 1 with (fail)
 refine zcs fun w1 hx b0 b1 b2 => ?_
 have b0 : w1.heap[w.heap.size]? = some (.cells (qc (Pt.pX q.1) (Pt.pY q.1) (Pt.pFar q.1)) 48 (0,0)):=b0
 have b1 : w1.heap[w.heap.size + 1]? = some (.cells (qc (Pt.pX r.1) (Pt.pY r.1) (Pt.pFar r.1)) 48 (0,0)):=b1
 refine wp_region_lit ?_
 refine zhi (R:=fun v W' => ∃ b,v = cv b ∧ Fp W' b ∧ Ext w1 W') rfl rfl rfl (fun W => zab Tryz.func55 rfl rfl _ W) ((zhc w1).mono fun e W' ⟨b,he,hF,hE⟩ => ⟨_,he,b,rfl,hF,hE⟩) ?_
 rintro v w2 ⟨b,rfl,hf,hE⟩
 simp only [aP,lA,lZ,lS]
 replace b0:=hE.block b0
 replace b1:=hE.block b1
 replace b2:=hE.block b2
 replace hx:=hx.trans hE
 clear hE
 refine zhh _ _ rfl rfl rfl rfl rfl rfl (hzK ·) (fun _ => rfl) (fun _ => rfl) (iK _) rfl (cc_one _) ?_
 intro gc w3 hgc bc hE
 replace b0:=hE.block b0
 replace b1:=hE.block b1
 replace b2:=hE.block b2
 replace hf:=hf.ext hE
 replace hx:=hx.trans hE
 clear hE
 simp only [aP,lA,lZ,lS]
 clear hgc
 refine wpList_nil ?_
 go_upto_region 2 with (fail)
 refine' zdk (m:=10) (A:=_) ?h1 ?h2
 case h1 =>
  refine zaa (cv b) rfl (zac rfl rfl bc rfl Tryz.underlying103 rfl (iK _)) ?_
  refine zaa (qv (Pt.pX q.1) (Pt.pY q.1) (Pt.pFar q.1)) rfl (zac rfl rfl b0 rfl Tryz.underlying48 rfl (iT _ _ _)) ?_;simp only [aP,lA,lZ,lS]
  refine zaa (.bool true) rfl (zaf (args:=[cv b,qv (Pt.pX q.1) (Pt.pY q.1) (Pt.pFar q.1)]) rfl rfl (fun W => zab Tryz.func56 rfl rfl _ W) (fun W hW => on_yes q (hf.ext hW))) ?_
  refine zaa (.bool false) rfl (zbh rfl rfl rfl) ?_;simp only [aP,lA,lZ,lS]
  refine zaa (.bool false) rfl (zah (.inl rfl) rfl) ?_
  refine zam (cv b) rfl (zac rfl rfl bc rfl Tryz.underlying103 rfl (iK _)) ?_;simp only [aP,lA,lZ,lS]
  refine zam (qv (Pt.pX r.1) (Pt.pY r.1) (Pt.pFar r.1)) rfl (zac rfl rfl b1 rfl Tryz.underlying48 rfl (iT _ _ _)) ?_
  refine zam (.bool true) rfl (zaf (args:=[cv b,qv (Pt.pX r.1) (Pt.pY r.1) (Pt.pFar r.1)]) rfl rfl (fun W => zab Tryz.func56 rfl rfl _ W) (fun W hW => on_yes r (hf.ext hW))) ?_;simp only [aP,lA,lZ,lS]
  refine zam (.bool false) rfl (zbh rfl rfl rfl) ?_
  refine zaa (.bool false) rfl (zaz rfl rfl rfl) ?_;simp only [aP,lA,lZ,lS]
  exact zaj
 refine zaq rfl ?_
 intro w4 hE
 replace b0:=hE.block b0
 replace b1:=hE.block b1
 replace b2:=hE.block b2
 replace bc:=hE.block bc
 replace hf:=hf.ext hE
 replace hx:=hx.trans hE
 clear hE
 go_upto_region 4 with (fail)
 refine' zbr (m:=7) (A:=_) 7 (by kernel_rfl) (by kernel_rfl) (by kernel_rfl) ?h2a ?h2b
 case h2a =>
  refine zaa (cv b) rfl (zac rfl rfl bc rfl Tryz.underlying103 rfl (iK _)) ?_
  refine zaa (cv b) rfl (zac rfl rfl bc rfl Tryz.underlying103 rfl (iK _)) ?_;simp only [aP,lA,lZ,lS]
  refine zaa (qv (Pt.pX q.1) (Pt.pY q.1) (Pt.pFar q.1)) rfl (zac rfl rfl b0 rfl Tryz.underlying48 rfl (iT _ _ _)) ?_
  refine zaa (sv x1.val y1.val z1.val) rfl (zaf (args:=[qv (Pt.pX q.1) (Pt.pY q.1) (Pt.pFar q.1)]) rfl rfl (fun W => zab Tryz.func96 rfl rfl _ W) (fun W hW => K1.out W)) ?_;simp only [aP,lA,lZ,lS]
  refine zaa (qv (Pt.pX r.1) (Pt.pY r.1) (Pt.pFar r.1)) rfl (zac rfl rfl b1 rfl Tryz.underlying48 rfl (iT _ _ _)) ?_
  refine zaa (sv x2.val y2.val z2.val) rfl (zaf (args:=[cv b,sv x1.val y1.val z1.val,qv (Pt.pX r.1) (Pt.pY r.1) (Pt.pFar r.1)]) rfl rfl (fun W => zab Tryz.func100 rfl rfl _ W) (fun W hW => K2.out _ _ (hf.ext hW))) ?_;simp only [aP,lA,lZ,lS]
  refine zaa (qv (Pt.pX t.1) (Pt.pY t.1) (Pt.pFar t.1)) rfl (zaf (args:=[cv b,sv x2.val y2.val z2.val]) rfl rfl (fun W => zab Tryz.func101 rfl rfl _ W) (fun W hW => K3.out _ _ (hf.ext hW))) ?_;simp only [aP,lA,lZ,lS]
  exact zaj
 refine rest_store1 _ _ rfl rfl rfl rfl rfl rfl rfl rfl rfl (by kernel_rfl) (by kernel_rfl) (by kernel_rfl) rfl rfl rfl rfl rfl b2 (iT _ _ _) rfl (zdr _ _ _) ?_
 intro w5 hB hb
 refine NoPanic.normal ?_
 simp only [aP,lA,lZ,lS]
 go_wp2
 exact bodyPost_ret (zbd rfl _ _ (w.heap.size + 1 + 1) 48 (qc (Pt.pX t.1) (Pt.pY t.1) (Pt.pFar t.1)) (0,0) _ rfl hb Tryz.underlying48 rfl (iT _ _ _)) rfl ⟨rfl,hx.new hB (by omega)⟩
theorem mul_yes (K : Nat) (hK : K < top) (q : Pt.Q) (w : World) :
  Calls Tryz.prog 53 #[nv K,qvP q.1] w fun e w' => e = .returned (.tuple #[qvP (Pt.grp.mul K q).1,.nilIface]) ∧ Ext w w':=by
 have hL : bitLen K ≤ 256:=bl_le hK
 have hE0 : K / 2 ^ bitLen K = 0:=bl_div K
 have HT:=veil hK
 obtain ⟨x0,y0,z0,h0,k0⟩:=lift_rep none
 have K0:=veil k0
 clear hK k0
 unfold nv nc qvP qv qc
 go_enter Tryz.func53,Tryz.ntmps53
 go_upto_region 1 with (fail)
 refine zcs fun w1 hx b0 b1 b2 => ?_
 have b0 : w1.heap[w.heap.size]? = some (.cells (nc K) 26 (0,0)):=b0
 have b1 : w1.heap[w.heap.size + 1]? = some (.cells (qc (Pt.pX q.1) (Pt.pY q.1) (Pt.pFar q.1)) 48 (0,0)):=b1
 refine wp_region_lit ?_
 refine zhi (R:=fun v W' => ∃ b,v = cv b ∧ Fp W' b ∧ Ext w1 W') rfl rfl rfl (fun W => zab Tryz.func55 rfl rfl _ W) ((zhc w1).mono fun e W' ⟨b,he,hF,hE⟩ => ⟨_,he,b,rfl,hF,hE⟩) ?_
 rintro v w2 ⟨b,rfl,hf,hE⟩
 simp only [aP,lA,lZ,lS]
 replace b0:=hE.block b0
 replace b1:=hE.block b1
 replace b2:=hE.block b2
 replace hx:=hx.trans hE
 clear hE
 refine zhh _ _ rfl rfl rfl rfl rfl rfl (hzK ·) (fun _ => rfl) (fun _ => rfl) (iK _) rfl (cc_one _) ?_
 intro gc w3 hgc bc hE
 replace b0:=hE.block b0
 replace b1:=hE.block b1
 replace b2:=hE.block b2
 replace hf:=hf.ext hE
 replace hx:=hx.trans hE
 clear hE
 simp only [aP,lA,lZ,lS]
 clear hgc
 refine wpList_nil ?_
 go_upto_region 2 with (fail)
 refine' zak (m:=4) (A:=_) (by kernel_rfl) ?h1 ?h2
 case h1 =>
  refine zaa (cv b) rfl (zac rfl rfl bc rfl Tryz.underlying103 rfl (iK _)) ?_
  refine zaa (qv (Pt.pX q.1) (Pt.pY q.1) (Pt.pFar q.1)) rfl (zac rfl rfl b1 rfl Tryz.underlying48 rfl (iT _ _ _)) ?_;simp only [aP,lA,lZ,lS]
  refine zaa (.bool true) rfl (zaf (args:=[cv b,qv (Pt.pX q.1) (Pt.pY q.1) (Pt.pFar q.1)]) rfl rfl (fun W => zab Tryz.func56 rfl rfl _ W) (fun W hW => on_yes q (hf.ext hW))) ?_
  refine zaa (.bool false) rfl (zbh rfl rfl rfl) ?_;simp only [aP,lA,lZ,lS]
  exact zaj
 refine zaq rfl ?_
 intro w4 hE
 replace b0:=hE.block b0
 replace b1:=hE.block b1
 replace b2:=hE.block b2
 replace bc:=hE.block bc
 replace hf:=hf.ext hE
 replace hx:=hx.trans hE
 clear hE
 go_upto_region 4 with (fail)
 refine' zak (m:=2) (A:=_) (by kernel_rfl) ?h2a ?h2b
 case h2a =>
  refine zaa (qv 0 0 true) rfl (zbb rfl rfl (bldTF ·)) ?_
  refine zaa (sv x0.val y0.val z0.val) rfl (zaf (args:=[qv 0 0 true]) rfl rfl (fun W => zab Tryz.func96 rfl rfl _ W) (fun W hW => K0.out W)) ?_;simp only [aP,lA,lZ,lS]
  exact zaj
 refine zck _ _ rfl rfl rfl rfl rfl rfl rfl (hzS ·) (fun _ => rfl) (fun _ => rfl) (iS _ _ _) rfl (zez _ _ _) ?_
 intro gs w5 hgs bs hE
 have hls : w.heap.size ≤ gs:=Nat.le_trans (Below.size hx) hgs
 replace b0:=hE.block b0
 replace b1:=hE.block b1
 replace b2:=hE.block b2
 replace bc:=hE.block bc
 replace hf:=hf.ext hE
 replace hx:=hx.trans hE
 clear hE
 simp only [aP,lA,lZ,lS]
 clear hgs
 go_upto_region 5 with (fail)
 replace h0 : Rep x0 y0 z0 (Pt.grp.mul (K / 2 ^ bitLen K) q).1:=by rw [hE0]; exact h0
 obtain ⟨N,hN⟩ : ∃ N,N = bitLen K:=⟨_,rfl⟩
 have HN:=veil hN
 rw [← hN] at h0 hL
 clear hE0 hN
 have hNi : (0 : Int) ≤ (N : Int):=by omega
 refine wp_region_lit ?_
 refine wpl_load rfl rfl rfl b0 rfl uN rfl (iN K) ?_
 simp only [aP,lA,lZ,lS]
 refine zhi (R:=fun v W' => v = .int .i64 (N : Int) ∧ Ext w5 W') rfl rfl rfl (fun W => zab Tryz.func97 rfl rfl _ W) ((klen K N (by rw [HN.out]) HT.out w5).mono fun e W' ⟨he,hE⟩ => ⟨_,he,rfl,hE⟩) ?_
 rintro v w6 ⟨rfl,hE⟩
 replace b0:=hE.block b0
 replace b1:=hE.block b1
 replace b2:=hE.block b2
 replace bc:=hE.block bc
 replace bs:=hE.block bs
 replace hf:=hf.ext hE
 replace hx:=hx.trans hE
 clear hE
 simp only [aP,lA,lZ,lS]
 go_wp2
 clear HN hNi K0
 go_loopw [8] (fun v8 wr => ∃ j : Nat,j ≤ 256 ∧ v8 = .int .i64 ((j : Int) - 1) ∧ (∃ x y z : Fe,Rep x y z (Pt.grp.mul (K / 2 ^ j) q).1 ∧ wr.heap[gs]? = some (.cells (sc x.val y.val z.val) 146 (0,0))) ∧ wr.heap[w.heap.size]? = some (.cells (nc K) 26 (0,0)) ∧ wr.heap[w.heap.size + 1]? = some (.cells (qc (Pt.pX q.1) (Pt.pY q.1) (Pt.pFar q.1)) 48 (0,0)) ∧ (∃ c2,wr.heap[w.heap.size + 1 + 1]? = some (.cells c2 48 (0,0)) ∧ c2.size = 9) ∧ wr.heap[gc]? = some (.cells (cc b) 103 (0,0)) ∧ Fp wr b ∧ Ext w wr)
  (fun v8 _ => (intOf v8 + 1).toNat)
 case atStart => exact ⟨N,hL,by go_num,⟨x0,y0,z0,h0,bs⟩,b0,b1,⟨_,b2,rfl⟩,bc,hf,hx⟩
 case round =>
  clear b0 b1 b2 bc bs hf hx h0 hL
  obtain ⟨j,hj,hi,⟨x,y,z,hR,bs⟩,b0,b1,⟨c2,b2,hc2⟩,bc,hf,hx⟩:=hrel
  cases j with
  | zero =>
   obtain rfl : _ = Value.int .i64 (-1):=hi.trans (by congr 1)
   have e1 : Pt.grp.mul (K / 2 ^ 0) q = Pt.grp.mul K q:=by rw [Nat.pow_zero,Nat.div_one]
   rw [e1] at hR
   obtain ⟨t,ht⟩ : ∃ t : Pt.Q,t = Pt.grp.mul K q:=⟨_,rfl⟩
   rw [← ht] at hR
   have HTT:=veil ht
   have KF:=veil (fun (b : Nat) (w : World) (hF : Fp w b) => flat_rep hR hF)
   clear hi e1 ht
   go_upto_region 11 with (fail)
   refine' zak (m:=3) (A:=_) (by kernel_rfl) ?h3a ?h3b
   case h3a =>
    refine zaa (cv b) rfl (zac rfl rfl bc rfl Tryz.underlying103 rfl (iK _)) ?_
    refine zaa (sv x.val y.val z.val) rfl (zac rfl rfl bs rfl Tryz.underlying146 rfl (iS _ _ _)) ?_;simp only [aP,lA,lZ,lS]
    refine zaa (qv (Pt.pX t.1) (Pt.pY t.1) (Pt.pFar t.1)) rfl (zaf (args:=[cv b,sv x.val y.val z.val]) rfl rfl (fun W => zab Tryz.func101 rfl rfl _ W) (fun W hW => KF.out _ _ (hf.ext hW))) ?_;simp only [aP,lA,lZ,lS]
    exact zaj
   refine zcw _ rfl rfl rfl rfl rfl rfl b2 (iT _ _ _) hc2 (zdr _ _ _) ?_
   intro w7 hB hb
   go_wp2
   rw [← HTT.out]
   exact bodyPost_ret (zbd rfl _ _ (w.heap.size + 1 + 1) 48 (qc (Pt.pX t.1) (Pt.pY t.1) (Pt.pFar t.1)) (0,0) _ rfl hb Tryz.underlying48 rfl (iT _ _ _)) rfl ⟨rfl,hx.new hB (by omega)⟩
  | succ m =>
   obtain rfl : _ = Value.int .i64 (m : Int):=hi.trans (by congr 1; omega)
   have hm : m < 256:=by omega
   clear hi
   have hmi : (0 : Int) ≤ (m : Int):=by omega
   obtain ⟨R0,hR0⟩ : ∃ R,R = Pt.grp.mul (K / 2 ^ (m + 1)) q:=⟨_,rfl⟩
   rw [← hR0] at hR
   have HR0:=veil hR0
   clear hR0
   obtain ⟨x1,y1,z1,h1,k1⟩:=twice_rep R0.2 hR
   obtain ⟨R1,hR1⟩ : ∃ R,R = Pt.grp.op R0 R0:=⟨_,rfl⟩
   have HR1:=veil hR1
   replace h1 : Rep x1 y1 z1 R1.1:=by rw [hR1]; exact h1
   have K1:=veil k1
   clear hR1 k1 hR
   have hgs : gs < wr.heap.size:=(Array.getElem?_eq_some_iff.1 bs).1
   have hgs0 : gs ≠ w.heap.size:=fun e => (by rw [e,b0] at bs; injection bs with bs; injection bs with _ bs; exact absurd bs (by decide))
   have hgs1 : gs ≠ w.heap.size + 1:=fun e => (by rw [e,b1] at bs; injection bs with bs; injection bs with _ bs; exact absurd bs (by decide))
   have hgs2 : gs ≠ w.heap.size + 1 + 1:=fun e => (by rw [e,b2] at bs; injection bs with bs; injection bs with _ bs; exact absurd bs (by decide))
   have hgsc : gs ≠ gc:=fun e => (by rw [e,bc] at bs; injection bs with bs; injection bs with _ bs; exact absurd bs (by decide))
   have hgsb : b ≠ gs:=fun e => (by obtain ⟨_,_,_,h2⟩:=hf; have h3:=blkOf h2; rw [e,bs] at h3; injection h3 with h3; injection h3 with _ h3; exact absurd h3 (by decide))
   go_upto_region 8 with (fail)
   refine' zak (m:=3) (A:=_) (by kernel_rfl) ?h4a ?h4b
   case h4a =>
    refine zaa (cv b) rfl (zac rfl rfl bc rfl Tryz.underlying103 rfl (iK _)) ?_
    refine zaa (sv x.val y.val z.val) rfl (zac rfl rfl bs rfl Tryz.underlying146 rfl (iS _ _ _)) ?_;simp only [aP,lA,lZ,lS]
    refine zaa (sv x1.val y1.val z1.val) rfl (zaf (args:=[cv b,sv x.val y.val z.val]) rfl rfl (fun W => zab Tryz.func98 rfl rfl _ W) (fun W hW => K1.out _ _ (hf.ext hW))) ?_;simp only [aP,lA,lZ,lS]
    exact zaj
   refine zbk _ rfl rfl rfl rfl rfl rfl bs (iS _ _ _) rfl (zez _ _ _) ?_
   intro w8 hB hb
   replace b0:=zek hB b0 hgs0.symm
   replace b1:=zek hB b1 hgs1.symm
   replace b2:=zek hB b2 hgs2.symm
   replace bc:=zek hB bc hgsc.symm
   replace hf:=hf.but hB hgsb
   replace hx:=hx.new hB hls
   clear hB bs
   have bs:=hb
   clear hb
   go_upto_region 9 with (fail)
   by_cases hbit : bit K m = true
   ·
    have HBIT:=veil hbit
    obtain ⟨x2,y2,z2,h2,k2⟩:=plus_rep R1.2 q.2 h1
    obtain ⟨R2,hR2⟩ : ∃ R,R = Pt.grp.op R1 q:=⟨_,rfl⟩
    have HR2:=veil hR2
    replace h2 : Rep x2 y2 z2 R2.1:=by rw [hR2]; exact h2
    have K2:=veil k2
    clear hR2 k2 h1
    clear hbit
    refine' zak (m:=3) (A:=_) (by kernel_rfl) ?h5a ?h5b
    case h5a =>
     refine zaa (nv K) rfl (zac rfl rfl b0 rfl uN rfl (iN _)) ?_
     refine zaa (.int .i64 (m : Int)) rfl (zah (.inl rfl) rfl) ?_;simp only [aP,lA,lZ,lS]
     refine zaa (.bool true) rfl (zaf (args:=[nv K,.int .i64 (m : Int)]) rfl rfl (fun W => zab Tryz.func99 rfl rfl _ W) (fun W hW => kbit K m true HBIT.out hm W)) ?_;simp only [aP,lA,lZ,lS]
     exact zaj
    refine zaq rfl ?_
    intro w9 hE
    replace b0:=hE.block b0
    replace b1:=hE.block b1
    replace b2:=hE.block b2
    replace bc:=hE.block bc
    replace bs:=hE.block bs
    replace hf:=hf.ext hE
    replace hx:=hx.trans hE
    clear hE
    go_upto_region 10 with (fail)
    refine' zak (m:=4) (A:=_) (by kernel_rfl) ?h6a ?h6b
    case h6a =>
     refine zaa (cv b) rfl (zac rfl rfl bc rfl Tryz.underlying103 rfl (iK _)) ?_
     refine zaa (sv x1.val y1.val z1.val) rfl (zac rfl rfl bs rfl Tryz.underlying146 rfl (iS _ _ _)) ?_;simp only [aP,lA,lZ,lS]
     refine zaa (qv (Pt.pX q.1) (Pt.pY q.1) (Pt.pFar q.1)) rfl (zac rfl rfl b1 rfl Tryz.underlying48 rfl (iT _ _ _)) ?_
     refine zaa (sv x2.val y2.val z2.val) rfl (zaf (args:=[cv b,sv x1.val y1.val z1.val,qv (Pt.pX q.1) (Pt.pY q.1) (Pt.pFar q.1)]) rfl rfl (fun W => zab Tryz.func100 rfl rfl _ W) (fun W hW => K2.out _ _ (hf.ext hW))) ?_;simp only [aP,lA,lZ,lS]
     exact zaj
    refine zbk _ rfl rfl rfl rfl rfl rfl bs (iS _ _ _) rfl (zez _ _ _) ?_
    intro w10 hB hb
    replace b0:=zek hB b0 hgs0.symm
    replace b1:=zek hB b1 hgs1.symm
    replace b2:=zek hB b2 hgs2.symm
    replace bc:=zek hB bc hgsc.symm
    replace hf:=hf.but hB hgsb
    replace hx:=hx.new hB hls
    clear hB bs
    have bs:=hb
    clear hb
    go_wp2
    go_roundw
    case rel => exact ⟨m,by omega,by go_num,⟨x2,y2,z2,by rw [times_step,if_pos HBIT.out,← HR0.out,← HR1.out,← HR2.out]; exact h2,bs⟩,b0,b1,⟨c2,b2,hc2⟩,bc,hf,hx⟩
    case measure => simp [intOf]
   ·
    have hbit : bit K m = false:=by simpa using hbit
    have HBIT:=veil hbit
    clear hbit
    refine' zak (m:=3) (A:=_) (by kernel_rfl) ?h7a ?h7b
    case h7a =>
     refine zaa (nv K) rfl (zac rfl rfl b0 rfl uN rfl (iN _)) ?_
     refine zaa (.int .i64 (m : Int)) rfl (zah (.inl rfl) rfl) ?_;simp only [aP,lA,lZ,lS]
     refine zaa (.bool false) rfl (zaf (args:=[nv K,.int .i64 (m : Int)]) rfl rfl (fun W => zab Tryz.func99 rfl rfl _ W) (fun W hW => kbit K m false HBIT.out hm W)) ?_;simp only [aP,lA,lZ,lS]
     exact zaj
    refine zaq rfl ?_
    intro w9 hE
    replace b0:=hE.block b0
    replace b1:=hE.block b1
    replace b2:=hE.block b2
    replace bc:=hE.block bc
    replace bs:=hE.block bs
    replace hf:=hf.ext hE
    replace hx:=hx.trans hE
    clear hE
    go_wp2
    go_roundw
    case rel => exact ⟨m,by omega,by go_num,⟨x1,y1,z1,by rw [times_step,HBIT.out,if_neg (by decide),← HR0.out,← HR1.out]; exact h1,bs⟩,b0,b1,⟨c2,b2,hc2⟩,bc,hf,hx⟩
    case measure => simp [intOf]
theorem on_is (X Y : Nat) (f : Bool) (hX : X < top) (hY : Y < top) (w : World) :
  Calls Tryz.prog 22 #[qv X Y f] w fun e w' => e = .returned (.bool (onB X Y f)) ∧ Ext w w':=by
 have KO:=veil (fun (b : Nat) (w : World) (hF : Fp w b) => on_calls X Y f hX hY hF)
 obtain ⟨r,hr⟩ : ∃ r,r = onB X Y f:=⟨_,rfl⟩
 rw [← hr] at KO ⊢
 clear hX hY hr
 unfold qv qc
 go_enter Tryz.func22,Tryz.ntmps22
 go_upto_region 1 with (fail)
 refine zdj fun w1 hx b0 => ?_
 have b0 : w1.heap[w.heap.size]? = some (.cells (qc X Y f) 48 (0,0)):=b0
 refine wp_region_noPanic ?_
 refine wp_region_held_drew (S:=fun W => Ext w1 W) (by kernel_rfl) (Ext.drew _) (fun hH => ?_)
 refine wpAnyH_take (i:=1) (v:=qv X Y f) rfl (by kernel_rfl) (by kernel_rfl) (by decide +kernel) (fun _ _ _ h => h) (yieldsIf_load_mid (by rfl) _ _ rfl _ _ rfl (qc X Y f).toList _ (fun W hW j v hv => by rw [cell_of_row W _ _ (qc X Y f) 48 (0,0) (hW.block b0),Nat.zero_add]; simpa using hv) Tryz.underlying48 rfl (iT X Y f)) hH ?_
 refine wpAnyH_ready (rs:=[0]) (by decide +kernel) (by simp) ?_
 refine AllReadyH.cons rfl (fun K hK => ?_) AllReadyH.nil
 go_simp
 refine (zhc _).mono ?_
 rintro e w2 ⟨b,rfl,hF,hE⟩
 refine hK.out _ _ (hH.trans hE) (fun hH => ?_)
 clear hK K hE
 refine wpAnyH_ready (rs:=[2]) (by decide +kernel) (by simp) ?_
 refine AllReadyH.cons rfl (fun K hK => ?_) AllReadyH.nil
 go_simp
 refine (KO.out _ _ hF).mono ?_
 rintro e w3 ⟨rfl,hE⟩
 refine hK.out _ _ (hH.trans hE) (fun hH => ?_)
 clear hK K hE
 refine wpAnyH_take (i:=3) (v:=.bool r) rfl (by kernel_rfl) (by kernel_rfl) (by decide +kernel) (fun _ _ _ h => h) (Or.inl ⟨by rfl,fun W hSw => (by dsimp only at hSw; go_simp)⟩) hH ?_
 refine wpAnyH_done (by decide +kernel) ?_ _
 refine NoPanic.normal ?_
 go_wp2
 go_ret
 exact ⟨rfl,hx.trans hH⟩
theorem row_of_setRow {w : World} {g r : Nat} {s : KV} {cs : Array Value} (h : SRow w g s) (hne : g ≠ r) : SRow (w.setRow r cs) g s:=World.rowIs.of_block h (zcp w cs hne)
theorem But.farRow {w w' : World} {g r : Nat} {cs : Array Value} (h : But g w w') (hr : w.heap.size ≤ r) : But g w (w'.setRow r cs) :=
 ⟨h.os,h.tape,h.output,by simpa [World.setRow] using h.size,fun k hk hne => (zcp w' cs (by omega)).trans (h.block k hk hne)⟩
theorem parts_nil (w : World) : Parts3 w none 0 (fun _ => none) (fun _ => 0) (fun _ => 0) (fun _ _ => 0) where
 row:=.inl rfl
 src:=fun r hr => by omega
 cap:=fun r hr => by omega
 lt:=fun _ _ => by decide
theorem mix_none (g : Nat) (hg : g ≠ 0) (s : KV) (hs : s.Ok) (w : World) (hK : KT w) (hS : SRow w g s) :
  Calls Tryz.prog 145 #[.pointer (some ⟨g,0,none⟩),.int .u8 0,.slice none 0 0] w fun e w' => e = .returned (.tuple #[]) ∧ SRow w' g (s.mix 0 none0 0) ∧ But g w w' :=
 nmix_calls g hg s hs 0 (by decide) none 0 0 (fun _ => none) (fun _ => 0) (fun _ => 0) (fun _ _ => 0) (by decide) (by decide) w hK hS (parts_nil w)
theorem next_calls (g : Nat) (hg : g ≠ 0) (s : KV) (hs : s.Ok) (w : World) (hK : KT w) (hS : SRow w g s) :
  Calls Tryz.prog 114 #[.pointer (some ⟨g,0,none⟩)] w fun e w' => e = .returned (nv (num32 s.step.v)) ∧ SRow w' g s.next ∧ But g w w':=by
 obtain ⟨X,hX⟩ : ∃ X,X = num32 s.step.v:=⟨_,rfl⟩
 rw [← hX]
 have HX:=veil hX
 have HK:=veil hK
 have HS:=veil hS
 have HG:=veil (And.intro hg hs)
 have hlt:=hS.lt
 clear hX hK hS hg hs
 go_enter Tryz.func114,Tryz.ntmps114
 go_upto_region 1 with (fail)
 have hn : (w.alloc (.cells #[vI vU 0,vI vU 0,vI vU 0,vI vU 0] 26)).heap[w.heap.size]? = some (.cells #[vI vU 0,vI vU 0,vI vU 0,vI vU 0] 26 (0,0)):=heap_alloc_last w _
 have H1:=veil (And.intro (HK.out.alloc (.cells #[vI vU 0,vI vU 0,vI vU 0,vI vU 0] 26)) (And.intro (HS.out.alloc (.cells #[vI vU 0,vI vU 0,vI vU 0,vI vU 0] 26)) (And.intro (But.alloc (But.refl g w) (.cells #[vI vU 0,vI vU 0,vI vU 0,vI vU 0] 26)) hn)))
 generalize w.alloc (.cells #[vI vU 0,vI vU 0,vI vU 0,vI vU 0] 26) = w1 at *
 have HQ:=veil (step_calls g s HG.out.2 w1 H1.out.1 H1.out.2.1)
 clear hn
 go_upto_region 2 with (refine HQ.out.mono ?_; rintro e w2 ⟨rfl,hS2,hB2⟩)
 have hn2:=(hB2.block w.heap.size (Array.getElem?_eq_some_iff.1 H1.out.2.2.2).1 (by intro e; injection e; omega)).trans H1.out.2.2.2
 have H2:=veil (And.intro (H1.out.1.grown hB2 (Ne.symm HG.out.1)) (And.intro hS2 (And.intro (H1.out.2.2.1.trans hB2) hn2)))
 clear hS2 hB2 hn2 H1 HQ
 have HOf:=veil (show Calls Tryz.prog 83 #[.slice (some ⟨g,32,none⟩) 32 32] w2 fun e w' => e = .returned (.tuple #[nv X,.nilIface]) ∧ Below w2.heap.size w2 w' from by rw [HX.out]; exact ziu g 32 32 32 s.step.v HG.out.2.step.v (by decide) w2 H2.out.2.1.lt H2.out.2.1.cellV)
 go_upto_region 3 with (first
  | (go_at_call 83; refine HOf.out.mono ?_; rintro e w3 ⟨rfl,hb3⟩)
  | ((with_reducible refine zaw ?_); refine wpList_store_row rfl 26 _ _ rfl w3.heap.size (nc X) rfl rfl 26 _ (heap_alloc_last w3 _) (iN X) (by rfl) (zbf X) ?_; rw [World.setRow_alloc_new]))
 have h4:=((H2.out.2.1.call hb3).alloc (.cells (nc X) 26))
 have hk4:=((H2.out.1.call hb3).alloc (.cells (nc X) 26))
 have hb4:=((H2.out.2.2.1.below hb3).alloc (.cells (nc X) 26))
 have hn4:=(Below.heap_alloc w3 (.cells (nc X) 26) _ (Nat.lt_of_lt_of_le (Array.getElem?_eq_some_iff.1 H2.out.2.2.2).1 hb3.size)).trans ((hb3.block _ (Array.getElem?_eq_some_iff.1 H2.out.2.2.2).1).trans H2.out.2.2.2)
 have hx4 : (w3.alloc (.cells (nc X) 26)).heap[w3.heap.size]? = some (.cells (nc X) 26 (0,0)):=heap_alloc_last w3 _
 have hne : g < w3.heap.size:=Nat.lt_of_lt_of_le H2.out.2.1.lt hb3.size
 have hne2 : w.heap.size ≠ w3.heap.size:=by have:=(Array.getElem?_eq_some_iff.1 H2.out.2.2.2).1; have:=hb3.size; omega
 have hlx : w3.heap.size < (w3.alloc (.cells (nc X) 26)).heap.size:=by simp
 generalize w3.alloc (.cells (nc X) 26) = w4 at *
 generalize w3.heap.size = gx at *
 have H4:=veil (And.intro hn4 hx4)
 have HB4:=veil hb4
 have HQ:=veil (mix_none g HG.out.1 s.step HG.out.2.step w4 hk4 h4)
 clear h4 hk4 hn4 hx4 hb3 H2 HOf hb4
 go_upto_region 4 with (go_at_call 145; refine HQ.out.mono ?_; rintro e w5 ⟨rfl,hS5,hB5⟩)
 have hn5:=(hB5.block _ (Array.getElem?_eq_some_iff.1 H4.out.1).1 (by intro e; injection e; omega)).trans H4.out.1
 have hx5:=(hB5.block _ (Array.getElem?_eq_some_iff.1 H4.out.2).1 (by intro e; injection e; omega)).trans H4.out.2
 have H5:=veil (And.intro hn5 hx5)
 have HB5:=veil (And.intro hS5 (HB4.out.trans hB5))
 clear hn5 hx5 hS5 hB5 HB4 H4 HQ
 go_wp2_with (first
  | ((with_reducible refine zas 17 ?_); refine wpList_load_row rfl 26 _ rfl gx rfl 26 (nc X) (0,0) _ H5.out.2 Tryz.underlying26 rfl (iN X) ?_)
  | ((with_reducible refine zaw ?_); refine wpList_store_row rfl 26 _ _ rfl w.heap.size (nc X) rfl rfl 26 _ H5.out.1 (iN X) (by rfl) (zbf X) ?_))
 have hfin : SRow w5 g s.next:=HB5.out.1
 exact bodyPost_ret (results_cell_row rfl _ _ w.heap.size 26 (nc X) (0,0) _ rfl (setRow_heap w5 w.heap.size _ (nc X) 26 (0,0) H5.out.1) Tryz.underlying26 rfl (iN X)) rfl ⟨rfl,row_of_setRow hfin (by omega),But.farRow HB5.out.2 (by omega)⟩
theorem zeros64N : (#[.int .u8 0,.int .u8 0,.int .u8 0,.int .u8 0,.int .u8 0,.int .u8 0,.int .u8 0,.int .u8 0,.int .u8 0,.int .u8 0,.int .u8 0,.int .u8 0,.int .u8 0,.int .u8 0,.int .u8 0,.int .u8 0,.int .u8 0,.int .u8 0,.int .u8 0,.int .u8 0,.int .u8 0,.int .u8 0,.int .u8 0,.int .u8 0,.int .u8 0,.int .u8 0,.int .u8 0,.int .u8 0,.int .u8 0,.int .u8 0,.int .u8 0,.int .u8 0,.int .u8 0,.int .u8 0,.int .u8 0,.int .u8 0,.int .u8 0,.int .u8 0,.int .u8 0,.int .u8 0,.int .u8 0,.int .u8 0,.int .u8 0,.int .u8 0,.int .u8 0,.int .u8 0,.int .u8 0,.int .u8 0,.int .u8 0,.int .u8 0,.int .u8 0,.int .u8 0,.int .u8 0,.int .u8 0,.int .u8 0,.int .u8 0,.int .u8 0,.int .u8 0,.int .u8 0,.int .u8 0,.int .u8 0,.int .u8 0,.int .u8 0,.int .u8 0] : Array Value) = arrOf 64 (fun _ => .int .u8 0):=rfl
def kvI (i : Nat) : KV:=⟨fun _ => 0,fun j => if j < i then 1 else 0⟩
theorem parts_pair {w : World} {ga gb t D M : Nat} (ha : w.rowIs ga 5 32 (fun j => .int .u8 (be D j : Nat))) (hb : w.rowIs gb 5 32 (fun j => .int .u8 (be M j : Nat))) :
  Parts3 (w.alloc (.cells #[.slice (some ⟨ga,0,none⟩) 32 32,.slice (some ⟨gb,0,none⟩) 32 32] t)) (some ⟨w.heap.size,0,none⟩) 2 (fun r => if r = 0 then some ⟨ga,0,none⟩ else some ⟨gb,0,none⟩) (fun _ => 32) (fun _ => 32) (fun r => if r = 0 then be D else be M) where
 row:=.inr ⟨_,0,rfl,by simp,fun r hr => by
  rw [Nat.zero_add,cell_of_row _ _ r _ t (0,0) (heap_alloc_last w _)]
  obtain rfl | rfl : r = 0 ∨ r = 1:=by omega
  ·
   rfl
  ·
   rfl⟩
 src:=fun r hr => by
  obtain rfl | rfl : r = 0 ∨ r = 1:=by omega
  ·
   exact .inr ⟨ga,0,rfl,by have:=ha.lt; simp; omega,by have:=ha.lt; simp; omega,fun j hj => by rw [Nat.zero_add]; exact (ha.alloc _).cell hj⟩
  ·
   exact .inr ⟨gb,0,rfl,by have:=hb.lt; simp; omega,by have:=hb.lt; simp; omega,fun j hj => by rw [Nat.zero_add]; exact (hb.alloc _).cell hj⟩
 cap:=fun _ _ => Nat.le_refl _
 lt:=fun r j => by
  show (if r = 0 then be D else be M) j < 256
  split
  ·
   exact be_lt D j
  ·
   exact be_lt M j
theorem nmix_two (g : Nat) (hg : g ≠ 0) (s : KV) (hs : s.Ok) (b : Nat) (hb : b < 256) (ga gb t D M : Nat) (w : World) (hK : KT w) (hS : SRow w g s)
  (hra : w.rowIs ga 5 32 (fun j => .int .u8 (be D j : Nat))) (hrb : w.rowIs gb 5 32 (fun j => .int .u8 (be M j : Nat))) :
  Calls Tryz.prog 145 #[.pointer (some ⟨g,0,none⟩),.int .u8 (b : Int),.slice (some ⟨w.heap.size,0,none⟩) 2 2] (w.alloc (.cells #[.slice (some ⟨ga,0,none⟩) 32 32,.slice (some ⟨gb,0,none⟩) 32 32] t)) fun e w' =>
   e = .returned (.tuple #[]) ∧ SRow w' g (s.mix b (two D M) 64) ∧ But g (w.alloc (.cells #[.slice (some ⟨ga,0,none⟩) 32 32,.slice (some ⟨gb,0,none⟩) 32 32] t)) w':=by
 have h:=nmix_calls g hg s hs b hb _ 2 2 _ _ _ _ (by decide) (show lenN (fun _ => 32) 2 ≤ 1000 by decide) _ (hK.alloc _) (hS.alloc _) (parts_pair (t:=t) hra hrb)
 have e : textN (fun _ => 32) (fun r => if r = 0 then be D else be M) 2 = two D M:=by
  show cat (cat (fun _ => 0) 0 (be D)) 32 (be M) = _
  rw [zhf]; rfl
 rw [e] at h
 exact h
theorem be_slice (X : Nat) (w : World) : Calls Tryz.prog 65 #[nv X] w fun e w' => ∃ g,e = .returned (.slice (some ⟨g,0,none⟩) 32 32) ∧ w.heap.size ≤ g ∧ w'.rowIs g 5 32 (fun j => .int .u8 (be X j : Nat)) ∧ Ext w w' :=
 (bytes_calls X w).mono fun _ _ ⟨g,he,hl,hr,hb⟩ => ⟨g,he,hl,hr,hb⟩
theorem newSource_calls (D : Nat) (y : Nat → Nat) (hy : ∀ j,y j < 256) (w : World) (hK : KT w) :
  Calls Tryz.prog 113 #[nv D,.agg (arrOf 32 fun i => .int .u8 (y i : Nat))] w fun e w' => ∃ g,e = .returned (.pointer (some ⟨g,0,none⟩)) ∧ w.heap.size ≤ g ∧ SRow w' g (kvS D (num32 y % Pt.nn)) ∧ Ext w w':=by
 obtain ⟨F,hF⟩ : ∃ F,F = arrOf 32 fun i => Value.int .u8 (y i : Nat):=⟨_,rfl⟩
 obtain ⟨M,hM⟩ : ∃ M,M = num32 y % Pt.nn:=⟨_,rfl⟩
 rw [← hF,← hM]
 have HR:=veil (show ∀ W,Calls Tryz.prog 144 #[.agg F] W fun e w' => e = .returned (nv M) ∧ Ext W w' from fun W => by rw [hF,hM]; exact reduced_calls y hy W)
 have HF:=veil (show F.size = 32 ∧ (Tryz.prog.info? 43).map (·.size) = some F.size from by rw [hF,zba]; exact ⟨rfl,infoD⟩)
 have HK:=veil hK
 clear hF hM hK hy
 show Calls _ _ #[.agg (nc D),.agg F] w _
 obtain ⟨C,hC⟩ : ∃ C,C = nc D:=⟨_,rfl⟩
 rw [← hC]
 have HC:=veil hC
 clear hC
 go_enter Tryz.func113,Tryz.ntmps113
 go_upto_region 2 with (fail)
 rw [zeros64N]
 have hc1 : (w.alloc (.cells C 26)).heap[w.heap.size]? = some (.cells C 26 (0,0)):=heap_alloc_last w _
 have hz1 : (w.alloc (.cells C 26)).heap.size = w.heap.size + 1:=by simp
 have hE1 : Ext w (w.alloc (.cells C 26)):=Ext.alloc _ _
 generalize w.alloc (.cells C 26) = w1 at *
 have hf2 : (w1.alloc (.cells F 43)).heap[w.heap.size + 1]? = some (.cells F 43 (0,0)):=by rw [← hz1]; exact heap_alloc_last w1 _
 have hz2 : (w1.alloc (.cells F 43)).heap.size = w.heap.size + 1 + 1:=by simp [hz1]
 have hE2:=Ext.alloc w1 (.cells F 43)
 have hc2:=hE2.block hc1
 replace hE2:=hE1.trans hE2
 clear hc1 hE1 hz1
 generalize w1.alloc (.cells F 43) = w2 at *
 have hS3 : SRow (w2.alloc (.cells (arrOf 64 (fun _ => .int .u8 0)) 180)) (w.heap.size + 1 + 1) (kvI 0):=(zbz w2 64 180 (fun _ => Value.int .u8 0) hz2.symm).congr fun j hj => by
  unfold sb kvI
  split <;> simp
 have hE3:=Ext.alloc w2 (.cells (arrOf 64 (fun _ => .int .u8 0)) 180)
 have hc3:=hE3.block hc2
 have hf3:=hE3.block hf2
 replace hE3:=hE2.trans hE3
 clear hc2 hf2 hE2 hz2
 generalize w2.alloc (.cells (arrOf 64 (fun _ => .int .u8 0)) 180) = w3 at *
 generalize hg : w.heap.size + 1 + 1 = g at *
 have H3:=veil (And.intro hE3 (And.intro hc3 (And.intro hf3 (show w.heap.size + 1 < g by omega))))
 clear hE3 hc3 hf3 hg
 go_upto_region 3 with (fail)
 go_loopw [11] (fun v wr => ∃ i : Nat,i ≤ 32 ∧ v = .int .i64 (i : Int) ∧ SRow wr g (kvI i) ∧ But g w3 wr)
  (fun v _ => 32 - (intOf v).toNat)
 case atStart => exact ⟨0,by omega,rfl,hS3,But.refl _ _⟩
 case round =>
  clear hS3
  obtain ⟨i,hi,rfl,hS,hB⟩:=hrel
  by_cases hlt : i < 32
  ·
   have c0:=hS.cellV i hlt
   have f0:=World.rowIs.frozen hS (32 + i)
   go_wp2
   go_roundw
   case rel =>
    refine ⟨i + 1,by omega,by go_num,(World.rowIs.set hS (32 + i) _).congr fun j hj => ?_,hB.set _ _⟩
    unfold sb kvI
    by_cases h : j = 32 + i
    ·
     rw [if_pos h,if_neg (by omega)]
     show Value.int .u8 1 = .int .u8 (((if j - 32 < i + 1 then 1 else 0 : Nat)) : Int)
     rw [if_pos (by omega)]; rfl
    ·
     rw [if_neg h]
     by_cases h2 : j < 32
     ·
      rw [if_pos h2,if_pos h2]
     ·
      rw [if_neg h2,if_neg h2]
      by_cases h3 : j - 32 < i
      ·
       simp [h3,show j - 32 < i + 1 by omega]
      ·
       simp [h3,show ¬ j - 32 < i + 1 by omega]
   case measure => simp [intOf]; omega
  ·
   obtain rfl : i = 32:=by omega
   have hS0 : SRow wr g kv0:=World.rowIs.congr hS fun j hj => by
    unfold sb kvI kv0
    by_cases h2 : j < 32
    ·
     rw [if_pos h2,if_pos h2]
    ·
     rw [if_neg h2,if_neg h2]
     simp [show j - 32 < 32 by omega]
   have hc:=(hB.block _ (Array.getElem?_eq_some_iff.1 H3.out.2.1).1 (by have:=H3.out.2.2.2; intro e; injection e; omega)).trans H3.out.2.1
   have hf:=(hB.block _ (Array.getElem?_eq_some_iff.1 H3.out.2.2.1).1 (by have:=H3.out.2.2.2; intro e; injection e; omega)).trans H3.out.2.2.1
   have hE : Ext w wr:=Below.trans H3.out.1 (But.new hB (by have:=H3.out.2.2.2; omega) H3.out.1.size)
   have HI:=veil (show (Tryz.prog.info? 26).map (·.size) = some C.size from by rw [HC.out]; exact iN D)
   have KB1:=veil (fun W => be_slice D W)
   rw [show nv D = .agg C from by rw [HC.out]; rfl] at KB1
   have KB2:=veil (fun W => be_slice M W)
   go_upto_region 7 with (fail)
   go_cut [7,8] from 20 to 24 (fun v7 v8 wx => ∃ ga gb,wr.heap.size ≤ ga ∧ wr.heap.size ≤ gb ∧ v7 = .slice (some ⟨ga,0,none⟩) 32 32 ∧ v8 = .slice (some ⟨gb,0,none⟩) 32 32 ∧ wx.rowIs ga 5 32 (fun j => .int .u8 (be D j : Nat)) ∧ wx.rowIs gb 5 32 (fun j => .int .u8 (be M j : Nat)) ∧ Ext wr wx)
   case first =>
    refine wp_region_noPanic ?_
    refine wp_region_held_drew (S:=fun W => Ext wr W) (by kernel_rfl) (Ext.drew _) (fun hH => ?_)
    refine wpAnyH_take (i:=0) (v:=.agg C) rfl (by kernel_rfl) (by kernel_rfl) (by decide +kernel) (fun _ _ _ h => h) (yif_load (by rfl) rfl rfl hc Tryz.underlying26 rfl HI.out) hH ?_
    refine wpAnyH_take (i:=2) (v:=.agg F) rfl (by kernel_rfl) (by kernel_rfl) (by decide +kernel) (fun _ _ _ h => h) (yif_load (by rfl) rfl rfl hf Tryz.underlying43 rfl HF.out.2) hH ?_
    refine wpAnyH_ready (rs:=[1]) (by decide +kernel) (by simp) ?_
    refine AllReadyH.cons rfl (fun K hK => ?_) AllReadyH.nil
    go_simp
    refine (KB1.out _).mono ?_
    rintro e w4 ⟨ga,rfl,hla,hra,hE4⟩
    replace hla:=Nat.le_trans (Below.size hH) hla
    refine hK.out _ _ (hH.trans hE4) (fun hH => ?_)
    clear hK K hE4
    refine wpAnyH_ready (rs:=[3]) (by decide +kernel) (by simp) ?_
    refine AllReadyH.cons rfl (fun K hK => ?_) AllReadyH.nil
    go_simp
    refine (HR.out _).mono ?_
    rintro e w5 ⟨rfl,hE5⟩
    refine hK.out _ _ (hH.trans hE5) (fun hH => ?_)
    replace hra:=Ext.row hra hE5
    clear hK K hE5
    refine wpAnyH_ready (rs:=[4]) (by decide +kernel) (by simp) ?_
    refine AllReadyH.cons rfl (fun K hK => ?_) AllReadyH.nil
    go_simp
    refine (KB2.out _).mono ?_
    rintro e w6 ⟨gb,rfl,hlb,hrb,hE6⟩
    replace hlb:=Nat.le_trans (Below.size hH) hlb
    refine hK.out _ _ (hH.trans hE6) (fun hH => ?_)
    replace hra:=Ext.row hra hE6
    clear hK K hE6
    refine wpAnyH_take (i:=5) (v:=.slice (some ⟨ga,0,none⟩) 32 32) rfl (by kernel_rfl) (by kernel_rfl) (by decide +kernel) (fun _ _ _ h => h) (Or.inl ⟨by rfl,fun W hSw => (by dsimp only at hSw; go_simp)⟩) hH ?_
    refine wpAnyH_take (i:=6) (v:=.slice (some ⟨gb,0,none⟩) 32 32) rfl (by kernel_rfl) (by kernel_rfl) (by decide +kernel) (fun _ _ _ h => h) (Or.inl ⟨by rfl,fun W hSw => (by dsimp only at hSw; go_simp)⟩) hH ?_
    refine wpAnyH_done (by decide +kernel) ?_ _
    refine NoPanic.normal ?_
    simp only [Act.put,List.setIfInBounds_toArray,List.set_cons_zero,List.set_cons_succ,List.getElem_toArray,List.getElem_cons_zero,List.getElem_cons_succ]
    go_wp2_with fail
    go_meet
    case rel => exact ⟨ga,gb,hla,hlb,rfl,rfl,hra,hrb,hH⟩
   case rest =>
    obtain ⟨ga,gb,hla,hlb,rfl,rfl,hra,hrb,hEx⟩:=hcut
    have hlg:=hS0.lt
    have hgw : w.heap.size < g:=by have:=H3.out.2.2.2; omega
    have H:=veil (And.intro (HK.out.call (hE.trans hEx)) (And.intro (hS0.call hEx) (And.intro hra (And.intro hrb (hE.trans hEx)))))
    have HN:=veil (show g ≠ 0 ∧ ga ≠ g ∧ gb ≠ g ∧ w.heap.size ≤ g from ⟨by omega,by omega,by omega,by omega⟩)
    clear hE hEx hS0 hc hf HI KB1 KB2 hS hB hi hlt H3 HR HF HK hra hrb hla hlb hlg hgw
    have HQ:=veil (show Calls Tryz.prog 145 #[.pointer (some ⟨g,0,none⟩),.int .u8 0,.slice (some ⟨wc.heap.size,0,none⟩) 2 2] (wc.alloc (.cells #[.slice (some ⟨ga,0,none⟩) 32 32,.slice (some ⟨gb,0,none⟩) 32 32] 29)) _ from
     nmix_two g HN.out.1 kv0 kv0_ok 0 (by decide) ga gb 29 D M wc H.out.1 H.out.2.1 H.out.2.2.1 H.out.2.2.2.1)
    go_upto_region 9 with (go_at_call 145; refine HQ.out.mono ?_; rintro e w4 ⟨rfl,hS4,hB4⟩)
    have hB4:=(But.alloc (But.refl g wc) (.cells #[.slice (some ⟨ga,0,none⟩) 32 32,.slice (some ⟨gb,0,none⟩) 32 32] 29)).trans hB4
    have H4:=veil (And.intro (H.out.1.grown hB4 (Ne.symm HN.out.1)) (And.intro hS4 (And.intro (zeq H.out.2.2.1 hB4 HN.out.2.1) (And.intro (zeq H.out.2.2.2.1 hB4 HN.out.2.2.1) (Below.trans H.out.2.2.2.2 (But.new hB4 HN.out.2.2.2 H.out.2.2.2.2.size))))))
    clear H HQ hS4 hB4
    have HQ:=veil (show Calls Tryz.prog 145 #[.pointer (some ⟨g,0,none⟩),.int .u8 1,.slice (some ⟨w4.heap.size,0,none⟩) 2 2] (w4.alloc (.cells #[.slice (some ⟨ga,0,none⟩) 32 32,.slice (some ⟨gb,0,none⟩) 32 32] 29)) _ from
     nmix_two g HN.out.1 _ (kv0_ok.mix _ _ _) 1 (by decide) ga gb 29 D M w4 H4.out.1 H4.out.2.1 H4.out.2.2.1 H4.out.2.2.2.1)
    go_upto_region 10 with (go_at_call 145; refine HQ.out.mono ?_; rintro e w5 ⟨rfl,hS5,hB5⟩)
    have hB5:=(But.alloc (But.refl g w4) (.cells #[.slice (some ⟨ga,0,none⟩) 32 32,.slice (some ⟨gb,0,none⟩) 32 32] 29)).trans hB5
    have H5:=veil (And.intro hS5 (Below.trans H4.out.2.2.2.2 (But.new hB5 HN.out.2.2.2 H4.out.2.2.2.2.size)))
    clear H4 HQ hS5 hB5
    go_wp2
    go_ret
    exact ⟨g,rfl,HN.out.2.2.2,H5.out.1,H5.out.2⟩
theorem pre_step {D M many i : Nat} (h : ∀ j,j < i → (outN D M j).length < many) (hi : (outN D M i).length < many) : ∀ j,j < i + 1 → (outN D M j).length < many:=fun j hj => by
 rcases Nat.lt_or_ge j i with e | e
 ·
  exact h j e
 ·
  have : j = i:=by omega
  subst this
  exact hi
theorem But.belowAt {w w' w'' : World} {g B : Nat} (h : But g w w') (hb : Below B w' w'') (hB : w.heap.size ≤ B) : But g w w'' :=
 ⟨hb.os.trans h.os,hb.tape.trans h.tape,hb.output.trans h.output,Nat.le_trans h.size hb.size,fun k hk hne => (hb.block k (by omega)).trans (h.block k hk hne)⟩
theorem firstOf_calls (D M many g : Nat) (hm : many ≤ 16) (hg : g ≠ 0) (w : World) (hK : KT w) (hS : SRow w g (kvS D M)) :
  Calls Tryz.prog 112 #[.func (.func 114) #[.pointer (some ⟨g,0,none⟩)] #[],.int .i64 (many : Int)] w fun e w' => (∃ s,Ends D M many s ∧
   ((¬ (outN D M s).length < many ∧ ∃ v,e = .returned (.tuple #[v,.nilIface]) ∧ OwnN w' w.heap.size v (outN D M s)) ∨
    ((outN D M s).length < many ∧ e = .returned (.tuple #[.slice none 0 0,.iface 35 (.int .i64 4)])))) ∧ But g w w':=by
 have HK:=veil hK
 have HG:=veil (And.intro hg hm)
 have hlt:=hS.lt
 have h0 : (0 : Int) ≤ (many : Int):=by omega
 have h16 : (many : Int) ≤ 16:=by omega
 obtain ⟨i4,hi4,hz4,hsz4,hby4⟩:=info_parts4 infoN32
 obtain ⟨w1,hr,hO1,hgr⟩:=run_make_own (P:=Tryz.prog) w w.heap.size 73 26 i4 _ 4 Tryz.underlying73 hi4 hz4 hsz4 .i64 .i64 many (by rw [hby4]; omega) (by unfold maxLen; omega) (Nat.le_refl _)
 have hE1 : Ext w w1:=zej (Below.refl _ _) hgr (Nat.le_refl _) (fun k e => by cases e)
 have hS1:=hS.call hE1
 have hB1 : But g w w1:=But.of_below hE1
 have hO1 : OwnN w1 w.heap.size (.slice (some ⟨w.heap.size,0,none⟩) 0 many) []:=hO1
 clear hi4 hz4 hsz4 hby4 hgr hE1 hS hK hg
 go_enter Tryz.func112,Tryz.ntmps112
 go_upto_region 3 with (fail)
 clear hr
 go_loopw [6,7] (fun v6 v7 wr => ∃ i : Nat,i ≤ 100 ∧ v7 = .int .i64 (i : Int) ∧ (∀ j,j < i → (outN D M j).length < many) ∧ OwnN wr w.heap.size v6 (outN D M i) ∧ SRow wr g (kvN D M i) ∧ But g w wr)
  (fun _ v7 _ => 100 - (intOf v7).toNat)
 case atStart => exact ⟨0,by omega,rfl,fun j hj => by omega,hO1,hS1,hB1⟩
 case round =>
  clear hO1 hS1 hB1
  obtain ⟨i,hi,rfl,hpre,hO,hS,hB⟩:=hrel
  have hlw:=(show g < w.heap.size by assumption)
  obtain ⟨A,c,rfl,hnc⟩:=hO.form
  obtain ⟨n,hn⟩ : ∃ n,n = (outN D M i).length:=⟨_,rfl⟩
  rw [← hn] at hO hnc
  have HN:=veil hn
  have HP:=veil hpre
  clear hpre
  by_cases hlt : n < many
  ·
   have hd : decide ((n : Int) < (many : Int)) = true:=by simp; omega
   by_cases h100 : i = 100
   ·
    subst h100
    rw [← hn]
    have hEnd:=veil (show Ends D M many 100 ∧ (outN D M 100).length < many from ⟨⟨by omega,HP.out,.inl rfl⟩,by rw [← hn]; exact hlt⟩)
    clear hn hO hS
    go_wp2
    go_ret2
    exact ⟨⟨100,hEnd.out.1,.inr ⟨hEnd.out.2,rfl⟩⟩,hB⟩
   ·
    rw [← hn]
    have hx : ((i : Int) == 100) = false:=by simp; omega
    obtain ⟨X,hX⟩ : ∃ X,X = numN D M i:=⟨_,rfl⟩
    obtain ⟨m,hmX⟩ : ∃ m,m = mayB X:=⟨_,rfl⟩
    have HX:=veil (And.intro hX (And.intro hmX (show X < top from by rw [hX]; exact numN_lt D M i)))
    have hlg:=hS.lt
    have KN:=veil (show Calls Tryz.prog 114 #[.pointer (some ⟨g,0,none⟩)] wr fun e w' => e = .returned (nv X) ∧ SRow w' g (kvN D M (i + 1)) ∧ But g wr w' from by
     rw [hX]; exact next_calls g HG.out.1 (kvN D M i) (kvN_ok D M i) wr (HK.out.grown hB (Ne.symm HG.out.1)) hS)
    have HO:=veil hO
    have HB:=veil hB
    have HL:=veil (show (outN D M i).length < many from by rw [← hn]; exact hlt)
    have hi99 : i < 100:=by omega
    clear hn hO hX hmX hB hS hnc hO1 h100 hi
    go_upto_region 8 with (first
     | (go_at_call 114; refine KN.out.mono ?_; rintro e w2 ⟨rfl,hS2,hB2⟩)
     | ((with_reducible refine zaw ?_); refine wpList_store_row rfl 26 _ _ rfl w2.heap.size (nc X) rfl rfl 26 _ (heap_alloc_last w2 _) (iN X) (by rfl) (zbf X) ?_; rw [World.setRow_alloc_new]))
    have hE3 : Ext w2 (w2.alloc (.cells (nc X) 26)):=Ext.alloc _ _
    have hx3 : (w2.alloc (.cells (nc X) 26)).heap[w2.heap.size]? = some (.cells (nc X) 26 (0,0)):=heap_alloc_last w2 _
    generalize w2.alloc (.cells (nc X) 26) = w3 at *
    generalize w2.heap.size = gx at *
    have KC:=veil (can_calls X HX.out.2.2 w3)
    rw [← HX.out.2.1] at KC
    have HO3:=veil ((HO.out.but hB2 hlw).ext hE3)
    have H3:=veil (And.intro (hS2.call hE3) (And.intro ((HB.out.trans hB2).below hE3) hx3))
    clear hS2 hB2 hE3 hx3 HO HB KN hlg hx hd
    have hl1000 : (outN D M i).length ≤ 1000:=by have:=HL.out; omega
    cases m with
    | false =>
     go_wp2_with (first
      | ((with_reducible refine zas 22 ?_); refine wpList_load_row rfl 26 _ rfl gx rfl 26 (nc X) (0,0) _ H3.out.2.2 Tryz.underlying26 rfl (iN X) ?_)
      | (go_at_call 111; refine KC.out.mono ?_; rintro e w4 ⟨rfl,hE4⟩))
     have hout : outN D M (i + 1) = outN D M i:=by
      show (if mayB (numN D M i) = true then _ else _) = _
      rw [← HX.out.1,← HX.out.2.1]; rfl
     go_roundw
     case rel => exact ⟨i + 1,by omega,by go_num,pre_step HP.out HL.out,by rw [hout]; exact HO3.out.ext hE4,H3.out.1.call hE4,H3.out.2.1.below hE4⟩
     case measure => simp [intOf]; omega
    | true =>
     have hnc4 : (nc X).size = 4:=rfl
     go_wp2_with (first
      | ((with_reducible refine zas 22 ?_); refine wpList_load_row rfl 26 _ rfl gx rfl 26 (nc X) (0,0) _ H3.out.2.2 Tryz.underlying26 rfl (iN X) ?_)
      | (go_at_call 111; refine KC.out.mono ?_; rintro e w4 ⟨rfl,hE4⟩)
      | ((with_reducible refine zas 25 ?_); refine wpList_load_row rfl 26 _ rfl gx rfl 26 (nc X) (0,0) _ (hE4.block H3.out.2.2) Tryz.underlying26 rfl (iN X) ?_)
      | (at_builtin; refine wpl_append_num rfl _ _ rfl w.heap.size (.slice A n c) (outN D M i) rfl ((HO3.out.ext hE4).ext (Ext.alloc _ (.cells (nc X) 26))) w4.heap.size X rfl (heap_alloc_last w4 _) hl1000 (Nat.le_trans H3.out.2.1.size (Nat.le_trans hE4.size (by simp))) ?_; intro v6 w6 hO6 hg6))
     have hout : outN D M (i + 1) = outN D M i ++ [X]:=by
      show (if mayB (numN D M i) = true then _ else _) = _
      rw [← HX.out.1,← HX.out.2.1]; rfl
     have hb6 : Below w.heap.size (w4.alloc (.cells (nc X) 26)) w6:=zej (Below.refl _ _) hg6 (Nat.le_trans H3.out.2.1.size (Nat.le_trans hE4.size (by simp))) (fun k e => (HO3.out.lt e).1)
     have hS6 : SRow w6 g (kvN D M (i + 1)):=World.rowIs.of_block ((H3.out.1.call hE4).alloc (.cells (nc X) 26)) (hb6.block g hlw)
     have hB6 : But g w w6:=((H3.out.2.1.below hE4).alloc (.cells (nc X) 26)).belowAt hb6 (Nat.le_refl _)
     clear hb6 hg6 H3
     go_roundw
     case rel => exact ⟨i + 1,by omega,by go_num,pre_step HP.out HL.out,by rw [hout]; exact hO6,hS6,hB6⟩
     case measure => simp [intOf]; omega
  ·
   have hd : decide ((n : Int) < (many : Int)) = false:=by simp; omega
   have hEnd:=veil (show Ends D M many i ∧ ¬ (outN D M i).length < many from ⟨⟨hi,HP.out,.inr (by rw [← hn]; exact hlt)⟩,by rw [← hn]; exact hlt⟩)
   rw [← hn]
   have HO:=veil hO
   clear hn hS hO
   go_wp2
   go_ret2
   exact ⟨⟨i,hEnd.out.1,.inl ⟨hEnd.out.2,_,rfl,HO.out⟩⟩,hB⟩
def Res (D M many : Nat) (W : World) (base : Nat) (v ev : Value) : Prop :=
 ∃ s,Ends D M many s ∧ ((¬ (outN D M s).length < many ∧ ev = .nilIface ∧ OwnN W base v (outN D M s)) ∨ ((outN D M s).length < many ∧ v = .slice none 0 0 ∧ ev = .iface 35 (.int .i64 4)))
theorem Res.ext {D M many base : Nat} {W W' : World} {v ev : Value} (h : Res D M many W base v ev) (k : Ext W W') : Res D M many W' base v ev:=by
 obtain ⟨s,hE,h⟩:=h
 exact ⟨s,hE,h.imp (fun ⟨a,b,c⟩ => ⟨a,b,c.ext k⟩) id⟩
theorem Res.base_le {D M many base base' : Nat} {W : World} {v ev : Value} (h : Res D M many W base v ev) (k : base' ≤ base) : Res D M many W base' v ev:=by
 obtain ⟨s,hE,h⟩:=h
 exact ⟨s,hE,h.imp (fun ⟨a,b,c⟩ => ⟨a,b,c.base_le k⟩) id⟩
theorem firstOf_res (D M many g : Nat) (hm : many ≤ 16) (hg : g ≠ 0) (w : World) (hK : KT w) (hS : SRow w g (kvS D M)) :
  Calls Tryz.prog 112 #[.func (.func 114) #[.pointer (some ⟨g,0,none⟩)] #[],.int .i64 (many : Int)] w fun e w' => ∃ v ev,e = .returned (.tuple #[v,ev]) ∧ Res D M many w' w.heap.size v ev ∧ But g w w' :=
 (firstOf_calls D M many g hm hg w hK hS).mono fun e w' ⟨⟨s,hE,h⟩,hB⟩ => by
  rcases h with ⟨hn,v,rfl,hO⟩ | ⟨hn,rfl⟩
  ·
   exact ⟨v,_,rfl,⟨s,hE,.inl ⟨hn,rfl,hO⟩⟩,hB⟩
  ·
   exact ⟨_,_,rfl,⟨s,hE,.inr ⟨hn,rfl,rfl⟩⟩,hB⟩
theorem list_good (D : Nat) (hD : D < top) (y : Nat → Nat) (hy : ∀ j,y j < 256) (many : Nat) (hm : many ≤ 16) (hb : mayB D = true) (w : World) (hK : KT w) :
  Calls Tryz.prog 58 #[nv D,.agg (arrOf 32 fun i => .int .u8 (y i : Nat)),.int .i64 (many : Int)] w fun e w' => ∃ v ev,e = .returned (.tuple #[v,ev]) ∧ Res D (num32 y % Pt.nn) many w' w.heap.size v ev ∧ Ext w w':=by
 obtain ⟨M,hM⟩ : ∃ M,M = num32 y % Pt.nn:=⟨_,rfl⟩
 have KN:=veil (fun W hK => newSource_calls D y hy W hK)
 rw [← hM] at KN ⊢
 obtain ⟨F,hF⟩ : ∃ F,F = arrOf 32 fun i => Value.int .u8 (y i : Nat):=⟨_,rfl⟩
 rw [← hF] at KN ⊢
 have HF:=veil (show F.size = 32 ∧ (Tryz.prog.info? 43).map (·.size) = some F.size from by rw [hF,zba]; exact ⟨rfl,infoD⟩)
 have KC:=veil (fun W => can_calls D hD W)
 rw [hb] at KC
 have HK:=veil hK
 have HM:=veil hm
 have h0 : decide ((many : Int) < 0) = false:=decide_eq_false (by omega)
 have h16 : decide (16 < (many : Int)) = false:=decide_eq_false (by omega)
 clear hF hM hD hb hK hy hm
 obtain ⟨C,hC⟩ : ∃ C,C = nc D:=⟨_,rfl⟩
 rw [show nv D = .agg C from by rw [hC]; rfl] at KC KN ⊢
 have HC:=veil (show (Tryz.prog.info? 26).map (·.size) = some C.size from by rw [hC]; exact iN D)
 clear hC
 go_enter Tryz.func58,Tryz.ntmps58
 go_upto_region 1 with (fail)
 have hc1 : (w.alloc (.cells C 26)).heap[w.heap.size]? = some (.cells C 26 (0,0)):=heap_alloc_last w _
 have hz1 : (w.alloc (.cells C 26)).heap.size = w.heap.size + 1:=by simp
 have hE1:=Ext.alloc w (.cells C 26)
 generalize w.alloc (.cells C 26) = w1 at *
 have hf2 : (w1.alloc (.cells F 43)).heap[w.heap.size + 1]? = some (.cells F 43 (0,0)):=by rw [← hz1]; exact heap_alloc_last w1 _
 have hc2:=(Ext.alloc w1 (.cells F 43)).block hc1
 have hE2:=hE1.trans (Ext.alloc w1 (.cells F 43))
 generalize w1.alloc (.cells F 43) = w2 at *
 have H2:=veil (And.intro hc2 (And.intro hf2 (And.intro hE2 (HK.out.call hE2))))
 clear hc1 hz1 hE1 hf2 hc2 hE2 HK
 go_upto_region 3 with (first
  | ((with_reducible refine zas 8 ?_); refine wpList_load_row rfl 26 _ rfl w.heap.size rfl 26 C (0,0) _ H2.out.1 Tryz.underlying26 rfl HC.out ?_)
  | (go_at_call 111; refine (KC.out _).mono ?_; rintro e w4 ⟨rfl,hE4⟩))
 have H4:=veil (And.intro (hE4.block H2.out.1) (And.intro (hE4.block H2.out.2.1) (And.intro (H2.out.2.2.1.trans hE4) (H2.out.2.2.2.call hE4))))
 clear H2 hE4 h0 h16
 go_wp2_with (first
  | ((with_reducible refine zas 20 ?_); refine wpList_load_row rfl 26 _ rfl w.heap.size rfl 26 C (0,0) _ H4.out.1 Tryz.underlying26 rfl HC.out ?_)
  | ((with_reducible refine zas 21 ?_); refine wpList_load_row rfl 43 _ rfl (w.heap.size + 1) rfl 43 F (0,0) _ H4.out.2.1 Tryz.underlying43 rfl HF.out.2 ?_)
  | (go_at_call 113; refine (KN.out _ H4.out.2.2.2).mono ?_; rintro e w5 ⟨g,rfl,hgw,hS5,hE5⟩)
  | (go_at_call 112; refine (firstOf_res D M many g HM.out (by have:=H4.out.2.2.2.lt; omega) w5 (H4.out.2.2.2.call hE5) hS5).mono ?_; rintro e w6 ⟨v,ev,rfl,hR,hB⟩))
 go_ret2
 have hE : Ext w w6:=Below.trans (H4.out.2.2.1.trans hE5) (But.new hB (Nat.le_trans H4.out.2.2.1.size hgw) (H4.out.2.2.1.trans hE5).size)
 exact ⟨v,ev,rfl,hR.base_le (H4.out.2.2.1.trans hE5).size,hE⟩
/-! ### the field of n -/
def Fn (w : World) (b : Nat) : Prop:=∃ N Q,Fok Pt.nn N Q ∧ Fb w b Pt.nn N Q
theorem Fn.ext {w w' : World} {b : Nat} (h : Fn w b) (k : Ext w w') : Fn w' b:=by
 obtain ⟨N,Q,h1,h2⟩:=h
 exact ⟨N,Q,h1,h2.call k⟩
theorem Fn.but {w w' : World} {b r : Nat} (h : Fn w b) (k : But r w w') (hne : b ≠ r) : Fn w' b:=by
 obtain ⟨N,Q,h1,h2⟩:=h
 exact ⟨N,Q,h1,World.rowIs.of_block h2 (k.block b h2.lt (fun e => hne (Option.some.inj e)))⟩
section
variable {b : Nat} {w : World}
theorem nadd_p {X Y Z : Nat} (hZ : Z = (X % Pt.nn + Y % Pt.nn) % Pt.nn) (hX : X < top) (hY : Y < top) (hF : Fn w b) : Calls Tryz.prog 104 #[ptrTo b,nv X,nv Y] w fun e w' => e = .returned (nv Z) ∧ Ext w w':=by
 obtain ⟨N,Q,h1,h2⟩:=hF
 exact zha b X Y Pt.nn N Q Z hX hY h1 hZ.symm w h2
theorem ncut_p {X Z : Nat} (hZ : Z = X % Pt.nn) (hX : X < top) (hF : Fn w b) : Calls Tryz.prog 104 #[ptrTo b,nv X,nv 0] w fun e w' => e = .returned (nv Z) ∧ Ext w w' :=
 nadd_p (by rw [hZ,Nat.zero_mod,Nat.add_zero,Nat.mod_mod]) hX zdq hF
theorem nmul_p {X Y Z : Nat} (hZ : Z = X * Y % Pt.nn) (hX : X < top) (hY : Y < top) (hF : Fn w b) : Calls Tryz.prog 89 #[ptrTo b,nv X,nv Y] w fun e w' => e = .returned (nv Z) ∧ Ext w w':=by
 obtain ⟨N,Q,h1,h2⟩:=hF
 exact fmul2_calls b X Y Pt.nn N Q Z hX hY h1 hZ.symm w h2
theorem ninv_p {X t : Nat} (h0 : X ≠ 0) (hX : X < Pt.nn) (ht : t = Pt.iG Pt.nn X) (hF : Fn w b) : Calls Tryz.prog 87 #[ptrTo b,nv X] w fun e w' => e = .returned (.tuple #[nv t,.nilIface]) ∧ Ext w w':=by
 obtain ⟨N,Q,h1,h2⟩:=hF
 refine (zij b X Pt.nn N Q (Nat.lt_trans hX zdp) h1 w h2).mono ?_
 rintro e w' ⟨⟨y,hy,hi,rfl⟩,hb⟩
 have hg:=Pt.gcd_nn h0 hX
 have e1 : y = t:=by rw [ht]; exact Pt.iG_of Pt.nn Pt.nn_root Pt.nn_one hy (hi hg)
 rw [zih hg,e1]
 exact ⟨rfl,hb⟩
end
/-! ### a maker -/
def mc (g D E : Nat) : Array Value:=#[ptrTo g,vI vU (wd D 0),vI vU (wd D 1),vI vU (wd D 2),vI vU (wd D 3),vI vU (wd E 0),vI vU (wd E 1),vI vU (wd E 2),vI vU (wd E 3)]
def mv (g D E : Nat) : Value:=.agg (mc g D E)
theorem mc_one (g D E : Nat) : (mc g D E).all (·.oneCell') = true:=by simp [mc,ptrTo,Value.oneCell']
theorem iMk (g D E : Nat) : (Tryz.prog.info? 111).map (·.size) = some (mc g D E).size:=by kernel_rfl
theorem gz_size (r s : Nat) : (#[vI vU 0,vI vU 0,vI vU 0,vI vU 0,vI vU 0,vI vU 0,vI vU 0,vI vU 0] : Array Value).size = (gc r s).size:=by simp [gc]
theorem qz_size (x y : Nat) (f : Bool) : (#[vI vU 0,vI vU 0,vI vU 0,vI vU 0,vI vU 0,vI vU 0,vI vU 0,vI vU 0,.bool false] : Array Value).size = (qc x y f).size:=by simp [qc]
theorem gc_size (r s : Nat) : (gc 0 0).size = (gc r s).size:=by simp [gc]
theorem zja (W : World) : (isAgg 109).run Tryz.prog W = .ok false W:=by simp [isAgg,go_sem]
section
variable (g : Nat) (W : World)
theorem fldM0 : (Instr.fieldAt 111 (ptrTo g) 0).run Tryz.prog W = .ok (.pointer (some ⟨g,0,none⟩)) W:=by simp [Instr.fieldAt,go_sem]
theorem fldM1 : (Instr.fieldAt 111 (ptrTo g) 1).run Tryz.prog W = .ok (.pointer (some ⟨g,1,none⟩)) W:=by simp [Instr.fieldAt,go_sem]
theorem fldM2 : (Instr.fieldAt 111 (ptrTo g) 2).run Tryz.prog W = .ok (.pointer (some ⟨g,5,none⟩)) W:=by simp [Instr.fieldAt,go_sem]
theorem bldM (D E : Nat) : (Instr.build 111 [(0,ptrTo g),(1,nv D),(2,nv E)].toArray).run Tryz.prog W = .ok (mv g D E) W:=by simp [Instr.build,go_sem,nv,nc,mv,mc]
end
theorem zfw {S : World → Prop} {P : Program} {ops : Array Oper} {o : Oper} {a : Act} {ty : TypeId} {parts : List (Nat × Operand)} {vs : List (Nat × Value)} {v : Value} (hw : Region.wanted o (yielded ops a.tmps) = true) (ho : o.op = .build ty parts.toArray) (hx : parts.map (fun p => (p.1,a.eval p.2)) = vs)
  (hb : ∀ W,(Instr.build ty vs.toArray).run P W = .ok v W) : YieldsIf P ops S o v a:=Or.inl ⟨hw,fun W _ => by
 unfold execOp
 simp only [ho,List.map_toArray]
 rw [show (parts.map fun x => match x with | (i,x) => (i,a.eval x)) = vs from hx]
 simp only [Sem.run_bind,hb W,Result.andThen_ok,Sem.run_pure]⟩
theorem yif_pickB {S : World → Prop} {P : Program} {ops : Array Oper} {o : Oper} {a : Act} {c x y : Operand} {b : Bool} {v : Value} (hw : Region.wanted o (yielded ops a.tmps) = true) (ho : o.op = .pick c x y) (hc : a.eval c = .bool b) (hx : (if b then a.eval x else a.eval y) = v) : YieldsIf P ops S o v a:=Or.inl ⟨hw,fun W _ => by
 unfold execOp
 simp only [ho]
 generalize a.eval = ρ at *
 subst hx
 rw [hc]
 cases b <;> simp [go_sem,asBool]⟩
/-! ### what the layers below answer -/
theorem ofl_is {y : Nat → Nat} {X : Nat} (hy : ∀ j,y j < 256) (hX : X = num32 y) {g : Nat} (w : World) (hb : w.heap[g]? = some (.cells (dgc y) 43 (0,0))) : Calls Tryz.prog 83 #[.slice (some ⟨g,0,none⟩) 32 32] w fun e w' => e = .returned (.tuple #[nv X,.nilIface]) ∧ Ext w w':=by
 subst hX
 exact ziu g 0 32 32 y hy (by decide) w (Array.getElem?_eq_some_iff.1 hb).1 (fun j hj => by rw [Nat.zero_add,cell_of_row w g j _ _ _ hb]; exact zdb _ hj)
theorem mulb_is {K : Nat} (hK : K < top) {P : Pt.Q} (hP : P = Pt.grp.mul K Pt.base) (w : World) : Calls Tryz.prog 53 #[nv K,qv Pt.gx Pt.gy false] w fun e w' => e = .returned (.tuple #[qv (Pt.pX P.1) (Pt.pY P.1) (Pt.pFar P.1),.nilIface]) ∧ Ext w w':=by
 subst hP
 have h:=mul_yes K hK Pt.base w
 unfold qvP at h
 rwa [base_x.1,base_x.2.1,base_x.2.2] at h
theorem mulq_is {K X Y : Nat} {f : Bool} (hK : K < top) {p q : Pt.Q} (hp : X = Pt.pX p.1 ∧ Y = Pt.pY p.1 ∧ f = Pt.pFar p.1) (hq : q = Pt.grp.mul K p) (w : World) : Calls Tryz.prog 53 #[nv K,qv X Y f] w fun e w' => e = .returned (.tuple #[qv (Pt.pX q.1) (Pt.pY q.1) (Pt.pFar q.1),.nilIface]) ∧ Ext w w':=by
 obtain ⟨rfl,rfl,rfl⟩:=hp
 subst hq
 exact mul_yes K hK p w
theorem addq_is {a b c : Pt.Q} (hc : c = Pt.grp.op a b) (w : World) : Calls Tryz.prog 134 #[qv (Pt.pX a.1) (Pt.pY a.1) (Pt.pFar a.1),qv (Pt.pX b.1) (Pt.pY b.1) (Pt.pFar b.1)] w fun e w' => e = .returned (.tuple #[qv (Pt.pX c.1) (Pt.pY c.1) (Pt.pFar c.1),.nilIface]) ∧ Ext w w':=by
 subst hc; exact add_yes a b w
theorem onp_is {X Y : Nat} {f r : Bool} (h : onB X Y f = r) (hX : X < top) (hY : Y < top) (w : World) : Calls Tryz.prog 22 #[qv X Y f] w fun e w' => e = .returned (.bool r) ∧ Ext w w':=by
 subst h; exact on_is X Y f hX hY w
theorem eqN0 {X : Nat} (hX : X < top) (h0 : X ≠ 0) (W : World) : (binOp .eql 26 (nv X) (nv 0)).run Tryz.prog W = .ok (.bool false) W:=by
 have e:=eql_num hX zdq W
 rw [decide_eq_false h0] at e
 exact e
end Go.Proofs.YtedehdbajiaaiaaGreatDoor
