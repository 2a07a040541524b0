/-
  Of CM CR CD D2 D3 D4.
-/
import Derived.Test.YtmfjigcdhijkjaaDoorZB33
import Derived.Test.YtmfjigcdhijkjaaDoorZB35
import Derived.Test.YtmfjigcdhijkjaaDoorZB34
import Derived.Test.YtmfjigcdhijkjaaDoorZB5
import Derived.Test.YtmfjigcdhijkjaaDoorZB17
import Derived.Test.YtmfjigcdhijkjaaDoorZB13
import Derived.Test.YtmfjigcdhijkjaaDoorZB14
set_option maxRecDepth 1000000
set_option maxHeartbeats 20000000
namespace Go.Proofs.YtmfjigcdhijkjaaDoor
open Go.RowKit
open Go.Act renaming put → aP
open List renaming setIfInBounds_toArray → lA, set_cons_zero → lZ, set_cons_succ → lS
def Rep (x y z : Fe) : Pt.P Pt.pp → Prop
 | none => z = 0
 | some (X,Y) => z ≠ 0 ∧ x = X * (z * z) ∧ y = Y * (z * z * z)
section
variable {n : Nat} [NeZero n]
theorem rt_m {X Y z l x Z s u : Fin n} (hl : l * (Y + Y) = 3 * (X * X - 1)) (hx : x = X * (z * z)) (hZ : Z = Y * (z * z * z) * z + Y * (z * z * z) * z) (hs : s = x - z * z) (hu : u = x + z * z) : s * u + s * u + s * u = l * Z:=by
 subst hs hu hx hZ
 have h : l * (Y * (z * z * z) * z + Y * (z * z * z) * z) = l * (Y + Y) * (z * z * z * z):=by grobner
 rw [h,hl]
 grobner
theorem rt_c {X Y z x y Z : Fin n} (hx : x = X * (z * z)) (hy : y = Y * (z * z * z)) (hZ : Z = y * z + y * z) : (x * (y * y) + x * (y * y)) + (x * (y * y) + x * (y * y)) = X * (Z * Z):=by
 subst hZ hy hx
 grobner
theorem rt_x {m l Z c X : Fin n} (hm : m = l * Z) (hc : c = X * (Z * Z)) : m * m - (c + c) = (l * l - X - X) * (Z * Z):=by
 subst hm hc
 grobner
theorem rt_t {Y z y Z : Fin n} (hy : y = Y * (z * z * z)) (hZ : Z = y * z + y * z) : ((y * y * (y * y) + y * y * (y * y)) + (y * y * (y * y) + y * y * (y * y))) + ((y * y * (y * y) + y * y * (y * y)) + (y * y * (y * y) + y * y * (y * y))) = Y * (Z * Z * Z):=by
 subst hZ hy
 grobner
theorem rt_y {m l Z c X x3 X3 t Y : Fin n} (hm : m = l * Z) (hc : c = X * (Z * Z)) (hx : x3 = X3 * (Z * Z)) (ht : t = Y * (Z * Z * Z)) : m * (c - x3) - t = (l * (X - X3) - Y) * (Z * Z * Z):=by
 subst hm hc hx ht
 grobner
theorem rp_run {X1 X2 z x : Fin n} (hx : x = X1 * (z * z)) : X2 * (z * z) - x = (X2 - X1) * (z * z):=by subst hx; grobner
theorem rp_rise {Y1 Y2 z y : Fin n} (hy : y = Y1 * (z * z * z)) : Y2 * (z * z * z) - y = (Y2 - Y1) * (z * z * z):=by subst hy; grobner
theorem rp_l {X1 X2 Y1 Y2 z l run Z : Fin n} (hl : l * (X2 - X1) = Y2 - Y1) (hr : run = (X2 - X1) * (z * z)) (hZ : Z = z * run) : (Y2 - Y1) * (z * z * z) = l * Z:=by
 subst hZ hr
 rw [← hl]
 grobner
theorem rp_x {X1 X2 z l run Z rise x : Fin n} (hx : x = X1 * (z * z)) (hr : run = (X2 - X1) * (z * z)) (hZ : Z = z * run) (hs : rise = l * Z) :
  rise * rise - run * run * run - (x * (run * run) + x * (run * run)) = (l * l - X1 - X2) * (Z * Z):=by
 subst hs hZ hr hx
 grobner
theorem rp_y {X1 Y1 X2 z l run Z rise x y x3 X3 : Fin n} (hx : x = X1 * (z * z)) (hy : y = Y1 * (z * z * z)) (hr : run = (X2 - X1) * (z * z)) (hZ : Z = z * run) (hs : rise = l * Z) (h3 : x3 = X3 * (Z * Z)) :
  rise * (x * (run * run) - x3) - y * (run * run * run) = (l * (X1 - X3) - Y1) * (Z * Z * Z):=by
 subst h3 hs hZ hr hx hy
 grobner
theorem rf_x {X x z t : Fin n} (hx : x = X * (z * z)) (ht : z * t = 1) : x * (t * t) = X:=by
 subst hx
 have h : X * (z * z) * (t * t) = X * (z * t) * (z * t):=by grobner
 rw [h,ht]
 grobner
theorem rf_y {Y y z t : Fin n} (hy : y = Y * (z * z * z)) (ht : z * t = 1) : y * (t * t * t) = Y:=by
 subst hy
 have h : Y * (z * z * z) * (t * t * t) = Y * (z * t) * (z * t) * (z * t):=by grobner
 rw [h,ht]
 grobner
theorem three_x (x : Fin n) : x + x + x = 3 * x:=by grobner
theorem opp_of {y1 y2 : Fin n} (h : (y1 - y2) * (y1 - (0 - y2)) = 0) (hz : ∀ x y : Fin n,x * y = 0 → x = 0 ∨ y = 0) (hn : y1 ≠ y2) : y1 = 0 - y2:=by
 rcases hz _ _ h with h | h
 ·
  exact absurd (Pt.eq_of_sub h) hn
 ·
  exact Pt.eq_of_sub h
theorem opp_sq {y1 y2 : Fin n} (h : y1 * y1 = y2 * y2) : (y1 - y2) * (y1 - (0 - y2)) = 0:=by grobner
end
theorem fe_ne {x : Fe} (h : x ≠ 0) : x.val ≠ 0:=fun e => h (Fin.ext (by rw [e,zfq]))
theorem fe_z {x : Fe} (h : x = 0) : x.val = 0:=by rw [h,zfq]
theorem noz {x y : Fe} (hx : x ≠ 0) (hy : y ≠ 0) : x * y ≠ 0:=fun e => by
 rcases Pt.good.hz _ _ e with h | h
 ·
  exact hx h
 ·
  exact hy h
section
variable {n : Nat} [NeZero n]
theorem r0 (y : Fin n) : y * 0 + y * 0 = 0:=by grobner
theorem r1 (Y z : Fin n) : Y * (z * z * z) * z + Y * (z * z * z) * z = (Y + Y) * (z * z * (z * z)):=by grobner
theorem r2 (u i d : Fin n) (h : d * i = 1) : u * i * d = u:=by
 have e : u * i * d = u * (d * i):=by grobner
 rw [e,h]
 grobner
theorem r3 (X : Fin n) : X = X * (1 * 1):=by grobner
theorem r4 (X : Fin n) : X = X * (1 * 1 * 1):=by grobner
theorem r5 (X z : Fin n) : (X - X) * z = 0:=by grobner
end
theorem rep_twice {x y z : Fe} {p : Pt.P Pt.pp} (hp : Pt.E256.on p) (h : Rep x y z p) : Rep (twice3 x y z).1 (twice3 x y z).2.1 (twice3 x y z).2.2 (Pt.E256.add p p):=by
 rcases p with _ | ⟨X,Y⟩
 ·
  have hz : z = 0:=h
  subst hz
  exact r0 y
 ·
  obtain ⟨hz,hx,hy⟩:=h
  have hd:=Pt.down_same hp
  have hn : ¬ (X = X ∧ Y = 0 - Y):=fun e => hd ((Pt.ring_neg _ _).1 e.2)
  rw [Pt.add_near hn,Pt.lam_same]
  have hl:=r2 (3 * (X * X - 1)) _ _ (Pt.good.hinv (Y + Y) hd)
  generalize 3 * (X * X - 1) * Pt.E256.inv (Y + Y) = l at hl ⊢
  have hZ : y * z + y * z = Y * (z * z * z) * z + Y * (z * z * z) * z:=by rw [hy]
  have hm:=rt_m hl hx hZ rfl rfl
  have hc:=rt_c hx hy rfl
  have h3:=rt_x hm hc
  refine ⟨?_,h3,rt_y hm hc h3 (rt_t hy rfl)⟩
  show y * z + y * z ≠ 0
  rw [hZ,r1]
  exact noz hd (noz (noz hz hz) (noz hz hz))
def qvP (p : Pt.P Pt.pp) : Value:=qv (Pt.pX p) (Pt.pY p) (Pt.pFar p)
theorem twice_rep {x y z : Fe} {p : Pt.P Pt.pp} (hp : Pt.E256.on p) (h : Rep x y z p) : ∃ x' y' z' : Fe,Rep x' y' z' (Pt.E256.add p p) ∧
  ∀ (b : Nat) (w : World),Fp w b → Calls Tryd.prog 50 #[cv b,sv x.val y.val z.val] w fun e w' => e = .returned (sv x'.val y'.val z'.val) ∧ Ext w w' :=
 ⟨_,_,_,rep_twice hp h,fun _ _ hF => twice_calls x y z hF⟩
theorem plus_rep {x y z : Fe} {p q : Pt.P Pt.pp} (hp : Pt.E256.on p) (hq : Pt.E256.on q) (h : Rep x y z p) : ∃ x' y' z' : Fe,Rep x' y' z' (Pt.E256.add p q) ∧
  ∀ (b : Nat) (w : World),Fp w b → Calls Tryd.prog 52 #[cv b,sv x.val y.val z.val,qvP q] w fun e w' => e = .returned (sv x'.val y'.val z'.val) ∧ Ext w w':=by
 rcases q with _ | ⟨X2,Y2⟩
 ·
  rw [Pt.add_none]
  exact ⟨_,_,_,h,fun _ _ hF => plus_far x.val y.val z.val 0 0 hF⟩
 rcases p with _ | ⟨X1,Y1⟩
 ·
  have hz : z = 0:=h
  subst hz
  rw [Pt.none_add,zfq]
  refine ⟨X2,Y2,1,⟨?_,r3 X2,r4 Y2⟩,fun b w hF => ?_⟩
  ·
   intro e
   have:=congrArg Fin.val e
   rw [v_one,zfq] at this
   exact absurd this (by decide)
  ·
   rw [v_one]
   exact plus_lift x.val y.val X2.val Y2.val hF
 ·
  obtain ⟨hz,hx,hy⟩:=h
  have hz3 : z * z * z ≠ 0:=noz (noz hz hz) hz
  have hrun : runOf x z X2 = (X2 - X1) * (z * z):=rp_run hx
  have hrise : riseOf y z Y2 = (Y2 - Y1) * (z * z * z):=rp_rise hy
  by_cases hX : X1 = X2
  ·
   subst hX
   have h0 : (runOf x z X1).val = 0:=fe_z (by rw [hrun]; exact r5 _ _)
   by_cases hY : Y1 = Y2
   ·
    subst hY
    have h1 : (riseOf y z Y1).val = 0:=fe_z (by rw [hrise]; exact r5 _ _)
    exact ⟨_,_,_,rep_twice hp ⟨hz,hx,hy⟩,fun _ _ hF => plus_same x y z X1 Y1 (fe_ne hz) h0 h1 hF⟩
   ·
    have h1 : (riseOf y z Y2).val ≠ 0:=fe_ne (by rw [hrise]; exact noz (fun e => hY (Pt.eq_of_sub e).symm) hz3)
    have he : Y1 * Y1 = Y2 * Y2:=by
     have e1 : Y1 * Y1 = _:=(Pt.on_iff X1 Y1).1 hp
     have e2 : Y2 * Y2 = _:=(Pt.on_iff X1 Y2).1 hq
     rw [e1,e2]
    have ho:=opp_of (opp_sq he) Pt.good.hz hY
    rw [Pt.add_far ⟨rfl,ho⟩]
    refine ⟨0,0,0,rfl,fun b w hF => ?_⟩
    rw [zfq]
    exact plus_opp x y z X1 Y2 (fe_ne hz) h0 h1 hF
  ·
   have hd : X2 - X1 ≠ 0:=fun e => hX (Pt.eq_of_sub e).symm
   have h0 : runOf x z X2 ≠ 0:=by rw [hrun]; exact noz hd (noz hz hz)
   rw [Pt.add_near (fun e => hX e.1),Pt.lam_else (fun e => hX e.1)]
   have hl:=r2 (Y2 - Y1) _ _ (Pt.good.hinv (X2 - X1) hd)
   generalize (Y2 - Y1) * Pt.E256.inv (X2 - X1) = l at hl ⊢
   have hs : riseOf y z Y2 = l * (z * runOf x z X2):=by rw [hrise]; exact rp_l hl hrun rfl
   have h3:=rp_x (X2:=X2) hx hrun rfl hs
   exact ⟨_,_,_,⟨noz hz h0,h3,rp_y (X2:=X2) hx hy hrun rfl hs h3⟩,fun _ _ hF => plus_else x y z X2 Y2 (fe_ne hz) (fe_ne h0) hF⟩
theorem lift_rep (p : Pt.P Pt.pp) : ∃ x y z : Fe,Rep x y z p ∧ ∀ w,Calls Tryd.prog 48 #[qvP p] w fun e w' => e = .returned (sv x.val y.val z.val) ∧ Ext w w':=by
 rcases p with _ | ⟨X,Y⟩
 ·
  refine ⟨0,0,0,rfl,fun w => ?_⟩
  rw [zfq]
  exact lift_far 0 0 w
 ·
  refine ⟨X,Y,1,⟨?_,r3 X,r4 Y⟩,fun w => ?_⟩
  ·
   intro e
   have:=congrArg Fin.val e
   rw [v_one,zfq] at this
   exact absurd this (by decide)
  ·
   rw [v_one]
   exact lift_near X.val Y.val w
theorem flat_rep {b : Nat} {x y z : Fe} {p : Pt.P Pt.pp} (h : Rep x y z p) {w : World} (hF : Fp w b) :
  Calls Tryd.prog 53 #[cv b,sv x.val y.val z.val] w fun e w' => e = .returned (qvP p) ∧ Ext w w':=by
 rcases p with _ | ⟨X,Y⟩
 ·
  have hz : z = 0:=h
  subst hz
  rw [zfq]
  exact flat_far x.val y.val hF
 ·
  obtain ⟨hz,hx,hy⟩:=h
  have ht:=Pt.good.hinv z hz
  refine (flat_near x y z hz hF).mono fun _ _ ⟨he,hw⟩ => ⟨?_,hw⟩
  rw [he]
  have e1 : (flat2 x y z).1 = X:=rf_x hx ht
  have e2 : (flat2 x y z).2 = Y:=rf_y hy ht
  rw [e1,e2]
  rfl
theorem on_calls {b : Nat} (X Y : Nat) (f : Bool) (hX : X < top) (hY : Y < top) {w : World} (hF : Fp w b) :
  Calls Tryd.prog 37 #[cv b,qv X Y f] w fun e w' => e = .returned (.bool (onB X Y f)) ∧ Ext w w':=by
 unfold onB
 cases f with
 | true =>
  by_cases h0 : X = 0
  ·
   subst h0
   simp only [if_true,decide_true,Bool.true_and]
   exact on_far0 Y hY hF
  ·
   simp only [if_true,h0,decide_false,Bool.false_and]
   exact on_far1 X Y hX h0 hF
 | false =>
  by_cases hx : X < Pt.pp
  ·
   by_cases hy : Y < Pt.pp
   ·
    simp only [Bool.false_eq_true,if_false,hx,hy,decide_true,Bool.true_and]
    have k:=on_near (b:=b) ⟨X,hx⟩ ⟨Y,hy⟩ hF
    rw [three_x,← right_val,← Pt.v_mul] at k
    exact k
   ·
    simp only [Bool.false_eq_true,if_false,hx,hy,decide_true,decide_false,Bool.true_and,Bool.false_and]
    exact on_high X Y hx hY hy hF
  ·
   simp only [Bool.false_eq_true,if_false,hx,decide_false,Bool.false_and]
   exact on_out X Y hX hx hF
theorem on_yes {b : Nat} (q : Pt.Q) {w : World} (hF : Fp w b) : Calls Tryd.prog 37 #[cv b,qvP q.1] w fun e w' => e = .returned (.bool true) ∧ Ext w w':=by
 have k:=on_calls (Pt.pX q.1) (Pt.pY q.1) (Pt.pFar q.1) (p_top q.1).1 (p_top q.1).2 hF
 rw [onB_of] at k
 exact k
theorem Fp.but {w W : World} {b r : Nat} (h : Fp w b) (hB : But r w W) (hne : b ≠ r) : Fp W b:=by
 obtain ⟨N,Q,h1,h2⟩:=h
 exact ⟨N,Q,h1,h2.of_block (hB.block b h2.lt (by intro e; simp at e; exact hne e))⟩
theorem add_yes (q r : Pt.Q) (w : World) :
  Calls Tryd.prog 64 #[qvP q.1,qvP r.1] w fun e w' => e = .returned (.tuple #[qvP (Pt.grp.op q r).1,.nilIface]) ∧ Ext w w':=by
 obtain ⟨x1,y1,z1,h1,k1⟩:=lift_rep q.1
 obtain ⟨x2,y2,z2,h2,k2⟩:=plus_rep q.2 r.2 h1
 have k3:=fun (b : Nat) (w : World) (hF : Fp w b) => flat_rep h2 hF
 obtain ⟨t,ht⟩ : ∃ t : Pt.Q,t = Pt.grp.op q r:=⟨_,rfl⟩
 have ht2 : Pt.E256.add q.1 r.1 = t.1:=by rw [ht]; rfl
 rw [ht2] at k3
 rw [← ht]
 have K1:=veil k1
 have K2:=veil k2
 have K3:=veil k3
 clear k1 k2 k3 h1 h2 ht ht2
 unfold qvP qv qc
 go_enter Tryd.func64,Tryd.ntmps64
 go_upto_region 1 with (fail)
 obtain ⟨hx,b0,b1,b2⟩:=blocks3 w (.cells #[.int .u64 (wd (Pt.pX q.1) 0),.int .u64 (wd (Pt.pX q.1) 1),.int .u64 (wd (Pt.pX q.1) 2),.int .u64 (wd (Pt.pX q.1) 3),.int .u64 (wd (Pt.pY q.1) 0),.int .u64 (wd (Pt.pY q.1) 1),.int .u64 (wd (Pt.pY q.1) 2),.int .u64 (wd (Pt.pY q.1) 3),.bool (Pt.pFar q.1)] 40) (.cells #[.int .u64 (wd (Pt.pX r.1) 0),.int .u64 (wd (Pt.pX r.1) 1),.int .u64 (wd (Pt.pX r.1) 2),.int .u64 (wd (Pt.pX r.1) 3),.int .u64 (wd (Pt.pY r.1) 0),.int .u64 (wd (Pt.pY r.1) 1),.int .u64 (wd (Pt.pY r.1) 2),.int .u64 (wd (Pt.pY r.1) 3),.bool (Pt.pFar r.1)] 40) (.cells #[.int .u64 0,.int .u64 0,.int .u64 0,.int .u64 0,.int .u64 0,.int .u64 0,.int .u64 0,.int .u64 0,.bool false] 40)
 generalize ((w.alloc (.cells #[.int .u64 (wd (Pt.pX q.1) 0),.int .u64 (wd (Pt.pX q.1) 1),.int .u64 (wd (Pt.pX q.1) 2),.int .u64 (wd (Pt.pX q.1) 3),.int .u64 (wd (Pt.pY q.1) 0),.int .u64 (wd (Pt.pY q.1) 1),.int .u64 (wd (Pt.pY q.1) 2),.int .u64 (wd (Pt.pY q.1) 3),.bool (Pt.pFar q.1)] 40)).alloc (.cells #[.int .u64 (wd (Pt.pX r.1) 0),.int .u64 (wd (Pt.pX r.1) 1),.int .u64 (wd (Pt.pX r.1) 2),.int .u64 (wd (Pt.pX r.1) 3),.int .u64 (wd (Pt.pY r.1) 0),.int .u64 (wd (Pt.pY r.1) 1),.int .u64 (wd (Pt.pY r.1) 2),.int .u64 (wd (Pt.pY r.1) 3),.bool (Pt.pFar r.1)] 40)).alloc (.cells #[.int .u64 0,.int .u64 0,.int .u64 0,.int .u64 0,.int .u64 0,.int .u64 0,.int .u64 0,.int .u64 0,.bool false] 40) = w1 at *
 have b0 : w1.heap[w.heap.size]? = some (.cells (qc (Pt.pX q.1) (Pt.pY q.1) (Pt.pFar q.1)) 40 (0,0)):=b0
 have b1 : w1.heap[w.heap.size + 1]? = some (.cells (qc (Pt.pX r.1) (Pt.pY r.1) (Pt.pFar r.1)) 40 (0,0)):=b1
 refine wp_region_lit ?_
 refine zef (R:=fun v W' => ∃ b,v = cv b ∧ Fp W' b ∧ Ext w1 W') rfl rfl rfl (fun W => zab Tryd.func36 rfl rfl _ W) ((zgb w1).mono fun e W' ⟨b,he,hF,hE⟩ => ⟨_,he,b,rfl,hF,hE⟩) ?_
 rintro v w2 ⟨b,rfl,hf,hE⟩
 simp only [aP,lA,lZ,lS]
 replace b0:=hE.block b0
 replace b1:=hE.block b1
 replace b2:=hE.block b2
 replace hx:=hx.trans hE
 clear hE
 refine wpl_var _ _ rfl rfl rfl rfl rfl rfl (hzK ·) (fun _ => rfl) (fun _ => rfl) (iK _) rfl (cc_one _) ?_
 intro gc w3 hgc bc hE
 replace b0:=hE.block b0
 replace b1:=hE.block b1
 replace b2:=hE.block b2
 replace hf:=hf.ext hE
 replace hx:=hx.trans hE
 clear hE
 simp only [aP,lA,lZ,lS]
 clear hgc
 refine wpList_nil ?_
 go_upto_region 2 with (fail)
 refine' zbp (m:=10) (A:=_) ?h1 ?h2
 case h1 =>
  refine zaa (cv b) rfl (zac rfl rfl bc rfl Tryd.underlying75 rfl (iK _)) ?_;simp only [aP,lA,lZ,lS]
  refine zaa (qv (Pt.pX q.1) (Pt.pY q.1) (Pt.pFar q.1)) rfl (zac rfl rfl b0 rfl Tryd.underlying40 rfl (iT _ _ _)) ?_;simp only [aP,lA,lZ,lS]
  refine zaa (.bool true) rfl (zaf (args:=[cv b,qv (Pt.pX q.1) (Pt.pY q.1) (Pt.pFar q.1)]) rfl rfl (fun W => zab Tryd.func37 rfl rfl _ W) (fun W hW => on_yes q (hf.ext hW))) ?_;simp only [aP,lA,lZ,lS]
  refine zaa (.bool false) rfl (zaz rfl rfl rfl) ?_;simp only [aP,lA,lZ,lS]
  refine zaa (.bool false) rfl (zae (.inl rfl) rfl) ?_;simp only [aP,lA,lZ,lS]
  refine zag (cv b) rfl (zac rfl rfl bc rfl Tryd.underlying75 rfl (iK _)) ?_;simp only [aP,lA,lZ,lS]
  refine zag (qv (Pt.pX r.1) (Pt.pY r.1) (Pt.pFar r.1)) rfl (zac rfl rfl b1 rfl Tryd.underlying40 rfl (iT _ _ _)) ?_;simp only [aP,lA,lZ,lS]
  refine zag (.bool true) rfl (zaf (args:=[cv b,qv (Pt.pX r.1) (Pt.pY r.1) (Pt.pFar r.1)]) rfl rfl (fun W => zab Tryd.func37 rfl rfl _ W) (fun W hW => on_yes r (hf.ext hW))) ?_;simp only [aP,lA,lZ,lS]
  refine zag (.bool false) rfl (zaz rfl rfl rfl) ?_;simp only [aP,lA,lZ,lS]
  refine zaa (.bool false) rfl (zaq rfl rfl rfl) ?_;simp only [aP,lA,lZ,lS]
  exact zah
 refine zam rfl ?_
 intro w4 hE
 replace b0:=hE.block b0
 replace b1:=hE.block b1
 replace b2:=hE.block b2
 replace bc:=hE.block bc
 replace hf:=hf.ext hE
 replace hx:=hx.trans hE
 clear hE
 go_upto_region 4 with (fail)
 refine' zbn (m:=7) (A:=_) 7 (by kernel_rfl) (by kernel_rfl) (by kernel_rfl) ?h2a ?h2b
 case h2a =>
  refine zaa (cv b) rfl (zac rfl rfl bc rfl Tryd.underlying75 rfl (iK _)) ?_;simp only [aP,lA,lZ,lS]
  refine zaa (cv b) rfl (zac rfl rfl bc rfl Tryd.underlying75 rfl (iK _)) ?_;simp only [aP,lA,lZ,lS]
  refine zaa (qv (Pt.pX q.1) (Pt.pY q.1) (Pt.pFar q.1)) rfl (zac rfl rfl b0 rfl Tryd.underlying40 rfl (iT _ _ _)) ?_;simp only [aP,lA,lZ,lS]
  refine zaa (sv x1.val y1.val z1.val) rfl (zaf (args:=[qv (Pt.pX q.1) (Pt.pY q.1) (Pt.pFar q.1)]) rfl rfl (fun W => zab Tryd.func48 rfl rfl _ W) (fun W hW => K1.out W)) ?_;simp only [aP,lA,lZ,lS]
  refine zaa (qv (Pt.pX r.1) (Pt.pY r.1) (Pt.pFar r.1)) rfl (zac rfl rfl b1 rfl Tryd.underlying40 rfl (iT _ _ _)) ?_;simp only [aP,lA,lZ,lS]
  refine zaa (sv x2.val y2.val z2.val) rfl (zaf (args:=[cv b,sv x1.val y1.val z1.val,qv (Pt.pX r.1) (Pt.pY r.1) (Pt.pFar r.1)]) rfl rfl (fun W => zab Tryd.func52 rfl rfl _ W) (fun W hW => K2.out _ _ (hf.ext hW))) ?_;simp only [aP,lA,lZ,lS]
  refine zaa (qv (Pt.pX t.1) (Pt.pY t.1) (Pt.pFar t.1)) rfl (zaf (args:=[cv b,sv x2.val y2.val z2.val]) rfl rfl (fun W => zab Tryd.func53 rfl rfl _ W) (fun W hW => K3.out _ _ (hf.ext hW))) ?_;simp only [aP,lA,lZ,lS]
  exact zah
 refine rest_store1 _ _ rfl rfl rfl rfl rfl rfl rfl rfl rfl (by kernel_rfl) (by kernel_rfl) (by kernel_rfl) rfl rfl rfl rfl rfl b2 (iT _ _ _) rfl (zdd _ _ _) ?_
 intro w5 hB hb
 refine NoPanic.normal ?_
 simp only [aP,lA,lZ,lS]
 go_wp2
 exact bodyPost_ret (zba rfl _ _ (w.heap.size + 1 + 1) 40 (qc (Pt.pX t.1) (Pt.pY t.1) (Pt.pFar t.1)) (0,0) _ rfl hb Tryd.underlying40 rfl (iT _ _ _)) rfl ⟨rfl,hx.new hB (by omega)⟩
theorem mul_yes (K : Nat) (hK : K < top) (q : Pt.Q) (w : World) :
  Calls Tryd.prog 25 #[nv K,qvP q.1] w fun e w' => e = .returned (.tuple #[qvP (Pt.grp.mul K q).1,.nilIface]) ∧ Ext w w':=by
 have hL : bitLen K ≤ 256:=bl_le hK
 have hE0 : K / 2 ^ bitLen K = 0:=bl_div K
 have HT:=veil hK
 obtain ⟨x0,y0,z0,h0,k0⟩:=lift_rep none
 have K0:=veil k0
 clear hK k0
 unfold nv nc qvP qv qc
 go_enter Tryd.func25,Tryd.ntmps25
 go_upto_region 1 with (fail)
 obtain ⟨hx,b0,b1,b2⟩:=blocks3 w (.cells #[.int .u64 (wd K 0),.int .u64 (wd K 1),.int .u64 (wd K 2),.int .u64 (wd K 3)] 24) (.cells #[.int .u64 (wd (Pt.pX q.1) 0),.int .u64 (wd (Pt.pX q.1) 1),.int .u64 (wd (Pt.pX q.1) 2),.int .u64 (wd (Pt.pX q.1) 3),.int .u64 (wd (Pt.pY q.1) 0),.int .u64 (wd (Pt.pY q.1) 1),.int .u64 (wd (Pt.pY q.1) 2),.int .u64 (wd (Pt.pY q.1) 3),.bool (Pt.pFar q.1)] 40) (.cells #[.int .u64 0,.int .u64 0,.int .u64 0,.int .u64 0,.int .u64 0,.int .u64 0,.int .u64 0,.int .u64 0,.bool false] 40)
 generalize ((w.alloc (.cells #[.int .u64 (wd K 0),.int .u64 (wd K 1),.int .u64 (wd K 2),.int .u64 (wd K 3)] 24)).alloc (.cells #[.int .u64 (wd (Pt.pX q.1) 0),.int .u64 (wd (Pt.pX q.1) 1),.int .u64 (wd (Pt.pX q.1) 2),.int .u64 (wd (Pt.pX q.1) 3),.int .u64 (wd (Pt.pY q.1) 0),.int .u64 (wd (Pt.pY q.1) 1),.int .u64 (wd (Pt.pY q.1) 2),.int .u64 (wd (Pt.pY q.1) 3),.bool (Pt.pFar q.1)] 40)).alloc (.cells #[.int .u64 0,.int .u64 0,.int .u64 0,.int .u64 0,.int .u64 0,.int .u64 0,.int .u64 0,.int .u64 0,.bool false] 40) = w1 at *
 have b0 : w1.heap[w.heap.size]? = some (.cells (nc K) 24 (0,0)):=b0
 have b1 : w1.heap[w.heap.size + 1]? = some (.cells (qc (Pt.pX q.1) (Pt.pY q.1) (Pt.pFar q.1)) 40 (0,0)):=b1
 refine wp_region_lit ?_
 refine zef (R:=fun v W' => ∃ b,v = cv b ∧ Fp W' b ∧ Ext w1 W') rfl rfl rfl (fun W => zab Tryd.func36 rfl rfl _ W) ((zgb w1).mono fun e W' ⟨b,he,hF,hE⟩ => ⟨_,he,b,rfl,hF,hE⟩) ?_
 rintro v w2 ⟨b,rfl,hf,hE⟩
 simp only [aP,lA,lZ,lS]
 replace b0:=hE.block b0
 replace b1:=hE.block b1
 replace b2:=hE.block b2
 replace hx:=hx.trans hE
 clear hE
 refine wpl_var _ _ rfl rfl rfl rfl rfl rfl (hzK ·) (fun _ => rfl) (fun _ => rfl) (iK _) rfl (cc_one _) ?_
 intro gc w3 hgc bc hE
 replace b0:=hE.block b0
 replace b1:=hE.block b1
 replace b2:=hE.block b2
 replace hf:=hf.ext hE
 replace hx:=hx.trans hE
 clear hE
 simp only [aP,lA,lZ,lS]
 clear hgc
 refine wpList_nil ?_
 go_upto_region 2 with (fail)
 refine' zaj (m:=4) (A:=_) (by kernel_rfl) ?h1 ?h2
 case h1 =>
  refine zaa (cv b) rfl (zac rfl rfl bc rfl Tryd.underlying75 rfl (iK _)) ?_;simp only [aP,lA,lZ,lS]
  refine zaa (qv (Pt.pX q.1) (Pt.pY q.1) (Pt.pFar q.1)) rfl (zac rfl rfl b1 rfl Tryd.underlying40 rfl (iT _ _ _)) ?_;simp only [aP,lA,lZ,lS]
  refine zaa (.bool true) rfl (zaf (args:=[cv b,qv (Pt.pX q.1) (Pt.pY q.1) (Pt.pFar q.1)]) rfl rfl (fun W => zab Tryd.func37 rfl rfl _ W) (fun W hW => on_yes q (hf.ext hW))) ?_;simp only [aP,lA,lZ,lS]
  refine zaa (.bool false) rfl (zaz rfl rfl rfl) ?_;simp only [aP,lA,lZ,lS]
  exact zah
 refine zam rfl ?_
 intro w4 hE
 replace b0:=hE.block b0
 replace b1:=hE.block b1
 replace b2:=hE.block b2
 replace bc:=hE.block bc
 replace hf:=hf.ext hE
 replace hx:=hx.trans hE
 clear hE
 go_upto_region 4 with (fail)
 refine' zaj (m:=2) (A:=_) (by kernel_rfl) ?h2a ?h2b
 case h2a =>
  refine zaa (qv 0 0 true) rfl (zau rfl rfl (bldTF ·)) ?_;simp only [aP,lA,lZ,lS]
  refine zaa (sv x0.val y0.val z0.val) rfl (zaf (args:=[qv 0 0 true]) rfl rfl (fun W => zab Tryd.func48 rfl rfl _ W) (fun W hW => K0.out W)) ?_;simp only [aP,lA,lZ,lS]
  exact zah
 refine zcm _ _ rfl rfl rfl rfl rfl rfl rfl (hzS ·) (fun _ => rfl) (fun _ => rfl) (iS _ _ _) rfl (zen _ _ _) ?_
 intro gs w5 hgs bs hE
 have hls : w.heap.size ≤ gs:=Nat.le_trans (Below.size hx) hgs
 replace b0:=hE.block b0
 replace b1:=hE.block b1
 replace b2:=hE.block b2
 replace bc:=hE.block bc
 replace hf:=hf.ext hE
 replace hx:=hx.trans hE
 clear hE
 simp only [aP,lA,lZ,lS]
 clear hgs
 go_upto_region 5 with (fail)
 replace h0 : Rep x0 y0 z0 (Pt.grp.mul (K / 2 ^ bitLen K) q).1:=by rw [hE0]; exact h0
 obtain ⟨N,hN⟩ : ∃ N,N = bitLen K:=⟨_,rfl⟩
 have HN:=veil hN
 rw [← hN] at h0 hL
 clear hE0 hN
 have hNi : (0 : Int) ≤ (N : Int):=by omega
 refine wp_region_lit ?_
 refine zez rfl rfl rfl b0 rfl uN rfl (iN K) ?_
 simp only [aP,lA,lZ,lS]
 refine zef (R:=fun v W' => v = .int .i64 (N : Int) ∧ Ext w5 W') rfl rfl rfl (fun W => zab Tryd.func49 rfl rfl _ W) ((klen K N (by rw [HN.out]) HT.out w5).mono fun e W' ⟨he,hE⟩ => ⟨_,he,rfl,hE⟩) ?_
 rintro v w6 ⟨rfl,hE⟩
 replace b0:=hE.block b0
 replace b1:=hE.block b1
 replace b2:=hE.block b2
 replace bc:=hE.block bc
 replace bs:=hE.block bs
 replace hf:=hf.ext hE
 replace hx:=hx.trans hE
 clear hE
 simp only [aP,lA,lZ,lS]
 go_wp2
 clear HN hNi K0
 go_loopw [8] (fun v8 wr => ∃ j : Nat,j ≤ 256 ∧ v8 = .int .i64 ((j : Int) - 1) ∧ (∃ x y z : Fe,Rep x y z (Pt.grp.mul (K / 2 ^ j) q).1 ∧ wr.heap[gs]? = some (.cells (sc x.val y.val z.val) 88 (0,0))) ∧ wr.heap[w.heap.size]? = some (.cells (nc K) 24 (0,0)) ∧ wr.heap[w.heap.size + 1]? = some (.cells (qc (Pt.pX q.1) (Pt.pY q.1) (Pt.pFar q.1)) 40 (0,0)) ∧ (∃ c2,wr.heap[w.heap.size + 1 + 1]? = some (.cells c2 40 (0,0)) ∧ c2.size = 9) ∧ wr.heap[gc]? = some (.cells (cc b) 75 (0,0)) ∧ Fp wr b ∧ Ext w wr)
  (fun v8 _ => (intOf v8 + 1).toNat)
 case atStart => exact ⟨N,hL,by go_num,⟨x0,y0,z0,h0,bs⟩,b0,b1,⟨_,b2,rfl⟩,bc,hf,hx⟩
 case round =>
  clear b0 b1 b2 bc bs hf hx h0 hL
  obtain ⟨j,hj,hi,⟨x,y,z,hR,bs⟩,b0,b1,⟨c2,b2,hc2⟩,bc,hf,hx⟩:=hrel
  cases j with
  | zero =>
   obtain rfl : _ = Value.int .i64 (-1):=hi.trans (by congr 1)
   have e1 : Pt.grp.mul (K / 2 ^ 0) q = Pt.grp.mul K q:=by rw [Nat.pow_zero,Nat.div_one]
   rw [e1] at hR
   obtain ⟨t,ht⟩ : ∃ t : Pt.Q,t = Pt.grp.mul K q:=⟨_,rfl⟩
   rw [← ht] at hR
   have HTT:=veil ht
   have KF:=veil (fun (b : Nat) (w : World) (hF : Fp w b) => flat_rep hR hF)
   clear hi e1 ht
   go_upto_region 11 with (fail)
   refine' zaj (m:=3) (A:=_) (by kernel_rfl) ?h3a ?h3b
   case h3a =>
    refine zaa (cv b) rfl (zac rfl rfl bc rfl Tryd.underlying75 rfl (iK _)) ?_;simp only [aP,lA,lZ,lS]
    refine zaa (sv x.val y.val z.val) rfl (zac rfl rfl bs rfl Tryd.underlying88 rfl (iS _ _ _)) ?_;simp only [aP,lA,lZ,lS]
    refine zaa (qv (Pt.pX t.1) (Pt.pY t.1) (Pt.pFar t.1)) rfl (zaf (args:=[cv b,sv x.val y.val z.val]) rfl rfl (fun W => zab Tryd.func53 rfl rfl _ W) (fun W hW => KF.out _ _ (hf.ext hW))) ?_;simp only [aP,lA,lZ,lS]
    exact zah
   refine zcr _ rfl rfl rfl rfl rfl rfl b2 (iT _ _ _) hc2 (zdd _ _ _) ?_
   intro w7 hB hb
   go_wp2
   rw [← HTT.out]
   exact bodyPost_ret (zba rfl _ _ (w.heap.size + 1 + 1) 40 (qc (Pt.pX t.1) (Pt.pY t.1) (Pt.pFar t.1)) (0,0) _ rfl hb Tryd.underlying40 rfl (iT _ _ _)) rfl ⟨rfl,hx.new hB (by omega)⟩
  | succ m =>
   obtain rfl : _ = Value.int .i64 (m : Int):=hi.trans (by congr 1; omega)
   have hm : m < 256:=by omega
   clear hi
   have hmi : (0 : Int) ≤ (m : Int):=by omega
   obtain ⟨R0,hR0⟩ : ∃ R,R = Pt.grp.mul (K / 2 ^ (m + 1)) q:=⟨_,rfl⟩
   rw [← hR0] at hR
   have HR0:=veil hR0
   clear hR0
   obtain ⟨x1,y1,z1,h1,k1⟩:=twice_rep R0.2 hR
   obtain ⟨R1,hR1⟩ : ∃ R,R = Pt.grp.op R0 R0:=⟨_,rfl⟩
   have HR1:=veil hR1
   replace h1 : Rep x1 y1 z1 R1.1:=by rw [hR1]; exact h1
   have K1:=veil k1
   clear hR1 k1 hR
   have hgs : gs < wr.heap.size:=(Array.getElem?_eq_some_iff.1 bs).1
   have hgs0 : gs ≠ w.heap.size:=fun e => (by rw [e,b0] at bs; injection bs with bs; injection bs with _ bs; exact absurd bs (by decide))
   have hgs1 : gs ≠ w.heap.size + 1:=fun e => (by rw [e,b1] at bs; injection bs with bs; injection bs with _ bs; exact absurd bs (by decide))
   have hgs2 : gs ≠ w.heap.size + 1 + 1:=fun e => (by rw [e,b2] at bs; injection bs with bs; injection bs with _ bs; exact absurd bs (by decide))
   have hgsc : gs ≠ gc:=fun e => (by rw [e,bc] at bs; injection bs with bs; injection bs with _ bs; exact absurd bs (by decide))
   have hgsb : b ≠ gs:=fun e => (by obtain ⟨_,_,_,h2⟩:=hf; have h3:=blkOf h2; rw [e,bs] at h3; injection h3 with h3; injection h3 with _ h3; exact absurd h3 (by decide))
   go_upto_region 8 with (fail)
   refine' zaj (m:=3) (A:=_) (by kernel_rfl) ?h4a ?h4b
   case h4a =>
    refine zaa (cv b) rfl (zac rfl rfl bc rfl Tryd.underlying75 rfl (iK _)) ?_;simp only [aP,lA,lZ,lS]
    refine zaa (sv x.val y.val z.val) rfl (zac rfl rfl bs rfl Tryd.underlying88 rfl (iS _ _ _)) ?_;simp only [aP,lA,lZ,lS]
    refine zaa (sv x1.val y1.val z1.val) rfl (zaf (args:=[cv b,sv x.val y.val z.val]) rfl rfl (fun W => zab Tryd.func50 rfl rfl _ W) (fun W hW => K1.out _ _ (hf.ext hW))) ?_;simp only [aP,lA,lZ,lS]
    exact zah
   refine zbj _ rfl rfl rfl rfl rfl rfl bs (iS _ _ _) rfl (zen _ _ _) ?_
   intro w8 hB hb
   replace b0:=zed hB b0 hgs0.symm
   replace b1:=zed hB b1 hgs1.symm
   replace b2:=zed hB b2 hgs2.symm
   replace bc:=zed hB bc hgsc.symm
   replace hf:=hf.but hB hgsb
   replace hx:=hx.new hB hls
   clear hB bs
   have bs:=hb
   clear hb
   go_upto_region 9 with (fail)
   by_cases hbit : bit K m = true
   ·
    have HBIT:=veil hbit
    obtain ⟨x2,y2,z2,h2,k2⟩:=plus_rep R1.2 q.2 h1
    obtain ⟨R2,hR2⟩ : ∃ R,R = Pt.grp.op R1 q:=⟨_,rfl⟩
    have HR2:=veil hR2
    replace h2 : Rep x2 y2 z2 R2.1:=by rw [hR2]; exact h2
    have K2:=veil k2
    clear hR2 k2 h1
    clear hbit
    refine' zaj (m:=3) (A:=_) (by kernel_rfl) ?h5a ?h5b
    case h5a =>
     refine zaa (nv K) rfl (zac rfl rfl b0 rfl uN rfl (iN _)) ?_;simp only [aP,lA,lZ,lS]
     refine zaa (.int .i64 (m : Int)) rfl (zae (.inl rfl) rfl) ?_;simp only [aP,lA,lZ,lS]
     refine zaa (.bool true) rfl (zaf (args:=[nv K,.int .i64 (m : Int)]) rfl rfl (fun W => zab Tryd.func51 rfl rfl _ W) (fun W hW => kbit K m true HBIT.out hm W)) ?_;simp only [aP,lA,lZ,lS]
     exact zah
    refine zam rfl ?_
    intro w9 hE
    replace b0:=hE.block b0
    replace b1:=hE.block b1
    replace b2:=hE.block b2
    replace bc:=hE.block bc
    replace bs:=hE.block bs
    replace hf:=hf.ext hE
    replace hx:=hx.trans hE
    clear hE
    go_upto_region 10 with (fail)
    refine' zaj (m:=4) (A:=_) (by kernel_rfl) ?h6a ?h6b
    case h6a =>
     refine zaa (cv b) rfl (zac rfl rfl bc rfl Tryd.underlying75 rfl (iK _)) ?_;simp only [aP,lA,lZ,lS]
     refine zaa (sv x1.val y1.val z1.val) rfl (zac rfl rfl bs rfl Tryd.underlying88 rfl (iS _ _ _)) ?_;simp only [aP,lA,lZ,lS]
     refine zaa (qv (Pt.pX q.1) (Pt.pY q.1) (Pt.pFar q.1)) rfl (zac rfl rfl b1 rfl Tryd.underlying40 rfl (iT _ _ _)) ?_;simp only [aP,lA,lZ,lS]
     refine zaa (sv x2.val y2.val z2.val) rfl (zaf (args:=[cv b,sv x1.val y1.val z1.val,qv (Pt.pX q.1) (Pt.pY q.1) (Pt.pFar q.1)]) rfl rfl (fun W => zab Tryd.func52 rfl rfl _ W) (fun W hW => K2.out _ _ (hf.ext hW))) ?_;simp only [aP,lA,lZ,lS]
     exact zah
    refine zbj _ rfl rfl rfl rfl rfl rfl bs (iS _ _ _) rfl (zen _ _ _) ?_
    intro w10 hB hb
    replace b0:=zed hB b0 hgs0.symm
    replace b1:=zed hB b1 hgs1.symm
    replace b2:=zed hB b2 hgs2.symm
    replace bc:=zed hB bc hgsc.symm
    replace hf:=hf.but hB hgsb
    replace hx:=hx.new hB hls
    clear hB bs
    have bs:=hb
    clear hb
    go_wp2
    go_roundw
    case rel => exact ⟨m,by omega,by go_num,⟨x2,y2,z2,by rw [times_step,if_pos HBIT.out,← HR0.out,← HR1.out,← HR2.out]; exact h2,bs⟩,b0,b1,⟨c2,b2,hc2⟩,bc,hf,hx⟩
    case measure => simp [intOf]
   ·
    have hbit : bit K m = false:=by simpa using hbit
    have HBIT:=veil hbit
    clear hbit
    refine' zaj (m:=3) (A:=_) (by kernel_rfl) ?h7a ?h7b
    case h7a =>
     refine zaa (nv K) rfl (zac rfl rfl b0 rfl uN rfl (iN _)) ?_;simp only [aP,lA,lZ,lS]
     refine zaa (.int .i64 (m : Int)) rfl (zae (.inl rfl) rfl) ?_;simp only [aP,lA,lZ,lS]
     refine zaa (.bool false) rfl (zaf (args:=[nv K,.int .i64 (m : Int)]) rfl rfl (fun W => zab Tryd.func51 rfl rfl _ W) (fun W hW => kbit K m false HBIT.out hm W)) ?_;simp only [aP,lA,lZ,lS]
     exact zah
    refine zam rfl ?_
    intro w9 hE
    replace b0:=hE.block b0
    replace b1:=hE.block b1
    replace b2:=hE.block b2
    replace bc:=hE.block bc
    replace bs:=hE.block bs
    replace hf:=hf.ext hE
    replace hx:=hx.trans hE
    clear hE
    go_wp2
    go_roundw
    case rel => exact ⟨m,by omega,by go_num,⟨x1,y1,z1,by rw [times_step,HBIT.out,if_neg (by decide),← HR0.out,← HR1.out]; exact h1,bs⟩,b0,b1,⟨c2,b2,hc2⟩,bc,hf,hx⟩
    case measure => simp [intOf]
theorem on_is (X Y : Nat) (f : Bool) (hX : X < top) (hY : Y < top) (w : World) :
  Calls Tryd.prog 14 #[qv X Y f] w fun e w' => e = .returned (.bool (onB X Y f)) ∧ Ext w w':=by
 have KO:=veil (fun (b : Nat) (w : World) (hF : Fp w b) => on_calls X Y f hX hY hF)
 obtain ⟨r,hr⟩ : ∃ r,r = onB X Y f:=⟨_,rfl⟩
 rw [← hr] at KO ⊢
 clear hX hY hr
 unfold qv qc
 go_enter Tryd.func14,Tryd.ntmps14
 go_upto_region 1 with (fail)
 obtain ⟨hx,b0⟩:=blocks1 w (.cells #[.int .u64 (wd X 0),.int .u64 (wd X 1),.int .u64 (wd X 2),.int .u64 (wd X 3),.int .u64 (wd Y 0),.int .u64 (wd Y 1),.int .u64 (wd Y 2),.int .u64 (wd Y 3),.bool (f)] 40)
 generalize w.alloc (.cells #[.int .u64 (wd X 0),.int .u64 (wd X 1),.int .u64 (wd X 2),.int .u64 (wd X 3),.int .u64 (wd Y 0),.int .u64 (wd Y 1),.int .u64 (wd Y 2),.int .u64 (wd Y 3),.bool (f)] 40) = w1 at *
 have b0 : w1.heap[w.heap.size]? = some (.cells (qc X Y f) 40 (0,0)):=b0
 refine wp_region_noPanic ?_
 refine wp_region_held_drew (S:=fun W => Ext w1 W) (by kernel_rfl) (Ext.drew _) (fun hH => ?_)
 refine wpAnyH_take (i:=1) (v:=qv X Y f) rfl (by kernel_rfl) (by kernel_rfl) (by decide +kernel) (fun _ _ _ h => h) (yieldsIf_load_mid (by rfl) _ _ rfl _ _ rfl (qc X Y f).toList _ (fun W hW j v hv => by rw [cell_of_row W _ _ (qc X Y f) 40 (0,0) (hW.block b0),Nat.zero_add]; simpa using hv) Tryd.underlying40 rfl (iT X Y f)) hH ?_
 refine wpAnyH_ready (rs:=[0]) (by decide +kernel) (by simp) ?_
 refine AllReadyH.cons rfl (fun K hK => ?_) AllReadyH.nil
 go_simp
 refine (zgb _).mono ?_
 rintro e w2 ⟨b,rfl,hF,hE⟩
 refine hK.out _ _ (hH.trans hE) (fun hH => ?_)
 clear hK K hE
 refine wpAnyH_ready (rs:=[2]) (by decide +kernel) (by simp) ?_
 refine AllReadyH.cons rfl (fun K hK => ?_) AllReadyH.nil
 go_simp
 refine (KO.out _ _ hF).mono ?_
 rintro e w3 ⟨rfl,hE⟩
 refine hK.out _ _ (hH.trans hE) (fun hH => ?_)
 clear hK K hE
 refine wpAnyH_take (i:=3) (v:=.bool r) rfl (by kernel_rfl) (by kernel_rfl) (by decide +kernel) (fun _ _ _ h => h) (Or.inl ⟨by rfl,fun W hSw => (by dsimp only at hSw; go_simp)⟩) hH ?_
 refine wpAnyH_done (by decide +kernel) ?_ _
 refine NoPanic.normal ?_
 go_wp2
 go_ret
 exact ⟨rfl,hx.trans hH⟩
end Go.Proofs.YtmfjigcdhijkjaaDoor
