/-
  Of Q9 Q10 S0 S1.
-/
import Derived.Test.YtmfjigcdhijkjaaGreatDoorZV12
import Derived.Test.YtmfjigcdhijkjaaGreatDoorZV11
import Derived.Test.YtmfjigcdhijkjaaGreatDoorZV9
import Derived.Test.YtmfjigcdhijkjaaGreatDoorZV3
import Derived.Test.YtmfjigcdhijkjaaGreatDoorZV8
import Derived.Test.YtmfjigcdhijkjaaGreatDoorZV6
import Derived.Test.YtmfjigcdhijkjaaGreatDoorZV2
set_option maxRecDepth 1000000
set_option maxHeartbeats 20000000
namespace Go.Proofs.YtmfjigcdhijkjaaGreatDoor
open Go.RowKit
open Go.Act renaming put → aP
open List renaming setIfInBounds_toArray → lA, set_cons_zero → lZ, set_cons_succ → lS
theorem zfd : ((0 : Fin Pt.pp)).val = 0:=Fin.val_zero _
theorem v_one : ((1 : Fin Pt.pp)).val = 1:=Pt.val_one pp_one
theorem v_three : ((3 : Fin Pt.pp)).val = 3:=by
 rw [← Pt.F_three]
 exact Nat.mod_eq_of_lt three_lt
theorem x3_val {U T : Nat} {l : Fin Pt.pp} (x1 x2 : Fin Pt.pp) (h : U * T % Pt.pp = l.val) : x3 U T x1.val x2.val = (l * l - x1 - x2).val:=by
 unfold x3
 rw [h,Pt.v_mul,Pt.v_sub,Pt.v_sub]
theorem y3_val {U T : Nat} {l : Fin Pt.pp} (x1 y1 x2 : Fin Pt.pp) (h : U * T % Pt.pp = l.val) : y3 U T x1.val y1.val x2.val = (l * (x1 - (l * l - x1 - x2)) - y1).val:=by
 unfold y3
 rw [x3_val x1 x2 h,h,Pt.v_sub,Pt.v_mul,Pt.v_sub]
theorem p_top (p : Pt.P Pt.pp) : Pt.pX p < top ∧ Pt.pY p < top:=⟨Nat.lt_trans (Pt.pX_lt p) zbh,Nat.lt_trans (Pt.pY_lt p) zbh⟩
theorem zgu (p q : Pt.Q) (w : World) :
  Calls Tryz.prog 39 #[.agg #[.int .u64 (wd (Pt.pX p.1) 0),.int .u64 (wd (Pt.pX p.1) 1),.int .u64 (wd (Pt.pX p.1) 2),.int .u64 (wd (Pt.pX p.1) 3),.int .u64 (wd (Pt.pY p.1) 0),.int .u64 (wd (Pt.pY p.1) 1),.int .u64 (wd (Pt.pY p.1) 2),.int .u64 (wd (Pt.pY p.1) 3),.bool (Pt.pFar p.1)],.agg #[.int .u64 (wd (Pt.pX q.1) 0),.int .u64 (wd (Pt.pX q.1) 1),.int .u64 (wd (Pt.pX q.1) 2),.int .u64 (wd (Pt.pX q.1) 3),.int .u64 (wd (Pt.pY q.1) 0),.int .u64 (wd (Pt.pY q.1) 1),.int .u64 (wd (Pt.pY q.1) 2),.int .u64 (wd (Pt.pY q.1) 3),.bool (Pt.pFar q.1)]] w fun e w' => e = .returned (.agg #[.int .u64 (wd (Pt.pX (Pt.grp.op p q).1) 0),.int .u64 (wd (Pt.pX (Pt.grp.op p q).1) 1),.int .u64 (wd (Pt.pX (Pt.grp.op p q).1) 2),.int .u64 (wd (Pt.pX (Pt.grp.op p q).1) 3),.int .u64 (wd (Pt.pY (Pt.grp.op p q).1) 0),.int .u64 (wd (Pt.pY (Pt.grp.op p q).1) 1),.int .u64 (wd (Pt.pY (Pt.grp.op p q).1) 2),.int .u64 (wd (Pt.pY (Pt.grp.op p q).1) 3),.bool (Pt.pFar (Pt.grp.op p q).1)]) ∧ Below w.heap.size w w':=by
 obtain ⟨p,hp⟩:=p
 obtain ⟨q,hq⟩:=q
 show Calls Tryz.prog 39 #[.agg #[.int .u64 (wd (Pt.pX p) 0),.int .u64 (wd (Pt.pX p) 1),.int .u64 (wd (Pt.pX p) 2),.int .u64 (wd (Pt.pX p) 3),.int .u64 (wd (Pt.pY p) 0),.int .u64 (wd (Pt.pY p) 1),.int .u64 (wd (Pt.pY p) 2),.int .u64 (wd (Pt.pY p) 3),.bool (Pt.pFar p)],.agg #[.int .u64 (wd (Pt.pX q) 0),.int .u64 (wd (Pt.pX q) 1),.int .u64 (wd (Pt.pX q) 2),.int .u64 (wd (Pt.pX q) 3),.int .u64 (wd (Pt.pY q) 0),.int .u64 (wd (Pt.pY q) 1),.int .u64 (wd (Pt.pY q) 2),.int .u64 (wd (Pt.pY q) 3),.bool (Pt.pFar q)]] w fun e w' => e = .returned (.agg #[.int .u64 (wd (Pt.pX (Pt.E256.add p q)) 0),.int .u64 (wd (Pt.pX (Pt.E256.add p q)) 1),.int .u64 (wd (Pt.pX (Pt.E256.add p q)) 2),.int .u64 (wd (Pt.pX (Pt.E256.add p q)) 3),.int .u64 (wd (Pt.pY (Pt.E256.add p q)) 0),.int .u64 (wd (Pt.pY (Pt.E256.add p q)) 1),.int .u64 (wd (Pt.pY (Pt.E256.add p q)) 2),.int .u64 (wd (Pt.pY (Pt.E256.add p q)) 3),.bool (Pt.pFar (Pt.E256.add p q))]) ∧ Below w.heap.size w w'
 rcases p with _ | ⟨x1,y1⟩
 ·
  rw [Pt.none_add]
  exact radd_far1 0 0 (Pt.pX q) (Pt.pY q) (Pt.pFar q) w
 ·
  rcases q with _ | ⟨x2,y2⟩
  ·
   rw [Pt.add_none]
   exact radd_far2 x1.val y1.val 0 0 w
  ·
   by_cases h : x1 = x2 ∧ y1 = 0 - y2
   ·
    rw [Pt.add_far h]
    have e:=radd_opp x1.val y1.val x2.val y2.val (p_top (some (x1,y1))).1 (p_top (some (x1,y1))).2 (p_top (some (x2,y2))).1 y2.isLt ⟨by rw [h.1],by rw [← zfd,Pt.v_sub,← h.2]⟩ w
    rw [← far_pt] at e
    exact e
   ·
    rw [Pt.add_near h]
    by_cases hs : x1 = x2 ∧ y1 = y2
    ·
     obtain ⟨rfl,rfl⟩:=hs
     have hn : ¬ y1.val = (0 + Pt.pp - y1.val) % Pt.pp:=fun e => h ⟨rfl,Fin.ext (by rw [← Pt.v_sub,zfd]; exact e)⟩
     have hB : ((x1 * x1).val + Pt.pp - 1) % Pt.pp = (x1 * x1 - 1).val:=by rw [← Pt.v_sub,v_one]
     have hU : 3 * (x1 * x1 - 1).val % Pt.pp = (3 * (x1 * x1 - 1)).val:=by rw [← Pt.v_mul,v_three]
     refine (radd_same x1.val y1.val (x1 * x1).val (x1 * x1 - 1).val (3 * (x1 * x1 - 1)).val (y1 + y1).val x1.isLt y1.isLt hn (Pt.v_mul _ _).symm hB.symm hU.symm (Pt.v_add _ _).symm w).mono ?_
     rintro e w' ⟨T,hT1,hT2,rfl,hb⟩
     have hT:=Pt.v_inv hT1 (hT2 (Pt.v_gcd (Pt.down_same hp)))
     have hl : (3 * (x1 * x1 - 1)).val * T % Pt.pp = (Pt.E256.lam x1 y1 x1 y1).val:=by rw [hT,Pt.v_mul,Pt.lam_same]
     rw [x3_val x1 x1 hl,y3_val x1 y1 x1 hl]
     exact ⟨rfl,hb⟩
    ·
     have hn : ¬ (x1.val = x2.val ∧ y1.val = (0 + Pt.pp - y2.val) % Pt.pp):=fun e => h ⟨Fin.ext e.1,Fin.ext (by rw [← Pt.v_sub,zfd]; exact e.2)⟩
     have hs' : ¬ (x1.val = x2.val ∧ y1.val = y2.val):=fun e => hs ⟨Fin.ext e.1,Fin.ext e.2⟩
     refine (radd_else x1.val y1.val x2.val y2.val (y2 - y1).val (x2 - x1).val x1.isLt y1.isLt x2.isLt y2.isLt hn hs' (Pt.v_sub _ _).symm (Pt.v_sub _ _).symm w).mono ?_
     rintro e w' ⟨T,hT1,hT2,rfl,hb⟩
     have hT:=Pt.v_inv hT1 (hT2 (Pt.v_gcd (Pt.down_else hp hq h hs)))
     have hl : (y2 - y1).val * T % Pt.pp = (Pt.E256.lam x1 y1 x2 y2).val:=by rw [hT,Pt.v_mul,Pt.lam_else hs]
     rw [x3_val x1 x2 hl,y3_val x1 y1 x2 hl]
     exact ⟨rfl,hb⟩
theorem right_val (x : Fin Pt.pp) : rightN x.val = (x * x * x - 3 * x + Pt.F Pt.bb).val:=by
 unfold rightN
 have e3 : 3 * x.val % Pt.pp = (3 * x).val:=by rw [← Pt.v_mul,v_three]
 have eb : Pt.bb = (Pt.F Pt.bb : Fin Pt.pp).val:=(Nat.mod_eq_of_lt bb_lt).symm
 rw [e3,Pt.v_mul,Pt.v_mul,Pt.v_sub]
 conv => lhs; rw [eb]
 rw [Pt.v_add]
theorem onB_iff (X Y : Nat) (f : Bool) : onB X Y f = true ↔ Pt.isOn X Y f:=by
 unfold onB Pt.isOn
 cases f with
 | true => simp
 | false =>
  simp only [Bool.false_eq_true,if_false,Bool.and_eq_true,decide_eq_true_eq]
  constructor
  ·
   rintro ⟨hx,hy,h⟩
   refine ⟨hx,hy,(Pt.on_iff _ _).2 (Fin.ext ?_)⟩
   have ex : X = (Pt.F X : Fin Pt.pp).val:=(Nat.mod_eq_of_lt hx).symm
   have ey : Y = (Pt.F Y : Fin Pt.pp).val:=(Nat.mod_eq_of_lt hy).symm
   rw [← Pt.v_mul,← right_val,← ex,← ey]
   exact h
  ·
   rintro ⟨hx,hy,h⟩
   refine ⟨hx,hy,?_⟩
   have ex : X = (Pt.F X : Fin Pt.pp).val:=(Nat.mod_eq_of_lt hx).symm
   have ey : Y = (Pt.F Y : Fin Pt.pp).val:=(Nat.mod_eq_of_lt hy).symm
   have h2:=congrArg Fin.val ((Pt.on_iff _ _).1 h)
   rw [← Pt.v_mul,← right_val,← ex,← ey] at h2
   exact h2
theorem onB_some {X Y : Nat} {f : Bool} (h : onB X Y f = true) : ∃ q : Pt.Q,X = Pt.pX q.1 ∧ Y = Pt.pY q.1 ∧ f = Pt.pFar q.1:=(Pt.isOn_iff X Y f).1 ((onB_iff X Y f).1 h)
theorem onB_of (q : Pt.Q) : onB (Pt.pX q.1) (Pt.pY q.1) (Pt.pFar q.1) = true:=(onB_iff _ _ _).2 ((Pt.isOn_iff _ _ _).2 ⟨q,rfl,rfl,rfl⟩)
theorem bl_le {X : Nat} (hX : X < top) : bitLen X ≤ 256:=by
 unfold bitLen
 split
 ·
  omega
 ·
  rename_i h
  have:=(Nat.log2_lt h).2 (show X < 2 ^ 256 by rw [← top_two]; exact hX)
  omega
theorem bl_div (X : Nat) : X / 2 ^ bitLen X = 0:=Nat.div_eq_of_lt (bitLen_spec X).1
theorem far_row {w : World} {b t : Nat} (hb : b = w.heap.size) : (w.alloc (.cells #[.int .u64 0,.int .u64 0,.int .u64 0,.int .u64 0,.int .u64 0,.int .u64 0,.int .u64 0,.int .u64 0,.bool true] t)).rowIs b t 9 (pc 0 0 true):=zai (n:=9) hb rfl fun i hi => by
 have h:=arr9 0 0 true i hi
 simp only [wd_nil] at h
 exact h
theorem zgj (K m : Nat) (q : Pt.Q) : Pt.grp.mul (K / 2 ^ m) q = if bit K m = true then Pt.grp.op (Pt.grp.op (Pt.grp.mul (K / 2 ^ (m + 1)) q) (Pt.grp.mul (K / 2 ^ (m + 1)) q)) q else Pt.grp.op (Pt.grp.mul (K / 2 ^ (m + 1)) q) (Pt.grp.mul (K / 2 ^ (m + 1)) q):=by
 rw [Pt.mul_top]
 have hb : (bit K m = true) = (K / 2 ^ m % 2 = 1):=by unfold bit; simp
 simp only [hb]
theorem rtimes_calls (K : Nat) (hKt : K < top) (q : Pt.Q) (w : World) :
  Calls Tryz.prog 24 #[.agg #[.int .u64 (wd K 0),.int .u64 (wd K 1),.int .u64 (wd K 2),.int .u64 (wd K 3)],.agg #[.int .u64 (wd (Pt.pX q.1) 0),.int .u64 (wd (Pt.pX q.1) 1),.int .u64 (wd (Pt.pX q.1) 2),.int .u64 (wd (Pt.pX q.1) 3),.int .u64 (wd (Pt.pY q.1) 0),.int .u64 (wd (Pt.pY q.1) 1),.int .u64 (wd (Pt.pY q.1) 2),.int .u64 (wd (Pt.pY q.1) 3),.bool (Pt.pFar q.1)]] w fun e w' => e = .returned (.agg #[.int .u64 (wd (Pt.pX (Pt.grp.mul K q).1) 0),.int .u64 (wd (Pt.pX (Pt.grp.mul K q).1) 1),.int .u64 (wd (Pt.pX (Pt.grp.mul K q).1) 2),.int .u64 (wd (Pt.pX (Pt.grp.mul K q).1) 3),.int .u64 (wd (Pt.pY (Pt.grp.mul K q).1) 0),.int .u64 (wd (Pt.pY (Pt.grp.mul K q).1) 1),.int .u64 (wd (Pt.pY (Pt.grp.mul K q).1) 2),.int .u64 (wd (Pt.pY (Pt.grp.mul K q).1) 3),.bool (Pt.pFar (Pt.grp.mul K q).1)]) ∧ Below w.heap.size w w':=by
 have hK : (((w.alloc (.cells #[.int .u64 (wd K 0),.int .u64 (wd K 1),.int .u64 (wd K 2),.int .u64 (wd K 3)] 24)).alloc (.cells #[.int .u64 (wd (Pt.pX q.1) 0),.int .u64 (wd (Pt.pX q.1) 1),.int .u64 (wd (Pt.pX q.1) 2),.int .u64 (wd (Pt.pX q.1) 3),.int .u64 (wd (Pt.pY q.1) 0),.int .u64 (wd (Pt.pY q.1) 1),.int .u64 (wd (Pt.pY q.1) 2),.int .u64 (wd (Pt.pY q.1) 3),.bool (Pt.pFar q.1)] 29)).alloc (.cells #[.int .u64 0,.int .u64 0,.int .u64 0,.int .u64 0,.int .u64 0,.int .u64 0,.int .u64 0,.int .u64 0,.bool false] 29)).rowIs w.heap.size 24 4 (fun j => .int .u64 (wd K j)):=((zai (n:=4) rfl rfl (arr4 fun j => .int .u64 (wd K j))).alloc _).alloc _
 have hA : (((w.alloc (.cells #[.int .u64 (wd K 0),.int .u64 (wd K 1),.int .u64 (wd K 2),.int .u64 (wd K 3)] 24)).alloc (.cells #[.int .u64 (wd (Pt.pX q.1) 0),.int .u64 (wd (Pt.pX q.1) 1),.int .u64 (wd (Pt.pX q.1) 2),.int .u64 (wd (Pt.pX q.1) 3),.int .u64 (wd (Pt.pY q.1) 0),.int .u64 (wd (Pt.pY q.1) 1),.int .u64 (wd (Pt.pY q.1) 2),.int .u64 (wd (Pt.pY q.1) 3),.bool (Pt.pFar q.1)] 29)).alloc (.cells #[.int .u64 0,.int .u64 0,.int .u64 0,.int .u64 0,.int .u64 0,.int .u64 0,.int .u64 0,.int .u64 0,.bool false] 29)).rowIs (w.heap.size + 1) 29 9 (pc (Pt.pX q.1) (Pt.pY q.1) (Pt.pFar q.1)):=(zdn _ _ _ (by simp)).alloc _
 have hR : (((w.alloc (.cells #[.int .u64 (wd K 0),.int .u64 (wd K 1),.int .u64 (wd K 2),.int .u64 (wd K 3)] 24)).alloc (.cells #[.int .u64 (wd (Pt.pX q.1) 0),.int .u64 (wd (Pt.pX q.1) 1),.int .u64 (wd (Pt.pX q.1) 2),.int .u64 (wd (Pt.pX q.1) 3),.int .u64 (wd (Pt.pY q.1) 0),.int .u64 (wd (Pt.pY q.1) 1),.int .u64 (wd (Pt.pY q.1) 2),.int .u64 (wd (Pt.pY q.1) 3),.bool (Pt.pFar q.1)] 29)).alloc (.cells #[.int .u64 0,.int .u64 0,.int .u64 0,.int .u64 0,.int .u64 0,.int .u64 0,.int .u64 0,.int .u64 0,.bool false] 29)).rowIs (w.heap.size + 1 + 1) 29 9 (pc 0 0 false):=zeq (by simp)
 have hB : Below w.heap.size w (((w.alloc (.cells #[.int .u64 (wd K 0),.int .u64 (wd K 1),.int .u64 (wd K 2),.int .u64 (wd K 3)] 24)).alloc (.cells #[.int .u64 (wd (Pt.pX q.1) 0),.int .u64 (wd (Pt.pX q.1) 1),.int .u64 (wd (Pt.pX q.1) 2),.int .u64 (wd (Pt.pX q.1) 3),.int .u64 (wd (Pt.pY q.1) 0),.int .u64 (wd (Pt.pY q.1) 1),.int .u64 (wd (Pt.pY q.1) 2),.int .u64 (wd (Pt.pY q.1) 3),.bool (Pt.pFar q.1)] 29)).alloc (.cells #[.int .u64 0,.int .u64 0,.int .u64 0,.int .u64 0,.int .u64 0,.int .u64 0,.int .u64 0,.int .u64 0,.bool false] 29)):=(((Below.refl _ _).alloc (by simp) _).alloc (by simp) _).alloc (by simp; omega) _
 have hz : (((w.alloc (.cells #[.int .u64 (wd K 0),.int .u64 (wd K 1),.int .u64 (wd K 2),.int .u64 (wd K 3)] 24)).alloc (.cells #[.int .u64 (wd (Pt.pX q.1) 0),.int .u64 (wd (Pt.pX q.1) 1),.int .u64 (wd (Pt.pX q.1) 2),.int .u64 (wd (Pt.pX q.1) 3),.int .u64 (wd (Pt.pY q.1) 0),.int .u64 (wd (Pt.pY q.1) 1),.int .u64 (wd (Pt.pY q.1) 2),.int .u64 (wd (Pt.pY q.1) 3),.bool (Pt.pFar q.1)] 29)).alloc (.cells #[.int .u64 0,.int .u64 0,.int .u64 0,.int .u64 0,.int .u64 0,.int .u64 0,.int .u64 0,.int .u64 0,.bool false] 29)).heap.size = w.heap.size + 1 + 1 + 1:=by simp
 have hL : bitLen K ≤ 256:=bl_le hKt
 have hE : K / 2 ^ bitLen K = 0:=bl_div K
 have HT:=veil hKt
 clear hKt
 go_enter Tryz.func24,Tryz.ntmps24
 go_upto_region 1 with (fail)
 generalize (((w.alloc (.cells #[.int .u64 (wd K 0),.int .u64 (wd K 1),.int .u64 (wd K 2),.int .u64 (wd K 3)] 24)).alloc (.cells #[.int .u64 (wd (Pt.pX q.1) 0),.int .u64 (wd (Pt.pX q.1) 1),.int .u64 (wd (Pt.pX q.1) 2),.int .u64 (wd (Pt.pX q.1) 3),.int .u64 (wd (Pt.pY q.1) 0),.int .u64 (wd (Pt.pY q.1) 1),.int .u64 (wd (Pt.pY q.1) 2),.int .u64 (wd (Pt.pY q.1) 3),.bool (Pt.pFar q.1)] 29)).alloc (.cells #[.int .u64 0,.int .u64 0,.int .u64 0,.int .u64 0,.int .u64 0,.int .u64 0,.int .u64 0,.int .u64 0,.bool false] 29)) = w0 at *
 go_upto_region 2 with (fail)
 have hO : (w0.alloc (.cells #[.int .u64 0,.int .u64 0,.int .u64 0,.int .u64 0,.int .u64 0,.int .u64 0,.int .u64 0,.int .u64 0,.bool true] 29)).rowIs (w.heap.size + 1 + 1 + 1) 29 9 (pc (Pt.pX (Pt.grp.mul (K / 2 ^ bitLen K) q).1) (Pt.pY (Pt.grp.mul (K / 2 ^ bitLen K) q).1) (Pt.pFar (Pt.grp.mul (K / 2 ^ bitLen K) q).1)):=by
  rw [hE]
  exact far_row hz.symm
 replace hK:=hK.alloc (.cells #[.int .u64 0,.int .u64 0,.int .u64 0,.int .u64 0,.int .u64 0,.int .u64 0,.int .u64 0,.int .u64 0,.bool true] 29)
 replace hA:=hA.alloc (.cells #[.int .u64 0,.int .u64 0,.int .u64 0,.int .u64 0,.int .u64 0,.int .u64 0,.int .u64 0,.int .u64 0,.bool true] 29)
 replace hR:=hR.alloc (.cells #[.int .u64 0,.int .u64 0,.int .u64 0,.int .u64 0,.int .u64 0,.int .u64 0,.int .u64 0,.int .u64 0,.bool true] 29)
 replace hB:=hB.alloc hB.size (.cells #[.int .u64 0,.int .u64 0,.int .u64 0,.int .u64 0,.int .u64 0,.int .u64 0,.int .u64 0,.int .u64 0,.bool true] 29)
 generalize w0.alloc (.cells #[.int .u64 0,.int .u64 0,.int .u64 0,.int .u64 0,.int .u64 0,.int .u64 0,.int .u64 0,.int .u64 0,.bool true] 29) = w1 at *
 have HL:=veil hL
 clear hz hE hL
 obtain ⟨k0,k1,k2,k3⟩:=zag hK
 go_wp2_with fail
 refine (rlen_calls K HT.out _).mono ?_
 rintro e w2 ⟨rfl,hb⟩
 clear k0 k1 k2 k3
 replace hK:=zad hK hb hK.lt
 replace hA:=zad hA hb hA.lt
 replace hR:=zad hR hb hR.lt
 replace hO:=zad hO hb hO.lt
 replace hB:=hB.trans (hb.mono hB.size)
 clear hb
 obtain ⟨N,hN⟩ : ∃ N,N = bitLen K:=⟨_,rfl⟩
 rw [← hN] at hO ⊢
 have hN2 : N ≤ 256:=by rw [hN]; exact HL.out
 clear hN
 go_wp2
 go_loopw [6] (fun v6 wr => ∃ j : Nat,j ≤ 256 ∧ v6 = .int .i64 ((j : Int) - 1) ∧ wr.rowIs w.heap.size 24 4 (fun i => .int .u64 (wd K i)) ∧ wr.rowIs (w.heap.size + 1) 29 9 (pc (Pt.pX q.1) (Pt.pY q.1) (Pt.pFar q.1)) ∧ wr.rowIs (w.heap.size + 1 + 1) 29 9 (pc 0 0 false) ∧ wr.rowIs (w.heap.size + 1 + 1 + 1) 29 9 (pc (Pt.pX (Pt.grp.mul (K / 2 ^ j) q).1) (Pt.pY (Pt.grp.mul (K / 2 ^ j) q).1) (Pt.pFar (Pt.grp.mul (K / 2 ^ j) q).1)) ∧ Below w.heap.size w wr)
  (fun v6 _ => (intOf v6 + 1).toNat)
 case atStart => exact ⟨N,hN2,by go_num,hK,hA,hR,hO,hB⟩
 case round =>
  clear hK hA hR hO hB hN2
  obtain ⟨j,hj,hi,hK,hA,hR,hO,hB⟩:=hrel
  cases j with
  | zero =>
   obtain rfl : _ = Value.int .i64 (-1):=hi.trans (by congr 1)
   have HO:=veil (blk9 hO)
   have HR:=veil (blkOf hR)
   have e1 : Pt.grp.mul (K / 2 ^ 0) q = Pt.grp.mul K q:=by rw [Nat.pow_zero,Nat.div_one]
   rw [e1] at HO
   clear hO hR hi e1
   go_wp2_with (first
    | ((with_reducible refine zbk 26 ?_); refine wpList_load_row rfl 29 _ rfl (w.heap.size + 1 + 1 + 1) rfl 29 #[.int .u64 (wd (Pt.pX (Pt.grp.mul K q).1) 0),.int .u64 (wd (Pt.pX (Pt.grp.mul K q).1) 1),.int .u64 (wd (Pt.pX (Pt.grp.mul K q).1) 2),.int .u64 (wd (Pt.pX (Pt.grp.mul K q).1) 3),.int .u64 (wd (Pt.pY (Pt.grp.mul K q).1) 0),.int .u64 (wd (Pt.pY (Pt.grp.mul K q).1) 1),.int .u64 (wd (Pt.pY (Pt.grp.mul K q).1) 2),.int .u64 (wd (Pt.pY (Pt.grp.mul K q).1) 3),.bool (Pt.pFar (Pt.grp.mul K q).1)] (0,0) _ HO.out Tryz.underlying29 rfl zbi ?_)
    | ((with_reducible refine zbw ?_); refine wpList_store_row rfl 29 _ _ rfl (w.heap.size + 1 + 1) #[.int .u64 (wd (Pt.pX (Pt.grp.mul K q).1) 0),.int .u64 (wd (Pt.pX (Pt.grp.mul K q).1) 1),.int .u64 (wd (Pt.pX (Pt.grp.mul K q).1) 2),.int .u64 (wd (Pt.pX (Pt.grp.mul K q).1) 3),.int .u64 (wd (Pt.pY (Pt.grp.mul K q).1) 0),.int .u64 (wd (Pt.pY (Pt.grp.mul K q).1) 1),.int .u64 (wd (Pt.pY (Pt.grp.mul K q).1) 2),.int .u64 (wd (Pt.pY (Pt.grp.mul K q).1) 3),.bool (Pt.pFar (Pt.grp.mul K q).1)] rfl rfl 29 _ HR.out zbi (by rw [zay]; rfl) (one9 _ _ _) ?_))
   exact bodyPost_ret (results_cell_row rfl _ _ (w.heap.size + 1 + 1) 29 #[.int .u64 (wd (Pt.pX (Pt.grp.mul K q).1) 0),.int .u64 (wd (Pt.pX (Pt.grp.mul K q).1) 1),.int .u64 (wd (Pt.pX (Pt.grp.mul K q).1) 2),.int .u64 (wd (Pt.pX (Pt.grp.mul K q).1) 3),.int .u64 (wd (Pt.pY (Pt.grp.mul K q).1) 0),.int .u64 (wd (Pt.pY (Pt.grp.mul K q).1) 1),.int .u64 (wd (Pt.pY (Pt.grp.mul K q).1) 2),.int .u64 (wd (Pt.pY (Pt.grp.mul K q).1) 3),.bool (Pt.pFar (Pt.grp.mul K q).1)] (0,0) _ rfl (setRow_heap wr (w.heap.size + 1 + 1) _ #[.int .u64 (wd (Pt.pX (Pt.grp.mul K q).1) 0),.int .u64 (wd (Pt.pX (Pt.grp.mul K q).1) 1),.int .u64 (wd (Pt.pX (Pt.grp.mul K q).1) 2),.int .u64 (wd (Pt.pX (Pt.grp.mul K q).1) 3),.int .u64 (wd (Pt.pY (Pt.grp.mul K q).1) 0),.int .u64 (wd (Pt.pY (Pt.grp.mul K q).1) 1),.int .u64 (wd (Pt.pY (Pt.grp.mul K q).1) 2),.int .u64 (wd (Pt.pY (Pt.grp.mul K q).1) 3),.bool (Pt.pFar (Pt.grp.mul K q).1)] 29 (0,0) HR.out) Tryz.underlying29 rfl zbi) rfl ⟨rfl,zbr hB (by omega) _⟩
  | succ m =>
   obtain rfl : _ = Value.int .i64 (m : Int):=hi.trans (by congr 1; omega)
   have hm : m < 256:=by omega
   clear hi
   have hmi : (0 : Int) ≤ (m : Int):=by omega
   obtain ⟨R0,hR0⟩ : ∃ R,R = Pt.grp.mul (K / 2 ^ (m + 1)) q:=⟨_,rfl⟩
   rw [← hR0] at hO
   have HR0:=veil hR0
   clear hR0
   have hne1 : w.heap.size ≠ (w.heap.size + 1 + 1 + 1):=by omega
   have hne2 : w.heap.size + 1 ≠ (w.heap.size + 1 + 1 + 1):=by omega
   have hne3 : w.heap.size + 1 + 1 ≠ (w.heap.size + 1 + 1 + 1):=by omega
   have HO:=veil (blk9 hO)
   go_wp2_with (first
    | ((with_reducible refine zbk 16 ?_); refine wpList_load_row rfl 29 _ rfl (w.heap.size + 1 + 1 + 1) rfl 29 #[.int .u64 (wd (Pt.pX R0.1) 0),.int .u64 (wd (Pt.pX R0.1) 1),.int .u64 (wd (Pt.pX R0.1) 2),.int .u64 (wd (Pt.pX R0.1) 3),.int .u64 (wd (Pt.pY R0.1) 0),.int .u64 (wd (Pt.pY R0.1) 1),.int .u64 (wd (Pt.pY R0.1) 2),.int .u64 (wd (Pt.pY R0.1) 3),.bool (Pt.pFar R0.1)] (0,0) _ HO.out Tryz.underlying29 rfl zbi ?_)
    | ((with_reducible refine zbk 17 ?_); refine wpList_load_row rfl 29 _ rfl (w.heap.size + 1 + 1 + 1) rfl 29 #[.int .u64 (wd (Pt.pX R0.1) 0),.int .u64 (wd (Pt.pX R0.1) 1),.int .u64 (wd (Pt.pX R0.1) 2),.int .u64 (wd (Pt.pX R0.1) 3),.int .u64 (wd (Pt.pY R0.1) 0),.int .u64 (wd (Pt.pY R0.1) 1),.int .u64 (wd (Pt.pY R0.1) 2),.int .u64 (wd (Pt.pY R0.1) 3),.bool (Pt.pFar R0.1)] (0,0) _ HO.out Tryz.underlying29 rfl zbi ?_))
   refine (zgu R0 R0 _).mono ?_
   rintro e w5 ⟨rfl,hb⟩
   replace hK:=zad hK hb hK.lt
   replace hA:=zad hA hb hA.lt
   replace hR:=zad hR hb hR.lt
   replace hO:=zad hO hb hO.lt
   replace hB:=hB.trans (hb.mono hB.size)
   obtain ⟨R1,h1⟩ : ∃ R,R = Pt.grp.op R0 R0:=⟨_,rfl⟩
   rw [← h1]
   have HR1:=veil h1
   have HO:=veil (blkOf hO)
   clear hb h1
   go_upto_region 6 with (first
    | ((with_reducible refine zbw ?_); refine wpList_store_row rfl 29 _ _ rfl (w.heap.size + 1 + 1 + 1) #[.int .u64 (wd (Pt.pX R1.1) 0),.int .u64 (wd (Pt.pX R1.1) 1),.int .u64 (wd (Pt.pX R1.1) 2),.int .u64 (wd (Pt.pX R1.1) 3),.int .u64 (wd (Pt.pY R1.1) 0),.int .u64 (wd (Pt.pY R1.1) 1),.int .u64 (wd (Pt.pY R1.1) 2),.int .u64 (wd (Pt.pY R1.1) 3),.bool (Pt.pFar R1.1)] rfl rfl 29 _ HO.out zbi (by rw [zay]; rfl) (one9 _ _ _) ?_))
   have hO' : (w5.setRow (w.heap.size + 1 + 1 + 1) #[.int .u64 (wd (Pt.pX R1.1) 0),.int .u64 (wd (Pt.pX R1.1) 1),.int .u64 (wd (Pt.pX R1.1) 2),.int .u64 (wd (Pt.pX R1.1) 3),.int .u64 (wd (Pt.pY R1.1) 0),.int .u64 (wd (Pt.pY R1.1) 1),.int .u64 (wd (Pt.pY R1.1) 2),.int .u64 (wd (Pt.pY R1.1) 3),.bool (Pt.pFar R1.1)]).rowIs (w.heap.size + 1 + 1 + 1) 29 9 (pc (Pt.pX R1.1) (Pt.pY R1.1) (Pt.pFar R1.1)):=zgm hO rfl (arr9 _ _ _)
   replace hK:=hK.of_block (zbz w5 #[.int .u64 (wd (Pt.pX R1.1) 0),.int .u64 (wd (Pt.pX R1.1) 1),.int .u64 (wd (Pt.pX R1.1) 2),.int .u64 (wd (Pt.pX R1.1) 3),.int .u64 (wd (Pt.pY R1.1) 0),.int .u64 (wd (Pt.pY R1.1) 1),.int .u64 (wd (Pt.pY R1.1) 2),.int .u64 (wd (Pt.pY R1.1) 3),.bool (Pt.pFar R1.1)] (by omega))
   replace hA:=hA.of_block (zbz w5 #[.int .u64 (wd (Pt.pX R1.1) 0),.int .u64 (wd (Pt.pX R1.1) 1),.int .u64 (wd (Pt.pX R1.1) 2),.int .u64 (wd (Pt.pX R1.1) 3),.int .u64 (wd (Pt.pY R1.1) 0),.int .u64 (wd (Pt.pY R1.1) 1),.int .u64 (wd (Pt.pY R1.1) 2),.int .u64 (wd (Pt.pY R1.1) 3),.bool (Pt.pFar R1.1)] (by omega))
   replace hR:=hR.of_block (zbz w5 #[.int .u64 (wd (Pt.pX R1.1) 0),.int .u64 (wd (Pt.pX R1.1) 1),.int .u64 (wd (Pt.pX R1.1) 2),.int .u64 (wd (Pt.pX R1.1) 3),.int .u64 (wd (Pt.pY R1.1) 0),.int .u64 (wd (Pt.pY R1.1) 1),.int .u64 (wd (Pt.pY R1.1) 2),.int .u64 (wd (Pt.pY R1.1) 3),.bool (Pt.pFar R1.1)] (by omega))
   replace hB:=zbr hB (show w.heap.size ≤ (w.heap.size + 1 + 1 + 1) by omega) #[.int .u64 (wd (Pt.pX R1.1) 0),.int .u64 (wd (Pt.pX R1.1) 1),.int .u64 (wd (Pt.pX R1.1) 2),.int .u64 (wd (Pt.pX R1.1) 3),.int .u64 (wd (Pt.pY R1.1) 0),.int .u64 (wd (Pt.pY R1.1) 1),.int .u64 (wd (Pt.pY R1.1) 2),.int .u64 (wd (Pt.pY R1.1) 3),.bool (Pt.pFar R1.1)]
   generalize w5.setRow (w.heap.size + 1 + 1 + 1) #[.int .u64 (wd (Pt.pX R1.1) 0),.int .u64 (wd (Pt.pX R1.1) 1),.int .u64 (wd (Pt.pX R1.1) 2),.int .u64 (wd (Pt.pX R1.1) 3),.int .u64 (wd (Pt.pY R1.1) 0),.int .u64 (wd (Pt.pY R1.1) 1),.int .u64 (wd (Pt.pY R1.1) 2),.int .u64 (wd (Pt.pY R1.1) 3),.bool (Pt.pFar R1.1)] = w6 at *
   clear hO HO
   have hO:=hO'
   clear hO'
   have hbc:=fun W => rbit_in K m hm W
   by_cases hbit : bit K m = true
   ·
    rw [hbit] at hbc
    have HBIT:=veil hbit
    clear hbit
    obtain ⟨k0,k1,k2,k3⟩:=zag hK
    have HC:=veil hbc
    clear hbc
    go_wp2_with fail
    refine (HC.out _).mono ?_
    rintro e w7 ⟨rfl,hb⟩
    clear k0 k1 k2 k3
    replace hK:=zad hK hb hK.lt
    replace hA:=zad hA hb hA.lt
    replace hR:=zad hR hb hR.lt
    replace hO:=zad hO hb hO.lt
    replace hB:=hB.trans (hb.mono hB.size)
    clear hb
    have HO:=veil (blk9 hO)
    have HA:=veil (blk9 hA)
    go_upto_region 8 with (fail)
    go_wp2_with (first
     | ((with_reducible refine zbk 23 ?_); refine wpList_load_row rfl 29 _ rfl (w.heap.size + 1 + 1 + 1) rfl 29 #[.int .u64 (wd (Pt.pX R1.1) 0),.int .u64 (wd (Pt.pX R1.1) 1),.int .u64 (wd (Pt.pX R1.1) 2),.int .u64 (wd (Pt.pX R1.1) 3),.int .u64 (wd (Pt.pY R1.1) 0),.int .u64 (wd (Pt.pY R1.1) 1),.int .u64 (wd (Pt.pY R1.1) 2),.int .u64 (wd (Pt.pY R1.1) 3),.bool (Pt.pFar R1.1)] (0,0) _ HO.out Tryz.underlying29 rfl zbi ?_)
     | ((with_reducible refine zbk 24 ?_); refine wpList_load_row rfl 29 _ rfl (w.heap.size + 1) rfl 29 #[.int .u64 (wd (Pt.pX q.1) 0),.int .u64 (wd (Pt.pX q.1) 1),.int .u64 (wd (Pt.pX q.1) 2),.int .u64 (wd (Pt.pX q.1) 3),.int .u64 (wd (Pt.pY q.1) 0),.int .u64 (wd (Pt.pY q.1) 1),.int .u64 (wd (Pt.pY q.1) 2),.int .u64 (wd (Pt.pY q.1) 3),.bool (Pt.pFar q.1)] (0,0) _ HA.out Tryz.underlying29 rfl zbi ?_))
    refine (zgu R1 q _).mono ?_
    rintro e w5 ⟨rfl,hb⟩
    replace hK:=zad hK hb hK.lt
    replace hA:=zad hA hb hA.lt
    replace hR:=zad hR hb hR.lt
    replace hO:=zad hO hb hO.lt
    replace hB:=hB.trans (hb.mono hB.size)
    obtain ⟨R2,h2⟩ : ∃ R,R = Pt.grp.op R1 q:=⟨_,rfl⟩
    rw [← h2]
    have HR2:=veil h2
    have HO:=veil (blkOf hO)
    clear hb h2
    clear HA
    go_wp2_with (first
     | ((with_reducible refine zbw ?_); refine wpList_store_row rfl 29 _ _ rfl (w.heap.size + 1 + 1 + 1) #[.int .u64 (wd (Pt.pX R2.1) 0),.int .u64 (wd (Pt.pX R2.1) 1),.int .u64 (wd (Pt.pX R2.1) 2),.int .u64 (wd (Pt.pX R2.1) 3),.int .u64 (wd (Pt.pY R2.1) 0),.int .u64 (wd (Pt.pY R2.1) 1),.int .u64 (wd (Pt.pY R2.1) 2),.int .u64 (wd (Pt.pY R2.1) 3),.bool (Pt.pFar R2.1)] rfl rfl 29 _ HO.out zbi (by rw [zay]; rfl) (one9 _ _ _) ?_))
    have hO' : (w5.setRow (w.heap.size + 1 + 1 + 1) #[.int .u64 (wd (Pt.pX R2.1) 0),.int .u64 (wd (Pt.pX R2.1) 1),.int .u64 (wd (Pt.pX R2.1) 2),.int .u64 (wd (Pt.pX R2.1) 3),.int .u64 (wd (Pt.pY R2.1) 0),.int .u64 (wd (Pt.pY R2.1) 1),.int .u64 (wd (Pt.pY R2.1) 2),.int .u64 (wd (Pt.pY R2.1) 3),.bool (Pt.pFar R2.1)]).rowIs (w.heap.size + 1 + 1 + 1) 29 9 (pc (Pt.pX R2.1) (Pt.pY R2.1) (Pt.pFar R2.1)):=zgm hO rfl (arr9 _ _ _)
    replace hK:=hK.of_block (zbz w5 #[.int .u64 (wd (Pt.pX R2.1) 0),.int .u64 (wd (Pt.pX R2.1) 1),.int .u64 (wd (Pt.pX R2.1) 2),.int .u64 (wd (Pt.pX R2.1) 3),.int .u64 (wd (Pt.pY R2.1) 0),.int .u64 (wd (Pt.pY R2.1) 1),.int .u64 (wd (Pt.pY R2.1) 2),.int .u64 (wd (Pt.pY R2.1) 3),.bool (Pt.pFar R2.1)] (by omega))
    replace hA:=hA.of_block (zbz w5 #[.int .u64 (wd (Pt.pX R2.1) 0),.int .u64 (wd (Pt.pX R2.1) 1),.int .u64 (wd (Pt.pX R2.1) 2),.int .u64 (wd (Pt.pX R2.1) 3),.int .u64 (wd (Pt.pY R2.1) 0),.int .u64 (wd (Pt.pY R2.1) 1),.int .u64 (wd (Pt.pY R2.1) 2),.int .u64 (wd (Pt.pY R2.1) 3),.bool (Pt.pFar R2.1)] (by omega))
    replace hR:=hR.of_block (zbz w5 #[.int .u64 (wd (Pt.pX R2.1) 0),.int .u64 (wd (Pt.pX R2.1) 1),.int .u64 (wd (Pt.pX R2.1) 2),.int .u64 (wd (Pt.pX R2.1) 3),.int .u64 (wd (Pt.pY R2.1) 0),.int .u64 (wd (Pt.pY R2.1) 1),.int .u64 (wd (Pt.pY R2.1) 2),.int .u64 (wd (Pt.pY R2.1) 3),.bool (Pt.pFar R2.1)] (by omega))
    replace hB:=zbr hB (show w.heap.size ≤ (w.heap.size + 1 + 1 + 1) by omega) #[.int .u64 (wd (Pt.pX R2.1) 0),.int .u64 (wd (Pt.pX R2.1) 1),.int .u64 (wd (Pt.pX R2.1) 2),.int .u64 (wd (Pt.pX R2.1) 3),.int .u64 (wd (Pt.pY R2.1) 0),.int .u64 (wd (Pt.pY R2.1) 1),.int .u64 (wd (Pt.pY R2.1) 2),.int .u64 (wd (Pt.pY R2.1) 3),.bool (Pt.pFar R2.1)]
    generalize w5.setRow (w.heap.size + 1 + 1 + 1) #[.int .u64 (wd (Pt.pX R2.1) 0),.int .u64 (wd (Pt.pX R2.1) 1),.int .u64 (wd (Pt.pX R2.1) 2),.int .u64 (wd (Pt.pX R2.1) 3),.int .u64 (wd (Pt.pY R2.1) 0),.int .u64 (wd (Pt.pY R2.1) 1),.int .u64 (wd (Pt.pY R2.1) 2),.int .u64 (wd (Pt.pY R2.1) 3),.bool (Pt.pFar R2.1)] = w6 at *
    clear hO HO
    have hO:=hO'
    clear hO'
    go_roundw
    case rel => exact ⟨m,by omega,by go_num,hK,hA,hR,by rw [zgj,if_pos HBIT.out,← HR0.out,← HR1.out,← HR2.out]; exact hO,hB⟩
    case measure => simp [intOf]
   ·
    have hbit : bit K m = false:=by simpa using hbit
    rw [hbit] at hbc
    have HBIT:=veil hbit
    clear hbit
    obtain ⟨k0,k1,k2,k3⟩:=zag hK
    have HC:=veil hbc
    clear hbc
    go_wp2_with fail
    refine (HC.out _).mono ?_
    rintro e w7 ⟨rfl,hb⟩
    clear k0 k1 k2 k3
    replace hK:=zad hK hb hK.lt
    replace hA:=zad hA hb hA.lt
    replace hR:=zad hR hb hR.lt
    replace hO:=zad hO hb hO.lt
    replace hB:=hB.trans (hb.mono hB.size)
    clear hb
    go_wp2
    go_roundw
    case rel => exact ⟨m,by omega,by go_num,hK,hA,hR,by rw [zgj,HBIT.out,if_neg (by decide),← HR0.out,← HR1.out]; exact hO,hB⟩
    case measure => simp [intOf]
def gc (r s : Nat) : Array Value:=#[.int .u64 (wd r 0),.int .u64 (wd r 1),.int .u64 (wd r 2),.int .u64 (wd r 3),.int .u64 (wd s 0),.int .u64 (wd s 1),.int .u64 (wd s 2),.int .u64 (wd s 3)]
def gv (r s : Nat) : Value:=.agg (gc r s)
theorem zda (r s : Nat) : (gc r s).all (·.oneCell') = true:=by simp [gc,Value.oneCell']
theorem iSg (r s : Nat) : (Tryz.prog.info? 35).map (·.size) = some (gc r s).size:=by kernel_rfl
def dgc (y : Nat → Nat) : Array Value:=arrOf 32 fun i => .int .u8 (y i : Nat)
def dgv (y : Nat → Nat) : Value:=.agg (dgc y)
theorem iDg (y : Nat → Nat) : (Tryz.prog.info? 26).map (·.size) = some (dgc y).size:=by
 unfold dgc
 rw [zay]; exact infoD
section
variable (g : Nat) (W : World)
theorem fldG0 : (Instr.fieldAt 35 (ptrTo g) 0).run Tryz.prog W = .ok (.pointer (some ⟨g,0,none⟩)) W:=by simp [Instr.fieldAt,go_sem]
theorem fldG1 : (Instr.fieldAt 35 (ptrTo g) 1).run Tryz.prog W = .ok (.pointer (some ⟨g,4,none⟩)) W:=by simp [Instr.fieldAt,go_sem]
theorem hzG : (Instr.alloc 35 true (.tuple #[])).run Tryz.prog W = .ok (ptrTo W.heap.size) (W.alloc (.cells #[.int .u64 0,.int .u64 0,.int .u64 0,.int .u64 0,.int .u64 0,.int .u64 0,.int .u64 0,.int .u64 0] 35)):=by simp [Instr.alloc,go_sem]
theorem bldG (r s : Nat) : (Instr.build 35 [(0,nv r),(1,nv s)].toArray).run Tryz.prog W = .ok (gv r s) W:=by simp [Instr.build,go_sem,nv,nc,gv,gc]
theorem bldG0 : (Instr.build 35 [].toArray).run Tryz.prog W = .ok (gv 0 0) W:=by
 obtain ⟨h0,h1,h2,h3⟩:=wd_z
 unfold gv gc
 rw [h0,h1,h2,h3]
 simp [Instr.build,go_sem]
theorem sliceD : (Instr.sliceAt 26 (ptrTo g) none none none).run Tryz.prog W = .ok (.slice (some ⟨g,0,none⟩) 32 32) W:=by kernel_rfl
end
/-! ### points -/
def pv (q : Pt.Q) : Value:=qv (Pt.pX q.1) (Pt.pY q.1) (Pt.pFar q.1)
theorem base_x : Pt.pX Pt.base.1 = Pt.gx ∧ Pt.pY Pt.base.1 = Pt.gy ∧ Pt.pFar Pt.base.1 = false:=by decide +kernel
theorem rbase_is (w : World) : Calls Tryz.prog 25 #[] w fun e w' => e = .returned (qv Pt.gx Pt.gy false) ∧ Ext w w':=rbase_calls w
theorem rmulq_is {K : Nat} (hK : K < top) {p q : Pt.Q} (hq : q = Pt.grp.mul K p) (w : World) : Calls Tryz.prog 24 #[nv K,qv (Pt.pX p.1) (Pt.pY p.1) (Pt.pFar p.1)] w fun e w' => e = .returned (qv (Pt.pX q.1) (Pt.pY q.1) (Pt.pFar q.1)) ∧ Ext w w':=by
 subst hq; exact rtimes_calls K hK p w
theorem rmulb_is {K : Nat} (hK : K < top) {q : Pt.Q} (hq : q = Pt.grp.mul K Pt.base) (w : World) : Calls Tryz.prog 24 #[nv K,qv Pt.gx Pt.gy false] w fun e w' => e = .returned (qv (Pt.pX q.1) (Pt.pY q.1) (Pt.pFar q.1)) ∧ Ext w w':=by
 have h:=rmulq_is hK hq w
 rwa [base_x.1,base_x.2.1,base_x.2.2] at h
theorem rmulp_is {K X Y : Nat} {f : Bool} (hK : K < top) {p q : Pt.Q} (hp : X = Pt.pX p.1 ∧ Y = Pt.pY p.1 ∧ f = Pt.pFar p.1) (hq : q = Pt.grp.mul K p) (w : World) : Calls Tryz.prog 24 #[nv K,qv X Y f] w fun e w' => e = .returned (qv (Pt.pX q.1) (Pt.pY q.1) (Pt.pFar q.1)) ∧ Ext w w':=by
 obtain ⟨rfl,rfl,rfl⟩:=hp
 exact rmulq_is hK hq w
theorem radd_at {a b c : Pt.Q} {x z : Nat} {f : Bool} (hc : c = Pt.grp.op a b) (hx : x = Pt.pX c.1) (hz : z = Pt.pY c.1) (hf : Pt.pFar c.1 = f) (w : World) : Calls Tryz.prog 39 #[qv (Pt.pX a.1) (Pt.pY a.1) (Pt.pFar a.1),qv (Pt.pX b.1) (Pt.pY b.1) (Pt.pFar b.1)] w fun e w' => e = .returned (qv x z f) ∧ Ext w w':=by
 subst hx hz hf hc; exact zgu a b w
theorem zeh {X Y : Nat} {f r : Bool} (h : onB X Y f = r) (hX : X < top) (hY : Y < top) (w : World) : Calls Tryz.prog 38 #[qv X Y f] w fun e w' => e = .returned (.bool r) ∧ Ext w w':=by
 subst h; exact ron_calls X Y f hX hY w
theorem zbv {X : Nat} {r : Bool} (h : mayB X = r) (hX : X < top) (w : World) : Calls Tryz.prog 8 #[nv X] w fun e w' => e = .returned (.bool r) ∧ Ext w w':=by
 subst h; exact may_calls X hX w
/-! ### numbers modulo n -/
theorem nn_1 : 1 < Pt.nn:=Pt.nn_one
theorem nn_pos : 0 < Pt.nn:=Nat.lt_trans Nat.zero_lt_one nn_1
theorem mod_nn {M X : Nat} (h : M = X % Pt.nn) : M < Pt.nn:=by rw [h]; exact Nat.mod_lt _ nn_pos
theorem zec {M X : Nat} (h : M = X % Pt.nn) : M < top:=Nat.lt_trans (mod_nn h) zdi
theorem mul_top {M X Y : Nat} (h : M = X * Y % Pt.nn) : M < top:=zec h
theorem inv_nn {t S : Nat} (h : t = Pt.iG Pt.nn S) : t < Pt.nn:=by rw [h]; exact Pt.iG_lt Pt.nn S
theorem zez {t S : Nat} (h : t = Pt.iG Pt.nn S) : t < top:=Nat.lt_trans (inv_nn h) zdi
theorem zgp {X : Nat} (h : mayB X = true) : X < Pt.nn:=((Pt.inR_iff X).1 h).2
theorem may_ne {X : Nat} (h : mayB X = true) : X ≠ 0:=((Pt.inR_iff X).1 h).1
theorem rinn_is {X M : Nat} (hM : M = X % Pt.nn) (hX : X < top) (w : World) : Calls Tryz.prog 26 #[nv X,nv Pt.nn] w fun e w' => e = .returned (nv M) ∧ Ext w w':=by
 subst hM; exact gin_calls X Pt.nn hX nn_1 zdi w
theorem rmuln_is {X Y Z : Nat} (hZ : Z = X * Y % Pt.nn) (hX : X < Pt.nn) (hY : Y < top) (w : World) : Calls Tryz.prog 72 #[nv X,nv Y,nv Pt.nn] w fun e w' => e = .returned (nv Z) ∧ Ext w w':=by
 subst hZ; exact gmul_calls X Y Pt.nn hX hY zdi w
theorem rinvn_is {X t : Nat} (h0 : X ≠ 0) (hX : X < Pt.nn) (ht : t = Pt.iG Pt.nn X) (w : World) : Calls Tryz.prog 27 #[nv X,nv Pt.nn] w fun e w' => e = .returned (.tuple #[nv t,.bool true]) ∧ Ext w w':=by
 refine (zhz X Pt.nn hX nn_1 (by decide +kernel) zdi w).mono ?_
 rintro e w' ⟨y,hy,hi,rfl,hb⟩
 have hg:=Pt.gcd_nn h0 hX
 have e1 : y = t:=by rw [ht]; exact Pt.iG_of Pt.nn Pt.nn_root Pt.nn_one hy (hi hg)
 rw [hg,e1]
 exact ⟨rfl,hb⟩
theorem rofd_is {y : Nat → Nat} {X : Nat} (hy : ∀ j,y j < 256) (hX : X = num32 y) {g : Nat} (w : World) (hb : w.heap[g]? = some (.cells (dgc y) 26 (0,0))) : Calls Tryz.prog 62 #[.slice (some ⟨g,0,none⟩) 32 32] w fun e w' => e = .returned (nv X) ∧ Ext w w':=by
 subst hX
 exact rof_some g 0 32 32 y hy (by decide) w (Array.getElem?_eq_some_iff.1 hb).1 (fun j hj => by rw [Nat.zero_add,cell_of_row w g j _ _ _ hb]; exact zcu _ hj)
theorem zgi {X Y Z : Nat} (hZ : Z = X * Y % Pt.nn) (hX : X < Pt.nn) (hY : Y < top) (w : World) :
  Calls Tryz.prog 28 #[nv X,nv Y] w fun e w' => e = .returned (nv Z) ∧ Ext w w':=by
 have kZ:=veil hZ
 have kX:=veil hX
 have kY:=veil hY
 clear hY hX hZ
 unfold nv nc
 go_enter Tryz.func28,Tryz.ntmps28
 go_upto_region 1 with (fail)
 obtain ⟨hx,b0,b1,b2⟩:=blocks3 w (.cells #[.int .u64 (wd X 0),.int .u64 (wd X 1),.int .u64 (wd X 2),.int .u64 (wd X 3)] 24) (.cells #[.int .u64 (wd Y 0),.int .u64 (wd Y 1),.int .u64 (wd Y 2),.int .u64 (wd Y 3)] 24) (.cells #[.int .u64 0,.int .u64 0,.int .u64 0,.int .u64 0] 24)
 generalize ((w.alloc (.cells #[.int .u64 (wd X 0),.int .u64 (wd X 1),.int .u64 (wd X 2),.int .u64 (wd X 3)] 24)).alloc (.cells #[.int .u64 (wd Y 0),.int .u64 (wd Y 1),.int .u64 (wd Y 2),.int .u64 (wd Y 3)] 24)).alloc (.cells #[.int .u64 0,.int .u64 0,.int .u64 0,.int .u64 0] 24) = w1 at *
 have b0 : w1.heap[w.heap.size]? = some (.cells (nc X) 24 (0,0)):=b0
 have b1 : w1.heap[w.heap.size + 1]? = some (.cells (nc Y) 24 (0,0)):=b1
 refine' zbn (m:=4) (A:=_) 4 (by kernel_rfl) (by kernel_rfl) (by kernel_rfl) ?h1 ?h2
 case h1 =>
  refine zaa (nv X) rfl (zac rfl rfl b0 rfl uN rfl (iN _)) ?_
  refine zaa (nv Y) rfl (zac rfl rfl b1 rfl uN rfl (iN _)) ?_;simp only [aP,lA,lZ,lS]
  refine zaa (nv Pt.nn) rfl (zah (args:=[]) rfl rfl (fun W => zab Tryz.func22 rfl rfl _ W) (fun W hW => nn_is W)) ?_
  refine zaa (nv Z) rfl (zah (args:=[nv X,nv Y,nv Pt.nn]) rfl rfl (fun W => zab Tryz.func72 rfl rfl _ W) (fun W hW => rmuln_is kZ.out kX.out kY.out W)) ?_;simp only [aP,lA,lZ,lS]
  exact zaj
 refine zfi _ rfl rfl rfl rfl rfl (by kernel_rfl) (by kernel_rfl) rfl rfl rfl b2 (iN _) rfl (zbf _) ?_
 intro w2 hB hb
 refine NoPanic.normal ?_
 go_wp2
 exact bodyPost_ret (results_cell_row rfl _ _ (w.heap.size + 1 + 1) 24 (nc Z) (0,0) _ rfl hb Tryz.underlying24 rfl (by kernel_rfl)) rfl ⟨rfl,hx.new hB (by omega)⟩
theorem vnum_calls (y : Nat → Nat) (hy : ∀ j,y j < 256) {X M : Nat} (hX : X = num32 y) (hM : M = X % Pt.nn) (w : World) :
  Calls Tryz.prog 30 #[dgv y] w fun e w' => e = .returned (nv M) ∧ Ext w w':=by
 have ky:=veil hy
 have kX:=veil hX
 have kM:=veil hM
 clear hM hX hy
 unfold nv nc dgv dgc
 go_enter Tryz.func30,Tryz.ntmps30
 go_upto_region 1 with (fail)
 obtain ⟨hx,b0,b1⟩:=blocks2 w (.cells (arrOf 32 fun i => .int .u8 (y i : Nat)) 26) (.cells #[.int .u64 0,.int .u64 0,.int .u64 0,.int .u64 0] 24)
 generalize (w.alloc (.cells (arrOf 32 fun i => .int .u8 (y i : Nat)) 26)).alloc (.cells #[.int .u64 0,.int .u64 0,.int .u64 0,.int .u64 0] 24) = w1 at *
 have b0 : w1.heap[w.heap.size]? = some (.cells (dgc y) 26 (0,0)):=b0
 refine' zan (m:=4) (A:=_) (by kernel_rfl) ?h1 ?h2
 case h1 =>
  refine zaa (.slice (some ⟨w.heap.size,0,none⟩) 32 32) rfl (made_slice rfl rfl (sliceD _ ·)) ?_
  refine zaa (nv X) rfl (zah (args:=[.slice (some ⟨w.heap.size,0,none⟩) 32 32]) rfl rfl (fun W => zab Tryz.func62 rfl rfl _ W) (fun W hW => rofd_is ky.out kX.out W (hW.block b0))) ?_;simp only [aP,lA,lZ,lS]
  refine zaa (nv Pt.nn) rfl (zah (args:=[]) rfl rfl (fun W => zab Tryz.func22 rfl rfl _ W) (fun W hW => nn_is W)) ?_
  refine zaa (nv M) rfl (zah (args:=[nv X,nv Pt.nn]) rfl rfl (fun W => zab Tryz.func26 rfl rfl _ W) (fun W hW => rinn_is kM.out (by rw [kX.out]; exact zga ky.out) W)) ?_;simp only [aP,lA,lZ,lS]
  exact zaj
 refine zbp _ rfl rfl rfl rfl rfl rfl b1 (iN _) rfl (zbf _) ?_
 intro w2 hB hb
 go_wp2
 exact bodyPost_ret (results_cell_row rfl _ _ (w.heap.size + 1) 24 (nc M) (0,0) _ rfl hb Tryz.underlying24 rfl (by kernel_rfl)) rfl ⟨rfl,hx.new hB (by omega)⟩
end Go.Proofs.YtmfjigcdhijkjaaGreatDoor
