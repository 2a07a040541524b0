/-
  Of Q9 Q10 S0 S1 S4 V0 V1 V2 LW.
-/
import Derived.Test.YtmfjigcdhijkjaaGreatDoorCards
import Derived.Test.YtmfjigcdhijkjaaGreatDoorTie
import Derived.Carry
import Derived.ChangeSame
import Derived.Deep.Strs
import Derived.Test.YtmfjigcdhijkjaaGreatDoorZS8
import Derived.Test.YtmfjigcdhijkjaaGreatDoorZS6
import Derived.Test.YtmfjigcdhijkjaaGreatDoorZS2
import Derived.Test.YtmfjigcdhijkjaaGreatDoorZS5
import Derived.Test.YtmfjigcdhijkjaaGreatDoorZS3
import Derived.Test.YtmfjigcdhijkjaaGreatDoorZS1
import Derived.Test.YtmfjigcdhijkjaaGreatDoorZS9
import Derived.Test.YtmfjigcdhijkjaaGreatDoorZS4
set_option maxRecDepth 1000000
set_option maxHeartbeats 20000000
namespace Go.Proofs.YtmfjigcdhijkjaaGreatDoor
open Go.RowKit
open Go.Value renaming int → vI
open Go.IntKind renaming u64 → vU
open Go.Act renaming put → aP
open List renaming setIfInBounds_toArray → lA, set_cons_zero → lZ, set_cons_succ → lS
theorem zfd : ((0 : Fin Pt.pp)).val = 0:=Fin.val_zero _
theorem v_one : ((1 : Fin Pt.pp)).val = 1:=Pt.val_one pp_one
theorem v_three : ((3 : Fin Pt.pp)).val = 3:=by
 rw [← Pt.F_three]
 exact Nat.mod_eq_of_lt three_lt
theorem x3_val {U T : Nat} {l : Fin Pt.pp} (x1 x2 : Fin Pt.pp) (h : U * T % Pt.pp = l.val) : x3 U T x1.val x2.val = (l * l - x1 - x2).val:=by
 unfold x3
 rw [h,Pt.v_mul,Pt.v_sub,Pt.v_sub]
theorem y3_val {U T : Nat} {l : Fin Pt.pp} (x1 y1 x2 : Fin Pt.pp) (h : U * T % Pt.pp = l.val) : y3 U T x1.val y1.val x2.val = (l * (x1 - (l * l - x1 - x2)) - y1).val:=by
 unfold y3
 rw [x3_val x1 x2 h,h,Pt.v_sub,Pt.v_mul,Pt.v_sub]
theorem p_top (p : Pt.P Pt.pp) : Pt.pX p < top ∧ Pt.pY p < top:=⟨Nat.lt_trans (Pt.pX_lt p) zbq,Nat.lt_trans (Pt.pY_lt p) zbq⟩
theorem rplus_calls (p q : Pt.Q) (w : World) :
  Calls Tryz.prog 39 #[.agg #[vI vU (wd (Pt.pX p.1) 0),vI vU (wd (Pt.pX p.1) 1),vI vU (wd (Pt.pX p.1) 2),vI vU (wd (Pt.pX p.1) 3),vI vU (wd (Pt.pY p.1) 0),vI vU (wd (Pt.pY p.1) 1),vI vU (wd (Pt.pY p.1) 2),vI vU (wd (Pt.pY p.1) 3),.bool (Pt.pFar p.1)],.agg #[vI vU (wd (Pt.pX q.1) 0),vI vU (wd (Pt.pX q.1) 1),vI vU (wd (Pt.pX q.1) 2),vI vU (wd (Pt.pX q.1) 3),vI vU (wd (Pt.pY q.1) 0),vI vU (wd (Pt.pY q.1) 1),vI vU (wd (Pt.pY q.1) 2),vI vU (wd (Pt.pY q.1) 3),.bool (Pt.pFar q.1)]] w fun e w' => e = .returned (.agg #[vI vU (wd (Pt.pX (Pt.grp.op p q).1) 0),vI vU (wd (Pt.pX (Pt.grp.op p q).1) 1),vI vU (wd (Pt.pX (Pt.grp.op p q).1) 2),vI vU (wd (Pt.pX (Pt.grp.op p q).1) 3),vI vU (wd (Pt.pY (Pt.grp.op p q).1) 0),vI vU (wd (Pt.pY (Pt.grp.op p q).1) 1),vI vU (wd (Pt.pY (Pt.grp.op p q).1) 2),vI vU (wd (Pt.pY (Pt.grp.op p q).1) 3),.bool (Pt.pFar (Pt.grp.op p q).1)]) ∧ Below w.heap.size w w':=by
 obtain ⟨p,hp⟩:=p
 obtain ⟨q,hq⟩:=q
 show Calls Tryz.prog 39 #[.agg #[vI vU (wd (Pt.pX p) 0),vI vU (wd (Pt.pX p) 1),vI vU (wd (Pt.pX p) 2),vI vU (wd (Pt.pX p) 3),vI vU (wd (Pt.pY p) 0),vI vU (wd (Pt.pY p) 1),vI vU (wd (Pt.pY p) 2),vI vU (wd (Pt.pY p) 3),.bool (Pt.pFar p)],.agg #[vI vU (wd (Pt.pX q) 0),vI vU (wd (Pt.pX q) 1),vI vU (wd (Pt.pX q) 2),vI vU (wd (Pt.pX q) 3),vI vU (wd (Pt.pY q) 0),vI vU (wd (Pt.pY q) 1),vI vU (wd (Pt.pY q) 2),vI vU (wd (Pt.pY q) 3),.bool (Pt.pFar q)]] w fun e w' => e = .returned (.agg #[vI vU (wd (Pt.pX (Pt.E256.add p q)) 0),vI vU (wd (Pt.pX (Pt.E256.add p q)) 1),vI vU (wd (Pt.pX (Pt.E256.add p q)) 2),vI vU (wd (Pt.pX (Pt.E256.add p q)) 3),vI vU (wd (Pt.pY (Pt.E256.add p q)) 0),vI vU (wd (Pt.pY (Pt.E256.add p q)) 1),vI vU (wd (Pt.pY (Pt.E256.add p q)) 2),vI vU (wd (Pt.pY (Pt.E256.add p q)) 3),.bool (Pt.pFar (Pt.E256.add p q))]) ∧ Below w.heap.size w w'
 rcases p with _ | ⟨x1,y1⟩
 ·
  rw [Pt.none_add]
  exact radd_far1 0 0 (Pt.pX q) (Pt.pY q) (Pt.pFar q) w
 ·
  rcases q with _ | ⟨x2,y2⟩
  ·
   rw [Pt.add_none]
   exact radd_far2 x1.val y1.val 0 0 w
  ·
   by_cases h : x1 = x2 ∧ y1 = 0 - y2
   ·
    rw [Pt.add_far h]
    have e:=radd_opp x1.val y1.val x2.val y2.val (p_top (some (x1,y1))).1 (p_top (some (x1,y1))).2 (p_top (some (x2,y2))).1 y2.isLt ⟨by rw [h.1],by rw [← zfd,Pt.v_sub,← h.2]⟩ w
    rw [← far_pt] at e
    exact e
   ·
    rw [Pt.add_near h]
    by_cases hs : x1 = x2 ∧ y1 = y2
    ·
     obtain ⟨rfl,rfl⟩:=hs
     have hn : ¬ y1.val = (0 + Pt.pp - y1.val) % Pt.pp:=fun e => h ⟨rfl,Fin.ext (by rw [← Pt.v_sub,zfd]; exact e)⟩
     have hB : ((x1 * x1).val + Pt.pp - 1) % Pt.pp = (x1 * x1 - 1).val:=by rw [← Pt.v_sub,v_one]
     have hU : 3 * (x1 * x1 - 1).val % Pt.pp = (3 * (x1 * x1 - 1)).val:=by rw [← Pt.v_mul,v_three]
     refine (radd_same x1.val y1.val (x1 * x1).val (x1 * x1 - 1).val (3 * (x1 * x1 - 1)).val (y1 + y1).val x1.isLt y1.isLt hn (Pt.v_mul _ _).symm hB.symm hU.symm (Pt.v_add _ _).symm w).mono ?_
     rintro e w' ⟨T,hT1,hT2,rfl,hb⟩
     have hT:=Pt.v_inv hT1 (hT2 (Pt.v_gcd (Pt.down_same hp)))
     have hl : (3 * (x1 * x1 - 1)).val * T % Pt.pp = (Pt.E256.lam x1 y1 x1 y1).val:=by rw [hT,Pt.v_mul,Pt.lam_same]
     rw [x3_val x1 x1 hl,y3_val x1 y1 x1 hl]
     exact ⟨rfl,hb⟩
    ·
     have hn : ¬ (x1.val = x2.val ∧ y1.val = (0 + Pt.pp - y2.val) % Pt.pp):=fun e => h ⟨Fin.ext e.1,Fin.ext (by rw [← Pt.v_sub,zfd]; exact e.2)⟩
     have hs' : ¬ (x1.val = x2.val ∧ y1.val = y2.val):=fun e => hs ⟨Fin.ext e.1,Fin.ext e.2⟩
     refine (radd_else x1.val y1.val x2.val y2.val (y2 - y1).val (x2 - x1).val x1.isLt y1.isLt x2.isLt y2.isLt hn hs' (Pt.v_sub _ _).symm (Pt.v_sub _ _).symm w).mono ?_
     rintro e w' ⟨T,hT1,hT2,rfl,hb⟩
     have hT:=Pt.v_inv hT1 (hT2 (Pt.v_gcd (Pt.down_else hp hq h hs)))
     have hl : (y2 - y1).val * T % Pt.pp = (Pt.E256.lam x1 y1 x2 y2).val:=by rw [hT,Pt.v_mul,Pt.lam_else hs]
     rw [x3_val x1 x2 hl,y3_val x1 y1 x2 hl]
     exact ⟨rfl,hb⟩
theorem right_val (x : Fin Pt.pp) : rightN x.val = (x * x * x - 3 * x + Pt.F Pt.bb).val:=by
 unfold rightN
 have e3 : 3 * x.val % Pt.pp = (3 * x).val:=by rw [← Pt.v_mul,v_three]
 have eb : Pt.bb = (Pt.F Pt.bb : Fin Pt.pp).val:=(Nat.mod_eq_of_lt bb_lt).symm
 rw [e3,Pt.v_mul,Pt.v_mul,Pt.v_sub]
 conv => lhs; rw [eb]
 rw [Pt.v_add]
theorem onB_iff (X Y : Nat) (f : Bool) : onB X Y f = true ↔ Pt.isOn X Y f:=by
 unfold onB Pt.isOn
 cases f with
 | true => simp
 | false =>
  simp only [Bool.false_eq_true,if_false,Bool.and_eq_true,decide_eq_true_eq]
  constructor
  ·
   rintro ⟨hx,hy,h⟩
   refine ⟨hx,hy,(Pt.on_iff _ _).2 (Fin.ext ?_)⟩
   have ex : X = (Pt.F X : Fin Pt.pp).val:=(Nat.mod_eq_of_lt hx).symm
   have ey : Y = (Pt.F Y : Fin Pt.pp).val:=(Nat.mod_eq_of_lt hy).symm
   rw [← Pt.v_mul,← right_val,← ex,← ey]
   exact h
  ·
   rintro ⟨hx,hy,h⟩
   refine ⟨hx,hy,?_⟩
   have ex : X = (Pt.F X : Fin Pt.pp).val:=(Nat.mod_eq_of_lt hx).symm
   have ey : Y = (Pt.F Y : Fin Pt.pp).val:=(Nat.mod_eq_of_lt hy).symm
   have h2:=congrArg Fin.val ((Pt.on_iff _ _).1 h)
   rw [← Pt.v_mul,← right_val,← ex,← ey] at h2
   exact h2
theorem onB_of (q : Pt.Q) : onB (Pt.pX q.1) (Pt.pY q.1) (Pt.pFar q.1) = true:=(onB_iff _ _ _).2 ((Pt.isOn_iff _ _ _).2 ⟨q,rfl,rfl,rfl⟩)
theorem bl_le {X : Nat} (hX : X < top) : bitLen X ≤ 256:=by
 unfold bitLen
 split
 ·
  omega
 ·
  rename_i h
  have:=(Nat.log2_lt h).2 (show X < 2 ^ 256 by rw [← top_two]; exact hX)
  omega
theorem bl_div (X : Nat) : X / 2 ^ bitLen X = 0:=Nat.div_eq_of_lt (bitLen_spec X).1
theorem far_row {w : World} {b t : Nat} (hb : b = w.heap.size) : (w.alloc (.cells #[vI vU 0,vI vU 0,vI vU 0,vI vU 0,vI vU 0,vI vU 0,vI vU 0,vI vU 0,.bool true] t)).rowIs b t 9 (pc 0 0 true):=zag (n:=9) hb rfl fun i hi => by
 have h:=arr9 0 0 true i hi
 simp only [wd_nil] at h
 exact h
theorem zgn (K m : Nat) (q : Pt.Q) : Pt.grp.mul (K / 2 ^ m) q = if bit K m = true then Pt.grp.op (Pt.grp.op (Pt.grp.mul (K / 2 ^ (m + 1)) q) (Pt.grp.mul (K / 2 ^ (m + 1)) q)) q else Pt.grp.op (Pt.grp.mul (K / 2 ^ (m + 1)) q) (Pt.grp.mul (K / 2 ^ (m + 1)) q):=by
 rw [Pt.mul_top]
 have hb : (bit K m = true) = (K / 2 ^ m % 2 = 1):=by unfold bit; simp
 simp only [hb]
theorem rtimes_calls (K : Nat) (hKt : K < top) (q : Pt.Q) (w : World) :
  Calls Tryz.prog 24 #[.agg #[vI vU (wd K 0),vI vU (wd K 1),vI vU (wd K 2),vI vU (wd K 3)],.agg #[vI vU (wd (Pt.pX q.1) 0),vI vU (wd (Pt.pX q.1) 1),vI vU (wd (Pt.pX q.1) 2),vI vU (wd (Pt.pX q.1) 3),vI vU (wd (Pt.pY q.1) 0),vI vU (wd (Pt.pY q.1) 1),vI vU (wd (Pt.pY q.1) 2),vI vU (wd (Pt.pY q.1) 3),.bool (Pt.pFar q.1)]] w fun e w' => e = .returned (.agg #[vI vU (wd (Pt.pX (Pt.grp.mul K q).1) 0),vI vU (wd (Pt.pX (Pt.grp.mul K q).1) 1),vI vU (wd (Pt.pX (Pt.grp.mul K q).1) 2),vI vU (wd (Pt.pX (Pt.grp.mul K q).1) 3),vI vU (wd (Pt.pY (Pt.grp.mul K q).1) 0),vI vU (wd (Pt.pY (Pt.grp.mul K q).1) 1),vI vU (wd (Pt.pY (Pt.grp.mul K q).1) 2),vI vU (wd (Pt.pY (Pt.grp.mul K q).1) 3),.bool (Pt.pFar (Pt.grp.mul K q).1)]) ∧ Below w.heap.size w w':=by
 have hK : (((w.alloc (.cells #[vI vU (wd K 0),vI vU (wd K 1),vI vU (wd K 2),vI vU (wd K 3)] 24)).alloc (.cells #[vI vU (wd (Pt.pX q.1) 0),vI vU (wd (Pt.pX q.1) 1),vI vU (wd (Pt.pX q.1) 2),vI vU (wd (Pt.pX q.1) 3),vI vU (wd (Pt.pY q.1) 0),vI vU (wd (Pt.pY q.1) 1),vI vU (wd (Pt.pY q.1) 2),vI vU (wd (Pt.pY q.1) 3),.bool (Pt.pFar q.1)] 29)).alloc (.cells #[vI vU 0,vI vU 0,vI vU 0,vI vU 0,vI vU 0,vI vU 0,vI vU 0,vI vU 0,.bool false] 29)).rowIs w.heap.size 24 4 (fun j => .int .u64 (wd K j)):=((zag (n:=4) rfl rfl (arr4 fun j => .int .u64 (wd K j))).alloc _).alloc _
 have hA : (((w.alloc (.cells #[vI vU (wd K 0),vI vU (wd K 1),vI vU (wd K 2),vI vU (wd K 3)] 24)).alloc (.cells #[vI vU (wd (Pt.pX q.1) 0),vI vU (wd (Pt.pX q.1) 1),vI vU (wd (Pt.pX q.1) 2),vI vU (wd (Pt.pX q.1) 3),vI vU (wd (Pt.pY q.1) 0),vI vU (wd (Pt.pY q.1) 1),vI vU (wd (Pt.pY q.1) 2),vI vU (wd (Pt.pY q.1) 3),.bool (Pt.pFar q.1)] 29)).alloc (.cells #[vI vU 0,vI vU 0,vI vU 0,vI vU 0,vI vU 0,vI vU 0,vI vU 0,vI vU 0,.bool false] 29)).rowIs (w.heap.size + 1) 29 9 (pc (Pt.pX q.1) (Pt.pY q.1) (Pt.pFar q.1)):=(zew _ _ _ (by simp)).alloc _
 have hR : (((w.alloc (.cells #[vI vU (wd K 0),vI vU (wd K 1),vI vU (wd K 2),vI vU (wd K 3)] 24)).alloc (.cells #[vI vU (wd (Pt.pX q.1) 0),vI vU (wd (Pt.pX q.1) 1),vI vU (wd (Pt.pX q.1) 2),vI vU (wd (Pt.pX q.1) 3),vI vU (wd (Pt.pY q.1) 0),vI vU (wd (Pt.pY q.1) 1),vI vU (wd (Pt.pY q.1) 2),vI vU (wd (Pt.pY q.1) 3),.bool (Pt.pFar q.1)] 29)).alloc (.cells #[vI vU 0,vI vU 0,vI vU 0,vI vU 0,vI vU 0,vI vU 0,vI vU 0,vI vU 0,.bool false] 29)).rowIs (w.heap.size + 1 + 1) 29 9 (pc 0 0 false):=zeq (by simp)
 have hB : Below w.heap.size w (((w.alloc (.cells #[vI vU (wd K 0),vI vU (wd K 1),vI vU (wd K 2),vI vU (wd K 3)] 24)).alloc (.cells #[vI vU (wd (Pt.pX q.1) 0),vI vU (wd (Pt.pX q.1) 1),vI vU (wd (Pt.pX q.1) 2),vI vU (wd (Pt.pX q.1) 3),vI vU (wd (Pt.pY q.1) 0),vI vU (wd (Pt.pY q.1) 1),vI vU (wd (Pt.pY q.1) 2),vI vU (wd (Pt.pY q.1) 3),.bool (Pt.pFar q.1)] 29)).alloc (.cells #[vI vU 0,vI vU 0,vI vU 0,vI vU 0,vI vU 0,vI vU 0,vI vU 0,vI vU 0,.bool false] 29)):=(((Below.refl _ _).alloc (by simp) _).alloc (by simp) _).alloc (by simp; omega) _
 have hz : (((w.alloc (.cells #[vI vU (wd K 0),vI vU (wd K 1),vI vU (wd K 2),vI vU (wd K 3)] 24)).alloc (.cells #[vI vU (wd (Pt.pX q.1) 0),vI vU (wd (Pt.pX q.1) 1),vI vU (wd (Pt.pX q.1) 2),vI vU (wd (Pt.pX q.1) 3),vI vU (wd (Pt.pY q.1) 0),vI vU (wd (Pt.pY q.1) 1),vI vU (wd (Pt.pY q.1) 2),vI vU (wd (Pt.pY q.1) 3),.bool (Pt.pFar q.1)] 29)).alloc (.cells #[vI vU 0,vI vU 0,vI vU 0,vI vU 0,vI vU 0,vI vU 0,vI vU 0,vI vU 0,.bool false] 29)).heap.size = w.heap.size + 1 + 1 + 1:=by simp
 have hL : bitLen K ≤ 256:=bl_le hKt
 have hE : K / 2 ^ bitLen K = 0:=bl_div K
 have HT:=veil hKt
 clear hKt
 go_enter Tryz.func24,Tryz.ntmps24
 go_upto_region 1 with (fail)
 generalize (((w.alloc (.cells #[vI vU (wd K 0),vI vU (wd K 1),vI vU (wd K 2),vI vU (wd K 3)] 24)).alloc (.cells #[vI vU (wd (Pt.pX q.1) 0),vI vU (wd (Pt.pX q.1) 1),vI vU (wd (Pt.pX q.1) 2),vI vU (wd (Pt.pX q.1) 3),vI vU (wd (Pt.pY q.1) 0),vI vU (wd (Pt.pY q.1) 1),vI vU (wd (Pt.pY q.1) 2),vI vU (wd (Pt.pY q.1) 3),.bool (Pt.pFar q.1)] 29)).alloc (.cells #[vI vU 0,vI vU 0,vI vU 0,vI vU 0,vI vU 0,vI vU 0,vI vU 0,vI vU 0,.bool false] 29)) = w0 at *
 go_upto_region 2 with (fail)
 have hO : (w0.alloc (.cells #[vI vU 0,vI vU 0,vI vU 0,vI vU 0,vI vU 0,vI vU 0,vI vU 0,vI vU 0,.bool true] 29)).rowIs (w.heap.size + 1 + 1 + 1) 29 9 (pc (Pt.pX (Pt.grp.mul (K / 2 ^ bitLen K) q).1) (Pt.pY (Pt.grp.mul (K / 2 ^ bitLen K) q).1) (Pt.pFar (Pt.grp.mul (K / 2 ^ bitLen K) q).1)):=by
  rw [hE]
  exact far_row hz.symm
 replace hK:=hK.alloc (.cells #[vI vU 0,vI vU 0,vI vU 0,vI vU 0,vI vU 0,vI vU 0,vI vU 0,vI vU 0,.bool true] 29)
 replace hA:=hA.alloc (.cells #[vI vU 0,vI vU 0,vI vU 0,vI vU 0,vI vU 0,vI vU 0,vI vU 0,vI vU 0,.bool true] 29)
 replace hR:=hR.alloc (.cells #[vI vU 0,vI vU 0,vI vU 0,vI vU 0,vI vU 0,vI vU 0,vI vU 0,vI vU 0,.bool true] 29)
 replace hB:=hB.alloc hB.size (.cells #[vI vU 0,vI vU 0,vI vU 0,vI vU 0,vI vU 0,vI vU 0,vI vU 0,vI vU 0,.bool true] 29)
 generalize w0.alloc (.cells #[vI vU 0,vI vU 0,vI vU 0,vI vU 0,vI vU 0,vI vU 0,vI vU 0,vI vU 0,.bool true] 29) = w1 at *
 have HL:=veil hL
 clear hz hE hL
 obtain ⟨k0,k1,k2,k3⟩:=zae hK
 go_wp2_with fail
 refine (rlen_calls K HT.out _).mono ?_
 rintro e w2 ⟨rfl,hb⟩
 clear k0 k1 k2 k3
 replace hK:=zab hK hb hK.lt
 replace hA:=zab hA hb hA.lt
 replace hR:=zab hR hb hR.lt
 replace hO:=zab hO hb hO.lt
 replace hB:=hB.trans (hb.mono hB.size)
 clear hb
 obtain ⟨N,hN⟩ : ∃ N,N = bitLen K:=⟨_,rfl⟩
 rw [← hN] at hO ⊢
 have hN2 : N ≤ 256:=by rw [hN]; exact HL.out
 clear hN
 go_wp2
 go_loopw [6] (fun v6 wr => ∃ j : Nat,j ≤ 256 ∧ v6 = .int .i64 ((j : Int) - 1) ∧ wr.rowIs w.heap.size 24 4 (fun i => .int .u64 (wd K i)) ∧ wr.rowIs (w.heap.size + 1) 29 9 (pc (Pt.pX q.1) (Pt.pY q.1) (Pt.pFar q.1)) ∧ wr.rowIs (w.heap.size + 1 + 1) 29 9 (pc 0 0 false) ∧ wr.rowIs (w.heap.size + 1 + 1 + 1) 29 9 (pc (Pt.pX (Pt.grp.mul (K / 2 ^ j) q).1) (Pt.pY (Pt.grp.mul (K / 2 ^ j) q).1) (Pt.pFar (Pt.grp.mul (K / 2 ^ j) q).1)) ∧ Below w.heap.size w wr)
  (fun v6 _ => (intOf v6 + 1).toNat)
 case atStart => exact ⟨N,hN2,by go_num,hK,hA,hR,hO,hB⟩
 case round =>
  clear hK hA hR hO hB hN2
  obtain ⟨j,hj,hi,hK,hA,hR,hO,hB⟩:=hrel
  cases j with
  | zero =>
   obtain rfl : _ = Value.int .i64 (-1):=hi.trans (by congr 1)
   have HO:=veil (blk9 hO)
   have HR:=veil (blkOf hR)
   have e1 : Pt.grp.mul (K / 2 ^ 0) q = Pt.grp.mul K q:=by rw [Nat.pow_zero,Nat.div_one]
   rw [e1] at HO
   clear hO hR hi e1
   go_wp2_with (first
    | ((with_reducible refine zax 26 ?_); refine wpList_load_row rfl 29 _ rfl (w.heap.size + 1 + 1 + 1) rfl 29 #[vI vU (wd (Pt.pX (Pt.grp.mul K q).1) 0),vI vU (wd (Pt.pX (Pt.grp.mul K q).1) 1),vI vU (wd (Pt.pX (Pt.grp.mul K q).1) 2),vI vU (wd (Pt.pX (Pt.grp.mul K q).1) 3),vI vU (wd (Pt.pY (Pt.grp.mul K q).1) 0),vI vU (wd (Pt.pY (Pt.grp.mul K q).1) 1),vI vU (wd (Pt.pY (Pt.grp.mul K q).1) 2),vI vU (wd (Pt.pY (Pt.grp.mul K q).1) 3),.bool (Pt.pFar (Pt.grp.mul K q).1)] (0,0) _ HO.out Tryz.underlying29 rfl zbg ?_)
    | ((with_reducible refine zbh ?_); refine wpList_store_row rfl 29 _ _ rfl (w.heap.size + 1 + 1) #[vI vU (wd (Pt.pX (Pt.grp.mul K q).1) 0),vI vU (wd (Pt.pX (Pt.grp.mul K q).1) 1),vI vU (wd (Pt.pX (Pt.grp.mul K q).1) 2),vI vU (wd (Pt.pX (Pt.grp.mul K q).1) 3),vI vU (wd (Pt.pY (Pt.grp.mul K q).1) 0),vI vU (wd (Pt.pY (Pt.grp.mul K q).1) 1),vI vU (wd (Pt.pY (Pt.grp.mul K q).1) 2),vI vU (wd (Pt.pY (Pt.grp.mul K q).1) 3),.bool (Pt.pFar (Pt.grp.mul K q).1)] rfl rfl 29 _ HR.out zbg (by rw [zaw]; rfl) (one9 _ _ _) ?_))
   exact bodyPost_ret (results_cell_row rfl _ _ (w.heap.size + 1 + 1) 29 #[vI vU (wd (Pt.pX (Pt.grp.mul K q).1) 0),vI vU (wd (Pt.pX (Pt.grp.mul K q).1) 1),vI vU (wd (Pt.pX (Pt.grp.mul K q).1) 2),vI vU (wd (Pt.pX (Pt.grp.mul K q).1) 3),vI vU (wd (Pt.pY (Pt.grp.mul K q).1) 0),vI vU (wd (Pt.pY (Pt.grp.mul K q).1) 1),vI vU (wd (Pt.pY (Pt.grp.mul K q).1) 2),vI vU (wd (Pt.pY (Pt.grp.mul K q).1) 3),.bool (Pt.pFar (Pt.grp.mul K q).1)] (0,0) _ rfl (setRow_heap wr (w.heap.size + 1 + 1) _ #[vI vU (wd (Pt.pX (Pt.grp.mul K q).1) 0),vI vU (wd (Pt.pX (Pt.grp.mul K q).1) 1),vI vU (wd (Pt.pX (Pt.grp.mul K q).1) 2),vI vU (wd (Pt.pX (Pt.grp.mul K q).1) 3),vI vU (wd (Pt.pY (Pt.grp.mul K q).1) 0),vI vU (wd (Pt.pY (Pt.grp.mul K q).1) 1),vI vU (wd (Pt.pY (Pt.grp.mul K q).1) 2),vI vU (wd (Pt.pY (Pt.grp.mul K q).1) 3),.bool (Pt.pFar (Pt.grp.mul K q).1)] 29 (0,0) HR.out) Tryz.underlying29 rfl zbg) rfl ⟨rfl,zbp hB (by omega) _⟩
  | succ m =>
   obtain rfl : _ = Value.int .i64 (m : Int):=hi.trans (by congr 1; omega)
   have hm : m < 256:=by omega
   clear hi
   have hmi : (0 : Int) ≤ (m : Int):=by omega
   obtain ⟨R0,hR0⟩ : ∃ R,R = Pt.grp.mul (K / 2 ^ (m + 1)) q:=⟨_,rfl⟩
   rw [← hR0] at hO
   have HR0:=veil hR0
   clear hR0
   have hne1 : w.heap.size ≠ (w.heap.size + 1 + 1 + 1):=by omega
   have hne2 : w.heap.size + 1 ≠ (w.heap.size + 1 + 1 + 1):=by omega
   have hne3 : w.heap.size + 1 + 1 ≠ (w.heap.size + 1 + 1 + 1):=by omega
   have HO:=veil (blk9 hO)
   go_wp2_with (first
    | ((with_reducible refine zax 16 ?_); refine wpList_load_row rfl 29 _ rfl (w.heap.size + 1 + 1 + 1) rfl 29 #[vI vU (wd (Pt.pX R0.1) 0),vI vU (wd (Pt.pX R0.1) 1),vI vU (wd (Pt.pX R0.1) 2),vI vU (wd (Pt.pX R0.1) 3),vI vU (wd (Pt.pY R0.1) 0),vI vU (wd (Pt.pY R0.1) 1),vI vU (wd (Pt.pY R0.1) 2),vI vU (wd (Pt.pY R0.1) 3),.bool (Pt.pFar R0.1)] (0,0) _ HO.out Tryz.underlying29 rfl zbg ?_)
    | ((with_reducible refine zax 17 ?_); refine wpList_load_row rfl 29 _ rfl (w.heap.size + 1 + 1 + 1) rfl 29 #[vI vU (wd (Pt.pX R0.1) 0),vI vU (wd (Pt.pX R0.1) 1),vI vU (wd (Pt.pX R0.1) 2),vI vU (wd (Pt.pX R0.1) 3),vI vU (wd (Pt.pY R0.1) 0),vI vU (wd (Pt.pY R0.1) 1),vI vU (wd (Pt.pY R0.1) 2),vI vU (wd (Pt.pY R0.1) 3),.bool (Pt.pFar R0.1)] (0,0) _ HO.out Tryz.underlying29 rfl zbg ?_))
   refine (rplus_calls R0 R0 _).mono ?_
   rintro e w5 ⟨rfl,hb⟩
   replace hK:=zab hK hb hK.lt
   replace hA:=zab hA hb hA.lt
   replace hR:=zab hR hb hR.lt
   replace hO:=zab hO hb hO.lt
   replace hB:=hB.trans (hb.mono hB.size)
   obtain ⟨R1,h1⟩ : ∃ R,R = Pt.grp.op R0 R0:=⟨_,rfl⟩
   rw [← h1]
   have HR1:=veil h1
   have HO:=veil (blkOf hO)
   clear hb h1
   go_upto_region 6 with (first
    | ((with_reducible refine zbh ?_); refine wpList_store_row rfl 29 _ _ rfl (w.heap.size + 1 + 1 + 1) #[vI vU (wd (Pt.pX R1.1) 0),vI vU (wd (Pt.pX R1.1) 1),vI vU (wd (Pt.pX R1.1) 2),vI vU (wd (Pt.pX R1.1) 3),vI vU (wd (Pt.pY R1.1) 0),vI vU (wd (Pt.pY R1.1) 1),vI vU (wd (Pt.pY R1.1) 2),vI vU (wd (Pt.pY R1.1) 3),.bool (Pt.pFar R1.1)] rfl rfl 29 _ HO.out zbg (by rw [zaw]; rfl) (one9 _ _ _) ?_))
   have hO' : (w5.setRow (w.heap.size + 1 + 1 + 1) #[vI vU (wd (Pt.pX R1.1) 0),vI vU (wd (Pt.pX R1.1) 1),vI vU (wd (Pt.pX R1.1) 2),vI vU (wd (Pt.pX R1.1) 3),vI vU (wd (Pt.pY R1.1) 0),vI vU (wd (Pt.pY R1.1) 1),vI vU (wd (Pt.pY R1.1) 2),vI vU (wd (Pt.pY R1.1) 3),.bool (Pt.pFar R1.1)]).rowIs (w.heap.size + 1 + 1 + 1) 29 9 (pc (Pt.pX R1.1) (Pt.pY R1.1) (Pt.pFar R1.1)):=zgq hO rfl (arr9 _ _ _)
   replace hK:=hK.of_block (zca w5 #[vI vU (wd (Pt.pX R1.1) 0),vI vU (wd (Pt.pX R1.1) 1),vI vU (wd (Pt.pX R1.1) 2),vI vU (wd (Pt.pX R1.1) 3),vI vU (wd (Pt.pY R1.1) 0),vI vU (wd (Pt.pY R1.1) 1),vI vU (wd (Pt.pY R1.1) 2),vI vU (wd (Pt.pY R1.1) 3),.bool (Pt.pFar R1.1)] (by omega))
   replace hA:=hA.of_block (zca w5 #[vI vU (wd (Pt.pX R1.1) 0),vI vU (wd (Pt.pX R1.1) 1),vI vU (wd (Pt.pX R1.1) 2),vI vU (wd (Pt.pX R1.1) 3),vI vU (wd (Pt.pY R1.1) 0),vI vU (wd (Pt.pY R1.1) 1),vI vU (wd (Pt.pY R1.1) 2),vI vU (wd (Pt.pY R1.1) 3),.bool (Pt.pFar R1.1)] (by omega))
   replace hR:=hR.of_block (zca w5 #[vI vU (wd (Pt.pX R1.1) 0),vI vU (wd (Pt.pX R1.1) 1),vI vU (wd (Pt.pX R1.1) 2),vI vU (wd (Pt.pX R1.1) 3),vI vU (wd (Pt.pY R1.1) 0),vI vU (wd (Pt.pY R1.1) 1),vI vU (wd (Pt.pY R1.1) 2),vI vU (wd (Pt.pY R1.1) 3),.bool (Pt.pFar R1.1)] (by omega))
   replace hB:=zbp hB (show w.heap.size ≤ (w.heap.size + 1 + 1 + 1) by omega) #[vI vU (wd (Pt.pX R1.1) 0),vI vU (wd (Pt.pX R1.1) 1),vI vU (wd (Pt.pX R1.1) 2),vI vU (wd (Pt.pX R1.1) 3),vI vU (wd (Pt.pY R1.1) 0),vI vU (wd (Pt.pY R1.1) 1),vI vU (wd (Pt.pY R1.1) 2),vI vU (wd (Pt.pY R1.1) 3),.bool (Pt.pFar R1.1)]
   generalize w5.setRow (w.heap.size + 1 + 1 + 1) #[vI vU (wd (Pt.pX R1.1) 0),vI vU (wd (Pt.pX R1.1) 1),vI vU (wd (Pt.pX R1.1) 2),vI vU (wd (Pt.pX R1.1) 3),vI vU (wd (Pt.pY R1.1) 0),vI vU (wd (Pt.pY R1.1) 1),vI vU (wd (Pt.pY R1.1) 2),vI vU (wd (Pt.pY R1.1) 3),.bool (Pt.pFar R1.1)] = w6 at *
   clear hO HO
   have hO:=hO'
   clear hO'
   have hbc:=fun W => rbit_in K m hm W
   by_cases hbit : bit K m = true
   ·
    rw [hbit] at hbc
    have HBIT:=veil hbit
    clear hbit
    obtain ⟨k0,k1,k2,k3⟩:=zae hK
    have HC:=veil hbc
    clear hbc
    go_wp2_with fail
    refine (HC.out _).mono ?_
    rintro e w7 ⟨rfl,hb⟩
    clear k0 k1 k2 k3
    replace hK:=zab hK hb hK.lt
    replace hA:=zab hA hb hA.lt
    replace hR:=zab hR hb hR.lt
    replace hO:=zab hO hb hO.lt
    replace hB:=hB.trans (hb.mono hB.size)
    clear hb
    have HO:=veil (blk9 hO)
    have HA:=veil (blk9 hA)
    go_upto_region 8 with (fail)
    go_wp2_with (first
     | ((with_reducible refine zax 23 ?_); refine wpList_load_row rfl 29 _ rfl (w.heap.size + 1 + 1 + 1) rfl 29 #[vI vU (wd (Pt.pX R1.1) 0),vI vU (wd (Pt.pX R1.1) 1),vI vU (wd (Pt.pX R1.1) 2),vI vU (wd (Pt.pX R1.1) 3),vI vU (wd (Pt.pY R1.1) 0),vI vU (wd (Pt.pY R1.1) 1),vI vU (wd (Pt.pY R1.1) 2),vI vU (wd (Pt.pY R1.1) 3),.bool (Pt.pFar R1.1)] (0,0) _ HO.out Tryz.underlying29 rfl zbg ?_)
     | ((with_reducible refine zax 24 ?_); refine wpList_load_row rfl 29 _ rfl (w.heap.size + 1) rfl 29 #[vI vU (wd (Pt.pX q.1) 0),vI vU (wd (Pt.pX q.1) 1),vI vU (wd (Pt.pX q.1) 2),vI vU (wd (Pt.pX q.1) 3),vI vU (wd (Pt.pY q.1) 0),vI vU (wd (Pt.pY q.1) 1),vI vU (wd (Pt.pY q.1) 2),vI vU (wd (Pt.pY q.1) 3),.bool (Pt.pFar q.1)] (0,0) _ HA.out Tryz.underlying29 rfl zbg ?_))
    refine (rplus_calls R1 q _).mono ?_
    rintro e w5 ⟨rfl,hb⟩
    replace hK:=zab hK hb hK.lt
    replace hA:=zab hA hb hA.lt
    replace hR:=zab hR hb hR.lt
    replace hO:=zab hO hb hO.lt
    replace hB:=hB.trans (hb.mono hB.size)
    obtain ⟨R2,h2⟩ : ∃ R,R = Pt.grp.op R1 q:=⟨_,rfl⟩
    rw [← h2]
    have HR2:=veil h2
    have HO:=veil (blkOf hO)
    clear hb h2
    clear HA
    go_wp2_with (first
     | ((with_reducible refine zbh ?_); refine wpList_store_row rfl 29 _ _ rfl (w.heap.size + 1 + 1 + 1) #[vI vU (wd (Pt.pX R2.1) 0),vI vU (wd (Pt.pX R2.1) 1),vI vU (wd (Pt.pX R2.1) 2),vI vU (wd (Pt.pX R2.1) 3),vI vU (wd (Pt.pY R2.1) 0),vI vU (wd (Pt.pY R2.1) 1),vI vU (wd (Pt.pY R2.1) 2),vI vU (wd (Pt.pY R2.1) 3),.bool (Pt.pFar R2.1)] rfl rfl 29 _ HO.out zbg (by rw [zaw]; rfl) (one9 _ _ _) ?_))
    have hO' : (w5.setRow (w.heap.size + 1 + 1 + 1) #[vI vU (wd (Pt.pX R2.1) 0),vI vU (wd (Pt.pX R2.1) 1),vI vU (wd (Pt.pX R2.1) 2),vI vU (wd (Pt.pX R2.1) 3),vI vU (wd (Pt.pY R2.1) 0),vI vU (wd (Pt.pY R2.1) 1),vI vU (wd (Pt.pY R2.1) 2),vI vU (wd (Pt.pY R2.1) 3),.bool (Pt.pFar R2.1)]).rowIs (w.heap.size + 1 + 1 + 1) 29 9 (pc (Pt.pX R2.1) (Pt.pY R2.1) (Pt.pFar R2.1)):=zgq hO rfl (arr9 _ _ _)
    replace hK:=hK.of_block (zca w5 #[vI vU (wd (Pt.pX R2.1) 0),vI vU (wd (Pt.pX R2.1) 1),vI vU (wd (Pt.pX R2.1) 2),vI vU (wd (Pt.pX R2.1) 3),vI vU (wd (Pt.pY R2.1) 0),vI vU (wd (Pt.pY R2.1) 1),vI vU (wd (Pt.pY R2.1) 2),vI vU (wd (Pt.pY R2.1) 3),.bool (Pt.pFar R2.1)] (by omega))
    replace hA:=hA.of_block (zca w5 #[vI vU (wd (Pt.pX R2.1) 0),vI vU (wd (Pt.pX R2.1) 1),vI vU (wd (Pt.pX R2.1) 2),vI vU (wd (Pt.pX R2.1) 3),vI vU (wd (Pt.pY R2.1) 0),vI vU (wd (Pt.pY R2.1) 1),vI vU (wd (Pt.pY R2.1) 2),vI vU (wd (Pt.pY R2.1) 3),.bool (Pt.pFar R2.1)] (by omega))
    replace hR:=hR.of_block (zca w5 #[vI vU (wd (Pt.pX R2.1) 0),vI vU (wd (Pt.pX R2.1) 1),vI vU (wd (Pt.pX R2.1) 2),vI vU (wd (Pt.pX R2.1) 3),vI vU (wd (Pt.pY R2.1) 0),vI vU (wd (Pt.pY R2.1) 1),vI vU (wd (Pt.pY R2.1) 2),vI vU (wd (Pt.pY R2.1) 3),.bool (Pt.pFar R2.1)] (by omega))
    replace hB:=zbp hB (show w.heap.size ≤ (w.heap.size + 1 + 1 + 1) by omega) #[vI vU (wd (Pt.pX R2.1) 0),vI vU (wd (Pt.pX R2.1) 1),vI vU (wd (Pt.pX R2.1) 2),vI vU (wd (Pt.pX R2.1) 3),vI vU (wd (Pt.pY R2.1) 0),vI vU (wd (Pt.pY R2.1) 1),vI vU (wd (Pt.pY R2.1) 2),vI vU (wd (Pt.pY R2.1) 3),.bool (Pt.pFar R2.1)]
    generalize w5.setRow (w.heap.size + 1 + 1 + 1) #[vI vU (wd (Pt.pX R2.1) 0),vI vU (wd (Pt.pX R2.1) 1),vI vU (wd (Pt.pX R2.1) 2),vI vU (wd (Pt.pX R2.1) 3),vI vU (wd (Pt.pY R2.1) 0),vI vU (wd (Pt.pY R2.1) 1),vI vU (wd (Pt.pY R2.1) 2),vI vU (wd (Pt.pY R2.1) 3),.bool (Pt.pFar R2.1)] = w6 at *
    clear hO HO
    have hO:=hO'
    clear hO'
    go_roundw
    case rel => exact ⟨m,by omega,by go_num,hK,hA,hR,by rw [zgn,if_pos HBIT.out,← HR0.out,← HR1.out,← HR2.out]; exact hO,hB⟩
    case measure => simp [intOf]
   ·
    have hbit : bit K m = false:=by simpa using hbit
    rw [hbit] at hbc
    have HBIT:=veil hbit
    clear hbit
    obtain ⟨k0,k1,k2,k3⟩:=zae hK
    have HC:=veil hbc
    clear hbc
    go_wp2_with fail
    refine (HC.out _).mono ?_
    rintro e w7 ⟨rfl,hb⟩
    clear k0 k1 k2 k3
    replace hK:=zab hK hb hK.lt
    replace hA:=zab hA hb hA.lt
    replace hR:=zab hR hb hR.lt
    replace hO:=zab hO hb hO.lt
    replace hB:=hB.trans (hb.mono hB.size)
    clear hb
    go_wp2
    go_roundw
    case rel => exact ⟨m,by omega,by go_num,hK,hA,hR,by rw [zgn,HBIT.out,if_neg (by decide),← HR0.out,← HR1.out]; exact hO,hB⟩
    case measure => simp [intOf]
def gc (r s : Nat) : Array Value:=#[vI vU (wd r 0),vI vU (wd r 1),vI vU (wd r 2),vI vU (wd r 3),vI vU (wd s 0),vI vU (wd s 1),vI vU (wd s 2),vI vU (wd s 3)]
def gv (r s : Nat) : Value:=.agg (gc r s)
theorem zce (r s : Nat) : (gc r s).all (·.oneCell') = true:=by simp [gc,Value.oneCell']
theorem iSg (r s : Nat) : (Tryz.prog.info? 35).map (·.size) = some (gc r s).size:=by kernel_rfl
def dgc (y : Nat → Nat) : Array Value:=arrOf 32 fun i => .int .u8 (y i : Nat)
def dgv (y : Nat → Nat) : Value:=.agg (dgc y)
theorem iDg (y : Nat → Nat) : (Tryz.prog.info? 26).map (·.size) = some (dgc y).size:=by
 unfold dgc
 rw [zaw]; exact infoD
section
variable (g : Nat) (W : World)
theorem hzG : (Instr.alloc 35 true (.tuple #[])).run Tryz.prog W = .ok (ptrTo W.heap.size) (W.alloc (.cells #[vI vU 0,vI vU 0,vI vU 0,vI vU 0,vI vU 0,vI vU 0,vI vU 0,vI vU 0] 35)):=by simp [Instr.alloc,go_sem]
theorem bldG (r s : Nat) : (Instr.build 35 [(0,nv r),(1,nv s)].toArray).run Tryz.prog W = .ok (gv r s) W:=by simp [Instr.build,go_sem,nv,nc,gv,gc]
theorem bldG0 : (Instr.build 35 [].toArray).run Tryz.prog W = .ok (gv 0 0) W:=by
 obtain ⟨h0,h1,h2,h3⟩:=wd_z
 unfold gv gc
 rw [h0,h1,h2,h3]
 simp [Instr.build,go_sem]
theorem sliceD : (Instr.sliceAt 26 (ptrTo g) none none none).run Tryz.prog W = .ok (.slice (some ⟨g,0,none⟩) 32 32) W:=by kernel_rfl
end
/-! ### points -/
def pv (q : Pt.Q) : Value:=qv (Pt.pX q.1) (Pt.pY q.1) (Pt.pFar q.1)
theorem base_x : Pt.pX Pt.base.1 = Pt.gx ∧ Pt.pY Pt.base.1 = Pt.gy ∧ Pt.pFar Pt.base.1 = false:=by decide +kernel
theorem rbase_is (w : World) : Calls Tryz.prog 25 #[] w fun e w' => e = .returned (qv Pt.gx Pt.gy false) ∧ Ext w w':=rbase_calls w
theorem rmulq_is {K : Nat} (hK : K < top) {p q : Pt.Q} (hq : q = Pt.grp.mul K p) (w : World) : Calls Tryz.prog 24 #[nv K,qv (Pt.pX p.1) (Pt.pY p.1) (Pt.pFar p.1)] w fun e w' => e = .returned (qv (Pt.pX q.1) (Pt.pY q.1) (Pt.pFar q.1)) ∧ Ext w w':=by
 subst hq; exact rtimes_calls K hK p w
theorem rmulb_is {K : Nat} (hK : K < top) {q : Pt.Q} (hq : q = Pt.grp.mul K Pt.base) (w : World) : Calls Tryz.prog 24 #[nv K,qv Pt.gx Pt.gy false] w fun e w' => e = .returned (qv (Pt.pX q.1) (Pt.pY q.1) (Pt.pFar q.1)) ∧ Ext w w':=by
 have h:=rmulq_is hK hq w
 rwa [base_x.1,base_x.2.1,base_x.2.2] at h
theorem zea {X : Nat} {r : Bool} (h : mayB X = r) (hX : X < top) (w : World) : Calls Tryz.prog 8 #[nv X] w fun e w' => e = .returned (.bool r) ∧ Ext w w':=by
 subst h; exact may_calls X hX w
/-! ### numbers modulo n -/
theorem nn_1 : 1 < Pt.nn:=Pt.nn_one
theorem nn_pos : 0 < Pt.nn:=Nat.lt_trans Nat.zero_lt_one nn_1
theorem mod_nn {M X : Nat} (h : M = X % Pt.nn) : M < Pt.nn:=by rw [h]; exact Nat.mod_lt _ nn_pos
theorem zcx {M X : Nat} (h : M = X % Pt.nn) : M < top:=Nat.lt_trans (mod_nn h) zcp
theorem mul_top {M X Y : Nat} (h : M = X * Y % Pt.nn) : M < top:=zcx h
theorem inv_nn {t S : Nat} (h : t = Pt.iG Pt.nn S) : t < Pt.nn:=by rw [h]; exact Pt.iG_lt Pt.nn S
theorem inv_top {t S : Nat} (h : t = Pt.iG Pt.nn S) : t < top:=Nat.lt_trans (inv_nn h) zcp
theorem zgz {X : Nat} (h : mayB X = true) : X < Pt.nn:=((Pt.inR_iff X).1 h).2
theorem may_ne {X : Nat} (h : mayB X = true) : X ≠ 0:=((Pt.inR_iff X).1 h).1
theorem rinn_is {X M : Nat} (hM : M = X % Pt.nn) (hX : X < top) (w : World) : Calls Tryz.prog 26 #[nv X,nv Pt.nn] w fun e w' => e = .returned (nv M) ∧ Ext w w':=by
 subst hM; exact gin_calls X Pt.nn hX nn_1 zcp w
theorem rmuln_is {X Y Z : Nat} (hZ : Z = X * Y % Pt.nn) (hX : X < Pt.nn) (hY : Y < top) (w : World) : Calls Tryz.prog 72 #[nv X,nv Y,nv Pt.nn] w fun e w' => e = .returned (nv Z) ∧ Ext w w':=by
 subst hZ; exact gmul_calls X Y Pt.nn hX hY zcp w
theorem raddn_is {X Y Z : Nat} (hZ : Z = (X + Y) % Pt.nn) (hX : X < Pt.nn) (hY : Y < Pt.nn) (w : World) : Calls Tryz.prog 29 #[nv X,nv Y,nv Pt.nn] w fun e w' => e = .returned (nv Z) ∧ Ext w w':=by
 subst hZ; exact zej X Y Pt.nn hX hY zcp w
theorem rinvn_is {X t : Nat} (h0 : X ≠ 0) (hX : X < Pt.nn) (ht : t = Pt.iG Pt.nn X) (w : World) : Calls Tryz.prog 27 #[nv X,nv Pt.nn] w fun e w' => e = .returned (.tuple #[nv t,.bool true]) ∧ Ext w w':=by
 refine (zhz X Pt.nn hX nn_1 (by decide +kernel) zcp w).mono ?_
 rintro e w' ⟨y,hy,hi,rfl,hb⟩
 have hg:=Pt.gcd_nn h0 hX
 have e1 : y = t:=by rw [ht]; exact Pt.iG_of Pt.nn Pt.nn_root Pt.nn_one hy (hi hg)
 rw [hg,e1]
 exact ⟨rfl,hb⟩
theorem rofd_is {y : Nat → Nat} {X : Nat} (hy : ∀ j,y j < 256) (hX : X = num32 y) {g : Nat} (w : World) (hb : w.heap[g]? = some (.cells (dgc y) 26 (0,0))) : Calls Tryz.prog 62 #[.slice (some ⟨g,0,none⟩) 32 32] w fun e w' => e = .returned (nv X) ∧ Ext w w':=by
 subst hX
 exact rof_some g 0 32 32 y hy (by decide) w (Array.getElem?_eq_some_iff.1 hb).1 (fun j hj => by rw [Nat.zero_add,cell_of_row w g j _ _ _ hb]; exact zcy _ hj)
theorem vmul_calls {X Y Z : Nat} (hZ : Z = X * Y % Pt.nn) (hX : X < Pt.nn) (hY : Y < top) (w : World) :
  Calls Tryz.prog 28 #[nv X,nv Y] w fun e w' => e = .returned (nv Z) ∧ Ext w w':=by
 have kZ:=veil hZ
 have kX:=veil hX
 have kY:=veil hY
 clear hY hX hZ
 unfold nv nc
 go_enter Tryz.func28,Tryz.ntmps28
 go_upto_region 1 with (fail)
 obtain ⟨hx,b0,b1,b2⟩:=blocks3 w (.cells #[vI vU (wd X 0),vI vU (wd X 1),vI vU (wd X 2),vI vU (wd X 3)] 24) (.cells #[vI vU (wd Y 0),vI vU (wd Y 1),vI vU (wd Y 2),vI vU (wd Y 3)] 24) (.cells #[vI vU 0,vI vU 0,vI vU 0,vI vU 0] 24)
 generalize ((w.alloc (.cells #[vI vU (wd X 0),vI vU (wd X 1),vI vU (wd X 2),vI vU (wd X 3)] 24)).alloc (.cells #[vI vU (wd Y 0),vI vU (wd Y 1),vI vU (wd Y 2),vI vU (wd Y 3)] 24)).alloc (.cells #[vI vU 0,vI vU 0,vI vU 0,vI vU 0] 24) = w1 at *
 have b0 : w1.heap[w.heap.size]? = some (.cells (nc X) 24 (0,0)):=b0
 have b1 : w1.heap[w.heap.size + 1]? = some (.cells (nc Y) 24 (0,0)):=b1
 refine' zbw (m:=4) (A:=_) 4 (by kernel_rfl) (by kernel_rfl) (by kernel_rfl) ?h1 ?h2
 case h1 =>
  refine zaa (nv X) rfl (zad rfl rfl b0 rfl uN rfl (iN _)) ?_
  refine zaa (nv Y) rfl (zad rfl rfl b1 rfl uN rfl (iN _)) ?_;simp only [aP,lA,lZ,lS]
  refine zaa (nv Pt.nn) rfl (zai (args:=[]) rfl rfl (fun W => zac Tryz.func22 rfl rfl _ W) (fun W hW => nn_is W)) ?_
  refine zaa (nv Z) rfl (zai (args:=[nv X,nv Y,nv Pt.nn]) rfl rfl (fun W => zac Tryz.func72 rfl rfl _ W) (fun W hW => rmuln_is kZ.out kX.out kY.out W)) ?_;simp only [aP,lA,lZ,lS]
  exact zak
 refine zeg _ rfl rfl rfl rfl rfl (by kernel_rfl) (by kernel_rfl) rfl rfl rfl b2 (iN _) rfl (zbe _) ?_
 intro w2 hB hb
 refine NoPanic.normal ?_
 go_wp2
 exact bodyPost_ret (results_cell_row rfl _ _ (w.heap.size + 1 + 1) 24 (nc Z) (0,0) _ rfl hb Tryz.underlying24 rfl (by kernel_rfl)) rfl ⟨rfl,hx.new hB (by omega)⟩
theorem vnum_calls (y : Nat → Nat) (hy : ∀ j,y j < 256) {X M : Nat} (hX : X = num32 y) (hM : M = X % Pt.nn) (w : World) :
  Calls Tryz.prog 30 #[dgv y] w fun e w' => e = .returned (nv M) ∧ Ext w w':=by
 have ky:=veil hy
 have kX:=veil hX
 have kM:=veil hM
 clear hM hX hy
 unfold nv nc dgv dgc
 go_enter Tryz.func30,Tryz.ntmps30
 go_upto_region 1 with (fail)
 obtain ⟨hx,b0,b1⟩:=blocks2 w (.cells (arrOf 32 fun i => .int .u8 (y i : Nat)) 26) (.cells #[vI vU 0,vI vU 0,vI vU 0,vI vU 0] 24)
 generalize (w.alloc (.cells (arrOf 32 fun i => .int .u8 (y i : Nat)) 26)).alloc (.cells #[vI vU 0,vI vU 0,vI vU 0,vI vU 0] 24) = w1 at *
 have b0 : w1.heap[w.heap.size]? = some (.cells (dgc y) 26 (0,0)):=b0
 refine' zan (m:=4) (A:=_) (by kernel_rfl) ?h1 ?h2
 case h1 =>
  refine zaa (.slice (some ⟨w.heap.size,0,none⟩) 32 32) rfl (made_slice rfl rfl (sliceD _ ·)) ?_
  refine zaa (nv X) rfl (zai (args:=[.slice (some ⟨w.heap.size,0,none⟩) 32 32]) rfl rfl (fun W => zac Tryz.func62 rfl rfl _ W) (fun W hW => rofd_is ky.out kX.out W (hW.block b0))) ?_;simp only [aP,lA,lZ,lS]
  refine zaa (nv Pt.nn) rfl (zai (args:=[]) rfl rfl (fun W => zac Tryz.func22 rfl rfl _ W) (fun W hW => nn_is W)) ?_
  refine zaa (nv M) rfl (zai (args:=[nv X,nv Pt.nn]) rfl rfl (fun W => zac Tryz.func26 rfl rfl _ W) (fun W hW => rinn_is kM.out (by rw [kX.out]; exact zgx ky.out) W)) ?_;simp only [aP,lA,lZ,lS]
  exact zak
 refine zbs _ rfl rfl rfl rfl rfl rfl b1 (iN _) rfl (zbe _) ?_
 intro w2 hB hb
 go_wp2
 exact bodyPost_ret (results_cell_row rfl _ _ (w.heap.size + 1) 24 (nc M) (0,0) _ rfl hb Tryz.underlying24 rfl (by kernel_rfl)) rfl ⟨rfl,hx.new hB (by omega)⟩
theorem vpub_calls {D : Nat} (hD : D < top) {P : Pt.Q} (hP : P = Pt.grp.mul D Pt.base) (w : World) :
  Calls Tryz.prog 10 #[nv D] w fun e w' => e = .returned (qv (Pt.pX P.1) (Pt.pY P.1) (Pt.pFar P.1)) ∧ Ext w w':=by
 have kD:=veil hD
 have kP:=veil hP
 clear hP hD
 unfold nv nc qv qc
 go_enter Tryz.func10,Tryz.ntmps10
 go_upto_region 1 with (fail)
 obtain ⟨hx,b0,b1⟩:=blocks2 w (.cells #[vI vU (wd D 0),vI vU (wd D 1),vI vU (wd D 2),vI vU (wd D 3)] 24) (.cells #[vI vU 0,vI vU 0,vI vU 0,vI vU 0,vI vU 0,vI vU 0,vI vU 0,vI vU 0,.bool false] 29)
 generalize (w.alloc (.cells #[vI vU (wd D 0),vI vU (wd D 1),vI vU (wd D 2),vI vU (wd D 3)] 24)).alloc (.cells #[vI vU 0,vI vU 0,vI vU 0,vI vU 0,vI vU 0,vI vU 0,vI vU 0,vI vU 0,.bool false] 29) = w1 at *
 have b0 : w1.heap[w.heap.size]? = some (.cells (nc D) 24 (0,0)):=b0
 refine' zbw (m:=3) (A:=_) 3 (by kernel_rfl) (by kernel_rfl) (by kernel_rfl) ?h1 ?h2
 case h1 =>
  refine zaa (nv D) rfl (zad rfl rfl b0 rfl uN rfl (iN _)) ?_
  refine zaa (qv Pt.gx Pt.gy false) rfl (zai (args:=[]) rfl rfl (fun W => zac Tryz.func25 rfl rfl _ W) (fun W hW => rbase_is W)) ?_;simp only [aP,lA,lZ,lS]
  refine zaa (qv (Pt.pX P.1) (Pt.pY P.1) (Pt.pFar P.1)) rfl (zai (args:=[nv D,qv Pt.gx Pt.gy false]) rfl rfl (fun W => zac Tryz.func24 rfl rfl _ W) (fun W hW => rmulb_is kD.out kP.out W)) ?_;simp only [aP,lA,lZ,lS]
  exact zak
 refine zeg _ rfl rfl rfl rfl rfl (by kernel_rfl) (by kernel_rfl) rfl rfl rfl b1 (iT _ _ _) rfl (zev _ _ _) ?_
 intro w2 hB hb
 refine NoPanic.normal ?_
 go_wp2
 exact bodyPost_ret (results_cell_row rfl _ _ (w.heap.size + 1) 29 (qc (Pt.pX P.1) (Pt.pY P.1) (Pt.pFar P.1)) (0,0) _ rfl hb Tryz.underlying29 rfl (by kernel_rfl)) rfl ⟨rfl,hx.new hB (by omega)⟩
def pick (D E : Nat) : List Nat → Option (Nat × Nat)
 | [] => none
 | k :: l => if (mayB (Pt.rOf k) && mayB (Pt.sOf D E k)) = true then some (Pt.rOf k,Pt.sOf D E k) else pick D E l
def sigOf (D E : Nat) (xs : List Nat) : Option (Nat × Nat):=if xs.length < 16 then none else pick D E xs
theorem pick_yes {D E k : Nat} {l : List Nat} (h1 : mayB (Pt.rOf k) = true) (h2 : mayB (Pt.sOf D E k) = true) : pick D E (k :: l) = some (Pt.rOf k,Pt.sOf D E k):=by
 show (if _ then _ else _) = _
 rw [h1,h2]; rfl
theorem pick_no {D E k : Nat} {l : List Nat} (h : (mayB (Pt.rOf k) && mayB (Pt.sOf D E k)) = false) : pick D E (k :: l) = pick D E l:=by
 show (if _ then _ else _) = _
 rw [h]; rfl
def sgv : Option (Nat × Nat) → Value
 | none => gv 0 0
 | some (r,s) => gv r s
theorem OwnN.blk {w : World} {base : Nat} {v : Value} {xs : List Nat} (o : OwnN w base v xs) (hn : 0 < xs.length) : ∃ g cap cur,v = .slice (some ⟨g,0,none⟩) xs.length cap ∧ w.heap[g]? = some (.cells cur 24 (0,0)) ∧ ∀ i k,xs[i]? = some k → (cur.toList.drop (i * 4)).take 4 = (nc k).toList:=by
 rcases o.2 with ⟨_,h0⟩ | ⟨g,cap,cur,rfl,hbg,hh,hn,hm,hs,ht⟩
 ·
  omega
 ·
  refine ⟨g,cap,cur,rfl,hh,fun i k hk => ?_⟩
  have hi : i < xs.length:=(List.getElem?_eq_some_iff.1 hk).1
  have h1:=cellsN_at xs i k hk
  rw [← h1,← ht,List.drop_take,List.take_take,show min 4 (xs.length * 4 - i * 4) = 4 by omega]
theorem gc_zero : #[Value.int .u64 0,vI vU 0,vI vU 0,vI vU 0,vI vU 0,vI vU 0,vI vU 0,vI vU 0] = gc 0 0:=by
 unfold gc
 rw [zey,zey,zey,zey]
theorem drop_at {xs : List Nat} {i k : Nat} (h : xs[i]? = some k) : xs.drop i = k :: xs.drop (i + 1):=by
 obtain ⟨hi,rfl⟩:=List.getElem?_eq_some_iff.1 h
 exact List.drop_eq_getElem_cons hi
theorem rsign_calls (RS : RSum) (D : Nat) (hD : mayB D = true) (y : Nat → Nat) (hy : ∀ j,y j < 256) (w : World) :
  Calls Tryz.prog 9 #[nv D,dgv y] w fun e w' => ∃ s o,Ends D (num32 y % Pt.nn) 16 s ∧ sigOf D (num32 y) (outN D (num32 y % Pt.nn) s) = o ∧ e = .returned (.tuple #[sgv o,.bool o.isSome]) ∧ Ext w w':=by
 obtain ⟨E,hE⟩ : ∃ E,E = num32 y:=⟨_,rfl⟩
 obtain ⟨M,hM⟩ : ∃ M,M = num32 y % Pt.nn:=⟨_,rfl⟩
 have KL:=veil (fun W => rlist_calls RS D y hy 16 (by decide) W)
 have kM:=veil hM
 have kEE:=veil hE
 rw [← hM] at KL ⊢
 rw [← hE]
 have kD:=veil (Nat.lt_trans (zgz hD) zcp)
 have ky:=veil hy
 clear hD hy hM hE RS
 show Calls _ _ #[.agg (nc D),.agg (dgc y)] w _
 obtain ⟨C,hC⟩ : ∃ C,C = nc D:=⟨_,rfl⟩
 obtain ⟨F,hF⟩ : ∃ F,F = dgc y:=⟨_,rfl⟩
 rw [← hC,← hF]
 have HC:=veil hC
 have HF:=veil hF
 rw [show nv D = .agg C from by rw [hC]; rfl,show (Value.agg (arrOf 32 fun i => .int .u8 (y i : Nat))) = .agg F from by rw [hF]; rfl] at KL
 have KL2:=veil (fun W => show Calls Tryz.prog 23 #[.agg C,.agg F,.int .i64 16] W (fun e w' => ∃ s v,Ends D M 16 s ∧ e = .returned v ∧ OwnN w' W.heap.size v (outN D M s) ∧ Ext W w') from KL.out W)
 clear hC hF KL
 go_enter Tryz.func9,Tryz.ntmps9
 go_upto_region 1 with (fail)
 have hx:=Ext.alloc w (.cells C 24)
 have b0 : (w.alloc (.cells C 24)).heap[w.heap.size]? = some (.cells C 24 (0,0)):=heap_alloc_last w _
 have z1 : (w.alloc (.cells C 24)).heap.size = w.heap.size + 1:=by simp
 generalize w.alloc (.cells C 24) = w1 at *
 have hx2:=Ext.alloc w1 (.cells F 26)
 have b1 : (w1.alloc (.cells F 26)).heap[w.heap.size + 1]? = some (.cells F 26 (0,0)):=by rw [← z1]; exact heap_alloc_last w1 _
 have z2 : (w1.alloc (.cells F 26)).heap.size = w.heap.size + 1 + 1:=by simp [z1]
 replace b0:=hx2.block b0
 replace hx:=hx.trans hx2
 clear z1 hx2
 generalize w1.alloc (.cells F 26) = w2 at *
 rw [gc_zero]
 have hx3:=Ext.alloc w2 (.cells (gc 0 0) 35)
 have b2 : (w2.alloc (.cells (gc 0 0) 35)).heap[w.heap.size + 1 + 1]? = some (.cells (gc 0 0) 35 (0,0)):=by rw [← z2]; exact heap_alloc_last w2 _
 replace b0:=hx3.block b0
 replace b1:=hx3.block b1
 replace hx:=hx.trans hx3
 clear z2 hx3
 generalize w2.alloc (.cells (gc 0 0) 35) = w3 at *
 have H3:=veil (And.intro b0 (And.intro b1 (And.intro b2 hx)))
 clear b0 b1 b2 hx
 go_upto_region 2 with (first
  | (go_at_call 22; refine (nn_is _).mono ?_; rintro e w4 ⟨rfl,hE4⟩)
  | ((with_reducible refine zbh ?_); refine wpList_store_row rfl 24 _ _ rfl w4.heap.size (nc Pt.nn) rfl rfl 24 _ (heap_alloc_last w4 _) (iN _) (by rfl) (zbe _) ?_; rw [World.setRow_alloc_new]))
 have bN : (w4.alloc (.cells (nc Pt.nn) 24)).heap[w4.heap.size]? = some (.cells (nc Pt.nn) 24 (0,0)):=heap_alloc_last w4 _
 have hE5:=hE4.trans (Ext.alloc w4 (.cells (nc Pt.nn) 24))
 generalize w4.alloc (.cells (nc Pt.nn) 24) = w5 at *
 generalize w4.heap.size = gN at *
 have H5:=veil (And.intro (hE5.block H3.out.1) (And.intro (hE5.block H3.out.2.1) (And.intro (hE5.block H3.out.2.2.1) (And.intro bN (H3.out.2.2.2.trans hE5)))))
 clear bN hE4 hE5 H3
 go_upto_region 3 with (first
  | ((with_reducible refine zax 17 ?_); refine wpList_load_row rfl 24 _ rfl w.heap.size rfl 24 C (0,0) _ H5.out.1 Tryz.underlying24 rfl (by rw [HC.out]; exact iN D) ?_)
  | ((with_reducible refine zax 18 ?_); refine wpList_load_row rfl 26 _ rfl (w.heap.size + 1) rfl 26 F (0,0) _ H5.out.2.1 Tryz.underlying26 rfl (by rw [HF.out]; exact iDg y) ?_)
  | (go_at_call 23; refine (KL2.out _).mono ?_; rintro e w6 ⟨s',v,hEn,rfl,hO,hE6⟩))
 obtain ⟨b0,b1,b2,bN,hx⟩:=H5.out
 replace b0:=hE6.block b0
 replace b1:=hE6.block b1
 replace b2:=hE6.block b2
 replace bN:=hE6.block bN
 replace hx:=hx.trans hE6
 rw [HC.out] at b0
 rw [HF.out] at b1
 clear hE6 H5 KL2
 obtain ⟨xs,hxs⟩ : ∃ xs,xs = outN D M s':=⟨_,rfl⟩
 have hmx : ∀ k ∈ xs,mayB k = true:=fun k hk => by rw [hxs] at hk; exact (zij D M s' k hk).1
 have kxs:=veil hxs
 have kE:=veil hEn
 rw [← hxs] at hO
 clear hxs hEn
 obtain ⟨n,hn⟩ : ∃ n,n = xs.length:=⟨_,rfl⟩
 by_cases h16 : n < 16
 ·
  obtain ⟨A,c,rfl,_⟩:=hO.form
  rw [← hn]
  have hd : decide ((n : Int) < 16) = true:=by simp; omega
  have hd2 : decide (n < 16) = true:=decide_eq_true h16
  have ks:=veil (show sigOf D E xs = none from if_pos (by rw [← hn]; exact h16))
  clear hO hmx hn
  go_wp2_with ((with_reducible refine zbh ?_); rw [gc_zero]; refine wpList_store_row rfl 35 _ _ rfl (w.heap.size + 1 + 1) (gc 0 0) rfl rfl 35 _ b2 (iSg _ _) rfl (zce _ _) ?_)
  exact bodyPost_ret (zbc rfl _ _ (w.heap.size + 1 + 1) 35 (gc 0 0) (0,0) _ rfl (setRow_heap w6 _ _ (gc 0 0) 35 (0,0) b2) Tryz.underlying35 rfl (iSg _ _)) rfl ⟨s',none,kE.out,by rw [← kxs.out]; exact ks.out,rfl,zcf hx (by omega) _⟩
 ·
  obtain ⟨gL,cap,cur,rfl,bL,hcs⟩:=hO.blk (by omega)
  rw [← hn]
  have hd : decide ((n : Int) < 16) = false:=by simp; omega
  have hd2 : decide (n < 16) = false:=decide_eq_false h16
  have kCS:=veil (And.intro hcs (And.intro hmx (And.intro hn (show sigOf D E xs = pick D E xs from if_neg (by rw [← hn]; exact h16)))))
  have kX:=veil hx
  clear hO hmx hcs hn hx
  go_upto_region 6 with (fail)
  clear hd hd2
  go_loopw [8] (fun v wr => ∃ i : Nat,i ≤ n ∧ v = .int .i64 (i : Int) ∧ pick D E xs = pick D E (xs.drop i) ∧ Ext w6 wr)
   (fun v _ => n - (intOf v).toNat)
  case atStart => exact ⟨0,by omega,rfl,rfl,Ext.refl _⟩
  case round =>
   obtain ⟨i,hi,rfl,hpk,hx⟩:=hrel
   replace b0:=hx.block b0
   replace b1:=hx.block b1
   replace b2:=hx.block b2
   replace bN:=hx.block bN
   replace bL:=hx.block bL
   by_cases hlt : i < n
   ·
    have hn100 : n ≤ 100:=by have:=kE.out.most; have h1:=kCS.out.2.2.1; rw [kxs.out] at h1; omega
    obtain ⟨K,hK⟩ : ∃ K,xs[i]? = some K:=⟨_,List.getElem?_eq_getElem (by rw [← kCS.out.2.2.1]; exact hlt)⟩
    have hmK:=kCS.out.2.1 K (List.mem_of_getElem? hK)
    have kK:=veil (And.intro (may_ne hmK) (zgz hmK))
    have kil:=veil hlt
    have kcs:=veil (kCS.out.1 i K hK)
    have kdrop:=veil (drop_at hK)
    have kpick:=veil hpk
    obtain ⟨P,hP⟩ : ∃ P,P = Pt.grp.mul K Pt.base:=⟨_,rfl⟩
    obtain ⟨r,hr⟩ : ∃ r,r = Pt.pX P.1 % Pt.nn:=⟨_,rfl⟩
    obtain ⟨t,ht⟩ : ∃ t,t = Pt.iG Pt.nn K:=⟨_,rfl⟩
    obtain ⟨u,hu⟩ : ∃ u,u = r * D % Pt.nn:=⟨_,rfl⟩
    obtain ⟨v,hv⟩ : ∃ v,v = (M + u) % Pt.nn:=⟨_,rfl⟩
    obtain ⟨s,hs⟩ : ∃ s,s = t * v % Pt.nn:=⟨_,rfl⟩
    have kr1:=veil (show r = Pt.rOf K from by rw [hr,hP]; rfl)
    have ks1:=veil (show s = Pt.sOf D E K from by
     unfold Pt.sOf
     rw [hs,hv,hu,ht,← kr1.out,kM.out,kEE.out])
    have kP:=veil hP
    have kr:=veil hr
    have kt:=veil ht
    have ku:=veil hu
    have kv:=veil hv
    have ks:=veil hs
    have hI : (i : Int) < (n : Int):=by omega
    clear hs hv hu ht hr hP hpk hmK hK
    go_upto_region 8 with (fail)
    refine' zbw (m:=6) (A:=_) 7 (by kernel_rfl) (by kernel_rfl) (by kernel_rfl) ?h1 ?h2
    case h1 =>
     refine zaa (.slice (some ⟨gL,0,none⟩) n cap) rfl (zah (.inl rfl) rfl) ?_
     refine zaa (.int .i64 (i : Int)) rfl (zah (.inl rfl) rfl) ?_;simp only [aP,lA,lZ,lS]
     refine zaa (.pointer (some ⟨gL,i * 4,none⟩)) rfl (zhu (sz:=4) rfl rfl rfl kil.out Tryz.underlying50 infoN4) ?_
     refine zaa (nv K) rfl (zad (cs:=(nc K).toList) rfl rfl bL kcs.out uN rfl (iN K)) ?_;simp only [aP,lA,lZ,lS]
     refine zaa (qv Pt.gx Pt.gy false) rfl (zai (args:=[]) rfl rfl (fun W => zac Tryz.func25 rfl rfl _ W) (fun W hW => rbase_is W)) ?_
     refine zaa (qv (Pt.pX P.1) (Pt.pY P.1) (Pt.pFar P.1)) rfl (zai (args:=[nv K,qv Pt.gx Pt.gy false]) rfl rfl (fun W => zac Tryz.func24 rfl rfl _ W) (fun W hW => rmulb_is (Nat.lt_trans kK.out.2 zcp) kP.out W)) ?_;simp only [aP,lA,lZ,lS]
     exact zak
    refine zcv _ _ rfl rfl rfl rfl rfl rfl rfl rfl rfl (by kernel_rfl) (by kernel_rfl) (by kernel_rfl) rfl rfl (hzT ·) (fun _ => rfl) (fun _ => rfl) (iT _ _ _) rfl (zev _ _ _) ?_
    intro gp w2 hgp bp hE
    refine NoPanic.normal ?_
    replace b0:=hE.block b0
    replace b1:=hE.block b1
    replace b2:=hE.block b2
    replace bN:=hE.block bN
    replace bL:=hE.block bL
    replace hx:=hx.trans hE
    clear hE
    simp only [aP,lA,lZ,lS]
    clear hgp
    go_upto_region 9 with (fail)
    refine' zan (m:=4) (A:=_) (by kernel_rfl) ?h2a ?h2b
    case h2a =>
     refine zaa (ptrTo gp) rfl (zaf rfl rfl (fldT0 _ ·)) ?_
     refine zaa (nv (Pt.pX P.1)) rfl (zad rfl rfl bp rfl uN rfl (iN _)) ?_;simp only [aP,lA,lZ,lS]
     refine zaa (nv Pt.nn) rfl (zad rfl rfl bN rfl uN rfl (iN _)) ?_
     refine zaa (nv r) rfl (zai (args:=[nv (Pt.pX P.1),nv Pt.nn]) rfl rfl (fun W => zac Tryz.func26 rfl rfl _ W) (fun W hW => rinn_is kr.out (p_top _).1 W)) ?_;simp only [aP,lA,lZ,lS]
     exact zak
    refine zcm _ _ rfl rfl rfl rfl rfl rfl rfl (hzN ·) (fun _ => rfl) (fun _ => rfl) (iN _) rfl (zbe _) ?_
    intro gr w3 hgr br hE
    replace b0:=hE.block b0
    replace b1:=hE.block b1
    replace b2:=hE.block b2
    replace bN:=hE.block bN
    replace bL:=hE.block bL
    replace hx:=hx.trans hE
    clear hE
    simp only [aP,lA,lZ,lS]
    clear hgr
    go_upto_region 10 with (fail)
    refine' zbw (m:=8) (A:=_) 10 (by kernel_rfl) (by kernel_rfl) (by kernel_rfl) ?h3a ?h3b
    case h3a =>
     refine zaa (.slice (some ⟨gL,0,none⟩) n cap) rfl (zah (.inl rfl) rfl) ?_
     refine zaa (.int .i64 (i : Int)) rfl (zah (.inl rfl) rfl) ?_;simp only [aP,lA,lZ,lS]
     refine zaa (.pointer (some ⟨gL,i * 4,none⟩)) rfl (zhu (sz:=4) rfl rfl rfl kil.out Tryz.underlying50 infoN4) ?_
     refine zaa (nv K) rfl (zad (cs:=(nc K).toList) rfl rfl bL kcs.out uN rfl (iN K)) ?_;simp only [aP,lA,lZ,lS]
     refine zaa (nv Pt.nn) rfl (zad rfl rfl bN rfl uN rfl (iN _)) ?_
     refine zaa (.tuple #[nv t,.bool true]) rfl (zai (args:=[nv K,nv Pt.nn]) rfl rfl (fun W => zac Tryz.func27 rfl rfl _ W) (fun W hW => rinvn_is kK.out.1 kK.out.2 kt.out W)) ?_;simp only [aP,lA,lZ,lS]
     refine zaa (.tuple #[nv t,.bool true]) rfl (zah (.inl rfl) rfl) ?_
     refine zaa (nv t) rfl (zbb rfl rfl rfl) ?_;simp only [aP,lA,lZ,lS]
     exact zak
    refine zfy (v:=.bool true) (vx:=.bool true) _ _ _ _ rfl rfl rfl rfl rfl rfl rfl rfl rfl rfl rfl rfl rfl rfl rfl rfl (by decide) (by kernel_rfl) (by kernel_rfl) (by kernel_rfl) (by kernel_rfl) (by kernel_rfl) (by kernel_rfl) (by kernel_rfl) rfl rfl rfl rfl rfl rfl (hzN ·) (zcw rfl rfl rfl) (fun _ => zcw rfl rfl rfl) (fun _ => rfl) (fun _ => rfl) (fun _ => rfl) (fun _ => rfl) (fun _ => rfl) (iN _) rfl (zbe _) ?_
    intro gt w4 hgt bt hE
    refine NoPanic.normal ?_
    replace b0:=hE.block b0
    replace b1:=hE.block b1
    replace b2:=hE.block b2
    replace bN:=hE.block bN
    replace br:=hE.block br
    replace hx:=hx.trans hE
    clear hE
    simp only [aP,lA,lZ,lS]
    clear hgt
    go_upto_region 11 with (fail)
    refine' zbw (m:=9) (A:=_) 10 (by kernel_rfl) (by kernel_rfl) (by kernel_rfl) ?h4a ?h4b
    case h4a =>
     refine zaa (nv t) rfl (zad rfl rfl bt rfl uN rfl (iN _)) ?_
     refine zaa (dgv y) rfl (zad rfl rfl b1 rfl Tryz.underlying26 rfl (iDg _)) ?_;simp only [aP,lA,lZ,lS]
     refine zaa (nv M) rfl (zai (args:=[dgv y]) rfl rfl (fun W => zac Tryz.func30 rfl rfl _ W) (fun W hW => vnum_calls y ky.out rfl kM.out W)) ?_
     refine zaa (nv r) rfl (zad rfl rfl br rfl uN rfl (iN _)) ?_;simp only [aP,lA,lZ,lS]
     refine zaa (nv D) rfl (zad rfl rfl b0 rfl uN rfl (iN _)) ?_
     refine zaa (nv u) rfl (zai (args:=[nv r,nv D]) rfl rfl (fun W => zac Tryz.func28 rfl rfl _ W) (fun W hW => vmul_calls ku.out (mod_nn kr.out) kD.out W)) ?_;simp only [aP,lA,lZ,lS]
     refine zaa (nv Pt.nn) rfl (zad rfl rfl bN rfl uN rfl (iN _)) ?_
     refine zaa (nv v) rfl (zai (args:=[nv M,nv u,nv Pt.nn]) rfl rfl (fun W => zac Tryz.func29 rfl rfl _ W) (fun W hW => raddn_is kv.out (mod_nn kM.out) (mod_nn ku.out) W)) ?_;simp only [aP,lA,lZ,lS]
     refine zaa (nv s) rfl (zai (args:=[nv t,nv v]) rfl rfl (fun W => zac Tryz.func28 rfl rfl _ W) (fun W hW => vmul_calls ks.out (inv_nn kt.out) (zcx kv.out) W)) ?_;simp only [aP,lA,lZ,lS]
     exact zak
    refine zcv _ _ rfl rfl rfl rfl rfl rfl rfl rfl rfl (by kernel_rfl) (by kernel_rfl) (by kernel_rfl) rfl rfl (hzN ·) (fun _ => rfl) (fun _ => rfl) (iN _) rfl (zbe _) ?_
    intro gs w5 hgs bs hE
    refine NoPanic.normal ?_
    replace b2:=hE.block b2
    replace br:=hE.block br
    replace hx:=hx.trans hE
    clear hE
    simp only [aP,lA,lZ,lS]
    clear hgs
    go_upto_region 12 with (fail)
    cases hmr : mayB r with
    | false =>
     cases hms : mayB s with
     | false =>
      have kmr:=veil hmr
      have kms:=veil hms
      clear hmr hms
      refine' zan (m:=3) (A:=_) (by kernel_rfl) ?h5a ?h5b
      case h5a =>
       refine zaa (nv r) rfl (zad rfl rfl br rfl uN rfl (iN _)) ?_
       refine zaa (.bool false) rfl (zai (args:=[nv r]) rfl rfl (fun W => zac Tryz.func8 rfl rfl _ W) (fun W hW => zea kmr.out (zcx kr.out) W)) ?_;simp only [aP,lA,lZ,lS]
       refine zaa (.bool false) rfl (zah (.inr rfl) rfl) ?_;simp only [aP,lA,lZ,lS]
       exact zak
      refine zar rfl ?_
      intro w6 hE
      replace b2:=hE.block b2
      replace br:=hE.block br
      replace bs:=hE.block bs
      replace hx:=hx.trans hE
      clear hE
      go_upto_region 13 with (fail)
      refine' zan (m:=3) (A:=_) (by kernel_rfl) ?h6a ?h6b
      case h6a =>
       refine zaa (nv s) rfl (zad rfl rfl bs rfl uN rfl (iN _)) ?_
       refine zaa (.bool false) rfl (zai (args:=[nv s]) rfl rfl (fun W => zac Tryz.func8 rfl rfl _ W) (fun W hW => zea kms.out (zcx ks.out) W)) ?_;simp only [aP,lA,lZ,lS]
       refine zaa (.bool false) rfl (zah (.inr rfl) rfl) ?_;simp only [aP,lA,lZ,lS]
       exact zak
      refine zar rfl ?_
      intro w7 hE
      replace b2:=hE.block b2
      replace br:=hE.block br
      replace bs:=hE.block bs
      replace hx:=hx.trans hE
      clear hE
      go_upto_region 14 with (fail)
      refine' zdt (m:=4) (A:=_) ?h7a ?h7b
      case h7a =>
       refine zaa (.bool false) rfl (zah (.inl rfl) rfl) ?_
       refine zaa (.bool false) rfl (zah (.inl rfl) rfl) ?_;simp only [aP,lA,lZ,lS]
       refine zch rfl ?_
       refine zaa (.bool false) rfl (zbd rfl rfl rfl) ?_;simp only [aP,lA,lZ,lS]
       exact zak
      refine zar rfl ?_
      intro w8 hE
      replace b2:=hE.block b2
      replace br:=hE.block br
      replace bs:=hE.block bs
      replace hx:=hx.trans hE
      clear hE
      go_wp2
      go_roundw
      case rel =>
       exact ⟨i + 1,by omega,by go_num,by rw [kpick.out,kdrop.out,pick_no (by rw [← kr1.out,← ks1.out,kmr.out,kms.out]; rfl)],hx⟩
      case measure => simp [intOf]; omega
     | true =>
      have kmr:=veil hmr
      have kms:=veil hms
      clear hmr hms
      refine' zan (m:=3) (A:=_) (by kernel_rfl) ?h8a ?h8b
      case h8a =>
       refine zaa (nv r) rfl (zad rfl rfl br rfl uN rfl (iN _)) ?_
       refine zaa (.bool false) rfl (zai (args:=[nv r]) rfl rfl (fun W => zac Tryz.func8 rfl rfl _ W) (fun W hW => zea kmr.out (zcx kr.out) W)) ?_;simp only [aP,lA,lZ,lS]
       refine zaa (.bool false) rfl (zah (.inr rfl) rfl) ?_;simp only [aP,lA,lZ,lS]
       exact zak
      refine zar rfl ?_
      intro w6 hE
      replace b2:=hE.block b2
      replace br:=hE.block br
      replace bs:=hE.block bs
      replace hx:=hx.trans hE
      clear hE
      go_upto_region 13 with (fail)
      refine' zan (m:=3) (A:=_) (by kernel_rfl) ?h9a ?h9b
      case h9a =>
       refine zaa (nv s) rfl (zad rfl rfl bs rfl uN rfl (iN _)) ?_
       refine zaa (.bool true) rfl (zai (args:=[nv s]) rfl rfl (fun W => zac Tryz.func8 rfl rfl _ W) (fun W hW => zea kms.out (zcx ks.out) W)) ?_;simp only [aP,lA,lZ,lS]
       refine zaa (.bool true) rfl (zah (.inr rfl) rfl) ?_;simp only [aP,lA,lZ,lS]
       exact zak
      refine zar rfl ?_
      intro w7 hE
      replace b2:=hE.block b2
      replace br:=hE.block br
      replace bs:=hE.block bs
      replace hx:=hx.trans hE
      clear hE
      go_upto_region 14 with (fail)
      refine' zdt (m:=4) (A:=_) ?h10a ?h10b
      case h10a =>
       refine zaa (.bool false) rfl (zah (.inl rfl) rfl) ?_
       refine zaa (.bool false) rfl (zah (.inl rfl) rfl) ?_;simp only [aP,lA,lZ,lS]
       refine zch rfl ?_
       refine zaa (.bool false) rfl (zbd rfl rfl rfl) ?_;simp only [aP,lA,lZ,lS]
       exact zak
      refine zar rfl ?_
      intro w8 hE
      replace b2:=hE.block b2
      replace br:=hE.block br
      replace bs:=hE.block bs
      replace hx:=hx.trans hE
      clear hE
      go_wp2
      go_roundw
      case rel =>
       exact ⟨i + 1,by omega,by go_num,by rw [kpick.out,kdrop.out,pick_no (by rw [← kr1.out,← ks1.out,kmr.out,kms.out]; rfl)],hx⟩
      case measure => simp [intOf]; omega
    | true =>
     cases hms : mayB s with
     | false =>
      have kmr:=veil hmr
      have kms:=veil hms
      clear hmr hms
      refine' zan (m:=3) (A:=_) (by kernel_rfl) ?h11a ?h11b
      case h11a =>
       refine zaa (nv r) rfl (zad rfl rfl br rfl uN rfl (iN _)) ?_
       refine zaa (.bool true) rfl (zai (args:=[nv r]) rfl rfl (fun W => zac Tryz.func8 rfl rfl _ W) (fun W hW => zea kmr.out (zcx kr.out) W)) ?_;simp only [aP,lA,lZ,lS]
       refine zaa (.bool true) rfl (zah (.inr rfl) rfl) ?_;simp only [aP,lA,lZ,lS]
       exact zak
      refine zar rfl ?_
      intro w6 hE
      replace b2:=hE.block b2
      replace br:=hE.block br
      replace bs:=hE.block bs
      replace hx:=hx.trans hE
      clear hE
      go_upto_region 13 with (fail)
      refine' zan (m:=3) (A:=_) (by kernel_rfl) ?h12a ?h12b
      case h12a =>
       refine zaa (nv s) rfl (zad rfl rfl bs rfl uN rfl (iN _)) ?_
       refine zaa (.bool false) rfl (zai (args:=[nv s]) rfl rfl (fun W => zac Tryz.func8 rfl rfl _ W) (fun W hW => zea kms.out (zcx ks.out) W)) ?_;simp only [aP,lA,lZ,lS]
       refine zaa (.bool false) rfl (zah (.inr rfl) rfl) ?_;simp only [aP,lA,lZ,lS]
       exact zak
      refine zar rfl ?_
      intro w7 hE
      replace b2:=hE.block b2
      replace br:=hE.block br
      replace bs:=hE.block bs
      replace hx:=hx.trans hE
      clear hE
      go_upto_region 14 with (fail)
      refine' zdt (m:=4) (A:=_) ?h13a ?h13b
      case h13a =>
       refine zaa (.bool true) rfl (zah (.inl rfl) rfl) ?_
       refine zaa (.bool true) rfl (zah (.inl rfl) rfl) ?_;simp only [aP,lA,lZ,lS]
       refine zat (.bool false) rfl (zah (.inl rfl) rfl) ?_
       refine zaa (.bool false) rfl (zbd rfl rfl rfl) ?_;simp only [aP,lA,lZ,lS]
       exact zak
      refine zar rfl ?_
      intro w8 hE
      replace b2:=hE.block b2
      replace br:=hE.block br
      replace bs:=hE.block bs
      replace hx:=hx.trans hE
      clear hE
      go_wp2
      go_roundw
      case rel =>
       exact ⟨i + 1,by omega,by go_num,by rw [kpick.out,kdrop.out,pick_no (by rw [← kr1.out,← ks1.out,kmr.out,kms.out]; rfl)],hx⟩
      case measure => simp [intOf]; omega
     | true =>
      have kmr:=veil hmr
      have kms:=veil hms
      clear hmr hms
      refine' zan (m:=3) (A:=_) (by kernel_rfl) ?h14a ?h14b
      case h14a =>
       refine zaa (nv r) rfl (zad rfl rfl br rfl uN rfl (iN _)) ?_
       refine zaa (.bool true) rfl (zai (args:=[nv r]) rfl rfl (fun W => zac Tryz.func8 rfl rfl _ W) (fun W hW => zea kmr.out (zcx kr.out) W)) ?_;simp only [aP,lA,lZ,lS]
       refine zaa (.bool true) rfl (zah (.inr rfl) rfl) ?_;simp only [aP,lA,lZ,lS]
       exact zak
      refine zar rfl ?_
      intro w6 hE
      replace b2:=hE.block b2
      replace br:=hE.block br
      replace bs:=hE.block bs
      replace hx:=hx.trans hE
      clear hE
      go_upto_region 13 with (fail)
      refine' zan (m:=3) (A:=_) (by kernel_rfl) ?h15a ?h15b
      case h15a =>
       refine zaa (nv s) rfl (zad rfl rfl bs rfl uN rfl (iN _)) ?_
       refine zaa (.bool true) rfl (zai (args:=[nv s]) rfl rfl (fun W => zac Tryz.func8 rfl rfl _ W) (fun W hW => zea kms.out (zcx ks.out) W)) ?_;simp only [aP,lA,lZ,lS]
       refine zaa (.bool true) rfl (zah (.inr rfl) rfl) ?_;simp only [aP,lA,lZ,lS]
       exact zak
      refine zar rfl ?_
      intro w7 hE
      replace b2:=hE.block b2
      replace br:=hE.block br
      replace bs:=hE.block bs
      replace hx:=hx.trans hE
      clear hE
      go_upto_region 14 with (fail)
      refine' zdt (m:=4) (A:=_) ?h16a ?h16b
      case h16a =>
       refine zaa (.bool true) rfl (zah (.inl rfl) rfl) ?_
       refine zaa (.bool true) rfl (zah (.inl rfl) rfl) ?_;simp only [aP,lA,lZ,lS]
       refine zat (.bool true) rfl (zah (.inl rfl) rfl) ?_
       refine zaa (.bool true) rfl (zbd rfl rfl rfl) ?_;simp only [aP,lA,lZ,lS]
       exact zak
      refine zar rfl ?_
      intro w8 hE
      replace b2:=hE.block b2
      replace br:=hE.block br
      replace bs:=hE.block bs
      replace hx:=hx.trans hE
      clear hE
      go_upto_region 15 with (fail)
      refine' zan (m:=3) (A:=_) (by kernel_rfl) ?h17a ?h17b
      case h17a =>
       refine zaa (nv r) rfl (zad rfl rfl br rfl uN rfl (iN _)) ?_
       refine zaa (nv s) rfl (zad rfl rfl bs rfl uN rfl (iN _)) ?_;simp only [aP,lA,lZ,lS]
       refine zaa (gv r s) rfl (zba (vs:=[(0,nv r),(1,nv s)]) rfl rfl (fun W => bldG W _ _)) ?_;simp only [aP,lA,lZ,lS]
       exact zak
      refine zdd _ rfl rfl rfl rfl rfl rfl b2 (iSg _ _) rfl (zce _ _) ?_
      intro w9 hB hb
      go_wp2
      refine bodyPost_ret (zbc rfl _ _ (w.heap.size + 1 + 1) 35 (gc r s) (0,0) _ rfl hb Tryz.underlying35 rfl (iSg _ _)) rfl ⟨s',some (r,s),kE.out,?_,rfl,(kX.out.trans hx).new hB (by omega)⟩
      rw [← kxs.out,kCS.out.2.2.2,kpick.out,kdrop.out,pick_yes (by rw [← kr1.out]; exact kmr.out) (by rw [← ks1.out]; exact kms.out),← kr1.out,← ks1.out]
   ·
    obtain rfl : i = n:=by omega
    have kn:=veil (show sigOf D E xs = none from by
     rw [kCS.out.2.2.2,hpk,List.drop_eq_nil_of_le (by rw [← kCS.out.2.2.1]; exact Nat.le_refl _)]; rfl)
    clear hpk hi hlt
    go_wp2_with ((with_reducible refine zbh ?_); rw [gc_zero]; refine wpList_store_row rfl 35 _ _ rfl (w.heap.size + 1 + 1) (gc 0 0) rfl rfl 35 _ b2 (iSg _ _) rfl (zce _ _) ?_)
    exact bodyPost_ret (zbc rfl _ _ (w.heap.size + 1 + 1) 35 (gc 0 0) (0,0) _ rfl (setRow_heap wr _ _ (gc 0 0) 35 (0,0) b2) Tryz.underlying35 rfl (iSg _ _)) rfl ⟨s',none,kE.out,by rw [← kxs.out]; exact kn.out,rfl,zcf (kX.out.trans hx) (by omega) _⟩
theorem cells_sig : Tryz.prog.cellsOf 35 = 8:=by kernel_rfl
theorem lits_sig (X Y : Nat) (D : Nat) : Tryz.prog.keyLits (D + 3) 35 (gc X Y).toList = some [.int .u64 (wd X 0),.int .u64 (wd X 1),.int .u64 (wd X 2),.int .u64 (wd X 3),.int .u64 (wd Y 0),.int .u64 (wd Y 1),.int .u64 (wd Y 2),.int .u64 (wd Y 3)]:=by
 unfold Program.keyLits gc
 simp [Tryz.underlying35,cells_sig,cells_num,lits_num]
theorem eql_sig {X Y X' Y' : Nat} (hX : X < top) (hY : Y < top) (hX' : X' < top) (hY' : Y' < top) (w : World) : (binOp .eql 35 (gv X Y) (gv X' Y')).run Tryz.prog w = .ok (.bool (decide (X = X' ∧ Y = Y'))) w:=by
 unfold gv
 rw [run_eql_struct]
 obtain ⟨r,hr,hiff⟩:=run_equalIn_deep (P:=Tryz.prog) 9990 10 35 (by kernel_rfl) w 10000 10000 (.agg (gc X Y)) (.agg (gc X' Y')) _ _ (by simp [Value.formed,Tryz.underlying35,cells_sig,gc]) (by simp [Value.formed,Tryz.underlying35,cells_sig,gc]) (lits_sig X Y 9997) (lits_sig X' Y' 9997)
 rw [hr,Result.andThen_ok]
 congr 2
 have hd : r = true ↔ (X = X' ∧ Y = Y'):=by
  rw [hiff]
  simp only [List.cons.injEq,Lit.int.injEq,true_and,and_true]
  constructor
  ·
   rintro ⟨a0,a1,a2,a3,b0,b1,b2,b3⟩
   exact ⟨wd_inj hX hX' a0 a1 a2 a3,wd_inj hY hY' b0 b1 b2 b3⟩
  ·
   rintro ⟨rfl,rfl⟩
   exact ⟨rfl,rfl,rfl,rfl,rfl,rfl,rfl,rfl⟩
 cases r with
 | true => exact (decide_eq_true (hd.1 rfl)).symm
 | false => exact (decide_eq_false fun h => by have:=hd.2 h; cases this).symm
theorem eqG {X Y : Nat} (hX : X < top) (hY : Y < top) (W : World) : (binOp .eql 35 (gv X Y) (gv X Y)).run Tryz.prog W = .ok (.bool true) W:=by
 have e:=eql_sig hX hY hX hY W
 rw [decide_eq_true ⟨rfl,rfl⟩] at e
 exact e
theorem gG (X Y X' Y' : Nat) (op : BinOp) (x y : Operand) (W : World) : (eqGuard op 35 x y (gv X Y) (gv X' Y')).run Tryz.prog W = .ok () W:=by
 unfold gv gc
 cases op <;> simp [eqGuard,go_sem]
section
variable {P : Program} {o : Oper} {a : Act} {w : World}
end
theorem sig_top {D E r s : Nat} {l : List Nat} (h : pick D E l = some (r,s)) : r < top ∧ s < top:=by
 induction l with
 | nil => cases h
 | cons k l ih =>
  unfold pick at h
  split at h
  ·
   injection h with h
   injection h with h1 h2
   rename_i hc
   simp only [Bool.and_eq_true] at hc
   rw [← h1,← h2]
   exact ⟨Nat.lt_trans (zgz hc.1) zcp,Nat.lt_trans (zgz hc.2) zcp⟩
  ·
   exact ih h
theorem sigOf_top {D E r s : Nat} {l : List Nat} (h : sigOf D E l = some (r,s)) : r < top ∧ s < top:=by
 unfold sigOf at h
 split at h
 ·
  cases h
 ·
  exact sig_top h
structure Code7 : Prop where
 up : ∀ w,KT w → Calls Tryz.prog 5 #[] w fun e w' => e = .returned (.bool true) ∧ Ext w w'
 pub_bad : ∀ D w,D < top → mayB D = false → Calls Tryz.prog 6 #[nv D] w fun e w' => e = .returned (.tuple #[qv 0 0 false,.iface 39 (.int .i64 1)]) ∧ Ext w w'
 pub_ok : ∀ D w,mayB D = true → Calls Tryz.prog 6 #[nv D] w fun e w' => e = .returned (.tuple #[pv (Pt.grp.mul D Pt.base),.nilIface]) ∧ Ext w w'
 sign_bad : ∀ D y w,D < top → KT w → mayB D = false → Calls Tryz.prog 7 #[nv D,dgv y] w fun e w' => e = .returned (.tuple #[gv 0 0,.iface 39 (.int .i64 1)]) ∧ Ext w w'
 sign_ok : ∀ D y w,KT w → mayB D = true → (∀ j,y j < 256) → Calls Tryz.prog 7 #[nv D,dgv y] w fun e w' => ∃ s o,Ends D (num32 y % Pt.nn) 16 s ∧ sigOf D (num32 y) (outN D (num32 y % Pt.nn) s) = o ∧ e = .returned (.tuple #[sgv o,if o.isSome then .nilIface else .iface 39 (.int .i64 4)]) ∧ Ext w w'
theorem ends_ex (D M many : Nat) : ∃ s,Ends D M many s:=by
 have h : ∀ n,n ≤ 100 → (∃ s,Ends D M many s) ∨ ∀ j,j < n → (outN D M j).length < many:=by
  intro n
  induction n with
  | zero => intro _; exact .inr fun j hj => by omega
  | succ n ih =>
   intro hn
   rcases ih (by omega) with h | h
   ·
    exact .inl h
   ·
    by_cases hl : (outN D M n).length < many
    ·
     exact .inr (pre_more h hl)
    ·
     exact .inl ⟨n,by omega,h,.inr hl⟩
 rcases h 100 (Nat.le_refl _) with h | h
 ·
  exact h
 ·
  exact ⟨100,Nat.le_refl _,h,.inl rfl⟩
section
variable {D s : Nat} {y : Nat → Nat} (hmay : mayB D = true) (hy : ∀ j,y j < 256) (hE : Ends D (num32 y % Pt.nn) 16 s)
include hmay hy hE
theorem rsign_at (w : World) : Calls Tryz.prog 9 #[nv D,dgv y] w fun e w' => e = .returned (.tuple #[sgv (sigOf D (num32 y) (outN D (num32 y % Pt.nn) s)),.bool (sigOf D (num32 y) (outN D (num32 y % Pt.nn) s)).isSome]) ∧ Ext w w' :=
 (rsign_calls rsum_calls D hmay y hy w).mono fun e w' ⟨s2,o,h2,ho,he,hx⟩ => by
  obtain rfl:=h2.same hE
  rw [ho]; exact ⟨he,hx⟩
theorem rsign_none (ho : sigOf D (num32 y) (outN D (num32 y % Pt.nn) s) = none) (w : World) : Calls Tryz.prog 9 #[nv D,dgv y] w fun e w' => e = .returned (.tuple #[gv 0 0,.bool false]) ∧ Ext w w':=by
 have h:=rsign_at hmay hy hE w
 rw [ho] at h; exact h
theorem rsign_some {r z : Nat} (ho : sigOf D (num32 y) (outN D (num32 y % Pt.nn) s) = some (r,z)) (w : World) : Calls Tryz.prog 9 #[nv D,dgv y] w fun e w' => e = .returned (.tuple #[gv r z,.bool true]) ∧ Ext w w':=by
 have h:=rsign_at hmay hy hE w
 rw [ho] at h; exact h
end
theorem vpub_is (C : Code7) {D : Nat} {P : Pt.Q} (hP : P = Pt.grp.mul D Pt.base) (hmay : mayB D = true) (w : World) : Calls Tryz.prog 6 #[nv D] w fun e w' => e = .returned (.tuple #[qv (Pt.pX P.1) (Pt.pY P.1) (Pt.pFar P.1),.nilIface]) ∧ Ext w w':=by
 subst hP; exact C.pub_ok D w hmay
section
variable (C : Code7) {D s : Nat} {y : Nat → Nat} (hmay : mayB D = true) (hy : ∀ j,y j < 256) (hE : Ends D (num32 y % Pt.nn) 16 s)
include C hmay hy hE
theorem vsign_none (ho : sigOf D (num32 y) (outN D (num32 y % Pt.nn) s) = none) (w : World) (hK : KT w) : Calls Tryz.prog 7 #[nv D,dgv y] w fun e w' => e = .returned (.tuple #[gv 0 0,.iface 39 (.int .i64 4)]) ∧ Ext w w' :=
 (C.sign_ok D y w hK hmay hy).mono fun e w' ⟨s2,o,h2,ho2,he,hx⟩ => by
  obtain rfl:=h2.same hE
  rw [ho] at ho2
  subst ho2
  exact ⟨he,hx⟩
theorem vsign_some {r z : Nat} (ho : sigOf D (num32 y) (outN D (num32 y % Pt.nn) s) = some (r,z)) (w : World) (hK : KT w) : Calls Tryz.prog 7 #[nv D,dgv y] w fun e w' => e = .returned (.tuple #[gv r z,.nilIface]) ∧ Ext w w' :=
 (C.sign_ok D y w hK hmay hy).mono fun e w' ⟨s2,o,h2,ho2,he,hx⟩ => by
  obtain rfl:=h2.same hE
  rw [ho] at ho2
  subst ho2
  exact ⟨he,hx⟩
end
theorem signs_bad (hC : Code7) {D : Nat} (hD : D < top) (hmay : mayB D = false) (y : Nat → Nat) {w : World} (hK : KT w) :
  Calls Tryz.prog 3 #[nv D,dgv y] w fun e w' => e = .returned (.bool true) ∧ Ext w w':=by
 have kC:=veil hC
 have kD:=veil hD
 have kmay:=veil hmay
 have kK:=veil hK
 clear hK hmay hD hC
 unfold nv nc dgv dgc
 go_enter Tryz.func3,Tryz.ntmps3
 go_upto_region 1 with (fail)
 obtain ⟨hx,b0,b1⟩:=blocks2 w (.cells #[vI vU (wd D 0),vI vU (wd D 1),vI vU (wd D 2),vI vU (wd D 3)] 24) (.cells (arrOf 32 fun i => .int .u8 (y i : Nat)) 26)
 generalize (w.alloc (.cells #[vI vU (wd D 0),vI vU (wd D 1),vI vU (wd D 2),vI vU (wd D 3)] 24)).alloc (.cells (arrOf 32 fun i => .int .u8 (y i : Nat)) 26) = w1 at *
 have b0 : w1.heap[w.heap.size]? = some (.cells (nc D) 24 (0,0)):=b0
 have b1 : w1.heap[w.heap.size + 1]? = some (.cells (dgc y) 26 (0,0)):=b1
 refine' zan (m:=2) (A:=_) (by kernel_rfl) ?h1 ?h2
 case h1 =>
  refine zaa (.bool true) rfl (zai (args:=[]) rfl rfl (fun W => zac Tryz.func5 rfl rfl _ W) (fun W hW => kC.out.up W (kK.out.call (hx.trans hW)))) ?_
  refine zaa (.bool true) rfl (zah (.inr rfl) rfl) ?_;simp only [aP,lA,lZ,lS]
  exact zak
 refine zar rfl ?_
 intro w2 hE
 replace b0:=hE.block b0
 replace b1:=hE.block b1
 replace hx:=hx.trans hE
 clear hE
 go_upto_region 2 with (fail)
 refine' zan (m:=5) (A:=_) (by kernel_rfl) ?h2a ?h2b
 case h2a =>
  refine zaa (nv D) rfl (zad rfl rfl b0 rfl uN rfl (iN _)) ?_
  refine zaa (.tuple #[qv 0 0 false,.iface 39 (.int .i64 1)]) rfl (zai (args:=[nv D]) rfl rfl (fun W => zac Tryz.func6 rfl rfl _ W) (fun W hW => kC.out.pub_bad D W kD.out kmay.out)) ?_;simp only [aP,lA,lZ,lS]
  refine zaa (.tuple #[qv 0 0 false,.iface 39 (.int .i64 1)]) rfl (zah (.inl rfl) rfl) ?_
  refine zaa (qv 0 0 false) rfl (zbb rfl rfl rfl) ?_;simp only [aP,lA,lZ,lS]
  refine zaa (.iface 39 (.int .i64 1)) rfl (zbb rfl rfl rfl) ?_;simp only [aP,lA,lZ,lS]
  exact zak
 refine zcc _ _ rfl rfl rfl rfl rfl rfl rfl (hzT ·) (fun _ => rfl) (fun _ => rfl) (iT _ _ _) rfl (zev _ _ _) ?_
 intro gq w3 hgq bq hE
 replace b0:=hE.block b0
 replace b1:=hE.block b1
 replace hx:=hx.trans hE
 clear hE
 simp only [aP,lA,lZ,lS]
 clear hgq
 go_upto_region 3 with (fail)
 refine' zan (m:=6) (A:=_) (by kernel_rfl) ?h3a ?h3b
 case h3a =>
  refine zaa (nv D) rfl (zad rfl rfl b0 rfl uN rfl (iN _)) ?_
  refine zaa (dgv y) rfl (zad rfl rfl b1 rfl Tryz.underlying26 rfl (iDg _)) ?_;simp only [aP,lA,lZ,lS]
  refine zaa (.tuple #[gv 0 0,.iface 39 (.int .i64 1)]) rfl (zai (args:=[nv D,dgv y]) rfl rfl (fun W => zac Tryz.func7 rfl rfl _ W) (fun W hW => kC.out.sign_bad D y W kD.out (kK.out.call (hx.trans hW)) kmay.out)) ?_
  refine zaa (.tuple #[gv 0 0,.iface 39 (.int .i64 1)]) rfl (zah (.inl rfl) rfl) ?_;simp only [aP,lA,lZ,lS]
  refine zaa (gv 0 0) rfl (zbb rfl rfl rfl) ?_
  refine zaa (.iface 39 (.int .i64 1)) rfl (zbb rfl rfl rfl) ?_;simp only [aP,lA,lZ,lS]
  exact zak
 refine zcc _ _ rfl rfl rfl rfl rfl rfl rfl (hzG ·) (fun _ => rfl) (fun _ => rfl) (iSg _ _) rfl (zce _ _) ?_
 intro gs w4 hgs bs hE
 replace b0:=hE.block b0
 replace bq:=hE.block bq
 replace hx:=hx.trans hE
 clear hE
 simp only [aP,lA,lZ,lS]
 clear hgs
 go_upto_region 4 with (fail)
 refine' zan (m:=3) (A:=_) (by kernel_rfl) ?h4a ?h4b
 case h4a =>
  refine zaa (nv D) rfl (zad rfl rfl b0 rfl uN rfl (iN _)) ?_
  refine zaa (.bool false) rfl (zai (args:=[nv D]) rfl rfl (fun W => zac Tryz.func8 rfl rfl _ W) (fun W hW => zea kmay.out kD.out W)) ?_;simp only [aP,lA,lZ,lS]
  refine zaa (.bool false) rfl (zah (.inr rfl) rfl) ?_;simp only [aP,lA,lZ,lS]
  exact zak
 refine zar rfl ?_
 intro w5 hE
 replace bq:=hE.block bq
 replace bs:=hE.block bs
 replace hx:=hx.trans hE
 clear hE
 go_upto_region 5 with (fail)
 refine' zan (m:=2) (A:=_) (by kernel_rfl) ?h5a ?h5b
 case h5a =>
  refine zaa (.bool false) rfl (zah (.inl rfl) rfl) ?_
  refine zaa (.bool true) rfl (zcu rfl rfl rfl) ?_;simp only [aP,lA,lZ,lS]
  exact zak
 refine zar rfl ?_
 intro w6 hE
 replace bq:=hE.block bq
 replace bs:=hE.block bs
 replace hx:=hx.trans hE
 clear hE
 go_upto_region 6 with (fail)
 refine' zdt (m:=22) (A:=_) ?h6a ?h6b
 case h6a =>
  refine zaa (.bool true) rfl (zah (.inl rfl) rfl) ?_
  refine zaa (.bool true) rfl (zah (.inl rfl) rfl) ?_;simp only [aP,lA,lZ,lS]
  refine zat (.iface 39 (.int .i64 1)) rfl (zah (.inl rfl) rfl) ?_
  refine zat (.iface 39 (.int .i64 1)) rfl (zeh rfl (mkErr1 ·)) ?_;simp only [aP,lA,lZ,lS]
  refine zat (.bool true) rfl (zcd rfl rfl rfl (fun _ => by kernel_rfl) (fun _ => by kernel_rfl)) ?_
  refine zaa (.bool true) rfl (zbd rfl rfl rfl) ?_;simp only [aP,lA,lZ,lS]
  refine zaa (.bool true) rfl (zah (.inl rfl) rfl) ?_
  refine zat (.iface 39 (.int .i64 1)) rfl (zah (.inl rfl) rfl) ?_;simp only [aP,lA,lZ,lS]
  refine zat (.iface 39 (.int .i64 1)) rfl (zeh rfl (mkErr1 ·)) ?_
  refine zat (.bool true) rfl (zcd rfl rfl rfl (fun _ => by kernel_rfl) (fun _ => by kernel_rfl)) ?_;simp only [aP,lA,lZ,lS]
  refine zaa (.bool true) rfl (zbd rfl rfl rfl) ?_
  refine zaa (.bool true) rfl (zah (.inl rfl) rfl) ?_;simp only [aP,lA,lZ,lS]
  refine zat (qv 0 0 false) rfl (zad rfl rfl bq rfl Tryz.underlying29 rfl (iT _ _ _)) ?_
  refine zat (qv 0 0 false) rfl (zba rfl rfl (bldT0 ·)) ?_;simp only [aP,lA,lZ,lS]
  refine zat (.bool true) rfl (zcd rfl rfl rfl (gT _ _ _ _ _ _ _ _ _) (eqT zbu zbu)) ?_
  refine zaa (.bool true) rfl (zbd rfl rfl rfl) ?_;simp only [aP,lA,lZ,lS]
  refine zaa (.bool true) rfl (zah (.inl rfl) rfl) ?_
  refine zat (gv 0 0) rfl (zad rfl rfl bs rfl Tryz.underlying35 rfl (iSg _ _)) ?_;simp only [aP,lA,lZ,lS]
  refine zat (gv 0 0) rfl (zba rfl rfl (bldG0 ·)) ?_
  refine zat (.bool true) rfl (zcd rfl rfl rfl (gG _ _ _ _ _ _ _) (eqG zbu zbu)) ?_;simp only [aP,lA,lZ,lS]
  refine zaa (.bool true) rfl (zbd rfl rfl rfl) ?_
  refine zaa (.bool true) rfl (zah (.inr rfl) rfl) ?_;simp only [aP,lA,lZ,lS]
  exact zak
 refine zar rfl ?_
 intro w7 hE
 replace hx:=hx.trans hE
 clear hE
 go_wp2
 go_ret
 exact ⟨rfl,hx⟩
theorem signs_none (hC : Code7) {D s : Nat} (hD : D < top) (hmay : mayB D = true) (y : Nat → Nat) (hy : ∀ j,y j < 256) (hE : Ends D (num32 y % Pt.nn) 16 s) (ho : sigOf D (num32 y) (outN D (num32 y % Pt.nn) s) = none) {P : Pt.Q} (hP : P = Pt.grp.mul D Pt.base) {w : World} (hK : KT w) :
  Calls Tryz.prog 3 #[nv D,dgv y] w fun e w' => e = .returned (.bool true) ∧ Ext w w':=by
 have kC:=veil hC
 have kD:=veil hD
 have kmay:=veil hmay
 have ky:=veil hy
 have kE:=veil hE
 have ko:=veil ho
 have kP:=veil hP
 have kK:=veil hK
 clear hK hP ho hE hy hmay hD hC
 unfold nv nc dgv dgc
 go_enter Tryz.func3,Tryz.ntmps3
 go_upto_region 1 with (fail)
 obtain ⟨hx,b0,b1⟩:=blocks2 w (.cells #[vI vU (wd D 0),vI vU (wd D 1),vI vU (wd D 2),vI vU (wd D 3)] 24) (.cells (arrOf 32 fun i => .int .u8 (y i : Nat)) 26)
 generalize (w.alloc (.cells #[vI vU (wd D 0),vI vU (wd D 1),vI vU (wd D 2),vI vU (wd D 3)] 24)).alloc (.cells (arrOf 32 fun i => .int .u8 (y i : Nat)) 26) = w1 at *
 have b0 : w1.heap[w.heap.size]? = some (.cells (nc D) 24 (0,0)):=b0
 have b1 : w1.heap[w.heap.size + 1]? = some (.cells (dgc y) 26 (0,0)):=b1
 refine' zan (m:=2) (A:=_) (by kernel_rfl) ?h1 ?h2
 case h1 =>
  refine zaa (.bool true) rfl (zai (args:=[]) rfl rfl (fun W => zac Tryz.func5 rfl rfl _ W) (fun W hW => kC.out.up W (kK.out.call (hx.trans hW)))) ?_
  refine zaa (.bool true) rfl (zah (.inr rfl) rfl) ?_;simp only [aP,lA,lZ,lS]
  exact zak
 refine zar rfl ?_
 intro w2 hE
 replace b0:=hE.block b0
 replace b1:=hE.block b1
 replace hx:=hx.trans hE
 clear hE
 go_upto_region 2 with (fail)
 refine' zan (m:=5) (A:=_) (by kernel_rfl) ?h2a ?h2b
 case h2a =>
  refine zaa (nv D) rfl (zad rfl rfl b0 rfl uN rfl (iN _)) ?_
  refine zaa (.tuple #[qv (Pt.pX P.1) (Pt.pY P.1) (Pt.pFar P.1),.nilIface]) rfl (zai (args:=[nv D]) rfl rfl (fun W => zac Tryz.func6 rfl rfl _ W) (fun W hW => vpub_is kC.out kP.out kmay.out W)) ?_;simp only [aP,lA,lZ,lS]
  refine zaa (.tuple #[qv (Pt.pX P.1) (Pt.pY P.1) (Pt.pFar P.1),.nilIface]) rfl (zah (.inl rfl) rfl) ?_
  refine zaa (qv (Pt.pX P.1) (Pt.pY P.1) (Pt.pFar P.1)) rfl (zbb rfl rfl rfl) ?_;simp only [aP,lA,lZ,lS]
  refine zaa (.nilIface) rfl (zbb rfl rfl rfl) ?_;simp only [aP,lA,lZ,lS]
  exact zak
 refine zcc _ _ rfl rfl rfl rfl rfl rfl rfl (hzT ·) (fun _ => rfl) (fun _ => rfl) (iT _ _ _) rfl (zev _ _ _) ?_
 intro gq w3 hgq bq hE
 replace b0:=hE.block b0
 replace b1:=hE.block b1
 replace hx:=hx.trans hE
 clear hE
 simp only [aP,lA,lZ,lS]
 clear hgq
 go_upto_region 3 with (fail)
 refine' zan (m:=6) (A:=_) (by kernel_rfl) ?h3a ?h3b
 case h3a =>
  refine zaa (nv D) rfl (zad rfl rfl b0 rfl uN rfl (iN _)) ?_
  refine zaa (dgv y) rfl (zad rfl rfl b1 rfl Tryz.underlying26 rfl (iDg _)) ?_;simp only [aP,lA,lZ,lS]
  refine zaa (.tuple #[gv 0 0,.iface 39 (.int .i64 4)]) rfl (zai (args:=[nv D,dgv y]) rfl rfl (fun W => zac Tryz.func7 rfl rfl _ W) (fun W hW => vsign_none kC.out kmay.out ky.out kE.out ko.out W (kK.out.call (hx.trans hW)))) ?_
  refine zaa (.tuple #[gv 0 0,.iface 39 (.int .i64 4)]) rfl (zah (.inl rfl) rfl) ?_;simp only [aP,lA,lZ,lS]
  refine zaa (gv 0 0) rfl (zbb rfl rfl rfl) ?_
  refine zaa (.iface 39 (.int .i64 4)) rfl (zbb rfl rfl rfl) ?_;simp only [aP,lA,lZ,lS]
  exact zak
 refine zcc _ _ rfl rfl rfl rfl rfl rfl rfl (hzG ·) (fun _ => rfl) (fun _ => rfl) (iSg _ _) rfl (zce _ _) ?_
 intro gs w4 hgs bs hE
 replace b0:=hE.block b0
 replace b1:=hE.block b1
 replace hx:=hx.trans hE
 clear hE
 simp only [aP,lA,lZ,lS]
 clear hgs
 go_upto_region 4 with (fail)
 refine' zan (m:=3) (A:=_) (by kernel_rfl) ?h4a ?h4b
 case h4a =>
  refine zaa (nv D) rfl (zad rfl rfl b0 rfl uN rfl (iN _)) ?_
  refine zaa (.bool true) rfl (zai (args:=[nv D]) rfl rfl (fun W => zac Tryz.func8 rfl rfl _ W) (fun W hW => zea kmay.out kD.out W)) ?_;simp only [aP,lA,lZ,lS]
  refine zaa (.bool true) rfl (zah (.inr rfl) rfl) ?_;simp only [aP,lA,lZ,lS]
  exact zak
 refine zar rfl ?_
 intro w5 hE
 replace b0:=hE.block b0
 replace b1:=hE.block b1
 replace bs:=hE.block bs
 replace hx:=hx.trans hE
 clear hE
 go_upto_region 5 with (fail)
 refine' zan (m:=2) (A:=_) (by kernel_rfl) ?h5a ?h5b
 case h5a =>
  refine zaa (.bool true) rfl (zah (.inl rfl) rfl) ?_
  refine zaa (.bool false) rfl (zcu rfl rfl rfl) ?_;simp only [aP,lA,lZ,lS]
  exact zak
 refine zar rfl ?_
 intro w6 hE
 replace b0:=hE.block b0
 replace b1:=hE.block b1
 replace bs:=hE.block bs
 replace hx:=hx.trans hE
 clear hE
 go_upto_region 7 with (fail)
 refine' zan (m:=6) (A:=_) (by kernel_rfl) ?h6a ?h6b
 case h6a =>
  refine zaa (nv D) rfl (zad rfl rfl b0 rfl uN rfl (iN _)) ?_
  refine zaa (dgv y) rfl (zad rfl rfl b1 rfl Tryz.underlying26 rfl (iDg _)) ?_;simp only [aP,lA,lZ,lS]
  refine zaa (.tuple #[gv 0 0,.bool false]) rfl (zai (args:=[nv D,dgv y]) rfl rfl (fun W => zac Tryz.func9 rfl rfl _ W) (fun W hW => rsign_none kmay.out ky.out kE.out ko.out W)) ?_
  refine zaa (.tuple #[gv 0 0,.bool false]) rfl (zah (.inl rfl) rfl) ?_;simp only [aP,lA,lZ,lS]
  refine zaa (gv 0 0) rfl (zbb rfl rfl rfl) ?_
  refine zaa (.bool false) rfl (zbb rfl rfl rfl) ?_;simp only [aP,lA,lZ,lS]
  exact zak
 refine zcc _ _ rfl rfl rfl rfl rfl rfl rfl (hzG ·) (fun _ => rfl) (fun _ => rfl) (iSg _ _) rfl (zce _ _) ?_
 intro gt w7 hgt bt hE
 replace bs:=hE.block bs
 replace hx:=hx.trans hE
 clear hE
 simp only [aP,lA,lZ,lS]
 clear hgt
 go_upto_region 8 with (fail)
 refine' zan (m:=2) (A:=_) (by kernel_rfl) ?h7a ?h7b
 case h7a =>
  refine zaa (.bool false) rfl (zah (.inl rfl) rfl) ?_
  refine zaa (.bool true) rfl (zcu rfl rfl rfl) ?_;simp only [aP,lA,lZ,lS]
  exact zak
 refine zar rfl ?_
 intro w8 hE
 replace bs:=hE.block bs
 replace hx:=hx.trans hE
 clear hE
 go_upto_region 9 with (fail)
 refine' zdt (m:=16) (A:=_) ?h8a ?h8b
 case h8a =>
  refine zaa (.bool true) rfl (zah (.inl rfl) rfl) ?_
  refine zaa (.bool true) rfl (zah (.inl rfl) rfl) ?_;simp only [aP,lA,lZ,lS]
  refine zat (.nilIface) rfl (zah (.inl rfl) rfl) ?_
  refine zat (.bool true) rfl (zcd rfl rfl rfl (fun _ => by kernel_rfl) (fun _ => by kernel_rfl)) ?_;simp only [aP,lA,lZ,lS]
  refine zaa (.bool true) rfl (zbd rfl rfl rfl) ?_
  refine zaa (.bool true) rfl (zah (.inl rfl) rfl) ?_;simp only [aP,lA,lZ,lS]
  refine zat (.iface 39 (.int .i64 4)) rfl (zah (.inl rfl) rfl) ?_
  refine zat (.iface 39 (.int .i64 4)) rfl (zeh rfl (mkErr4 ·)) ?_;simp only [aP,lA,lZ,lS]
  refine zat (.bool true) rfl (zcd rfl rfl rfl (fun _ => by kernel_rfl) (fun _ => by kernel_rfl)) ?_
  refine zaa (.bool true) rfl (zbd rfl rfl rfl) ?_;simp only [aP,lA,lZ,lS]
  refine zaa (.bool true) rfl (zah (.inl rfl) rfl) ?_
  refine zat (gv 0 0) rfl (zad rfl rfl bs rfl Tryz.underlying35 rfl (iSg _ _)) ?_;simp only [aP,lA,lZ,lS]
  refine zat (gv 0 0) rfl (zba rfl rfl (bldG0 ·)) ?_
  refine zat (.bool true) rfl (zcd rfl rfl rfl (gG _ _ _ _ _ _ _) (eqG zbu zbu)) ?_;simp only [aP,lA,lZ,lS]
  refine zaa (.bool true) rfl (zbd rfl rfl rfl) ?_
  refine zaa (.bool true) rfl (zah (.inr rfl) rfl) ?_;simp only [aP,lA,lZ,lS]
  exact zak
 refine zar rfl ?_
 intro w9 hE
 replace hx:=hx.trans hE
 clear hE
 go_wp2
 go_ret
 exact ⟨rfl,hx⟩
theorem signs_some (hC : Code7) {D s : Nat} (hD : D < top) (hmay : mayB D = true) (y : Nat → Nat) (hy : ∀ j,y j < 256) (hE : Ends D (num32 y % Pt.nn) 16 s) {r z : Nat} (ho : sigOf D (num32 y) (outN D (num32 y % Pt.nn) s) = some (r,z)) {P : Pt.Q} (hP : P = Pt.grp.mul D Pt.base) {w : World} (hK : KT w) :
  Calls Tryz.prog 3 #[nv D,dgv y] w fun e w' => e = .returned (.bool true) ∧ Ext w w':=by
 have kC:=veil hC
 have kD:=veil hD
 have kmay:=veil hmay
 have ky:=veil hy
 have kE:=veil hE
 have ko:=veil ho
 have kP:=veil hP
 have kK:=veil hK
 clear hK hP ho hE hy hmay hD hC
 unfold nv nc dgv dgc
 go_enter Tryz.func3,Tryz.ntmps3
 go_upto_region 1 with (fail)
 obtain ⟨hx,b0,b1⟩:=blocks2 w (.cells #[vI vU (wd D 0),vI vU (wd D 1),vI vU (wd D 2),vI vU (wd D 3)] 24) (.cells (arrOf 32 fun i => .int .u8 (y i : Nat)) 26)
 generalize (w.alloc (.cells #[vI vU (wd D 0),vI vU (wd D 1),vI vU (wd D 2),vI vU (wd D 3)] 24)).alloc (.cells (arrOf 32 fun i => .int .u8 (y i : Nat)) 26) = w1 at *
 have b0 : w1.heap[w.heap.size]? = some (.cells (nc D) 24 (0,0)):=b0
 have b1 : w1.heap[w.heap.size + 1]? = some (.cells (dgc y) 26 (0,0)):=b1
 refine' zan (m:=2) (A:=_) (by kernel_rfl) ?h1 ?h2
 case h1 =>
  refine zaa (.bool true) rfl (zai (args:=[]) rfl rfl (fun W => zac Tryz.func5 rfl rfl _ W) (fun W hW => kC.out.up W (kK.out.call (hx.trans hW)))) ?_
  refine zaa (.bool true) rfl (zah (.inr rfl) rfl) ?_;simp only [aP,lA,lZ,lS]
  exact zak
 refine zar rfl ?_
 intro w2 hE
 replace b0:=hE.block b0
 replace b1:=hE.block b1
 replace hx:=hx.trans hE
 clear hE
 go_upto_region 2 with (fail)
 refine' zan (m:=5) (A:=_) (by kernel_rfl) ?h2a ?h2b
 case h2a =>
  refine zaa (nv D) rfl (zad rfl rfl b0 rfl uN rfl (iN _)) ?_
  refine zaa (.tuple #[qv (Pt.pX P.1) (Pt.pY P.1) (Pt.pFar P.1),.nilIface]) rfl (zai (args:=[nv D]) rfl rfl (fun W => zac Tryz.func6 rfl rfl _ W) (fun W hW => vpub_is kC.out kP.out kmay.out W)) ?_;simp only [aP,lA,lZ,lS]
  refine zaa (.tuple #[qv (Pt.pX P.1) (Pt.pY P.1) (Pt.pFar P.1),.nilIface]) rfl (zah (.inl rfl) rfl) ?_
  refine zaa (qv (Pt.pX P.1) (Pt.pY P.1) (Pt.pFar P.1)) rfl (zbb rfl rfl rfl) ?_;simp only [aP,lA,lZ,lS]
  refine zaa (.nilIface) rfl (zbb rfl rfl rfl) ?_;simp only [aP,lA,lZ,lS]
  exact zak
 refine zcc _ _ rfl rfl rfl rfl rfl rfl rfl (hzT ·) (fun _ => rfl) (fun _ => rfl) (iT _ _ _) rfl (zev _ _ _) ?_
 intro gq w3 hgq bq hE
 replace b0:=hE.block b0
 replace b1:=hE.block b1
 replace hx:=hx.trans hE
 clear hE
 simp only [aP,lA,lZ,lS]
 clear hgq
 go_upto_region 3 with (fail)
 refine' zan (m:=6) (A:=_) (by kernel_rfl) ?h3a ?h3b
 case h3a =>
  refine zaa (nv D) rfl (zad rfl rfl b0 rfl uN rfl (iN _)) ?_
  refine zaa (dgv y) rfl (zad rfl rfl b1 rfl Tryz.underlying26 rfl (iDg _)) ?_;simp only [aP,lA,lZ,lS]
  refine zaa (.tuple #[gv r z,.nilIface]) rfl (zai (args:=[nv D,dgv y]) rfl rfl (fun W => zac Tryz.func7 rfl rfl _ W) (fun W hW => vsign_some kC.out kmay.out ky.out kE.out ko.out W (kK.out.call (hx.trans hW)))) ?_
  refine zaa (.tuple #[gv r z,.nilIface]) rfl (zah (.inl rfl) rfl) ?_;simp only [aP,lA,lZ,lS]
  refine zaa (gv r z) rfl (zbb rfl rfl rfl) ?_
  refine zaa (.nilIface) rfl (zbb rfl rfl rfl) ?_;simp only [aP,lA,lZ,lS]
  exact zak
 refine zcc _ _ rfl rfl rfl rfl rfl rfl rfl (hzG ·) (fun _ => rfl) (fun _ => rfl) (iSg _ _) rfl (zce _ _) ?_
 intro gs w4 hgs bs hE
 replace b0:=hE.block b0
 replace b1:=hE.block b1
 replace bq:=hE.block bq
 replace hx:=hx.trans hE
 clear hE
 simp only [aP,lA,lZ,lS]
 clear hgs
 go_upto_region 4 with (fail)
 refine' zan (m:=3) (A:=_) (by kernel_rfl) ?h4a ?h4b
 case h4a =>
  refine zaa (nv D) rfl (zad rfl rfl b0 rfl uN rfl (iN _)) ?_
  refine zaa (.bool true) rfl (zai (args:=[nv D]) rfl rfl (fun W => zac Tryz.func8 rfl rfl _ W) (fun W hW => zea kmay.out kD.out W)) ?_;simp only [aP,lA,lZ,lS]
  refine zaa (.bool true) rfl (zah (.inr rfl) rfl) ?_;simp only [aP,lA,lZ,lS]
  exact zak
 refine zar rfl ?_
 intro w5 hE
 replace b0:=hE.block b0
 replace b1:=hE.block b1
 replace bq:=hE.block bq
 replace bs:=hE.block bs
 replace hx:=hx.trans hE
 clear hE
 go_upto_region 5 with (fail)
 refine' zan (m:=2) (A:=_) (by kernel_rfl) ?h5a ?h5b
 case h5a =>
  refine zaa (.bool true) rfl (zah (.inl rfl) rfl) ?_
  refine zaa (.bool false) rfl (zcu rfl rfl rfl) ?_;simp only [aP,lA,lZ,lS]
  exact zak
 refine zar rfl ?_
 intro w6 hE
 replace b0:=hE.block b0
 replace b1:=hE.block b1
 replace bq:=hE.block bq
 replace bs:=hE.block bs
 replace hx:=hx.trans hE
 clear hE
 go_upto_region 7 with (fail)
 refine' zan (m:=6) (A:=_) (by kernel_rfl) ?h6a ?h6b
 case h6a =>
  refine zaa (nv D) rfl (zad rfl rfl b0 rfl uN rfl (iN _)) ?_
  refine zaa (dgv y) rfl (zad rfl rfl b1 rfl Tryz.underlying26 rfl (iDg _)) ?_;simp only [aP,lA,lZ,lS]
  refine zaa (.tuple #[gv r z,.bool true]) rfl (zai (args:=[nv D,dgv y]) rfl rfl (fun W => zac Tryz.func9 rfl rfl _ W) (fun W hW => rsign_some kmay.out ky.out kE.out ko.out W)) ?_
  refine zaa (.tuple #[gv r z,.bool true]) rfl (zah (.inl rfl) rfl) ?_;simp only [aP,lA,lZ,lS]
  refine zaa (gv r z) rfl (zbb rfl rfl rfl) ?_
  refine zaa (.bool true) rfl (zbb rfl rfl rfl) ?_;simp only [aP,lA,lZ,lS]
  exact zak
 refine zcc _ _ rfl rfl rfl rfl rfl rfl rfl (hzG ·) (fun _ => rfl) (fun _ => rfl) (iSg _ _) rfl (zce _ _) ?_
 intro gt w7 hgt bt hE
 replace b0:=hE.block b0
 replace bq:=hE.block bq
 replace bs:=hE.block bs
 replace hx:=hx.trans hE
 clear hE
 simp only [aP,lA,lZ,lS]
 clear hgt
 go_upto_region 8 with (fail)
 refine' zan (m:=2) (A:=_) (by kernel_rfl) ?h7a ?h7b
 case h7a =>
  refine zaa (.bool true) rfl (zah (.inl rfl) rfl) ?_
  refine zaa (.bool false) rfl (zcu rfl rfl rfl) ?_;simp only [aP,lA,lZ,lS]
  exact zak
 refine zar rfl ?_
 intro w8 hE
 replace b0:=hE.block b0
 replace bq:=hE.block bq
 replace bs:=hE.block bs
 replace bt:=hE.block bt
 replace hx:=hx.trans hE
 clear hE
 go_upto_region 10 with (fail)
 refine' zdb (m:=21) (A:=_) 21 (by kernel_rfl) (by kernel_rfl) ?h8a ?h8b
 case h8a =>
  refine zaa (.bool true) rfl (zah (.inl rfl) rfl) ?_
  refine zaa (.bool true) rfl (zah (.inl rfl) rfl) ?_;simp only [aP,lA,lZ,lS]
  refine zat (.nilIface) rfl (zah (.inl rfl) rfl) ?_
  refine zat (.bool true) rfl (zcd rfl rfl rfl (fun _ => by kernel_rfl) (fun _ => by kernel_rfl)) ?_;simp only [aP,lA,lZ,lS]
  refine zaa (.bool true) rfl (zbd rfl rfl rfl) ?_
  refine zaa (.bool true) rfl (zah (.inl rfl) rfl) ?_;simp only [aP,lA,lZ,lS]
  refine zat (.nilIface) rfl (zah (.inl rfl) rfl) ?_
  refine zat (.bool true) rfl (zcd rfl rfl rfl (fun _ => by kernel_rfl) (fun _ => by kernel_rfl)) ?_;simp only [aP,lA,lZ,lS]
  refine zaa (.bool true) rfl (zbd rfl rfl rfl) ?_
  refine zaa (.bool true) rfl (zah (.inl rfl) rfl) ?_;simp only [aP,lA,lZ,lS]
  refine zat (qv (Pt.pX P.1) (Pt.pY P.1) (Pt.pFar P.1)) rfl (zad rfl rfl bq rfl Tryz.underlying29 rfl (iT _ _ _)) ?_
  refine zat (nv D) rfl (zad rfl rfl b0 rfl uN rfl (iN _)) ?_;simp only [aP,lA,lZ,lS]
  refine zat (qv (Pt.pX P.1) (Pt.pY P.1) (Pt.pFar P.1)) rfl (zai (args:=[nv D]) rfl rfl (fun W => zac Tryz.func10 rfl rfl _ W) (fun W hW => vpub_calls kD.out kP.out W)) ?_
  refine zat (.bool true) rfl (zcd rfl rfl rfl (gT _ _ _ _ _ _ _ _ _) (eqT (p_top _).1 (p_top _).2)) ?_;simp only [aP,lA,lZ,lS]
  refine zaa (.bool true) rfl (zbd rfl rfl rfl) ?_
  refine zaa (.bool true) rfl (zah (.inl rfl) rfl) ?_;simp only [aP,lA,lZ,lS]
  refine zat (gv r z) rfl (zad rfl rfl bs rfl Tryz.underlying35 rfl (iSg _ _)) ?_
  refine zat (gv r z) rfl (zad rfl rfl bt rfl Tryz.underlying35 rfl (iSg _ _)) ?_;simp only [aP,lA,lZ,lS]
  refine zat (.bool true) rfl (zcd rfl rfl rfl (gG _ _ _ _ _ _ _) (eqG (sigOf_top ko.out).1 (sigOf_top ko.out).2)) ?_
  refine zaa (.bool true) rfl (zbd rfl rfl rfl) ?_;simp only [aP,lA,lZ,lS]
  refine zaa (.bool true) rfl (zah (.inr rfl) rfl) ?_;simp only [aP,lA,lZ,lS]
  exact zak
 refine zck rfl (by kernel_rfl) ?_
 intro w9 hE
 refine NoPanic.normal ?_
 replace hx:=hx.trans hE
 clear hE
 go_wp2
 go_ret
 exact ⟨rfl,hx⟩
theorem signs_walk (hC : Code7) (D : Nat) (hD : D < top) (y : Nat → Nat) (hy : ∀ j,y j < 256) (w : World) (hK : KT w) :
  Calls Tryz.prog 3 #[nv D,dgv y] w fun e w' => e = .returned (.bool true) ∧ Ext w w':=by
 cases hm : mayB D with
 | false => exact signs_bad hC hD hm y hK
 | true =>
  obtain ⟨s,hE⟩:=ends_ex D (num32 y % Pt.nn) 16
  cases ho : sigOf D (num32 y) (outN D (num32 y % Pt.nn) s) with
  | none => exact signs_none hC hD hm y hy hE ho rfl hK
  | some o =>
   obtain ⟨r,z⟩:=o
   exact signs_some hC hD hm y hy hE ho rfl hK
end Go.Proofs.YtmfjigcdhijkjaaGreatDoor
namespace Go.Proofs.YtmfjigcdhijkjaaGreatDoor
section
open Go.ChangeShapes Go.WideShapes Go.ChangeAt Go.RowKit
theorem SignSigns_lifted (C : Code7) (os : Os) (started : os.Started) (H : Type) (enc : TypeId × Value → H) :
  ReturnsInHanded {} Tryz.checked os 3 .any (fun w args => (Rows.signSignsSpec.pre enc Tryz.prog Tryz.f3 [] false w args ∧ laidMetH Tryz.prog Rows.signSignsRow.laid w) ∧ sizedMet enc Tryz.prog Tryz.f3 (OpenSpec.ofChange Rows.signSignsSpec) false w args)
   (Rows.signSignsSpec.post enc Tryz.prog Tryz.f3 false true false false):=by
 refine returnsInHanded_of_change_and (C:=Tryz.checked) (X:=fun w _ => laidMetH Tryz.prog Rows.signSignsRow.laid w) (fun _ _ _ hh h => h.of_heap hh) own started (by kernel_rfl) Tryz.func3
  (ChangeSpec.witness_shaped (enc:=enc) (C:=Tryz.checked) (os:=os) (X:=fun w _ => laidMetH Tryz.prog Rows.signSignsRow.laid w) false (World.doorLaid Tryz.prog 14 os) #[.agg #[.int .u64 0,.int .u64 0,.int .u64 0,.int .u64 0],.agg #[.int .u8 0,.int .u8 0,.int .u8 0,.int .u8 0,.int .u8 0,.int .u8 0,.int .u8 0,.int .u8 0,.int .u8 0,.int .u8 0,.int .u8 0,.int .u8 0,.int .u8 0,.int .u8 0,.int .u8 0,.int .u8 0,.int .u8 0,.int .u8 0,.int .u8 0,.int .u8 0,.int .u8 0,.int .u8 0,.int .u8 0,.int .u8 0,.int .u8 0,.int .u8 0,.int .u8 0,.int .u8 0,.int .u8 0,.int .u8 0,.int .u8 0,.int .u8 0]] 8 rfl (World.shaped_of_RefB (by kernel_rfl) (by kernel_rfl)) (by kernel_rfl) (by kernel_rfl) (by kernel_rfl) (door_met os _)) ?_
 intro W base args ds gs before hval0 hW _ _ hL _
 have hval : ∀ (j : Nat) t v,Tryz.f3.params[j]? = some t → args[j]? = some v → Value.okWide Tryz.prog W .any base t v:=hval0
 have hW':=hW
 obtain ⟨p,q,hA0,hV,rfl,_,_⟩:=hW
 have hA : DataW.TrodAll enc Tryz.prog W 0 (fun _ => true) true Tryz.f3.params.toList args.toList ds p:=hA0
 rw [Tryz.params3] at hA hval
 obtain ⟨v0,v1,d0,d1,p0,p1,rfl,rfl,rfl,h0,h1⟩:=trodAll_two hA
 obtain ⟨rfl,rfl⟩:=trodVars_none hV
 obtain ⟨X0,lX0,rfl,rfl,rfl⟩:=open_num (hval 0 24 v0 rfl rfl) h0
 have h1k:=h1
 obtain ⟨y1,hy1,rfl,rfl⟩:=open_dig (hval 1 26 v1 rfl rfl) h1
 clear hA0 hval0
 simp only [List.append_nil] at hW'
 refine (signs_walk C X0 lX0 y1 hy1 W (kt_of_laid hL) ).mono fun e W' ⟨he,hb⟩ => ?_
 subst he
 exact ⟨_,rfl,_,_,_,[],_,[],hW',trodAll_mk1 (shut_bool Tryz.underlying4 true),by
  have h2:=trodAll_mk2 (shut_num _ _ _ _ X0) (Below.trod laidOut (by kernel_rfl) (of_decide_eq_true (by kernel_rfl)) h1k hb (fun x hx => by cases hx))
  simp only [List.append_nil] at h2
  exact h2,rfl,hb.frame _,fun h => by cases h⟩
theorem SignSigns_over (C : Code7) : Rows.signSignsRow.holds Tryz.pinned (OpenSpec.ofChange Rows.signSignsSpec) :=
 OpenClaim.holds_of_wide 3 Tryz.f3 rfl rfl rfl rfl rfl rfl rfl ⟨rfl,rfl,rfl,rfl,rfl⟩ rfl rfl rfl rfl rfl (by kernel_rfl) Tryz.func3 (by kernel_rfl)
  (of_decide_eq_true (by kernel_rfl)) (by unfold Func.isWrapper; rw [if_neg (of_decide_eq_false (by kernel_rfl))]; exact ⟨rfl,rfl⟩)
  (fun os started H enc _ => SignSigns_lifted C os started H enc)
theorem zix (C : Code7) : Rows.SignSignsCardSaid :=
 Claim7.holds_tied_plain_at .later [] [.data] true _ true
  (SignSigns_over C) (fun _ h => by cases h) (by kernel_rfl) (fun _ h => by cases h) signSigns_row_tie rfl ⟨rfl,rfl⟩ (by kernel_rfl) rfl
  (fun f fn hf hfn => by
   obtain rfl : f = 3:=Option.some.inj ((show Tryz.prog.funcNamed "clapper/clapperlaw07.SignSigns" = some 3 by kernel_rfl).symm.trans hf) |>.symm
   obtain rfl : fn = Tryz.f3:=(Option.some.inj (Tryz.func3.symm.trans hfn)).symm
   exact ⟨by kernel_rfl,fun j t ht => by
    rw [Tryz.params3] at ht
    have hm : t ∈ [24,26]:=by simpa using Array.mem_of_getElem? ht
    have hall : ([24,26].all fun u => !Tryz.prog.wantsStandIn u) = true:=by kernel_rfl
    exact (show Tryz.prog.wantsStandIn t = false by simpa using List.all_eq_true.1 hall t hm)⟩)
  (by kernel_rfl)
end
#print axioms zix
end Go.Proofs.YtmfjigcdhijkjaaGreatDoor
