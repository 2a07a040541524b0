/-
  Of Q9 Q10.
-/
import Derived.Test.YtmfjigcdhijkjaaDoorZB12
import Derived.Test.YtmfjigcdhijkjaaDoorZB10
import Derived.Test.YtmfjigcdhijkjaaDoorZB7
set_option maxRecDepth 1000000
set_option maxHeartbeats 20000000
namespace Go.Proofs.YtmfjigcdhijkjaaDoor
open Go.RowKit
open Go.Act renaming put → aP
open List renaming setIfInBounds_toArray → lA, set_cons_zero → lZ, set_cons_succ → lS
theorem zfq : ((0 : Fin Pt.pp)).val = 0:=Fin.val_zero _
theorem v_one : ((1 : Fin Pt.pp)).val = 1:=Pt.val_one pp_one
theorem v_three : ((3 : Fin Pt.pp)).val = 3:=by
 rw [← Pt.F_three]
 exact Nat.mod_eq_of_lt three_lt
theorem p_top (p : Pt.P Pt.pp) : Pt.pX p < top ∧ Pt.pY p < top:=⟨Nat.lt_trans (Pt.pX_lt p) zgk,Nat.lt_trans (Pt.pY_lt p) zgk⟩
theorem right_val (x : Fin Pt.pp) : rightN x.val = (x * x * x - 3 * x + Pt.F Pt.bb).val:=by
 unfold rightN
 have e3 : 3 * x.val % Pt.pp = (3 * x).val:=by rw [← Pt.v_mul,v_three]
 have eb : Pt.bb = (Pt.F Pt.bb : Fin Pt.pp).val:=(Nat.mod_eq_of_lt bb_lt).symm
 rw [e3,Pt.v_mul,Pt.v_mul,Pt.v_sub]
 conv => lhs; rw [eb]
 rw [Pt.v_add]
theorem onB_iff (X Y : Nat) (f : Bool) : onB X Y f = true ↔ Pt.isOn X Y f:=by
 unfold onB Pt.isOn
 cases f with
 | true => simp
 | false =>
  simp only [Bool.false_eq_true,if_false,Bool.and_eq_true,decide_eq_true_eq]
  constructor
  ·
   rintro ⟨hx,hy,h⟩
   refine ⟨hx,hy,(Pt.on_iff _ _).2 (Fin.ext ?_)⟩
   have ex : X = (Pt.F X : Fin Pt.pp).val:=(Nat.mod_eq_of_lt hx).symm
   have ey : Y = (Pt.F Y : Fin Pt.pp).val:=(Nat.mod_eq_of_lt hy).symm
   rw [← Pt.v_mul,← right_val,← ex,← ey]
   exact h
  ·
   rintro ⟨hx,hy,h⟩
   refine ⟨hx,hy,?_⟩
   have ex : X = (Pt.F X : Fin Pt.pp).val:=(Nat.mod_eq_of_lt hx).symm
   have ey : Y = (Pt.F Y : Fin Pt.pp).val:=(Nat.mod_eq_of_lt hy).symm
   have h2:=congrArg Fin.val ((Pt.on_iff _ _).1 h)
   rw [← Pt.v_mul,← right_val,← ex,← ey] at h2
   exact h2
theorem onB_some {X Y : Nat} {f : Bool} (h : onB X Y f = true) : ∃ q : Pt.Q,X = Pt.pX q.1 ∧ Y = Pt.pY q.1 ∧ f = Pt.pFar q.1:=(Pt.isOn_iff X Y f).1 ((onB_iff X Y f).1 h)
theorem onB_of (q : Pt.Q) : onB (Pt.pX q.1) (Pt.pY q.1) (Pt.pFar q.1) = true:=(onB_iff _ _ _).2 ((Pt.isOn_iff _ _ _).2 ⟨q,rfl,rfl,rfl⟩)
theorem bl_le {X : Nat} (hX : X < top) : bitLen X ≤ 256:=by
 unfold bitLen
 split
 ·
  omega
 ·
  rename_i h
  have:=(Nat.log2_lt h).2 (show X < 2 ^ 256 by rw [← top_two]; exact hX)
  omega
theorem bl_div (X : Nat) : X / 2 ^ bitLen X = 0:=Nat.div_eq_of_lt (bitLen_spec X).1
theorem times_step (K m : Nat) (q : Pt.Q) : Pt.grp.mul (K / 2 ^ m) q = if bit K m = true then Pt.grp.op (Pt.grp.op (Pt.grp.mul (K / 2 ^ (m + 1)) q) (Pt.grp.mul (K / 2 ^ (m + 1)) q)) q else Pt.grp.op (Pt.grp.mul (K / 2 ^ (m + 1)) q) (Pt.grp.mul (K / 2 ^ (m + 1)) q):=by
 rw [Pt.mul_top]
 have hb : (bit K m = true) = (K / 2 ^ m % 2 = 1):=by unfold bit; simp
 simp only [hb]
end Go.Proofs.YtmfjigcdhijkjaaDoor
