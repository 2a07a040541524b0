/-
  Of Q7 Q3 Q4.
-/
import Derived.Deep.Cut
import Derived.Deep.CutRange
import Derived.BigQuiet
import Derived.Test.YtedehdbajiaaiaaGreatDoorZB11
import Derived.Test.YtedehdbajiaaiaaGreatDoorZB10
import Derived.Test.YtedehdbajiaaiaaGreatDoorZB9
set_option maxRecDepth 1000000
set_option maxHeartbeats 20000000
namespace Go.Proofs.YtedehdbajiaaiaaGreatDoor
open Go.RowKit
open Go.Value renaming int → vI
open Go.IntKind renaming u64 → vU
open Go.Act renaming put → aP
open List renaming setIfInBounds_toArray → lA, set_cons_zero → lZ, set_cons_succ → lS
def x3 (U T X1 X2 : Nat) : Nat:=((U * T % Pt.pp * (U * T % Pt.pp) % Pt.pp + Pt.pp - X1) % Pt.pp + Pt.pp - X2) % Pt.pp
def y3 (U T X1 Y1 X2 : Nat) : Nat:=(U * T % Pt.pp * ((X1 + Pt.pp - x3 U T X1 X2) % Pt.pp) % Pt.pp + Pt.pp - Y1) % Pt.pp
theorem pp_one : 1 < Pt.pp:=by decide +kernel
theorem pp_odd : Pt.pp % 2 = 1:=by decide +kernel
theorem radd_else (X1 Y1 X2 Y2 U Dn : Nat) (hX1 : X1 < Pt.pp) (hY1 : Y1 < Pt.pp) (hX2 : X2 < Pt.pp) (hY2 : Y2 < Pt.pp) (hn : ¬ (X1 = X2 ∧ Y1 = (0 + Pt.pp - Y2) % Pt.pp)) (hs : ¬ (X1 = X2 ∧ Y1 = Y2)) (hU : U = (Y2 + Pt.pp - Y1) % Pt.pp) (hD : Dn = (X2 + Pt.pp - X1) % Pt.pp) (w : World) :
  Calls Tryz.prog 72 #[.agg #[vI vU (wd X1 0),vI vU (wd X1 1),vI vU (wd X1 2),vI vU (wd X1 3),vI vU (wd Y1 0),vI vU (wd Y1 1),vI vU (wd Y1 2),vI vU (wd Y1 3),.bool (false)],.agg #[vI vU (wd X2 0),vI vU (wd X2 1),vI vU (wd X2 2),vI vU (wd X2 3),vI vU (wd Y2 0),vI vU (wd Y2 1),vI vU (wd Y2 2),vI vU (wd Y2 3),.bool (false)]] w fun e w' => ∃ T,T < Pt.pp ∧ (Nat.gcd Dn Pt.pp = 1 → Dn * T % Pt.pp = 1) ∧ e = .returned (.agg #[vI vU (wd (x3 U T X1 X2) 0),vI vU (wd (x3 U T X1 X2) 1),vI vU (wd (x3 U T X1 X2) 2),vI vU (wd (x3 U T X1 X2) 3),vI vU (wd (y3 U T X1 Y1 X2) 0),vI vU (wd (y3 U T X1 Y1 X2) 1),vI vU (wd (y3 U T X1 Y1 X2) 2),vI vU (wd (y3 U T X1 Y1 X2) 3),.bool (false)]) ∧ Below w.heap.size w w':=by
 have hA : (((w.alloc (.cells #[vI vU (wd X1 0),vI vU (wd X1 1),vI vU (wd X1 2),vI vU (wd X1 3),vI vU (wd Y1 0),vI vU (wd Y1 1),vI vU (wd Y1 2),vI vU (wd Y1 3),.bool (false)] 48)).alloc (.cells #[vI vU (wd X2 0),vI vU (wd X2 1),vI vU (wd X2 2),vI vU (wd X2 3),vI vU (wd Y2 0),vI vU (wd Y2 1),vI vU (wd Y2 2),vI vU (wd Y2 3),.bool (false)] 48)).alloc (.cells #[vI vU 0,vI vU 0,vI vU 0,vI vU 0,vI vU 0,vI vU 0,vI vU 0,vI vU 0,.bool false] 48)).rowIs w.heap.size 48 9 (pc X1 Y1 false):=((zez X1 Y1 false rfl).alloc _).alloc _
 have hC : (((w.alloc (.cells #[vI vU (wd X1 0),vI vU (wd X1 1),vI vU (wd X1 2),vI vU (wd X1 3),vI vU (wd Y1 0),vI vU (wd Y1 1),vI vU (wd Y1 2),vI vU (wd Y1 3),.bool (false)] 48)).alloc (.cells #[vI vU (wd X2 0),vI vU (wd X2 1),vI vU (wd X2 2),vI vU (wd X2 3),vI vU (wd Y2 0),vI vU (wd Y2 1),vI vU (wd Y2 2),vI vU (wd Y2 3),.bool (false)] 48)).alloc (.cells #[vI vU 0,vI vU 0,vI vU 0,vI vU 0,vI vU 0,vI vU 0,vI vU 0,vI vU 0,.bool false] 48)).rowIs (w.heap.size + 1) 48 9 (pc X2 Y2 false):=(zez X2 Y2 false (by simp)).alloc _
 have hR : (((w.alloc (.cells #[vI vU (wd X1 0),vI vU (wd X1 1),vI vU (wd X1 2),vI vU (wd X1 3),vI vU (wd Y1 0),vI vU (wd Y1 1),vI vU (wd Y1 2),vI vU (wd Y1 3),.bool (false)] 48)).alloc (.cells #[vI vU (wd X2 0),vI vU (wd X2 1),vI vU (wd X2 2),vI vU (wd X2 3),vI vU (wd Y2 0),vI vU (wd Y2 1),vI vU (wd Y2 2),vI vU (wd Y2 3),.bool (false)] 48)).alloc (.cells #[vI vU 0,vI vU 0,vI vU 0,vI vU 0,vI vU 0,vI vU 0,vI vU 0,vI vU 0,.bool false] 48)).rowIs (w.heap.size + 1 + 1) 48 9 (pc 0 0 false):=zes (by simp)
 have hB : Below w.heap.size w (((w.alloc (.cells #[vI vU (wd X1 0),vI vU (wd X1 1),vI vU (wd X1 2),vI vU (wd X1 3),vI vU (wd Y1 0),vI vU (wd Y1 1),vI vU (wd Y1 2),vI vU (wd Y1 3),.bool (false)] 48)).alloc (.cells #[vI vU (wd X2 0),vI vU (wd X2 1),vI vU (wd X2 2),vI vU (wd X2 3),vI vU (wd Y2 0),vI vU (wd Y2 1),vI vU (wd Y2 2),vI vU (wd Y2 3),.bool (false)] 48)).alloc (.cells #[vI vU 0,vI vU 0,vI vU 0,vI vU 0,vI vU 0,vI vU 0,vI vU 0,vI vU 0,.bool false] 48)):=(((Below.refl _ _).alloc (by simp) _).alloc (by simp) _).alloc (by simp; omega) _
 obtain ⟨Z,hZ⟩ : ∃ Z,Z = (0 + Pt.pp - Y2) % Pt.pp:=⟨_,rfl⟩
 have HN:=veil (show ∀ W,Calls Tryz.prog 122 #[.agg #[vI vU (wd X2 0),vI vU (wd X2 1),vI vU (wd X2 2),vI vU (wd X2 3),vI vU (wd Y2 0),vI vU (wd Y2 1),vI vU (wd Y2 2),vI vU (wd Y2 3),.bool (false)]] W fun e W' => e = .returned (.agg #[vI vU (wd X2 0),vI vU (wd X2 1),vI vU (wd X2 2),vI vU (wd X2 3),vI vU (wd Z 0),vI vU (wd Z 1),vI vU (wd Z 2),vI vU (wd Z 3),.bool (false)]) ∧ Below W.heap.size W W' from fun W => rneg_is X2 Y2 Z false hY2 hZ W)
 have lZ : Z < top:=by rw [hZ]; exact Nat.lt_trans (Nat.mod_lt _ zhi) zbp
 have kq : ∀ W,(binOp .eql 48 (.agg #[vI vU (wd X1 0),vI vU (wd X1 1),vI vU (wd X1 2),vI vU (wd X1 3),vI vU (wd Y1 0),vI vU (wd Y1 1),vI vU (wd Y1 2),vI vU (wd Y1 3),.bool (false)]) (.agg #[vI vU (wd X2 0),vI vU (wd X2 1),vI vU (wd X2 2),vI vU (wd X2 3),vI vU (wd Z 0),vI vU (wd Z 1),vI vU (wd Z 2),vI vU (wd Z 3),.bool (false)])).run Tryz.prog W = .ok (.bool false) W:=fun W => by
  rw [eql_pt (Nat.lt_trans hX1 zbp) (Nat.lt_trans hY1 zbp) (Nat.lt_trans hX2 zbp) lZ false false W,decide_eq_false fun h => hn ⟨h.1,by rw [← hZ]; exact h.2.1⟩]
 have ks : ∀ W,(binOp .eql 48 (.agg #[vI vU (wd X1 0),vI vU (wd X1 1),vI vU (wd X1 2),vI vU (wd X1 3),vI vU (wd Y1 0),vI vU (wd Y1 1),vI vU (wd Y1 2),vI vU (wd Y1 3),.bool (false)]) (.agg #[vI vU (wd X2 0),vI vU (wd X2 1),vI vU (wd X2 2),vI vU (wd X2 3),vI vU (wd Y2 0),vI vU (wd Y2 1),vI vU (wd Y2 2),vI vU (wd Y2 3),.bool (false)])).run Tryz.prog W = .ok (.bool false) W:=fun W => by
  rw [eql_pt (Nat.lt_trans hX1 zbp) (Nat.lt_trans hY1 zbp) (Nat.lt_trans hX2 zbp) (Nat.lt_trans hY2 zbp) false false W,decide_eq_false fun h => hs ⟨h.1,h.2.1⟩]
 obtain ⟨M,hM⟩ : ∃ M,M = Pt.pp:=⟨_,rfl⟩
 have lU : U < Pt.pp:=by rw [hU]; exact Nat.mod_lt _ zhi
 have lD : Dn < Pt.pp:=by rw [hD]; exact Nat.mod_lt _ zhi
 have HP:=veil (show ∀ W,Calls Tryz.prog 125 #[] W fun e W' => e = .returned (.agg #[vI vU (wd M 0),vI vU (wd M 1),vI vU (wd M 2),vI vU (wd M 3)]) ∧ Below W.heap.size W W' from fun W => by rw [hM]; exact zjs W)
 have HI:=veil (show ∀ W,Calls Tryz.prog 36 #[.agg #[vI vU (wd Dn 0),vI vU (wd Dn 1),vI vU (wd Dn 2),vI vU (wd Dn 3)],.agg #[vI vU (wd M 0),vI vU (wd M 1),vI vU (wd M 2),vI vU (wd M 3)]] W fun e W' => ∃ T,T < Pt.pp ∧ (Nat.gcd Dn Pt.pp = 1 → Dn * T % Pt.pp = 1) ∧ e = .returned (.tuple #[.agg #[vI vU (wd T 0),vI vU (wd T 1),vI vU (wd T 2),vI vU (wd T 3)],.bool (Nat.gcd Dn Pt.pp == 1)]) ∧ Below W.heap.size W W' from fun W => by rw [hM]; exact zjh Dn Pt.pp lD pp_one pp_odd zbp W)
 have HS1:=veil (show ∀ W,Calls Tryz.prog 123 #[.agg #[vI vU (wd Y2 0),vI vU (wd Y2 1),vI vU (wd Y2 2),vI vU (wd Y2 3)],.agg #[vI vU (wd Y1 0),vI vU (wd Y1 1),vI vU (wd Y1 2),vI vU (wd Y1 3)]] W fun e W' => e = .returned (.agg #[vI vU (wd U 0),vI vU (wd U 1),vI vU (wd U 2),vI vU (wd U 3)]) ∧ Below W.heap.size W W' from fun W => zdg Y2 Y1 U hY2 hY1 hU W)
 have HS2:=veil (show ∀ W,Calls Tryz.prog 123 #[.agg #[vI vU (wd X2 0),vI vU (wd X2 1),vI vU (wd X2 2),vI vU (wd X2 3)],.agg #[vI vU (wd X1 0),vI vU (wd X1 1),vI vU (wd X1 2),vI vU (wd X1 3)]] W fun e W' => e = .returned (.agg #[vI vU (wd Dn 0),vI vU (wd Dn 1),vI vU (wd Dn 2),vI vU (wd Dn 3)]) ∧ Below W.heap.size W W' from fun W => zdg X2 X1 Dn hX2 hX1 hD W)
 have HLT:=veil (And.intro hX1 (And.intro hY1 (And.intro hX2 (And.intro hY2 lU))))
 clear hZ hn hs hX1 hY1 hX2 hY2 lZ hM hU hD lU lD
 go_enter Tryz.func72,Tryz.ntmps72
 go_upto_region 1 with (fail)
 generalize (((w.alloc (.cells #[vI vU (wd X1 0),vI vU (wd X1 1),vI vU (wd X1 2),vI vU (wd X1 3),vI vU (wd Y1 0),vI vU (wd Y1 1),vI vU (wd Y1 2),vI vU (wd Y1 3),.bool (false)] 48)).alloc (.cells #[vI vU (wd X2 0),vI vU (wd X2 1),vI vU (wd X2 2),vI vU (wd X2 3),vI vU (wd Y2 0),vI vU (wd Y2 1),vI vU (wd Y2 2),vI vU (wd Y2 3),.bool (false)] 48)).alloc (.cells #[vI vU 0,vI vU 0,vI vU 0,vI vU 0,vI vU 0,vI vU 0,vI vU 0,vI vU 0,.bool false] 48)) = wz at *
 have fA:=pt_f hA
 have fC:=pt_f hC
 go_upto_region 5 with (fail)
 have lA:=hA.lt
 have lC:=hC.lt
 have sB : ∀ W,Below wz.heap.size wz W → (Below wz.heap.size wz W ∧ W.rangeAt w.heap.size 0 [.int .u64 (wd X1 0),.int .u64 (wd X1 1),.int .u64 (wd X1 2),.int .u64 (wd X1 3),.int .u64 (wd Y1 0),.int .u64 (wd Y1 1),.int .u64 (wd Y1 2),.int .u64 (wd Y1 3),.bool false] ∧ W.rangeAt (w.heap.size + 1) 0 [.int .u64 (wd X2 0),.int .u64 (wd X2 1),.int .u64 (wd X2 2),.int .u64 (wd X2 3),.int .u64 (wd Y2 0),.int .u64 (wd Y2 1),.int .u64 (wd Y2 2),.int .u64 (wd Y2 3),.bool false]):=fun W hb => ⟨hb,zcq (zgm hA) (hb.block _ lA),zcq (zgm hC) (hb.block _ lC)⟩
 have SB:=veil sB
 clear sB
 refine wp_region_held_drew (S:=fun W => (Below wz.heap.size wz W ∧ W.rangeAt w.heap.size 0 [.int .u64 (wd X1 0),.int .u64 (wd X1 1),.int .u64 (wd X1 2),.int .u64 (wd X1 3),.int .u64 (wd Y1 0),.int .u64 (wd Y1 1),.int .u64 (wd Y1 2),.int .u64 (wd Y1 3),.bool false] ∧ W.rangeAt (w.heap.size + 1) 0 [.int .u64 (wd X2 0),.int .u64 (wd X2 1),.int .u64 (wd X2 2),.int .u64 (wd X2 3),.int .u64 (wd Y2 0),.int .u64 (wd Y2 1),.int .u64 (wd Y2 2),.int .u64 (wd Y2 3),.bool false])) (by kernel_rfl) (SB.out _ (Below.refl _ wz).drew) (fun hH => ?_)
 repeat
  ((first
    | (refine wpAnyH_take (i:=0) (v:=.agg #[vI vU (wd X1 0),vI vU (wd X1 1),vI vU (wd X1 2),vI vU (wd X1 3),vI vU (wd Y1 0),vI vU (wd Y1 1),vI vU (wd Y1 2),vI vU (wd Y1 3),.bool false]) rfl (by kernel_rfl) (by kernel_rfl) (by decide +kernel) (fun _ _ _ h => h) (yieldsIf_load_mid (by rfl) _ _ rfl _ _ rfl _ _ (fun W hSw => hSw.2.1) Tryz.underlying48 rfl zbg) (by with_reducible assumption) ?_)
    | (refine wpAnyH_take (i:=1) (v:=.agg #[vI vU (wd X2 0),vI vU (wd X2 1),vI vU (wd X2 2),vI vU (wd X2 3),vI vU (wd Y2 0),vI vU (wd Y2 1),vI vU (wd Y2 2),vI vU (wd Y2 3),.bool false]) rfl (by kernel_rfl) (by kernel_rfl) (by decide +kernel) (fun _ _ _ h => h) (yieldsIf_load_mid (by rfl) _ _ rfl _ _ rfl _ _ (fun W hSw => hSw.2.2) Tryz.underlying48 rfl zbg) (by with_reducible assumption) ?_)
    | (refine wpAnyH_ready (rs:=[2]) (by decide +kernel) (by simp) ?_; refine AllReadyH.cons rfl (fun K hK => ?_) AllReadyH.nil; go_simp; (with_reducible refine (HN.out _).mono ?_); rintro e w1 ⟨rfl,hb⟩; have hb1:=hH.1.trans (hb.mono hH.1.size); clear hb; refine hK.out _ _ (SB.out _ hb1) (fun hH => ?_); clear hK K)
    | (refine wpAnyH_take (i:=3) (v:=.bool false) rfl (by kernel_rfl) (by kernel_rfl) (by decide +kernel) (fun _ _ _ h => h) (Or.inl ⟨by rfl,fun W hSw => (by dsimp only at hSw; go_simp)⟩) (by with_reducible assumption) ?_)
    | fail);
   try simp only [Act.put,List.setIfInBounds_toArray,List.set_cons_zero,List.set_cons_succ,List.getElem_toArray,List.getElem_cons_zero,List.getElem_cons_succ])
 refine wpAnyH_done (by decide +kernel) ?_ _
 clear hH fA fC kq HN SB lA lC
 have hb:=hb1
 clear hb1
 replace hA:=zab hA hb hA.lt
 replace hC:=zab hC hb hC.lt
 replace hR:=zab hR hb hR.lt
 replace hB:=hB.trans (hb.mono hB.size)
 clear hb
 obtain ⟨y0,y1,y2,y3'⟩:=pt_y hA
 obtain ⟨z0,z1,z2,z3⟩:=pt_y hC
 go_wp2_with fail
 refine (HS1.out _).mono ?_
 rintro e w7 ⟨rfl,hb⟩
 clear y0 y1 y2 y3' z0 z1 z2 z3
 replace hA:=zab hA hb hA.lt
 replace hC:=zab hC hb hC.lt
 replace hR:=zab hR hb hR.lt
 replace hB:=hB.trans (hb.mono hB.size)
 clear hb
 go_upto_region 8 with (fail)
 replace hA:=hA.alloc (.cells #[vI vU (wd U 0),vI vU (wd U 1),vI vU (wd U 2),vI vU (wd U 3)] 26)
 replace hC:=hC.alloc (.cells #[vI vU (wd U 0),vI vU (wd U 1),vI vU (wd U 2),vI vU (wd U 3)] 26)
 replace hR:=hR.alloc (.cells #[vI vU (wd U 0),vI vU (wd U 1),vI vU (wd U 2),vI vU (wd U 3)] 26)
 have hU : (w7.alloc (.cells #[vI vU (wd U 0),vI vU (wd U 1),vI vU (wd U 2),vI vU (wd U 3)] 26)).rowIs w7.heap.size 26 4 (fun j => .int .u64 (wd U j)):=zag (n:=4) rfl rfl (arr4 fun j => .int .u64 (wd U j))
 replace hB:=hB.alloc hB.size (.cells #[vI vU (wd U 0),vI vU (wd U 1),vI vU (wd U 2),vI vU (wd U 3)] 26)
 generalize w7.alloc (.cells #[vI vU (wd U 0),vI vU (wd U 1),vI vU (wd U 2),vI vU (wd U 3)] 26) = w8 at *
 generalize w7.heap.size = g5 at *
 obtain ⟨y0,y1,y2,y3'⟩:=pt_x hA
 obtain ⟨z0,z1,z2,z3⟩:=pt_x hC
 go_wp2_with fail
 refine (HS2.out _).mono ?_
 rintro e w9 ⟨rfl,hb⟩
 clear y0 y1 y2 y3' z0 z1 z2 z3
 replace hA:=zab hA hb hA.lt
 replace hC:=zab hC hb hC.lt
 replace hR:=zab hR hb hR.lt
 replace hU:=zab hU hb hU.lt
 replace hB:=hB.trans (hb.mono hB.size)
 clear hb
 go_upto_region 9 with (fail)
 replace hA:=hA.alloc (.cells #[vI vU (wd Dn 0),vI vU (wd Dn 1),vI vU (wd Dn 2),vI vU (wd Dn 3)] 26)
 replace hC:=hC.alloc (.cells #[vI vU (wd Dn 0),vI vU (wd Dn 1),vI vU (wd Dn 2),vI vU (wd Dn 3)] 26)
 replace hR:=hR.alloc (.cells #[vI vU (wd Dn 0),vI vU (wd Dn 1),vI vU (wd Dn 2),vI vU (wd Dn 3)] 26)
 replace hU:=hU.alloc (.cells #[vI vU (wd Dn 0),vI vU (wd Dn 1),vI vU (wd Dn 2),vI vU (wd Dn 3)] 26)
 have hD : (w9.alloc (.cells #[vI vU (wd Dn 0),vI vU (wd Dn 1),vI vU (wd Dn 2),vI vU (wd Dn 3)] 26)).rowIs w9.heap.size 26 4 (fun j => .int .u64 (wd Dn j)):=zag (n:=4) rfl rfl (arr4 fun j => .int .u64 (wd Dn j))
 replace hB:=hB.alloc hB.size (.cells #[vI vU (wd Dn 0),vI vU (wd Dn 1),vI vU (wd Dn 2),vI vU (wd Dn 3)] 26)
 generalize w9.alloc (.cells #[vI vU (wd Dn 0),vI vU (wd Dn 1),vI vU (wd Dn 2),vI vU (wd Dn 3)] 26) = wq at *
 generalize w9.heap.size = g6 at *
 have HA:=veil (blk9 hA)
 have HC:=veil (blk9 hC)
 go_upto_region 12 with (first
  | ((with_reducible refine zar 32 ?_); refine wpList_load_row rfl 48 _ rfl w.heap.size rfl 48 #[vI vU (wd X1 0),vI vU (wd X1 1),vI vU (wd X1 2),vI vU (wd X1 3),vI vU (wd Y1 0),vI vU (wd Y1 1),vI vU (wd Y1 2),vI vU (wd Y1 3),.bool (false)] (0,0) _ HA.out Tryz.underlying48 rfl zbg ?_)
  | ((with_reducible refine zar 33 ?_); refine wpList_load_row rfl 48 _ rfl (w.heap.size + 1) rfl 48 #[vI vU (wd X2 0),vI vU (wd X2 1),vI vU (wd X2 2),vI vU (wd X2 3),vI vU (wd Y2 0),vI vU (wd Y2 1),vI vU (wd Y2 2),vI vU (wd Y2 3),.bool (false)] (0,0) _ HC.out Tryz.underlying48 rfl zbg ?_))
 clear HA HC ks HS1 HS2
 obtain ⟨d0,d1,d2,d3⟩:=zac hD
 have m6:=hD.lt
 go_cut [7,8] from 50 to 55 (fun v7 v8 wx => ∃ (T g : Nat) (b : Bool),v7 = .pointer (some ⟨g,0,none⟩) ∧ v8 = .bool b ∧ T < Pt.pp ∧ (Nat.gcd Dn Pt.pp = 1 → Dn * T % Pt.pp = 1) ∧ wq.heap.size ≤ g ∧ wx.rowIs g 26 4 (fun j => .int .u64 (wd T j)) ∧ Below wq.heap.size wq wx)
 case first =>
  clear hA hC hR hU hD hB
  go_region_held3 (fun w' => (∀ b o,b < wq.heap.size → w'.cell? ⟨b,o,none⟩ = wq.cell? ⟨b,o,none⟩) ∧ Below wq.heap.size wq w')
   (first
    | (with_reducible assumption)
    | (with_reducible exact zde _)
    | (with_reducible exact zfu _)
    | (with_reducible exact zeh _ (by assumption))
    | ((with_reducible refine zgu (by assumption) ?_); first | exact Nat.le_refl _ | exact hb1.size | exact (Nat.le_trans hb1.size hb2.size))
    | ((with_reducible refine zgv ?_ (by assumption)); first | exact Nat.le_refl _ | exact hb1.size | exact (Nat.le_trans hb1.size hb2.size))
    | (with_reducible exact zdc (by assumption) (by assumption))
    | (fail))
   (first
    | (go_at_call 125; ((with_reducible refine (HP.out _).mono ?_); rintro e v1 ⟨rfl,hb1⟩; obtain ⟨hc1,hf1,hl1⟩:=zcg hb1))
    | (go_at_call 36; ((with_reducible refine (HI.out _).mono ?_); rintro e v2 ⟨T,hT1,hT2,rfl,hb2⟩; have HT:=veil (And.intro hT1 hT2); clear hT1 hT2; obtain ⟨hc2,hf2,hl2⟩:=zcg hb2)))
  all_goals rename (_ ∧ Below wq.heap.size wq _) => hH
  ·
   go_wp2
   go_meet
   exact ⟨_,_,_,rfl,rfl,HT.out.1,HT.out.2,(Nat.le_trans hb1.size hb2.size),zag (n:=4) rfl rfl (arr4 fun j => .int .u64 (wd T j)),hH.2⟩
  ·
   go_wp2
   go_meet
   exact ⟨_,_,_,rfl,rfl,HT.out.1,HT.out.2,hb1.size,put4 (zab (zag (n:=4) (f:=fun _ => .int .u64 0) rfl rfl (arr4 fun _ => .int .u64 0)) hb2 (by simp)) (fun j => .int .u64 (wd T j)),hH.2⟩
  ·
   go_wp2
   go_meet
   exact ⟨_,_,_,rfl,rfl,HT.out.1,HT.out.2,Nat.le_refl _,put4 (zab (zab (zag (n:=4) (f:=fun _ => .int .u64 0) rfl rfl (arr4 fun _ => .int .u64 0)).drew hb1 (by simp)) hb2 (Nat.lt_of_lt_of_le (by simp) hb1.size)) (fun j => .int .u64 (wd T j)),hH.2⟩
 case rest =>
  obtain ⟨T,g7,bi,rfl,rfl,hT1,hT2,_,hT,hb⟩:=hcut
  clear d0 d1 d2 d3 m6 HP HI
  replace hA:=zab hA hb hA.lt
  replace hC:=zab hC hb hC.lt
  replace hR:=zab hR hb hR.lt
  replace hU:=zab hU hb hU.lt
  replace hB:=hB.trans (hb.mono hB.size)
  clear hb
  clear hD
  obtain ⟨L,hL⟩ : ∃ L,L = U * T % Pt.pp:=⟨_,rfl⟩
  obtain ⟨Q,hQ⟩ : ∃ Q,Q = L * L % Pt.pp:=⟨_,rfl⟩
  obtain ⟨R1,hR1⟩ : ∃ R,R = (Q + Pt.pp - X1) % Pt.pp:=⟨_,rfl⟩
  obtain ⟨X3,hX3⟩ : ∃ R,R = (R1 + Pt.pp - X2) % Pt.pp:=⟨_,rfl⟩
  obtain ⟨E1,hE1⟩ : ∃ R,R = (X1 + Pt.pp - X3) % Pt.pp:=⟨_,rfl⟩
  obtain ⟨F1,hF1⟩ : ∃ R,R = L * E1 % Pt.pp:=⟨_,rfl⟩
  obtain ⟨Y3,hY3⟩ : ∃ R,R = (F1 + Pt.pp - Y1) % Pt.pp:=⟨_,rfl⟩
  have hx : x3 U T X1 X2 = X3:=by unfold x3; rw [← hL,← hQ,← hR1,← hX3]
  have hy : y3 U T X1 Y1 X2 = Y3:=by unfold y3; rw [hx,← hL,← hE1,← hF1,← hY3]
  have hmod : ∀ a,a % Pt.pp < Pt.pp:=fun a => Nat.mod_lt _ zhi
  have lt : T < top:=Nat.lt_trans hT1 zbp
  have lL : L < Pt.pp:=by rw [hL]; exact hmod _
  have lQ : Q < Pt.pp:=by rw [hQ]; exact hmod _
  have lR1 : R1 < Pt.pp:=by rw [hR1]; exact hmod _
  have lX3 : X3 < Pt.pp:=by rw [hX3]; exact hmod _
  have lE1 : E1 < Pt.pp:=by rw [hE1]; exact hmod _
  have lF1 : F1 < Pt.pp:=by rw [hF1]; exact hmod _
  have J1:=veil (show ∀ W,Calls Tryz.prog 124 #[.agg #[vI vU (wd U 0),vI vU (wd U 1),vI vU (wd U 2),vI vU (wd U 3)],.agg #[vI vU (wd T 0),vI vU (wd T 1),vI vU (wd T 2),vI vU (wd T 3)]] W fun e W' => e = .returned (.agg #[vI vU (wd L 0),vI vU (wd L 1),vI vU (wd L 2),vI vU (wd L 3)]) ∧ Below W.heap.size W W' from fun W => zga U T L HLT.out.2.2.2.2 lt hL W)
  have J2:=veil (show ∀ W,Calls Tryz.prog 124 #[.agg #[vI vU (wd L 0),vI vU (wd L 1),vI vU (wd L 2),vI vU (wd L 3)],.agg #[vI vU (wd L 0),vI vU (wd L 1),vI vU (wd L 2),vI vU (wd L 3)]] W fun e W' => e = .returned (.agg #[vI vU (wd Q 0),vI vU (wd Q 1),vI vU (wd Q 2),vI vU (wd Q 3)]) ∧ Below W.heap.size W W' from fun W => zga L L Q lL (Nat.lt_trans lL zbp) hQ W)
  have J3:=veil (show ∀ W,Calls Tryz.prog 123 #[.agg #[vI vU (wd Q 0),vI vU (wd Q 1),vI vU (wd Q 2),vI vU (wd Q 3)],.agg #[vI vU (wd X1 0),vI vU (wd X1 1),vI vU (wd X1 2),vI vU (wd X1 3)]] W fun e W' => e = .returned (.agg #[vI vU (wd R1 0),vI vU (wd R1 1),vI vU (wd R1 2),vI vU (wd R1 3)]) ∧ Below W.heap.size W W' from fun W => zdg Q X1 R1 lQ HLT.out.1 hR1 W)
  have J4:=veil (show ∀ W,Calls Tryz.prog 123 #[.agg #[vI vU (wd R1 0),vI vU (wd R1 1),vI vU (wd R1 2),vI vU (wd R1 3)],.agg #[vI vU (wd X2 0),vI vU (wd X2 1),vI vU (wd X2 2),vI vU (wd X2 3)]] W fun e W' => e = .returned (.agg #[vI vU (wd X3 0),vI vU (wd X3 1),vI vU (wd X3 2),vI vU (wd X3 3)]) ∧ Below W.heap.size W W' from fun W => zdg R1 X2 X3 lR1 HLT.out.2.2.1 hX3 W)
  have J5:=veil (show ∀ W,Calls Tryz.prog 123 #[.agg #[vI vU (wd X1 0),vI vU (wd X1 1),vI vU (wd X1 2),vI vU (wd X1 3)],.agg #[vI vU (wd X3 0),vI vU (wd X3 1),vI vU (wd X3 2),vI vU (wd X3 3)]] W fun e W' => e = .returned (.agg #[vI vU (wd E1 0),vI vU (wd E1 1),vI vU (wd E1 2),vI vU (wd E1 3)]) ∧ Below W.heap.size W W' from fun W => zdg X1 X3 E1 HLT.out.1 lX3 hE1 W)
  have J6:=veil (show ∀ W,Calls Tryz.prog 124 #[.agg #[vI vU (wd L 0),vI vU (wd L 1),vI vU (wd L 2),vI vU (wd L 3)],.agg #[vI vU (wd E1 0),vI vU (wd E1 1),vI vU (wd E1 2),vI vU (wd E1 3)]] W fun e W' => e = .returned (.agg #[vI vU (wd F1 0),vI vU (wd F1 1),vI vU (wd F1 2),vI vU (wd F1 3)]) ∧ Below W.heap.size W W' from fun W => zga L E1 F1 lL (Nat.lt_trans lE1 zbp) hF1 W)
  have J7:=veil (show ∀ W,Calls Tryz.prog 123 #[.agg #[vI vU (wd F1 0),vI vU (wd F1 1),vI vU (wd F1 2),vI vU (wd F1 3)],.agg #[vI vU (wd Y1 0),vI vU (wd Y1 1),vI vU (wd Y1 2),vI vU (wd Y1 3)]] W fun e W' => e = .returned (.agg #[vI vU (wd Y3 0),vI vU (wd Y3 1),vI vU (wd Y3 2),vI vU (wd Y3 3)]) ∧ Below W.heap.size W W' from fun W => zdg F1 Y1 Y3 lF1 HLT.out.2.1 hY3 W)
  have HXY:=veil (And.intro hx (And.intro hy (And.intro hT1 hT2)))
  clear hL hQ hR1 hX3 hE1 hF1 hY3 hx hy hmod lt lL lQ lR1 lX3 lE1 lF1 hT1 hT2
  obtain ⟨u0,u1,u2,u3⟩:=zac hU
  obtain ⟨t0,t1,t2,t3⟩:=zac hT
  go_wp2_with fail
  refine (J1.out _).mono ?_
  rintro e w13 ⟨rfl,hb⟩
  clear u0 u1 u2 u3 t0 t1 t2 t3 hU hT
  replace hA:=zab hA hb hA.lt
  replace hC:=zab hC hb hC.lt
  replace hR:=zab hR hb hR.lt
  replace hB:=hB.trans (hb.mono hB.size)
  clear hb
  go_upto_region 14 with (fail)
  have n9:=hR.lt
  replace hA:=hA.alloc (.cells #[vI vU (wd L 0),vI vU (wd L 1),vI vU (wd L 2),vI vU (wd L 3)] 26)
  replace hC:=hC.alloc (.cells #[vI vU (wd L 0),vI vU (wd L 1),vI vU (wd L 2),vI vU (wd L 3)] 26)
  replace hR:=hR.alloc (.cells #[vI vU (wd L 0),vI vU (wd L 1),vI vU (wd L 2),vI vU (wd L 3)] 26)
  have hL : (w13.alloc (.cells #[vI vU (wd L 0),vI vU (wd L 1),vI vU (wd L 2),vI vU (wd L 3)] 26)).rowIs w13.heap.size 26 4 (fun j => .int .u64 (wd L j)):=zag (n:=4) rfl rfl (arr4 fun j => .int .u64 (wd L j))
  replace hB:=hB.alloc hB.size (.cells #[vI vU (wd L 0),vI vU (wd L 1),vI vU (wd L 2),vI vU (wd L 3)] 26)
  generalize w13.alloc (.cells #[vI vU (wd L 0),vI vU (wd L 1),vI vU (wd L 2),vI vU (wd L 3)] 26) = w14 at *
  generalize w13.heap.size = g9 at *
  obtain ⟨l0,l1,l2,l3⟩:=zac hL
  obtain ⟨x0,x1,x2,x3'⟩:=pt_x hA
  obtain ⟨c0,c1,c2,c3⟩:=pt_x hC
  have m1:=hA.lt
  have m2:=hC.lt
  have m3:=hL.lt
  go_cut [10] from 59 to 67 (fun v10 wx => ∃ g : Nat,v10 = .pointer (some ⟨g,0,none⟩) ∧ w14.heap.size ≤ g ∧ wx.rowIs g 26 4 (fun j => .int .u64 (wd X3 j)) ∧ Below w14.heap.size w14 wx)
  case first =>
   clear hA hC hR hL hB
   go_region_held3 (fun w' => (∀ b o,b < w14.heap.size → w'.cell? ⟨b,o,none⟩ = w14.cell? ⟨b,o,none⟩) ∧ Below w14.heap.size w14 w')
    (first
     | (with_reducible assumption)
     | (with_reducible exact zde _)
     | (with_reducible exact zfu _)
     | (with_reducible exact zeh _ (by assumption))
     | ((with_reducible refine zgu (by assumption) ?_); first | exact Nat.le_refl _ | exact hb1.size | exact (Nat.le_trans hb1.size hb2.size) | exact (Nat.le_trans (Nat.le_trans hb1.size hb2.size) hb3.size))
     | ((with_reducible refine zgv ?_ (by assumption)); first | exact Nat.le_refl _ | exact hb1.size | exact (Nat.le_trans hb1.size hb2.size) | exact (Nat.le_trans (Nat.le_trans hb1.size hb2.size) hb3.size))
     | (with_reducible exact zdc (by assumption) (by assumption))
     | (fail))
    (first
     | (go_at_call 124; ((with_reducible refine (J2.out _).mono ?_); rintro e v1 ⟨rfl,hb1⟩; obtain ⟨hc1,hf1,hl1⟩:=zcg hb1))
     | (go_at_call 123; first | ((with_reducible refine (J3.out _).mono ?_); rintro e v2 ⟨rfl,hb2⟩; obtain ⟨hc2,hf2,hl2⟩:=zcg hb2; try have hl2':=fun b h => hl2 b (hl1 b h)) | ((with_reducible refine (J4.out _).mono ?_); rintro e v3 ⟨rfl,hb3⟩; obtain ⟨hc3,hf3,hl3⟩:=zcg hb3)))
   all_goals rename (_ ∧ Below w14.heap.size w14 _) => hH
   ·
    go_wp2
    go_meet
    exact ⟨_,rfl,(Nat.le_trans (Nat.le_trans hb1.size hb2.size) hb3.size),zag (n:=4) rfl rfl (arr4 fun j => .int .u64 (wd X3 j)),hH.2⟩
   ·
    go_wp2
    go_meet
    exact ⟨_,rfl,(Nat.le_trans hb1.size hb2.size),put4 (zab (zag (n:=4) (f:=fun _ => .int .u64 0) rfl rfl (arr4 fun _ => .int .u64 0)) hb3 (by simp)) (fun j => .int .u64 (wd X3 j)),hH.2⟩
   ·
    go_wp2
    go_meet
    exact ⟨_,rfl,hb1.size,put4 (zab (zab (zag (n:=4) (f:=fun _ => .int .u64 0) rfl rfl (arr4 fun _ => .int .u64 0)) hb2 (by simp)) hb3 (Nat.lt_of_lt_of_le (by simp) hb2.size)) (fun j => .int .u64 (wd X3 j)),hH.2⟩
   ·
    go_wp2
    go_meet
    exact ⟨_,rfl,Nat.le_refl _,put4 (zab (zab (zab (zag (n:=4) (f:=fun _ => .int .u64 0) rfl rfl (arr4 fun _ => .int .u64 0)).drew hb1 (by simp)) hb2 (Nat.lt_of_lt_of_le (by simp) hb1.size)) hb3 (Nat.lt_of_lt_of_le (Nat.lt_of_lt_of_le (by simp) hb1.size) hb2.size)) (fun j => .int .u64 (wd X3 j)),hH.2⟩
  case rest =>
   obtain ⟨g10,rfl,n10,hX,hb⟩:=hcut
   clear l0 l1 l2 l3 x0 x1 x2 x3' c0 c1 c2 c3 m1 m2 m3
   have nR:=hR.lt
   replace hA:=zab hA hb hA.lt
   replace hL:=zab hL hb hL.lt
   replace hR:=zab hR hb hR.lt
   replace hB:=hB.trans (hb.mono hB.size)
   clear hb
   clear hC
   go_upto_region 15 with (fail)
   obtain ⟨l0,l1,l2,l3⟩:=zac hL
   obtain ⟨x0,x1,x2,x3'⟩:=pt_x hA
   obtain ⟨y0,y1,y2,y3'⟩:=pt_y hA
   obtain ⟨k0,k1,k2,k3⟩:=zac hX
   have m1:=hA.lt
   have m2:=hL.lt
   have m3:=hX.lt
   have sB : ∀ W,Bt (w.heap.size + 1 + 1) 48 9 wc W → (Bt (w.heap.size + 1 + 1) 48 9 wc W ∧ W.cell? ⟨g10,0,none⟩ = some (vI vU (wd X3 0)) ∧ W.cell? ⟨g10,1,none⟩ = some (vI vU (wd X3 1)) ∧ W.cell? ⟨g10,2,none⟩ = some (vI vU (wd X3 2)) ∧ W.cell? ⟨g10,3,none⟩ = some (vI vU (wd X3 3)) ∧ W.cell? ⟨g9,0,none⟩ = some (vI vU (wd L 0)) ∧ W.cell? ⟨g9,1,none⟩ = some (vI vU (wd L 1)) ∧ W.cell? ⟨g9,2,none⟩ = some (vI vU (wd L 2)) ∧ W.cell? ⟨g9,3,none⟩ = some (vI vU (wd L 3)) ∧ W.cell? ⟨w.heap.size,0,none⟩ = some (vI vU (wd X1 0)) ∧ W.cell? ⟨w.heap.size,1,none⟩ = some (vI vU (wd X1 1)) ∧ W.cell? ⟨w.heap.size,2,none⟩ = some (vI vU (wd X1 2)) ∧ W.cell? ⟨w.heap.size,3,none⟩ = some (vI vU (wd X1 3)) ∧ W.cell? ⟨w.heap.size,4,none⟩ = some (vI vU (wd Y1 0)) ∧ W.cell? ⟨w.heap.size,5,none⟩ = some (vI vU (wd Y1 1)) ∧ W.cell? ⟨w.heap.size,6,none⟩ = some (vI vU (wd Y1 2)) ∧ W.cell? ⟨w.heap.size,7,none⟩ = some (vI vU (wd Y1 3))):=fun W hB => ⟨hB,(hB.cell m3 (by omega)).trans k0,(hB.cell m3 (by omega)).trans k1,(hB.cell m3 (by omega)).trans k2,(hB.cell m3 (by omega)).trans k3,(hB.cell m2 (by omega)).trans l0,(hB.cell m2 (by omega)).trans l1,(hB.cell m2 (by omega)).trans l2,(hB.cell m2 (by omega)).trans l3,(hB.cell m1 (by omega)).trans x0,(hB.cell m1 (by omega)).trans x1,(hB.cell m1 (by omega)).trans x2,(hB.cell m1 (by omega)).trans x3',(hB.cell m1 (by omega)).trans y0,(hB.cell m1 (by omega)).trans y1,(hB.cell m1 (by omega)).trans y2,(hB.cell m1 (by omega)).trans y3'⟩
   have hS0:=sB wc (.of hR (But.refl _ _))
   have SB:=veil sB
   have HBB:=veil hB
   clear sB hB hA hL hX hR
   refine wp_region_held_drew (S:=fun W => Bt (w.heap.size + 1 + 1) 48 9 wc W ∧ W.cell? ⟨g10,0,none⟩ = some (vI vU (wd X3 0)) ∧ W.cell? ⟨g10,1,none⟩ = some (vI vU (wd X3 1)) ∧ W.cell? ⟨g10,2,none⟩ = some (vI vU (wd X3 2)) ∧ W.cell? ⟨g10,3,none⟩ = some (vI vU (wd X3 3)) ∧ W.cell? ⟨g9,0,none⟩ = some (vI vU (wd L 0)) ∧ W.cell? ⟨g9,1,none⟩ = some (vI vU (wd L 1)) ∧ W.cell? ⟨g9,2,none⟩ = some (vI vU (wd L 2)) ∧ W.cell? ⟨g9,3,none⟩ = some (vI vU (wd L 3)) ∧ W.cell? ⟨w.heap.size,0,none⟩ = some (vI vU (wd X1 0)) ∧ W.cell? ⟨w.heap.size,1,none⟩ = some (vI vU (wd X1 1)) ∧ W.cell? ⟨w.heap.size,2,none⟩ = some (vI vU (wd X1 2)) ∧ W.cell? ⟨w.heap.size,3,none⟩ = some (vI vU (wd X1 3)) ∧ W.cell? ⟨w.heap.size,4,none⟩ = some (vI vU (wd Y1 0)) ∧ W.cell? ⟨w.heap.size,5,none⟩ = some (vI vU (wd Y1 1)) ∧ W.cell? ⟨w.heap.size,6,none⟩ = some (vI vU (wd Y1 2)) ∧ W.cell? ⟨w.heap.size,7,none⟩ = some (vI vU (wd Y1 3))) (by kernel_rfl) (SB.out _ hS0.1.drew) (fun hH => ?_)
   repeat
    ((first
      | (refine wpAnyH_take (i:=0) (v:=.agg #[vI vU (wd X3 0),vI vU (wd X3 1),vI vU (wd X3 2),vI vU (wd X3 3)]) rfl (by kernel_rfl) (by kernel_rfl) (by decide +kernel) (fun _ _ _ h => h) (Or.inl ⟨by rfl,fun W hSw => (by dsimp only at hSw; go_simp)⟩) (by with_reducible assumption) ?_)
      | (refine wpAnyH_take (i:=1) (v:=.agg #[vI vU (wd L 0),vI vU (wd L 1),vI vU (wd L 2),vI vU (wd L 3)]) rfl (by kernel_rfl) (by kernel_rfl) (by decide +kernel) (fun _ _ _ h => h) (Or.inl ⟨by rfl,fun W hSw => (by dsimp only at hSw; go_simp)⟩) (by with_reducible assumption) ?_)
      | (refine wpAnyH_take (i:=2) (v:=.pointer (some ⟨w.heap.size,0,none⟩)) rfl (by kernel_rfl) (by kernel_rfl) (by decide +kernel) (fun _ _ _ h => h) (Or.inl ⟨by rfl,fun W hSw => (by dsimp only at hSw; go_simp)⟩) (by with_reducible assumption) ?_)
      | (refine wpAnyH_take (i:=3) (v:=.agg #[vI vU (wd X1 0),vI vU (wd X1 1),vI vU (wd X1 2),vI vU (wd X1 3)]) rfl (by kernel_rfl) (by kernel_rfl) (by decide +kernel) (fun _ _ _ h => h) (Or.inl ⟨by rfl,fun W hSw => (by dsimp only at hSw; go_simp)⟩) (by with_reducible assumption) ?_)
      | (refine wpAnyH_take (i:=4) (v:=.agg #[vI vU (wd X3 0),vI vU (wd X3 1),vI vU (wd X3 2),vI vU (wd X3 3)]) rfl (by kernel_rfl) (by kernel_rfl) (by decide +kernel) (fun _ _ _ h => h) (Or.inl ⟨by rfl,fun W hSw => (by dsimp only at hSw; go_simp)⟩) (by with_reducible assumption) ?_)
      | (refine wpAnyH_ready (rs:=[5]) (by decide +kernel) (by simp) ?_; refine AllReadyH.cons rfl (fun K hK => ?_) AllReadyH.nil; go_simp; (with_reducible refine (J5.out _).mono ?_); rintro e w15 ⟨rfl,hb⟩; have hb1:=hS0.1.drew.call hb; clear hb; refine hK.out _ _ (SB.out _ hb1) (fun hH => ?_); clear hK K)
      | (refine wpAnyH_ready (rs:=[6]) (by decide +kernel) (by simp) ?_; refine AllReadyH.cons rfl (fun K hK => ?_) AllReadyH.nil; go_simp; (with_reducible refine (J6.out _).mono ?_); rintro e w16 ⟨rfl,hb⟩; have hb2:=hb1.call hb; clear hb; refine hK.out _ _ (SB.out _ hb2) (fun hH => ?_); clear hK K)
      | (refine wpAnyH_take (i:=7) (v:=.pointer (some ⟨w.heap.size,4,none⟩)) rfl (by kernel_rfl) (by kernel_rfl) (by decide +kernel) (fun _ _ _ h => h) (Or.inl ⟨by rfl,fun W hSw => (by dsimp only at hSw; go_simp)⟩) (by with_reducible assumption) ?_)
      | (refine wpAnyH_take (i:=8) (v:=.agg #[vI vU (wd Y1 0),vI vU (wd Y1 1),vI vU (wd Y1 2),vI vU (wd Y1 3)]) rfl (by kernel_rfl) (by kernel_rfl) (by decide +kernel) (fun _ _ _ h => h) (Or.inl ⟨by rfl,fun W hSw => (by dsimp only at hSw; go_simp)⟩) (by with_reducible assumption) ?_)
      | (refine wpAnyH_ready (rs:=[9]) (by decide +kernel) (by simp) ?_; refine AllReadyH.cons rfl (fun K hK => ?_) AllReadyH.nil; go_simp; (with_reducible refine (J7.out _).mono ?_); rintro e w17 ⟨rfl,hb⟩; have hb3:=hb2.call hb; clear hb; obtain ⟨fz,hz⟩:=hb3.2; have HZ:=veil (blkOf hz); clear hz; refine hK.out _ _ (SB.out _ hb3) (fun hH => ?_); clear hK K)
      | (refine wpAnyH_take (i:=10) (v:=.agg #[vI vU (wd X3 0),vI vU (wd X3 1),vI vU (wd X3 2),vI vU (wd X3 3),vI vU (wd Y3 0),vI vU (wd Y3 1),vI vU (wd Y3 2),vI vU (wd Y3 3),.bool (false)]) rfl (by kernel_rfl) (by kernel_rfl) (by decide +kernel) (fun _ _ _ h => h) (Or.inl ⟨by rfl,fun W hSw => (by dsimp only at hSw; go_simp)⟩) (by with_reducible assumption) ?_)
      | (refine wpAnyH_ready (rs:=[11]) (by decide +kernel) (by simp) ?_; refine AllReadyH.cons rfl (fun K hK => ?_) AllReadyH.nil; refine zfk rfl 48 _ _ rfl (w.heap.size + 1 + 1) #[vI vU (wd X3 0),vI vU (wd X3 1),vI vU (wd X3 2),vI vU (wd X3 3),vI vU (wd Y3 0),vI vU (wd Y3 1),vI vU (wd Y3 2),vI vU (wd Y3 3),.bool (false)] rfl rfl 48 _ HZ.out zbg (by rw [zaw]; rfl) (one9 X3 Y3 false) ?_; refine hK.out _ _ (SB.out _ (hb3.setRow rfl)) (fun hH => ?_); clear hK K)
      | fail);
     try simp only [Act.put,List.setIfInBounds_toArray,List.set_cons_zero,List.set_cons_succ,List.getElem_toArray,List.getElem_cons_zero,List.getElem_cons_succ])
   refine wpAnyH_done (by decide +kernel) ?_ _
   have HFIN:=veil (setRow_heap _ (w.heap.size + 1 + 1) _ #[vI vU (wd X3 0),vI vU (wd X3 1),vI vU (wd X3 2),vI vU (wd X3 3),vI vU (wd Y3 0),vI vU (wd Y3 1),vI vU (wd Y3 2),vI vU (wd Y3 3),.bool (false)] 48 (0,0) HZ.out)
   clear hH
   go_wp2
   exact bodyPost_ret (results_cell_row rfl _ _ (w.heap.size + 1 + 1) 48 #[vI vU (wd X3 0),vI vU (wd X3 1),vI vU (wd X3 2),vI vU (wd X3 3),vI vU (wd Y3 0),vI vU (wd Y3 1),vI vU (wd Y3 2),vI vU (wd Y3 3),.bool (false)] (0,0) _ rfl HFIN.out Tryz.underlying48 rfl zbg) rfl ⟨T,HXY.out.2.2.1,HXY.out.2.2.2,by rw [HXY.out.1,HXY.out.2.1],HBB.out.trans ((hb3.setRow (cs:=#[vI vU (wd X3 0),vI vU (wd X3 1),vI vU (wd X3 2),vI vU (wd X3 3),vI vU (wd Y3 0),vI vU (wd Y3 1),vI vU (wd Y3 2),vI vU (wd Y3 3),.bool (false)]) rfl).below (by omega) HBB.out.size)⟩
def rightN (X : Nat) : Nat:=((X * X % Pt.pp * X % Pt.pp + Pt.pp - 3 * X % Pt.pp) % Pt.pp + Pt.bb) % Pt.pp
def onB (X Y : Nat) (f : Bool) : Bool:=if f then decide (X = 0) && decide (Y = 0) else decide (X < Pt.pp) && (decide (Y < Pt.pp) && decide (Y * Y % Pt.pp = rightN X))
theorem eql_zero {X : Nat} (hX : X < top) (w : World) : (binOp .eql 26 (.agg #[vI vU (wd X 0),vI vU (wd X 1),vI vU (wd X 2),vI vU (wd X 3)]) (.agg #[vI vU 0,vI vU 0,vI vU 0,vI vU 0])).run Tryz.prog w = .ok (.bool (decide (X = 0))) w:=by
 have h:=zkb hX (show 0 < top by decide) w
 have e0 : ∀ i,wd 0 i = 0:=by intro i; unfold wd dg; simp
 simp only [e0] at h
 exact h
theorem lits3 : wd 3 0 = 3 ∧ wd 3 1 = 0 ∧ wd 3 2 = 0 ∧ wd 3 3 = 0:=by decide
theorem three_lt : 3 < Pt.pp:=by decide +kernel
theorem bb_lt : Pt.bb < Pt.pp:=by decide +kernel
end Go.Proofs.YtedehdbajiaaiaaGreatDoor
