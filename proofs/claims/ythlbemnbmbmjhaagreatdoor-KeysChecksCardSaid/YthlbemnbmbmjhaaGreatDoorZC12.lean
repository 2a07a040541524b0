/-
  Of Q8 Q9 Bit Len RBit RLen.
-/
import Derived.Test.YthlbemnbmbmjhaaGreatDoorZC6
import Derived.Test.YthlbemnbmbmjhaaGreatDoorZC11
import Derived.Test.YthlbemnbmbmjhaaGreatDoorZC5
set_option maxRecDepth 1000000
set_option maxHeartbeats 20000000
namespace Go.Proofs.YthlbemnbmbmjhaaGreatDoor
open Go.RowKit
open Go.Value renaming int → vI
open Go.IntKind renaming u64 → vU
open Go.Act renaming put → aP
open List renaming setIfInBounds_toArray → lA, set_cons_zero → lZ, set_cons_succ → lS
theorem lits1 : wd 1 0 = 1 ∧ wd 1 1 = 0 ∧ wd 1 2 = 0 ∧ wd 1 3 = 0:=by decide
theorem radd_same (X1 Y1 A B U Dn : Nat) (hX1 : X1 < Pt.pp) (hY1 : Y1 < Pt.pp) (hn : ¬ Y1 = (0 + Pt.pp - Y1) % Pt.pp) (hA' : A = X1 * X1 % Pt.pp) (hB' : B = (A + Pt.pp - 1) % Pt.pp) (hU : U = 3 * B % Pt.pp) (hD : Dn = (Y1 + Y1) % Pt.pp) (w : World) :
  Calls Tryz.prog 102 #[.agg #[vI vU (wd X1 0),vI vU (wd X1 1),vI vU (wd X1 2),vI vU (wd X1 3),vI vU (wd Y1 0),vI vU (wd Y1 1),vI vU (wd Y1 2),vI vU (wd Y1 3),.bool (false)],.agg #[vI vU (wd X1 0),vI vU (wd X1 1),vI vU (wd X1 2),vI vU (wd X1 3),vI vU (wd Y1 0),vI vU (wd Y1 1),vI vU (wd Y1 2),vI vU (wd Y1 3),.bool (false)]] w fun e w' => ∃ T,T < Pt.pp ∧ (Nat.gcd Dn Pt.pp = 1 → Dn * T % Pt.pp = 1) ∧ e = .returned (.agg #[vI vU (wd (x3 U T X1 X1) 0),vI vU (wd (x3 U T X1 X1) 1),vI vU (wd (x3 U T X1 X1) 2),vI vU (wd (x3 U T X1 X1) 3),vI vU (wd (y3 U T X1 Y1 X1) 0),vI vU (wd (y3 U T X1 Y1 X1) 1),vI vU (wd (y3 U T X1 Y1 X1) 2),vI vU (wd (y3 U T X1 Y1 X1) 3),.bool (false)]) ∧ Below w.heap.size w w':=by
 have hA : (((w.alloc (.cells #[vI vU (wd X1 0),vI vU (wd X1 1),vI vU (wd X1 2),vI vU (wd X1 3),vI vU (wd Y1 0),vI vU (wd Y1 1),vI vU (wd Y1 2),vI vU (wd Y1 3),.bool (false)] 29)).alloc (.cells #[vI vU (wd X1 0),vI vU (wd X1 1),vI vU (wd X1 2),vI vU (wd X1 3),vI vU (wd Y1 0),vI vU (wd Y1 1),vI vU (wd Y1 2),vI vU (wd Y1 3),.bool (false)] 29)).alloc (.cells #[vI vU 0,vI vU 0,vI vU 0,vI vU 0,vI vU 0,vI vU 0,vI vU 0,vI vU 0,.bool false] 29)).rowIs w.heap.size 29 9 (pc X1 Y1 false):=((zdj X1 Y1 false rfl).alloc _).alloc _
 have hC : (((w.alloc (.cells #[vI vU (wd X1 0),vI vU (wd X1 1),vI vU (wd X1 2),vI vU (wd X1 3),vI vU (wd Y1 0),vI vU (wd Y1 1),vI vU (wd Y1 2),vI vU (wd Y1 3),.bool (false)] 29)).alloc (.cells #[vI vU (wd X1 0),vI vU (wd X1 1),vI vU (wd X1 2),vI vU (wd X1 3),vI vU (wd Y1 0),vI vU (wd Y1 1),vI vU (wd Y1 2),vI vU (wd Y1 3),.bool (false)] 29)).alloc (.cells #[vI vU 0,vI vU 0,vI vU 0,vI vU 0,vI vU 0,vI vU 0,vI vU 0,vI vU 0,.bool false] 29)).rowIs (w.heap.size + 1) 29 9 (pc X1 Y1 false):=(zdj X1 Y1 false (by simp)).alloc _
 have hR : (((w.alloc (.cells #[vI vU (wd X1 0),vI vU (wd X1 1),vI vU (wd X1 2),vI vU (wd X1 3),vI vU (wd Y1 0),vI vU (wd Y1 1),vI vU (wd Y1 2),vI vU (wd Y1 3),.bool (false)] 29)).alloc (.cells #[vI vU (wd X1 0),vI vU (wd X1 1),vI vU (wd X1 2),vI vU (wd X1 3),vI vU (wd Y1 0),vI vU (wd Y1 1),vI vU (wd Y1 2),vI vU (wd Y1 3),.bool (false)] 29)).alloc (.cells #[vI vU 0,vI vU 0,vI vU 0,vI vU 0,vI vU 0,vI vU 0,vI vU 0,vI vU 0,.bool false] 29)).rowIs (w.heap.size + 1 + 1) 29 9 (pc 0 0 false):=zez (by simp)
 have hB : Below w.heap.size w (((w.alloc (.cells #[vI vU (wd X1 0),vI vU (wd X1 1),vI vU (wd X1 2),vI vU (wd X1 3),vI vU (wd Y1 0),vI vU (wd Y1 1),vI vU (wd Y1 2),vI vU (wd Y1 3),.bool (false)] 29)).alloc (.cells #[vI vU (wd X1 0),vI vU (wd X1 1),vI vU (wd X1 2),vI vU (wd X1 3),vI vU (wd Y1 0),vI vU (wd Y1 1),vI vU (wd Y1 2),vI vU (wd Y1 3),.bool (false)] 29)).alloc (.cells #[vI vU 0,vI vU 0,vI vU 0,vI vU 0,vI vU 0,vI vU 0,vI vU 0,vI vU 0,.bool false] 29)):=(((Below.refl _ _).alloc (by simp) _).alloc (by simp) _).alloc (by simp; omega) _
 obtain ⟨Z,hZ⟩ : ∃ Z,Z = (0 + Pt.pp - Y1) % Pt.pp:=⟨_,rfl⟩
 have HN:=veil (show ∀ W,Calls Tryz.prog 135 #[.agg #[vI vU (wd X1 0),vI vU (wd X1 1),vI vU (wd X1 2),vI vU (wd X1 3),vI vU (wd Y1 0),vI vU (wd Y1 1),vI vU (wd Y1 2),vI vU (wd Y1 3),.bool (false)]] W fun e W' => e = .returned (.agg #[vI vU (wd X1 0),vI vU (wd X1 1),vI vU (wd X1 2),vI vU (wd X1 3),vI vU (wd Z 0),vI vU (wd Z 1),vI vU (wd Z 2),vI vU (wd Z 3),.bool (false)]) ∧ Below W.heap.size W W' from fun W => rneg_is X1 Y1 Z false hY1 hZ W)
 have lZ : Z < top:=by rw [hZ]; exact Nat.lt_trans (Nat.mod_lt _ zgj) zbb
 have kq : ∀ W,(binOp .eql 29 (.agg #[vI vU (wd X1 0),vI vU (wd X1 1),vI vU (wd X1 2),vI vU (wd X1 3),vI vU (wd Y1 0),vI vU (wd Y1 1),vI vU (wd Y1 2),vI vU (wd Y1 3),.bool (false)]) (.agg #[vI vU (wd X1 0),vI vU (wd X1 1),vI vU (wd X1 2),vI vU (wd X1 3),vI vU (wd Z 0),vI vU (wd Z 1),vI vU (wd Z 2),vI vU (wd Z 3),.bool (false)])).run Tryz.prog W = .ok (.bool false) W:=fun W => by
  rw [eql_pt (Nat.lt_trans hX1 zbb) (Nat.lt_trans hY1 zbb) (Nat.lt_trans hX1 zbb) lZ false false W,decide_eq_false fun h => hn (by rw [← hZ]; exact h.2.1)]
 have ks : ∀ W,(binOp .eql 29 (.agg #[vI vU (wd X1 0),vI vU (wd X1 1),vI vU (wd X1 2),vI vU (wd X1 3),vI vU (wd Y1 0),vI vU (wd Y1 1),vI vU (wd Y1 2),vI vU (wd Y1 3),.bool (false)]) (.agg #[vI vU (wd X1 0),vI vU (wd X1 1),vI vU (wd X1 2),vI vU (wd X1 3),vI vU (wd Y1 0),vI vU (wd Y1 1),vI vU (wd Y1 2),vI vU (wd Y1 3),.bool (false)])).run Tryz.prog W = .ok (.bool true) W:=fun W => by
  rw [eql_pt (Nat.lt_trans hX1 zbb) (Nat.lt_trans hY1 zbb) (Nat.lt_trans hX1 zbb) (Nat.lt_trans hY1 zbb) false false W,decide_eq_true ⟨rfl,rfl,rfl⟩]
 obtain ⟨M,hM⟩ : ∃ M,M = Pt.pp:=⟨_,rfl⟩
 obtain ⟨U0,hU0⟩ : ∃ R,R = (Y1 + Pt.pp - Y1) % Pt.pp:=⟨_,rfl⟩
 obtain ⟨D0,hD0⟩ : ∃ R,R = (X1 + Pt.pp - X1) % Pt.pp:=⟨_,rfl⟩
 have hmod : ∀ a,a % Pt.pp < Pt.pp:=fun a => Nat.mod_lt _ zgj
 have lAA : A < Pt.pp:=by rw [hA']; exact hmod _
 have lBB : B < Pt.pp:=by rw [hB']; exact hmod _
 have lU : U < Pt.pp:=by rw [hU]; exact hmod _
 have lD : Dn < Pt.pp:=by rw [hD]; exact hmod _
 obtain ⟨i0,i1,i2,i3⟩:=lits3
 obtain ⟨j0,j1,j2,j3⟩:=lits1
 have HP:=veil (show ∀ W,Calls Tryz.prog 41 #[] W fun e W' => e = .returned (.agg #[vI vU (wd M 0),vI vU (wd M 1),vI vU (wd M 2),vI vU (wd M 3)]) ∧ Below W.heap.size W W' from fun W => by rw [hM]; exact zfx W)
 have HI:=veil (show ∀ W,Calls Tryz.prog 96 #[.agg #[vI vU (wd Dn 0),vI vU (wd Dn 1),vI vU (wd Dn 2),vI vU (wd Dn 3)],.agg #[vI vU (wd M 0),vI vU (wd M 1),vI vU (wd M 2),vI vU (wd M 3)]] W fun e W' => ∃ T,T < Pt.pp ∧ (Nat.gcd Dn Pt.pp = 1 → Dn * T % Pt.pp = 1) ∧ e = .returned (.tuple #[.agg #[vI vU (wd T 0),vI vU (wd T 1),vI vU (wd T 2),vI vU (wd T 3)],.bool (Nat.gcd Dn Pt.pp == 1)]) ∧ Below W.heap.size W W' from fun W => by rw [hM]; exact zjy Dn Pt.pp lD pp_one pp_odd zbb W)
 have HS1:=veil (show ∀ W,Calls Tryz.prog 44 #[.agg #[vI vU (wd Y1 0),vI vU (wd Y1 1),vI vU (wd Y1 2),vI vU (wd Y1 3)],.agg #[vI vU (wd Y1 0),vI vU (wd Y1 1),vI vU (wd Y1 2),vI vU (wd Y1 3)]] W fun e W' => e = .returned (.agg #[vI vU (wd U0 0),vI vU (wd U0 1),vI vU (wd U0 2),vI vU (wd U0 3)]) ∧ Below W.heap.size W W' from fun W => zcq Y1 Y1 U0 hY1 hY1 hU0 W)
 have HS2:=veil (show ∀ W,Calls Tryz.prog 44 #[.agg #[vI vU (wd X1 0),vI vU (wd X1 1),vI vU (wd X1 2),vI vU (wd X1 3)],.agg #[vI vU (wd X1 0),vI vU (wd X1 1),vI vU (wd X1 2),vI vU (wd X1 3)]] W fun e W' => e = .returned (.agg #[vI vU (wd D0 0),vI vU (wd D0 1),vI vU (wd D0 2),vI vU (wd D0 3)]) ∧ Below W.heap.size W W' from fun W => zcq X1 X1 D0 hX1 hX1 hD0 W)
 have K1:=veil (show ∀ W,Calls Tryz.prog 42 #[.agg #[vI vU (wd X1 0),vI vU (wd X1 1),vI vU (wd X1 2),vI vU (wd X1 3)],.agg #[vI vU (wd X1 0),vI vU (wd X1 1),vI vU (wd X1 2),vI vU (wd X1 3)]] W fun e W' => e = .returned (.agg #[vI vU (wd A 0),vI vU (wd A 1),vI vU (wd A 2),vI vU (wd A 3)]) ∧ Below W.heap.size W W' from fun W => zdq X1 X1 A hX1 (Nat.lt_trans hX1 zbb) hA' W)
 have K2:=veil (show ∀ W,Calls Tryz.prog 44 #[.agg #[vI vU (wd A 0),vI vU (wd A 1),vI vU (wd A 2),vI vU (wd A 3)],.agg #[vI vU 1,vI vU 0,vI vU 0,vI vU 0]] W fun e W' => e = .returned (.agg #[vI vU (wd B 0),vI vU (wd B 1),vI vU (wd B 2),vI vU (wd B 3)]) ∧ Below W.heap.size W W' from fun W => by have h:=zcq A 1 B lAA pp_one hB' W; rw [j0,j1,j2,j3] at h; exact h)
 have K3:=veil (show ∀ W,Calls Tryz.prog 42 #[.agg #[vI vU 3,vI vU 0,vI vU 0,vI vU 0],.agg #[vI vU (wd B 0),vI vU (wd B 1),vI vU (wd B 2),vI vU (wd B 3)]] W fun e W' => e = .returned (.agg #[vI vU (wd U 0),vI vU (wd U 1),vI vU (wd U 2),vI vU (wd U 3)]) ∧ Below W.heap.size W W' from fun W => by have h:=zdq 3 B U three_lt (Nat.lt_trans lBB zbb) hU W; rw [i0,i1,i2,i3] at h; exact h)
 have K4:=veil (show ∀ W,Calls Tryz.prog 43 #[.agg #[vI vU (wd Y1 0),vI vU (wd Y1 1),vI vU (wd Y1 2),vI vU (wd Y1 3)],.agg #[vI vU (wd Y1 0),vI vU (wd Y1 1),vI vU (wd Y1 2),vI vU (wd Y1 3)],.agg #[vI vU (wd M 0),vI vU (wd M 1),vI vU (wd M 2),vI vU (wd M 3)]] W fun e W' => e = .returned (.agg #[vI vU (wd Dn 0),vI vU (wd Dn 1),vI vU (wd Dn 2),vI vU (wd Dn 3)]) ∧ Below W.heap.size W W' from fun W => by rw [hM,hD]; exact zep Y1 Y1 Pt.pp hY1 hY1 zbb W)
 have HLT:=veil (And.intro hX1 (And.intro hY1 (And.intro hX1 (And.intro hY1 lU))))
 clear hZ hn hX1 hY1 lZ hM hU hD lU lD hU0 hD0 hmod lAA lBB hA' hB' i0 i1 i2 i3 j0 j1 j2 j3
 go_enter Tryz.func102,Tryz.ntmps102
 go_upto_region 1 with (fail)
 generalize (((w.alloc (.cells #[vI vU (wd X1 0),vI vU (wd X1 1),vI vU (wd X1 2),vI vU (wd X1 3),vI vU (wd Y1 0),vI vU (wd Y1 1),vI vU (wd Y1 2),vI vU (wd Y1 3),.bool (false)] 29)).alloc (.cells #[vI vU (wd X1 0),vI vU (wd X1 1),vI vU (wd X1 2),vI vU (wd X1 3),vI vU (wd Y1 0),vI vU (wd Y1 1),vI vU (wd Y1 2),vI vU (wd Y1 3),.bool (false)] 29)).alloc (.cells #[vI vU 0,vI vU 0,vI vU 0,vI vU 0,vI vU 0,vI vU 0,vI vU 0,vI vU 0,.bool false] 29)) = wz at *
 have fA:=pt_f hA
 have fC:=pt_f hC
 go_upto_region 5 with (fail)
 have lA:=hA.lt
 have lC:=hC.lt
 have sB : ∀ W,Below wz.heap.size wz W → (Below wz.heap.size wz W ∧ W.rangeAt w.heap.size 0 [.int .u64 (wd X1 0),.int .u64 (wd X1 1),.int .u64 (wd X1 2),.int .u64 (wd X1 3),.int .u64 (wd Y1 0),.int .u64 (wd Y1 1),.int .u64 (wd Y1 2),.int .u64 (wd Y1 3),.bool false] ∧ W.rangeAt (w.heap.size + 1) 0 [.int .u64 (wd X1 0),.int .u64 (wd X1 1),.int .u64 (wd X1 2),.int .u64 (wd X1 3),.int .u64 (wd Y1 0),.int .u64 (wd Y1 1),.int .u64 (wd Y1 2),.int .u64 (wd Y1 3),.bool false]):=fun W hb => ⟨hb,zcy (zgr hA) (hb.block _ lA),zcy (zgr hC) (hb.block _ lC)⟩
 have SB:=veil sB
 clear sB
 refine wp_region_held_drew (S:=fun W => (Below wz.heap.size wz W ∧ W.rangeAt w.heap.size 0 [.int .u64 (wd X1 0),.int .u64 (wd X1 1),.int .u64 (wd X1 2),.int .u64 (wd X1 3),.int .u64 (wd Y1 0),.int .u64 (wd Y1 1),.int .u64 (wd Y1 2),.int .u64 (wd Y1 3),.bool false] ∧ W.rangeAt (w.heap.size + 1) 0 [.int .u64 (wd X1 0),.int .u64 (wd X1 1),.int .u64 (wd X1 2),.int .u64 (wd X1 3),.int .u64 (wd Y1 0),.int .u64 (wd Y1 1),.int .u64 (wd Y1 2),.int .u64 (wd Y1 3),.bool false])) (by kernel_rfl) (SB.out _ (Below.refl _ wz).drew) (fun hH => ?_)
 repeat
  ((first
    | (refine wpAnyH_take (i:=0) (v:=.agg #[vI vU (wd X1 0),vI vU (wd X1 1),vI vU (wd X1 2),vI vU (wd X1 3),vI vU (wd Y1 0),vI vU (wd Y1 1),vI vU (wd Y1 2),vI vU (wd Y1 3),.bool false]) rfl (by kernel_rfl) (by kernel_rfl) (by decide +kernel) (fun _ _ _ h => h) (yieldsIf_load_mid (by rfl) _ _ rfl _ _ rfl _ _ (fun W hSw => hSw.2.1) Tryz.underlying29 rfl zbd) (by with_reducible assumption) ?_)
    | (refine wpAnyH_take (i:=1) (v:=.agg #[vI vU (wd X1 0),vI vU (wd X1 1),vI vU (wd X1 2),vI vU (wd X1 3),vI vU (wd Y1 0),vI vU (wd Y1 1),vI vU (wd Y1 2),vI vU (wd Y1 3),.bool false]) rfl (by kernel_rfl) (by kernel_rfl) (by decide +kernel) (fun _ _ _ h => h) (yieldsIf_load_mid (by rfl) _ _ rfl _ _ rfl _ _ (fun W hSw => hSw.2.2) Tryz.underlying29 rfl zbd) (by with_reducible assumption) ?_)
    | (refine wpAnyH_ready (rs:=[2]) (by decide +kernel) (by simp) ?_; refine AllReadyH.cons rfl (fun K hK => ?_) AllReadyH.nil; go_simp; (with_reducible refine (HN.out _).mono ?_); rintro e w1 ⟨rfl,hb⟩; have hb1:=hH.1.trans (hb.mono hH.1.size); clear hb; refine hK.out _ _ (SB.out _ hb1) (fun hH => ?_); clear hK K)
    | (refine wpAnyH_take (i:=3) (v:=.bool false) rfl (by kernel_rfl) (by kernel_rfl) (by decide +kernel) (fun _ _ _ h => h) (Or.inl ⟨by rfl,fun W hSw => (by dsimp only at hSw; go_simp)⟩) (by with_reducible assumption) ?_)
    | fail);
   try simp only [Act.put,List.setIfInBounds_toArray,List.set_cons_zero,List.set_cons_succ,List.getElem_toArray,List.getElem_cons_zero,List.getElem_cons_succ])
 refine wpAnyH_done (by decide +kernel) ?_ _
 clear hH fA fC kq HN SB lA lC
 have hb:=hb1
 clear hb1
 replace hA:=zaa hA hb hA.lt
 replace hC:=zaa hC hb hC.lt
 replace hR:=zaa hR hb hR.lt
 replace hB:=hB.trans (hb.mono hB.size)
 clear hb
 obtain ⟨y0,y1,y2,y3'⟩:=pt_y hA
 obtain ⟨z0,z1,z2,z3⟩:=pt_y hC
 go_wp2_with fail
 refine (HS1.out _).mono ?_
 rintro e w7 ⟨rfl,hb⟩
 clear y0 y1 y2 y3' z0 z1 z2 z3
 replace hA:=zaa hA hb hA.lt
 replace hC:=zaa hC hb hC.lt
 replace hR:=zaa hR hb hR.lt
 replace hB:=hB.trans (hb.mono hB.size)
 clear hb
 go_upto_region 8 with (fail)
 have n5:=hR.lt
 replace hA:=hA.alloc (.cells #[vI vU (wd U0 0),vI vU (wd U0 1),vI vU (wd U0 2),vI vU (wd U0 3)] 27)
 replace hC:=hC.alloc (.cells #[vI vU (wd U0 0),vI vU (wd U0 1),vI vU (wd U0 2),vI vU (wd U0 3)] 27)
 replace hR:=hR.alloc (.cells #[vI vU (wd U0 0),vI vU (wd U0 1),vI vU (wd U0 2),vI vU (wd U0 3)] 27)
 have hU : (w7.alloc (.cells #[vI vU (wd U0 0),vI vU (wd U0 1),vI vU (wd U0 2),vI vU (wd U0 3)] 27)).rowIs w7.heap.size 27 4 (fun j => .int .u64 (wd U0 j)):=zae (n:=4) rfl rfl (arr4 fun j => .int .u64 (wd U0 j))
 replace hB:=hB.alloc hB.size (.cells #[vI vU (wd U0 0),vI vU (wd U0 1),vI vU (wd U0 2),vI vU (wd U0 3)] 27)
 generalize w7.alloc (.cells #[vI vU (wd U0 0),vI vU (wd U0 1),vI vU (wd U0 2),vI vU (wd U0 3)] 27) = w8 at *
 generalize w7.heap.size = g5 at *
 obtain ⟨y0,y1,y2,y3'⟩:=pt_x hA
 obtain ⟨z0,z1,z2,z3⟩:=pt_x hC
 go_wp2_with fail
 refine (HS2.out _).mono ?_
 rintro e w9 ⟨rfl,hb⟩
 clear y0 y1 y2 y3' z0 z1 z2 z3
 replace hA:=zaa hA hb hA.lt
 replace hC:=zaa hC hb hC.lt
 replace hR:=zaa hR hb hR.lt
 replace hU:=zaa hU hb hU.lt
 replace hB:=hB.trans (hb.mono hB.size)
 clear hb
 go_upto_region 9 with (fail)
 have n6:=hU.lt
 replace hA:=hA.alloc (.cells #[vI vU (wd D0 0),vI vU (wd D0 1),vI vU (wd D0 2),vI vU (wd D0 3)] 27)
 replace hC:=hC.alloc (.cells #[vI vU (wd D0 0),vI vU (wd D0 1),vI vU (wd D0 2),vI vU (wd D0 3)] 27)
 replace hR:=hR.alloc (.cells #[vI vU (wd D0 0),vI vU (wd D0 1),vI vU (wd D0 2),vI vU (wd D0 3)] 27)
 replace hU:=hU.alloc (.cells #[vI vU (wd D0 0),vI vU (wd D0 1),vI vU (wd D0 2),vI vU (wd D0 3)] 27)
 have hD : (w9.alloc (.cells #[vI vU (wd D0 0),vI vU (wd D0 1),vI vU (wd D0 2),vI vU (wd D0 3)] 27)).rowIs w9.heap.size 27 4 (fun j => .int .u64 (wd D0 j)):=zae (n:=4) rfl rfl (arr4 fun j => .int .u64 (wd D0 j))
 replace hB:=hB.alloc hB.size (.cells #[vI vU (wd D0 0),vI vU (wd D0 1),vI vU (wd D0 2),vI vU (wd D0 3)] 27)
 generalize w9.alloc (.cells #[vI vU (wd D0 0),vI vU (wd D0 1),vI vU (wd D0 2),vI vU (wd D0 3)] 27) = wa at *
 generalize w9.heap.size = g6 at *
 have HA:=veil (blk9 hA)
 have HC:=veil (blk9 hC)
 go_upto_region 10 with (first
  | ((with_reducible refine zas 32 ?_); refine wpList_load_row rfl 29 _ rfl w.heap.size rfl 29 #[vI vU (wd X1 0),vI vU (wd X1 1),vI vU (wd X1 2),vI vU (wd X1 3),vI vU (wd Y1 0),vI vU (wd Y1 1),vI vU (wd Y1 2),vI vU (wd Y1 3),.bool (false)] (0,0) _ HA.out Tryz.underlying29 rfl zbd ?_)
  | ((with_reducible refine zas 33 ?_); refine wpList_load_row rfl 29 _ rfl (w.heap.size + 1) rfl 29 #[vI vU (wd X1 0),vI vU (wd X1 1),vI vU (wd X1 2),vI vU (wd X1 3),vI vU (wd Y1 0),vI vU (wd Y1 1),vI vU (wd Y1 2),vI vU (wd Y1 3),.bool (false)] (0,0) _ HC.out Tryz.underlying29 rfl zbd ?_))
 clear HA HC ks HS1 HS2
 obtain ⟨x0,x1,x2,x3'⟩:=pt_x hA
 go_wp2_with fail
 refine (K1.out _).mono ?_
 rintro e wb ⟨rfl,hb⟩
 clear x0 x1 x2 x3'
 replace hA:=zaa hA hb hA.lt
 replace hC:=zaa hC hb hC.lt
 replace hR:=zaa hR hb hR.lt
 replace hU:=zaa hU hb hU.lt
 replace hD:=zaa hD hb hD.lt
 replace hB:=hB.trans (hb.mono hB.size)
 clear hb
 go_wp2_with fail
 refine (K2.out _).mono ?_
 rintro e wc ⟨rfl,hb⟩
 replace hA:=zaa hA hb hA.lt
 replace hC:=zaa hC hb hC.lt
 replace hR:=zaa hR hb hR.lt
 replace hU:=zaa hU hb hU.lt
 replace hD:=zaa hD hb hD.lt
 replace hB:=hB.trans (hb.mono hB.size)
 clear hb
 go_wp2_with fail
 refine (K3.out _).mono ?_
 rintro e wd' ⟨rfl,hb⟩
 replace hA:=zaa hA hb hA.lt
 replace hC:=zaa hC hb hC.lt
 replace hR:=zaa hR hb hR.lt
 replace hU:=zaa hU hb hU.lt
 replace hD:=zaa hD hb hD.lt
 replace hB:=hB.trans (hb.mono hB.size)
 clear hb
 obtain ⟨x0,x1,x2,x3'⟩:=zac hU
 obtain ⟨f0,f1,f2,f3⟩:=zaf hU
 go_upto_region 11 with (fail)
 clear x0 x1 x2 x3' f0 f1 f2 f3
 replace hA:=zah hA (show w.heap.size ≠ g5 by omega) (.int .u64 (wd U 0)) (.int .u64 (wd U 1)) (.int .u64 (wd U 2)) (.int .u64 (wd U 3))
 replace hC:=zah hC (show w.heap.size + 1 ≠ g5 by omega) (.int .u64 (wd U 0)) (.int .u64 (wd U 1)) (.int .u64 (wd U 2)) (.int .u64 (wd U 3))
 replace hR:=zah hR (show w.heap.size + 1 + 1 ≠ g5 by omega) (.int .u64 (wd U 0)) (.int .u64 (wd U 1)) (.int .u64 (wd U 2)) (.int .u64 (wd U 3))
 replace hD:=zah hD (show g6 ≠ g5 by omega) (.int .u64 (wd U 0)) (.int .u64 (wd U 1)) (.int .u64 (wd U 2)) (.int .u64 (wd U 3))
 replace hU:=put4 hU fun j => .int .u64 (wd U j)
 replace hB:=zai hB (show w.heap.size ≤ g5 by omega) (.int .u64 (wd U 0)) (.int .u64 (wd U 1)) (.int .u64 (wd U 2)) (.int .u64 (wd U 3))
 generalize ((((wd'.setCell ⟨g5,0,none⟩ (.int .u64 (wd U 0))).setCell ⟨g5,1,none⟩ (.int .u64 (wd U 1))).setCell ⟨g5,2,none⟩ (.int .u64 (wd U 2))).setCell ⟨g5,3,none⟩ (.int .u64 (wd U 3))) = w11 at *
 obtain ⟨y0,y1,y2,y3'⟩:=pt_y hA
 have m1:=hA.lt
 have sB : ∀ W,Bt g6 27 4 w11 W → (Bt g6 27 4 w11 W ∧ W.cell? ⟨w.heap.size,4,none⟩ = some (vI vU (wd Y1 0)) ∧ W.cell? ⟨w.heap.size,5,none⟩ = some (vI vU (wd Y1 1)) ∧ W.cell? ⟨w.heap.size,6,none⟩ = some (vI vU (wd Y1 2)) ∧ W.cell? ⟨w.heap.size,7,none⟩ = some (vI vU (wd Y1 3))):=fun W hB => ⟨hB,(hB.cell m1 (by omega)).trans y0,(hB.cell m1 (by omega)).trans y1,(hB.cell m1 (by omega)).trans y2,(hB.cell m1 (by omega)).trans y3'⟩
 have hS0:=sB w11 (.of hD (But.refl _ _))
 have SB:=veil sB
 clear sB
 go_region_held3 (fun W => Bt g6 27 4 w11 W ∧ W.cell? ⟨w.heap.size,4,none⟩ = some (vI vU (wd Y1 0)) ∧ W.cell? ⟨w.heap.size,5,none⟩ = some (vI vU (wd Y1 1)) ∧ W.cell? ⟨w.heap.size,6,none⟩ = some (vI vU (wd Y1 2)) ∧ W.cell? ⟨w.heap.size,7,none⟩ = some (vI vU (wd Y1 3)))
  (first
   | with_reducible assumption
   | exact hS0
   | exact SB.out _ hS0.1.drew
   | exact SB.out _ ((((hbt2.set 0 _).set 1 _).set 2 _).set 3 _))
  (first
   | (go_at_call 41; (with_reducible refine (HP.out _).mono ?_); rintro e v1 ⟨rfl,hb1⟩; have hbt1:=hS0.1.drew.call hb1; have hS1:=SB.out _ hbt1)
   | (go_at_call 43; (with_reducible refine (K4.out _).mono ?_); rintro e v2 ⟨rfl,hb2⟩; have hbt2:=hbt1.call hb2; have hS2:=SB.out _ hbt2; have hz:=zaa (zaa (zbx hD 1) hb1 hD.lt) hb2 (Nat.lt_of_lt_of_le hD.lt hb1.size); have HZ:=veil hz; obtain ⟨z0,z1,z2,z3⟩:=zac hz; obtain ⟨f0,f1,f2,f3⟩:=zaf hz; clear hz))
 have hb : Below w11.heap.size w11 v2:=((Below.refl _ w11).drew.trans (hb1.mono (Nat.le_refl _))).trans (hb2.mono hb1.size)
 clear z0 z1 z2 z3 f0 f1 f2 f3 y0 y1 y2 y3' hS0 hS1 hS2 hb1 hb2 hbt1 hbt2 SB m1
 have n7:=hD.lt
 replace hA:=zaa hA hb hA.lt
 replace hC:=zaa hC hb hC.lt
 replace hR:=zaa hR hb hR.lt
 replace hU:=zaa hU hb hU.lt
 replace hB:=hB.trans (hb.mono hB.size)
 clear hb
 clear hD
 have hD:=HZ.out
 go_upto_region 12 with (fail)
 replace hA:=zah hA (show w.heap.size ≠ g6 by omega) (.int .u64 (wd Dn 0)) (.int .u64 (wd Dn 1)) (.int .u64 (wd Dn 2)) (.int .u64 (wd Dn 3))
 replace hC:=zah hC (show w.heap.size + 1 ≠ g6 by omega) (.int .u64 (wd Dn 0)) (.int .u64 (wd Dn 1)) (.int .u64 (wd Dn 2)) (.int .u64 (wd Dn 3))
 replace hR:=zah hR (show w.heap.size + 1 + 1 ≠ g6 by omega) (.int .u64 (wd Dn 0)) (.int .u64 (wd Dn 1)) (.int .u64 (wd Dn 2)) (.int .u64 (wd Dn 3))
 replace hU:=zah hU (show g5 ≠ g6 by omega) (.int .u64 (wd Dn 0)) (.int .u64 (wd Dn 1)) (.int .u64 (wd Dn 2)) (.int .u64 (wd Dn 3))
 replace hD:=put4 hD fun j => .int .u64 (wd Dn j)
 replace hB:=zai hB (show w.heap.size ≤ g6 by omega) (.int .u64 (wd Dn 0)) (.int .u64 (wd Dn 1)) (.int .u64 (wd Dn 2)) (.int .u64 (wd Dn 3))
 generalize ((((v2.setCell ⟨g6,0,none⟩ (.int .u64 (wd Dn 0))).setCell ⟨g6,1,none⟩ (.int .u64 (wd Dn 1))).setCell ⟨g6,2,none⟩ (.int .u64 (wd Dn 2))).setCell ⟨g6,3,none⟩ (.int .u64 (wd Dn 3))) = wq at *
 clear K1 K2 K3 K4 HZ
 obtain ⟨d0,d1,d2,d3⟩:=zac hD
 have m6:=hD.lt
 go_cut [7,8] from 50 to 55 (fun v7 v8 wx => ∃ (T g : Nat) (b : Bool),v7 = .pointer (some ⟨g,0,none⟩) ∧ v8 = .bool b ∧ T < Pt.pp ∧ (Nat.gcd Dn Pt.pp = 1 → Dn * T % Pt.pp = 1) ∧ wq.heap.size ≤ g ∧ wx.rowIs g 27 4 (fun j => .int .u64 (wd T j)) ∧ Below wq.heap.size wq wx)
 case first =>
  clear hA hC hR hU hD hB
  go_region_held3 (fun w' => (∀ b o,b < wq.heap.size → w'.cell? ⟨b,o,none⟩ = wq.cell? ⟨b,o,none⟩) ∧ Below wq.heap.size wq w')
   (first
    | (with_reducible assumption)
    | (with_reducible exact zcm _)
    | (with_reducible exact zem _)
    | (with_reducible exact zdw _ (by assumption))
    | ((with_reducible refine zfr (by assumption) ?_); first | exact Nat.le_refl _ | exact hb1.size | exact (Nat.le_trans hb1.size hb2.size))
    | ((with_reducible refine zfs ?_ (by assumption)); first | exact Nat.le_refl _ | exact hb1.size | exact (Nat.le_trans hb1.size hb2.size))
    | (with_reducible exact zct (by assumption) (by assumption))
    | (fail))
   (first
    | (go_at_call 41; ((with_reducible refine (HP.out _).mono ?_); rintro e v1 ⟨rfl,hb1⟩; obtain ⟨hc1,hf1,hl1⟩:=zbu hb1))
    | (go_at_call 96; ((with_reducible refine (HI.out _).mono ?_); rintro e v2 ⟨T,hT1,hT2,rfl,hb2⟩; have HT:=veil (And.intro hT1 hT2); clear hT1 hT2; obtain ⟨hc2,hf2,hl2⟩:=zbu hb2)))
  all_goals rename (_ ∧ Below wq.heap.size wq _) => hH
  ·
   go_wp2
   go_meet
   exact ⟨_,_,_,rfl,rfl,HT.out.1,HT.out.2,(Nat.le_trans hb1.size hb2.size),zae (n:=4) rfl rfl (arr4 fun j => .int .u64 (wd T j)),hH.2⟩
  ·
   go_wp2
   go_meet
   exact ⟨_,_,_,rfl,rfl,HT.out.1,HT.out.2,hb1.size,put4 (zaa (zae (n:=4) (f:=fun _ => .int .u64 0) rfl rfl (arr4 fun _ => .int .u64 0)) hb2 (by simp)) (fun j => .int .u64 (wd T j)),hH.2⟩
  ·
   go_wp2
   go_meet
   exact ⟨_,_,_,rfl,rfl,HT.out.1,HT.out.2,Nat.le_refl _,put4 (zaa (zaa (zae (n:=4) (f:=fun _ => .int .u64 0) rfl rfl (arr4 fun _ => .int .u64 0)).drew hb1 (by simp)) hb2 (Nat.lt_of_lt_of_le (by simp) hb1.size)) (fun j => .int .u64 (wd T j)),hH.2⟩
 case rest =>
  obtain ⟨T,g7,bi,rfl,rfl,hT1,hT2,_,hT,hb⟩:=hcut
  clear d0 d1 d2 d3 m6 HP HI
  replace hA:=zaa hA hb hA.lt
  replace hC:=zaa hC hb hC.lt
  replace hR:=zaa hR hb hR.lt
  replace hU:=zaa hU hb hU.lt
  replace hB:=hB.trans (hb.mono hB.size)
  clear hb
  clear hD
  obtain ⟨L,hL⟩ : ∃ L,L = U * T % Pt.pp:=⟨_,rfl⟩
  obtain ⟨Q,hQ⟩ : ∃ Q,Q = L * L % Pt.pp:=⟨_,rfl⟩
  obtain ⟨R1,hR1⟩ : ∃ R,R = (Q + Pt.pp - X1) % Pt.pp:=⟨_,rfl⟩
  obtain ⟨X3,hX3⟩ : ∃ R,R = (R1 + Pt.pp - X1) % Pt.pp:=⟨_,rfl⟩
  obtain ⟨E1,hE1⟩ : ∃ R,R = (X1 + Pt.pp - X3) % Pt.pp:=⟨_,rfl⟩
  obtain ⟨F1,hF1⟩ : ∃ R,R = L * E1 % Pt.pp:=⟨_,rfl⟩
  obtain ⟨Y3,hY3⟩ : ∃ R,R = (F1 + Pt.pp - Y1) % Pt.pp:=⟨_,rfl⟩
  have hx : x3 U T X1 X1 = X3:=by unfold x3; rw [← hL,← hQ,← hR1,← hX3]
  have hy : y3 U T X1 Y1 X1 = Y3:=by unfold y3; rw [hx,← hL,← hE1,← hF1,← hY3]
  have hmod : ∀ a,a % Pt.pp < Pt.pp:=fun a => Nat.mod_lt _ zgj
  have lt : T < top:=Nat.lt_trans hT1 zbb
  have lL : L < Pt.pp:=by rw [hL]; exact hmod _
  have lQ : Q < Pt.pp:=by rw [hQ]; exact hmod _
  have lR1 : R1 < Pt.pp:=by rw [hR1]; exact hmod _
  have lX3 : X3 < Pt.pp:=by rw [hX3]; exact hmod _
  have lE1 : E1 < Pt.pp:=by rw [hE1]; exact hmod _
  have lF1 : F1 < Pt.pp:=by rw [hF1]; exact hmod _
  have J1:=veil (show ∀ W,Calls Tryz.prog 42 #[.agg #[vI vU (wd U 0),vI vU (wd U 1),vI vU (wd U 2),vI vU (wd U 3)],.agg #[vI vU (wd T 0),vI vU (wd T 1),vI vU (wd T 2),vI vU (wd T 3)]] W fun e W' => e = .returned (.agg #[vI vU (wd L 0),vI vU (wd L 1),vI vU (wd L 2),vI vU (wd L 3)]) ∧ Below W.heap.size W W' from fun W => zdq U T L HLT.out.2.2.2.2 lt hL W)
  have J2:=veil (show ∀ W,Calls Tryz.prog 42 #[.agg #[vI vU (wd L 0),vI vU (wd L 1),vI vU (wd L 2),vI vU (wd L 3)],.agg #[vI vU (wd L 0),vI vU (wd L 1),vI vU (wd L 2),vI vU (wd L 3)]] W fun e W' => e = .returned (.agg #[vI vU (wd Q 0),vI vU (wd Q 1),vI vU (wd Q 2),vI vU (wd Q 3)]) ∧ Below W.heap.size W W' from fun W => zdq L L Q lL (Nat.lt_trans lL zbb) hQ W)
  have J3:=veil (show ∀ W,Calls Tryz.prog 44 #[.agg #[vI vU (wd Q 0),vI vU (wd Q 1),vI vU (wd Q 2),vI vU (wd Q 3)],.agg #[vI vU (wd X1 0),vI vU (wd X1 1),vI vU (wd X1 2),vI vU (wd X1 3)]] W fun e W' => e = .returned (.agg #[vI vU (wd R1 0),vI vU (wd R1 1),vI vU (wd R1 2),vI vU (wd R1 3)]) ∧ Below W.heap.size W W' from fun W => zcq Q X1 R1 lQ HLT.out.1 hR1 W)
  have J4:=veil (show ∀ W,Calls Tryz.prog 44 #[.agg #[vI vU (wd R1 0),vI vU (wd R1 1),vI vU (wd R1 2),vI vU (wd R1 3)],.agg #[vI vU (wd X1 0),vI vU (wd X1 1),vI vU (wd X1 2),vI vU (wd X1 3)]] W fun e W' => e = .returned (.agg #[vI vU (wd X3 0),vI vU (wd X3 1),vI vU (wd X3 2),vI vU (wd X3 3)]) ∧ Below W.heap.size W W' from fun W => zcq R1 X1 X3 lR1 HLT.out.2.2.1 hX3 W)
  have J5:=veil (show ∀ W,Calls Tryz.prog 44 #[.agg #[vI vU (wd X1 0),vI vU (wd X1 1),vI vU (wd X1 2),vI vU (wd X1 3)],.agg #[vI vU (wd X3 0),vI vU (wd X3 1),vI vU (wd X3 2),vI vU (wd X3 3)]] W fun e W' => e = .returned (.agg #[vI vU (wd E1 0),vI vU (wd E1 1),vI vU (wd E1 2),vI vU (wd E1 3)]) ∧ Below W.heap.size W W' from fun W => zcq X1 X3 E1 HLT.out.1 lX3 hE1 W)
  have J6:=veil (show ∀ W,Calls Tryz.prog 42 #[.agg #[vI vU (wd L 0),vI vU (wd L 1),vI vU (wd L 2),vI vU (wd L 3)],.agg #[vI vU (wd E1 0),vI vU (wd E1 1),vI vU (wd E1 2),vI vU (wd E1 3)]] W fun e W' => e = .returned (.agg #[vI vU (wd F1 0),vI vU (wd F1 1),vI vU (wd F1 2),vI vU (wd F1 3)]) ∧ Below W.heap.size W W' from fun W => zdq L E1 F1 lL (Nat.lt_trans lE1 zbb) hF1 W)
  have J7:=veil (show ∀ W,Calls Tryz.prog 44 #[.agg #[vI vU (wd F1 0),vI vU (wd F1 1),vI vU (wd F1 2),vI vU (wd F1 3)],.agg #[vI vU (wd Y1 0),vI vU (wd Y1 1),vI vU (wd Y1 2),vI vU (wd Y1 3)]] W fun e W' => e = .returned (.agg #[vI vU (wd Y3 0),vI vU (wd Y3 1),vI vU (wd Y3 2),vI vU (wd Y3 3)]) ∧ Below W.heap.size W W' from fun W => zcq F1 Y1 Y3 lF1 HLT.out.2.1 hY3 W)
  have HXY:=veil (And.intro hx (And.intro hy (And.intro hT1 hT2)))
  clear hL hQ hR1 hX3 hE1 hF1 hY3 hx hy hmod lt lL lQ lR1 lX3 lE1 lF1 hT1 hT2
  obtain ⟨u0,u1,u2,u3⟩:=zac hU
  obtain ⟨t0,t1,t2,t3⟩:=zac hT
  go_wp2_with fail
  refine (J1.out _).mono ?_
  rintro e w13 ⟨rfl,hb⟩
  clear u0 u1 u2 u3 t0 t1 t2 t3 hU hT
  replace hA:=zaa hA hb hA.lt
  replace hC:=zaa hC hb hC.lt
  replace hR:=zaa hR hb hR.lt
  replace hB:=hB.trans (hb.mono hB.size)
  clear hb
  go_upto_region 14 with (fail)
  have n9:=hR.lt
  replace hA:=hA.alloc (.cells #[vI vU (wd L 0),vI vU (wd L 1),vI vU (wd L 2),vI vU (wd L 3)] 27)
  replace hC:=hC.alloc (.cells #[vI vU (wd L 0),vI vU (wd L 1),vI vU (wd L 2),vI vU (wd L 3)] 27)
  replace hR:=hR.alloc (.cells #[vI vU (wd L 0),vI vU (wd L 1),vI vU (wd L 2),vI vU (wd L 3)] 27)
  have hL : (w13.alloc (.cells #[vI vU (wd L 0),vI vU (wd L 1),vI vU (wd L 2),vI vU (wd L 3)] 27)).rowIs w13.heap.size 27 4 (fun j => .int .u64 (wd L j)):=zae (n:=4) rfl rfl (arr4 fun j => .int .u64 (wd L j))
  replace hB:=hB.alloc hB.size (.cells #[vI vU (wd L 0),vI vU (wd L 1),vI vU (wd L 2),vI vU (wd L 3)] 27)
  generalize w13.alloc (.cells #[vI vU (wd L 0),vI vU (wd L 1),vI vU (wd L 2),vI vU (wd L 3)] 27) = w14 at *
  generalize w13.heap.size = g9 at *
  obtain ⟨l0,l1,l2,l3⟩:=zac hL
  obtain ⟨x0,x1,x2,x3'⟩:=pt_x hA
  obtain ⟨c0,c1,c2,c3⟩:=pt_x hC
  have m1:=hA.lt
  have m2:=hC.lt
  have m3:=hL.lt
  go_cut [10] from 59 to 67 (fun v10 wx => ∃ g : Nat,v10 = .pointer (some ⟨g,0,none⟩) ∧ w14.heap.size ≤ g ∧ wx.rowIs g 27 4 (fun j => .int .u64 (wd X3 j)) ∧ Below w14.heap.size w14 wx)
  case first =>
   clear hA hC hR hL hB
   go_region_held3 (fun w' => (∀ b o,b < w14.heap.size → w'.cell? ⟨b,o,none⟩ = w14.cell? ⟨b,o,none⟩) ∧ Below w14.heap.size w14 w')
    (first
     | (with_reducible assumption)
     | (with_reducible exact zcm _)
     | (with_reducible exact zem _)
     | (with_reducible exact zdw _ (by assumption))
     | ((with_reducible refine zfr (by assumption) ?_); first | exact Nat.le_refl _ | exact hb1.size | exact (Nat.le_trans hb1.size hb2.size) | exact (Nat.le_trans (Nat.le_trans hb1.size hb2.size) hb3.size))
     | ((with_reducible refine zfs ?_ (by assumption)); first | exact Nat.le_refl _ | exact hb1.size | exact (Nat.le_trans hb1.size hb2.size) | exact (Nat.le_trans (Nat.le_trans hb1.size hb2.size) hb3.size))
     | (with_reducible exact zct (by assumption) (by assumption))
     | (fail))
    (first
     | (go_at_call 42; ((with_reducible refine (J2.out _).mono ?_); rintro e v1 ⟨rfl,hb1⟩; obtain ⟨hc1,hf1,hl1⟩:=zbu hb1))
     | (go_at_call 44; first | ((with_reducible refine (J3.out _).mono ?_); rintro e v2 ⟨rfl,hb2⟩; obtain ⟨hc2,hf2,hl2⟩:=zbu hb2; try have hl2':=fun b h => hl2 b (hl1 b h)) | ((with_reducible refine (J4.out _).mono ?_); rintro e v3 ⟨rfl,hb3⟩; obtain ⟨hc3,hf3,hl3⟩:=zbu hb3)))
   all_goals rename (_ ∧ Below w14.heap.size w14 _) => hH
   ·
    go_wp2
    go_meet
    exact ⟨_,rfl,(Nat.le_trans (Nat.le_trans hb1.size hb2.size) hb3.size),zae (n:=4) rfl rfl (arr4 fun j => .int .u64 (wd X3 j)),hH.2⟩
   ·
    go_wp2
    go_meet
    exact ⟨_,rfl,(Nat.le_trans hb1.size hb2.size),put4 (zaa (zae (n:=4) (f:=fun _ => .int .u64 0) rfl rfl (arr4 fun _ => .int .u64 0)) hb3 (by simp)) (fun j => .int .u64 (wd X3 j)),hH.2⟩
   ·
    go_wp2
    go_meet
    exact ⟨_,rfl,hb1.size,put4 (zaa (zaa (zae (n:=4) (f:=fun _ => .int .u64 0) rfl rfl (arr4 fun _ => .int .u64 0)) hb2 (by simp)) hb3 (Nat.lt_of_lt_of_le (by simp) hb2.size)) (fun j => .int .u64 (wd X3 j)),hH.2⟩
   ·
    go_wp2
    go_meet
    exact ⟨_,rfl,Nat.le_refl _,put4 (zaa (zaa (zaa (zae (n:=4) (f:=fun _ => .int .u64 0) rfl rfl (arr4 fun _ => .int .u64 0)).drew hb1 (by simp)) hb2 (Nat.lt_of_lt_of_le (by simp) hb1.size)) hb3 (Nat.lt_of_lt_of_le (Nat.lt_of_lt_of_le (by simp) hb1.size) hb2.size)) (fun j => .int .u64 (wd X3 j)),hH.2⟩
  case rest =>
   obtain ⟨g10,rfl,n10,hX,hb⟩:=hcut
   clear l0 l1 l2 l3 x0 x1 x2 x3' c0 c1 c2 c3 m1 m2 m3
   have nR:=hR.lt
   replace hA:=zaa hA hb hA.lt
   replace hL:=zaa hL hb hL.lt
   replace hR:=zaa hR hb hR.lt
   replace hB:=hB.trans (hb.mono hB.size)
   clear hb
   clear hC
   go_upto_region 15 with (fail)
   obtain ⟨l0,l1,l2,l3⟩:=zac hL
   obtain ⟨x0,x1,x2,x3'⟩:=pt_x hA
   obtain ⟨y0,y1,y2,y3'⟩:=pt_y hA
   obtain ⟨k0,k1,k2,k3⟩:=zac hX
   have m1:=hA.lt
   have m2:=hL.lt
   have m3:=hX.lt
   have sB : ∀ W,Bt (w.heap.size + 1 + 1) 29 9 wc W → (Bt (w.heap.size + 1 + 1) 29 9 wc W ∧ W.cell? ⟨g10,0,none⟩ = some (vI vU (wd X3 0)) ∧ W.cell? ⟨g10,1,none⟩ = some (vI vU (wd X3 1)) ∧ W.cell? ⟨g10,2,none⟩ = some (vI vU (wd X3 2)) ∧ W.cell? ⟨g10,3,none⟩ = some (vI vU (wd X3 3)) ∧ W.cell? ⟨g9,0,none⟩ = some (vI vU (wd L 0)) ∧ W.cell? ⟨g9,1,none⟩ = some (vI vU (wd L 1)) ∧ W.cell? ⟨g9,2,none⟩ = some (vI vU (wd L 2)) ∧ W.cell? ⟨g9,3,none⟩ = some (vI vU (wd L 3)) ∧ W.cell? ⟨w.heap.size,0,none⟩ = some (vI vU (wd X1 0)) ∧ W.cell? ⟨w.heap.size,1,none⟩ = some (vI vU (wd X1 1)) ∧ W.cell? ⟨w.heap.size,2,none⟩ = some (vI vU (wd X1 2)) ∧ W.cell? ⟨w.heap.size,3,none⟩ = some (vI vU (wd X1 3)) ∧ W.cell? ⟨w.heap.size,4,none⟩ = some (vI vU (wd Y1 0)) ∧ W.cell? ⟨w.heap.size,5,none⟩ = some (vI vU (wd Y1 1)) ∧ W.cell? ⟨w.heap.size,6,none⟩ = some (vI vU (wd Y1 2)) ∧ W.cell? ⟨w.heap.size,7,none⟩ = some (vI vU (wd Y1 3))):=fun W hB => ⟨hB,(hB.cell m3 (by omega)).trans k0,(hB.cell m3 (by omega)).trans k1,(hB.cell m3 (by omega)).trans k2,(hB.cell m3 (by omega)).trans k3,(hB.cell m2 (by omega)).trans l0,(hB.cell m2 (by omega)).trans l1,(hB.cell m2 (by omega)).trans l2,(hB.cell m2 (by omega)).trans l3,(hB.cell m1 (by omega)).trans x0,(hB.cell m1 (by omega)).trans x1,(hB.cell m1 (by omega)).trans x2,(hB.cell m1 (by omega)).trans x3',(hB.cell m1 (by omega)).trans y0,(hB.cell m1 (by omega)).trans y1,(hB.cell m1 (by omega)).trans y2,(hB.cell m1 (by omega)).trans y3'⟩
   have hS0:=sB wc (.of hR (But.refl _ _))
   have SB:=veil sB
   have HBB:=veil hB
   clear sB hB hA hL hX hR
   refine wp_region_held_drew (S:=fun W => Bt (w.heap.size + 1 + 1) 29 9 wc W ∧ W.cell? ⟨g10,0,none⟩ = some (vI vU (wd X3 0)) ∧ W.cell? ⟨g10,1,none⟩ = some (vI vU (wd X3 1)) ∧ W.cell? ⟨g10,2,none⟩ = some (vI vU (wd X3 2)) ∧ W.cell? ⟨g10,3,none⟩ = some (vI vU (wd X3 3)) ∧ W.cell? ⟨g9,0,none⟩ = some (vI vU (wd L 0)) ∧ W.cell? ⟨g9,1,none⟩ = some (vI vU (wd L 1)) ∧ W.cell? ⟨g9,2,none⟩ = some (vI vU (wd L 2)) ∧ W.cell? ⟨g9,3,none⟩ = some (vI vU (wd L 3)) ∧ W.cell? ⟨w.heap.size,0,none⟩ = some (vI vU (wd X1 0)) ∧ W.cell? ⟨w.heap.size,1,none⟩ = some (vI vU (wd X1 1)) ∧ W.cell? ⟨w.heap.size,2,none⟩ = some (vI vU (wd X1 2)) ∧ W.cell? ⟨w.heap.size,3,none⟩ = some (vI vU (wd X1 3)) ∧ W.cell? ⟨w.heap.size,4,none⟩ = some (vI vU (wd Y1 0)) ∧ W.cell? ⟨w.heap.size,5,none⟩ = some (vI vU (wd Y1 1)) ∧ W.cell? ⟨w.heap.size,6,none⟩ = some (vI vU (wd Y1 2)) ∧ W.cell? ⟨w.heap.size,7,none⟩ = some (vI vU (wd Y1 3))) (by kernel_rfl) (SB.out _ hS0.1.drew) (fun hH => ?_)
   repeat
    ((first
      | (refine wpAnyH_take (i:=0) (v:=.agg #[vI vU (wd X3 0),vI vU (wd X3 1),vI vU (wd X3 2),vI vU (wd X3 3)]) rfl (by kernel_rfl) (by kernel_rfl) (by decide +kernel) (fun _ _ _ h => h) (Or.inl ⟨by rfl,fun W hSw => (by dsimp only at hSw; go_simp)⟩) (by with_reducible assumption) ?_)
      | (refine wpAnyH_take (i:=1) (v:=.agg #[vI vU (wd L 0),vI vU (wd L 1),vI vU (wd L 2),vI vU (wd L 3)]) rfl (by kernel_rfl) (by kernel_rfl) (by decide +kernel) (fun _ _ _ h => h) (Or.inl ⟨by rfl,fun W hSw => (by dsimp only at hSw; go_simp)⟩) (by with_reducible assumption) ?_)
      | (refine wpAnyH_take (i:=2) (v:=.pointer (some ⟨w.heap.size,0,none⟩)) rfl (by kernel_rfl) (by kernel_rfl) (by decide +kernel) (fun _ _ _ h => h) (Or.inl ⟨by rfl,fun W hSw => (by dsimp only at hSw; go_simp)⟩) (by with_reducible assumption) ?_)
      | (refine wpAnyH_take (i:=3) (v:=.agg #[vI vU (wd X1 0),vI vU (wd X1 1),vI vU (wd X1 2),vI vU (wd X1 3)]) rfl (by kernel_rfl) (by kernel_rfl) (by decide +kernel) (fun _ _ _ h => h) (Or.inl ⟨by rfl,fun W hSw => (by dsimp only at hSw; go_simp)⟩) (by with_reducible assumption) ?_)
      | (refine wpAnyH_take (i:=4) (v:=.agg #[vI vU (wd X3 0),vI vU (wd X3 1),vI vU (wd X3 2),vI vU (wd X3 3)]) rfl (by kernel_rfl) (by kernel_rfl) (by decide +kernel) (fun _ _ _ h => h) (Or.inl ⟨by rfl,fun W hSw => (by dsimp only at hSw; go_simp)⟩) (by with_reducible assumption) ?_)
      | (refine wpAnyH_ready (rs:=[5]) (by decide +kernel) (by simp) ?_; refine AllReadyH.cons rfl (fun K hK => ?_) AllReadyH.nil; go_simp; (with_reducible refine (J5.out _).mono ?_); rintro e w15 ⟨rfl,hb⟩; have hb1:=hS0.1.drew.call hb; clear hb; refine hK.out _ _ (SB.out _ hb1) (fun hH => ?_); clear hK K)
      | (refine wpAnyH_ready (rs:=[6]) (by decide +kernel) (by simp) ?_; refine AllReadyH.cons rfl (fun K hK => ?_) AllReadyH.nil; go_simp; (with_reducible refine (J6.out _).mono ?_); rintro e w16 ⟨rfl,hb⟩; have hb2:=hb1.call hb; clear hb; refine hK.out _ _ (SB.out _ hb2) (fun hH => ?_); clear hK K)
      | (refine wpAnyH_take (i:=7) (v:=.pointer (some ⟨w.heap.size,4,none⟩)) rfl (by kernel_rfl) (by kernel_rfl) (by decide +kernel) (fun _ _ _ h => h) (Or.inl ⟨by rfl,fun W hSw => (by dsimp only at hSw; go_simp)⟩) (by with_reducible assumption) ?_)
      | (refine wpAnyH_take (i:=8) (v:=.agg #[vI vU (wd Y1 0),vI vU (wd Y1 1),vI vU (wd Y1 2),vI vU (wd Y1 3)]) rfl (by kernel_rfl) (by kernel_rfl) (by decide +kernel) (fun _ _ _ h => h) (Or.inl ⟨by rfl,fun W hSw => (by dsimp only at hSw; go_simp)⟩) (by with_reducible assumption) ?_)
      | (refine wpAnyH_ready (rs:=[9]) (by decide +kernel) (by simp) ?_; refine AllReadyH.cons rfl (fun K hK => ?_) AllReadyH.nil; go_simp; (with_reducible refine (J7.out _).mono ?_); rintro e w17 ⟨rfl,hb⟩; have hb3:=hb2.call hb; clear hb; obtain ⟨fz,hz⟩:=hb3.2; have HZ:=veil (blkOf hz); clear hz; refine hK.out _ _ (SB.out _ hb3) (fun hH => ?_); clear hK K)
      | (refine wpAnyH_take (i:=10) (v:=.agg #[vI vU (wd X3 0),vI vU (wd X3 1),vI vU (wd X3 2),vI vU (wd X3 3),vI vU (wd Y3 0),vI vU (wd Y3 1),vI vU (wd Y3 2),vI vU (wd Y3 3),.bool (false)]) rfl (by kernel_rfl) (by kernel_rfl) (by decide +kernel) (fun _ _ _ h => h) (Or.inl ⟨by rfl,fun W hSw => (by dsimp only at hSw; go_simp)⟩) (by with_reducible assumption) ?_)
      | (refine wpAnyH_ready (rs:=[11]) (by decide +kernel) (by simp) ?_; refine AllReadyH.cons rfl (fun K hK => ?_) AllReadyH.nil; refine zfv rfl 29 _ _ rfl (w.heap.size + 1 + 1) #[vI vU (wd X3 0),vI vU (wd X3 1),vI vU (wd X3 2),vI vU (wd X3 3),vI vU (wd Y3 0),vI vU (wd Y3 1),vI vU (wd Y3 2),vI vU (wd Y3 3),.bool (false)] rfl rfl 29 _ HZ.out zbd (by rw [zaz]; rfl) (one9 X3 Y3 false) ?_; refine hK.out _ _ (SB.out _ (hb3.setRow rfl)) (fun hH => ?_); clear hK K)
      | fail);
     try simp only [Act.put,List.setIfInBounds_toArray,List.set_cons_zero,List.set_cons_succ,List.getElem_toArray,List.getElem_cons_zero,List.getElem_cons_succ])
   refine wpAnyH_done (by decide +kernel) ?_ _
   have HFIN:=veil (setRow_heap _ (w.heap.size + 1 + 1) _ #[vI vU (wd X3 0),vI vU (wd X3 1),vI vU (wd X3 2),vI vU (wd X3 3),vI vU (wd Y3 0),vI vU (wd Y3 1),vI vU (wd Y3 2),vI vU (wd Y3 3),.bool (false)] 29 (0,0) HZ.out)
   clear hH
   go_wp2
   exact bodyPost_ret (results_cell_row rfl _ _ (w.heap.size + 1 + 1) 29 #[vI vU (wd X3 0),vI vU (wd X3 1),vI vU (wd X3 2),vI vU (wd X3 3),vI vU (wd Y3 0),vI vU (wd Y3 1),vI vU (wd Y3 2),vI vU (wd Y3 3),.bool (false)] (0,0) _ rfl HFIN.out Tryz.underlying29 rfl zbd) rfl ⟨T,HXY.out.2.2.1,HXY.out.2.2.2,by rw [HXY.out.1,HXY.out.2.1],HBB.out.trans ((hb3.setRow (cs:=#[vI vU (wd X3 0),vI vU (wd X3 1),vI vU (wd X3 2),vI vU (wd X3 3),vI vU (wd Y3 0),vI vU (wd Y3 1),vI vU (wd Y3 2),vI vU (wd Y3 3),.bool (false)]) rfl).below (by omega) HBB.out.size)⟩
theorem zfu : ((0 : Fin Pt.pp)).val = 0:=Fin.val_zero _
theorem v_one : ((1 : Fin Pt.pp)).val = 1:=Pt.val_one pp_one
theorem v_three : ((3 : Fin Pt.pp)).val = 3:=by
 rw [← Pt.F_three]
 exact Nat.mod_eq_of_lt three_lt
theorem x3_val {U T : Nat} {l : Fin Pt.pp} (x1 x2 : Fin Pt.pp) (h : U * T % Pt.pp = l.val) : x3 U T x1.val x2.val = (l * l - x1 - x2).val:=by
 unfold x3
 rw [h,Pt.v_mul,Pt.v_sub,Pt.v_sub]
theorem y3_val {U T : Nat} {l : Fin Pt.pp} (x1 y1 x2 : Fin Pt.pp) (h : U * T % Pt.pp = l.val) : y3 U T x1.val y1.val x2.val = (l * (x1 - (l * l - x1 - x2)) - y1).val:=by
 unfold y3
 rw [x3_val x1 x2 h,h,Pt.v_sub,Pt.v_mul,Pt.v_sub]
theorem p_top (p : Pt.P Pt.pp) : Pt.pX p < top ∧ Pt.pY p < top:=⟨Nat.lt_trans (Pt.pX_lt p) zbb,Nat.lt_trans (Pt.pY_lt p) zbb⟩
theorem zht (p q : Pt.Q) (w : World) :
  Calls Tryz.prog 102 #[.agg #[vI vU (wd (Pt.pX p.1) 0),vI vU (wd (Pt.pX p.1) 1),vI vU (wd (Pt.pX p.1) 2),vI vU (wd (Pt.pX p.1) 3),vI vU (wd (Pt.pY p.1) 0),vI vU (wd (Pt.pY p.1) 1),vI vU (wd (Pt.pY p.1) 2),vI vU (wd (Pt.pY p.1) 3),.bool (Pt.pFar p.1)],.agg #[vI vU (wd (Pt.pX q.1) 0),vI vU (wd (Pt.pX q.1) 1),vI vU (wd (Pt.pX q.1) 2),vI vU (wd (Pt.pX q.1) 3),vI vU (wd (Pt.pY q.1) 0),vI vU (wd (Pt.pY q.1) 1),vI vU (wd (Pt.pY q.1) 2),vI vU (wd (Pt.pY q.1) 3),.bool (Pt.pFar q.1)]] w fun e w' => e = .returned (.agg #[vI vU (wd (Pt.pX (Pt.grp.op p q).1) 0),vI vU (wd (Pt.pX (Pt.grp.op p q).1) 1),vI vU (wd (Pt.pX (Pt.grp.op p q).1) 2),vI vU (wd (Pt.pX (Pt.grp.op p q).1) 3),vI vU (wd (Pt.pY (Pt.grp.op p q).1) 0),vI vU (wd (Pt.pY (Pt.grp.op p q).1) 1),vI vU (wd (Pt.pY (Pt.grp.op p q).1) 2),vI vU (wd (Pt.pY (Pt.grp.op p q).1) 3),.bool (Pt.pFar (Pt.grp.op p q).1)]) ∧ Below w.heap.size w w':=by
 obtain ⟨p,hp⟩:=p
 obtain ⟨q,hq⟩:=q
 show Calls Tryz.prog 102 #[.agg #[vI vU (wd (Pt.pX p) 0),vI vU (wd (Pt.pX p) 1),vI vU (wd (Pt.pX p) 2),vI vU (wd (Pt.pX p) 3),vI vU (wd (Pt.pY p) 0),vI vU (wd (Pt.pY p) 1),vI vU (wd (Pt.pY p) 2),vI vU (wd (Pt.pY p) 3),.bool (Pt.pFar p)],.agg #[vI vU (wd (Pt.pX q) 0),vI vU (wd (Pt.pX q) 1),vI vU (wd (Pt.pX q) 2),vI vU (wd (Pt.pX q) 3),vI vU (wd (Pt.pY q) 0),vI vU (wd (Pt.pY q) 1),vI vU (wd (Pt.pY q) 2),vI vU (wd (Pt.pY q) 3),.bool (Pt.pFar q)]] w fun e w' => e = .returned (.agg #[vI vU (wd (Pt.pX (Pt.E256.add p q)) 0),vI vU (wd (Pt.pX (Pt.E256.add p q)) 1),vI vU (wd (Pt.pX (Pt.E256.add p q)) 2),vI vU (wd (Pt.pX (Pt.E256.add p q)) 3),vI vU (wd (Pt.pY (Pt.E256.add p q)) 0),vI vU (wd (Pt.pY (Pt.E256.add p q)) 1),vI vU (wd (Pt.pY (Pt.E256.add p q)) 2),vI vU (wd (Pt.pY (Pt.E256.add p q)) 3),.bool (Pt.pFar (Pt.E256.add p q))]) ∧ Below w.heap.size w w'
 rcases p with _ | ⟨x1,y1⟩
 ·
  rw [Pt.none_add]
  exact radd_far1 0 0 (Pt.pX q) (Pt.pY q) (Pt.pFar q) w
 ·
  rcases q with _ | ⟨x2,y2⟩
  ·
   rw [Pt.add_none]
   exact radd_far2 x1.val y1.val 0 0 w
  ·
   by_cases h : x1 = x2 ∧ y1 = 0 - y2
   ·
    rw [Pt.add_far h]
    have e:=radd_opp x1.val y1.val x2.val y2.val (p_top (some (x1,y1))).1 (p_top (some (x1,y1))).2 (p_top (some (x2,y2))).1 y2.isLt ⟨by rw [h.1],by rw [← zfu,Pt.v_sub,← h.2]⟩ w
    rw [← far_pt] at e
    exact e
   ·
    rw [Pt.add_near h]
    by_cases hs : x1 = x2 ∧ y1 = y2
    ·
     obtain ⟨rfl,rfl⟩:=hs
     have hn : ¬ y1.val = (0 + Pt.pp - y1.val) % Pt.pp:=fun e => h ⟨rfl,Fin.ext (by rw [← Pt.v_sub,zfu]; exact e)⟩
     have hB : ((x1 * x1).val + Pt.pp - 1) % Pt.pp = (x1 * x1 - 1).val:=by rw [← Pt.v_sub,v_one]
     have hU : 3 * (x1 * x1 - 1).val % Pt.pp = (3 * (x1 * x1 - 1)).val:=by rw [← Pt.v_mul,v_three]
     refine (radd_same x1.val y1.val (x1 * x1).val (x1 * x1 - 1).val (3 * (x1 * x1 - 1)).val (y1 + y1).val x1.isLt y1.isLt hn (Pt.v_mul _ _).symm hB.symm hU.symm (Pt.v_add _ _).symm w).mono ?_
     rintro e w' ⟨T,hT1,hT2,rfl,hb⟩
     have hT:=Pt.v_inv hT1 (hT2 (Pt.v_gcd (Pt.down_same hp)))
     have hl : (3 * (x1 * x1 - 1)).val * T % Pt.pp = (Pt.E256.lam x1 y1 x1 y1).val:=by rw [hT,Pt.v_mul,Pt.lam_same]
     rw [x3_val x1 x1 hl,y3_val x1 y1 x1 hl]
     exact ⟨rfl,hb⟩
    ·
     have hn : ¬ (x1.val = x2.val ∧ y1.val = (0 + Pt.pp - y2.val) % Pt.pp):=fun e => h ⟨Fin.ext e.1,Fin.ext (by rw [← Pt.v_sub,zfu]; exact e.2)⟩
     have hs' : ¬ (x1.val = x2.val ∧ y1.val = y2.val):=fun e => hs ⟨Fin.ext e.1,Fin.ext e.2⟩
     refine (radd_else x1.val y1.val x2.val y2.val (y2 - y1).val (x2 - x1).val x1.isLt y1.isLt x2.isLt y2.isLt hn hs' (Pt.v_sub _ _).symm (Pt.v_sub _ _).symm w).mono ?_
     rintro e w' ⟨T,hT1,hT2,rfl,hb⟩
     have hT:=Pt.v_inv hT1 (hT2 (Pt.v_gcd (Pt.down_else hp hq h hs)))
     have hl : (y2 - y1).val * T % Pt.pp = (Pt.E256.lam x1 y1 x2 y2).val:=by rw [hT,Pt.v_mul,Pt.lam_else hs]
     rw [x3_val x1 x2 hl,y3_val x1 y1 x2 hl]
     exact ⟨rfl,hb⟩
theorem right_val (x : Fin Pt.pp) : rightN x.val = (x * x * x - 3 * x + Pt.F Pt.bb).val:=by
 unfold rightN
 have e3 : 3 * x.val % Pt.pp = (3 * x).val:=by rw [← Pt.v_mul,v_three]
 have eb : Pt.bb = (Pt.F Pt.bb : Fin Pt.pp).val:=(Nat.mod_eq_of_lt bb_lt).symm
 rw [e3,Pt.v_mul,Pt.v_mul,Pt.v_sub]
 conv => lhs; rw [eb]
 rw [Pt.v_add]
theorem onB_iff (X Y : Nat) (f : Bool) : onB X Y f = true ↔ Pt.isOn X Y f:=by
 unfold onB Pt.isOn
 cases f with
 | true => simp
 | false =>
  simp only [Bool.false_eq_true,if_false,Bool.and_eq_true,decide_eq_true_eq]
  constructor
  ·
   rintro ⟨hx,hy,h⟩
   refine ⟨hx,hy,(Pt.on_iff _ _).2 (Fin.ext ?_)⟩
   have ex : X = (Pt.F X : Fin Pt.pp).val:=(Nat.mod_eq_of_lt hx).symm
   have ey : Y = (Pt.F Y : Fin Pt.pp).val:=(Nat.mod_eq_of_lt hy).symm
   rw [← Pt.v_mul,← right_val,← ex,← ey]
   exact h
  ·
   rintro ⟨hx,hy,h⟩
   refine ⟨hx,hy,?_⟩
   have ex : X = (Pt.F X : Fin Pt.pp).val:=(Nat.mod_eq_of_lt hx).symm
   have ey : Y = (Pt.F Y : Fin Pt.pp).val:=(Nat.mod_eq_of_lt hy).symm
   have h2:=congrArg Fin.val ((Pt.on_iff _ _).1 h)
   rw [← Pt.v_mul,← right_val,← ex,← ey] at h2
   exact h2
theorem onB_some {X Y : Nat} {f : Bool} (h : onB X Y f = true) : ∃ q : Pt.Q,X = Pt.pX q.1 ∧ Y = Pt.pY q.1 ∧ f = Pt.pFar q.1:=(Pt.isOn_iff X Y f).1 ((onB_iff X Y f).1 h)
theorem onB_of (q : Pt.Q) : onB (Pt.pX q.1) (Pt.pY q.1) (Pt.pFar q.1) = true:=(onB_iff _ _ _).2 ((Pt.isOn_iff _ _ _).2 ⟨q,rfl,rfl,rfl⟩)
def bit (X n : Nat) : Bool:=X / 2 ^ n % 2 == 1
theorem w64_two : w64 = 2 ^ 64:=by decide
theorem w16_two : w16 = 2 ^ 16:=by decide
theorem bit_dg (a n r m : Nat) (hr : r < m) : a / (2 ^ m) ^ n % 2 ^ m / 2 ^ r % 2 = a / 2 ^ (m * n + r) % 2:=by
 have h:=zdk (B:=2) (a / (2 ^ m) ^ n) m r hr
 unfold dg at h
 rw [h,← Nat.pow_mul,Nat.div_div_eq_div_mul,← Nat.pow_add]
theorem bit_word (X n : Nat) : (bits BinOp.and IntKind.u64 (wd X (n / 64) / 2 ^ (n % 64)) 1 == 1) = bit X n:=by
 have e : wd X (n / 64) / 2 ^ (n % 64) = ((dg w64 X (n / 64) / 2 ^ (n % 64) : Nat) : Int):=by
  unfold wd
  rw [Int.natCast_ediv]
  simp
 have hlt : dg w64 X (n / 64) / 2 ^ (n % 64) < 18446744073709551616:=Nat.lt_of_le_of_lt (Nat.div_le_self _ _) (dg_lt zba X _)
 rw [e,show (1 : Int) = ((1 : Nat) : Int) from rfl,u64_and_nat _ _ hlt (by omega),Nat.and_one_is_mod]
 have h:=bit_dg X (n / 64) (n % 64) 64 (Nat.mod_lt _ (by omega))
 rw [Nat.div_add_mod] at h
 unfold bit dg
 rw [w64_two,h]
 rw [Bool.eq_iff_iff]
 simp only [beq_iff_eq]
 omega
def ph (X q k : Nat) : Int:=((dg w16 X q / 2 ^ k : Nat) : Int)
theorem ph_lo (X q k : Nat) : 0 ≤ ph X q k:=Int.natCast_nonneg _
theorem ph_lt (X q k : Nat) : ph X q k < 65536:=by
 have h : dg w16 X q / 2 ^ k < 65536:=Nat.lt_of_le_of_lt (Nat.div_le_self _ _) (dg_lt zkg X q)
 unfold ph; omega
theorem ph_zero (X q : Nat) : ph X q 0 = pt X q:=by simp [ph,pt]
theorem ph_succ (X q k : Nat) : ph X q (k + 1) = ph X q k / 2:=by
 unfold ph
 rw [Nat.pow_succ,← Nat.div_div_eq_div_mul,Int.natCast_ediv]
 rfl
theorem ph_bit (X n : Nat) : (ph X (n / 16) (n % 16) % 2 == 1) = bit X n:=by
 have h:=bit_dg X (n / 16) (n % 16) 16 (Nat.mod_lt _ (by omega))
 rw [Nat.div_add_mod] at h
 unfold bit ph dg
 rw [w16_two,← h]
 rw [Bool.eq_iff_iff]
 simp only [beq_iff_eq]
 omega
theorem bit_in (X n : Nat) (hn : n < 256) (w : World) :
  Calls Tryz.prog 120 #[.agg #[vI vU (wd X 0),vI vU (wd X 1),vI vU (wd X 2),vI vU (wd X 3)],.int .i64 (n : Int)] w fun e w' => e = .returned (.bool (bit X n)) ∧ Below w.heap.size w w':=by
 have hq : n / 64 < 4:=by omega
 have h0 : ¬ (n : Int) < 0:=by omega
 have h1 : ¬ (256 : Int) ≤ (n : Int):=by omega
 have hR : (w.alloc (.cells #[vI vU (wd X 0),vI vU (wd X 1),vI vU (wd X 2),vI vU (wd X 3)] 27)).rowIs w.heap.size 27 4 (fun j => .int .u64 (wd X j)):=zae (n:=4) (by simp) rfl (arr4 fun j => .int .u64 (wd X j))
 have c1:=hR.cell hq
 have l1:=wd_lo X (n / 64)
 have u1:=wd_le X (n / 64)
 clear hR
 go_enter Tryz.func120,Tryz.ntmps120
 go_wp2
 go_ret
 rw [← bit_word]
 exact ⟨rfl,(Below.refl _ _).alloc (Nat.le_refl _) _⟩
theorem zfm {a b : Int} (h : a = b) : Ending.returned (.int .i64 a) = .returned (.int .i64 b):=by rw [h]
theorem zfa (k i : Nat) (hi : i < 256) (hk : k ≤ 56) : wrap64 ((k : Int) + wrap64 (bitLen i : Int)) = ((k + bitLen i : Nat) : Int):=by
 have:=bitLen_le8 i hi
 rw [IntWalk.wrap64_in (bitLen i : Int) (by omega),IntWalk.wrap64_in _ (by omega)]
 omega
theorem zdz (x b : Nat) (h : 2 ^ b ≤ x) : bitLen x = b + bitLen (x / 2 ^ b) :=
 bitLen_shift x b (by have:=Nat.div_pos h (Nat.two_pow_pos b); omega)
theorem len64_0 (x : Int) (hl : 0 ≤ x) (hu : x ≤ 255) (w : World) : Calls Tryz.prog 159 #[vI vU x] w fun e w' => e = .returned (.int .i64 (bitLen x.toNat)) ∧ w' = w:=by
 have h1 : x ≤ 4294967295:=by omega
 have h2 : x ≤ 65535:=by omega
 have h3 : x ≤ 255:=by omega
 have h0 : 0 ≤ x:=by omega
 clear hu hl
 go_enter Tryz.func159,Tryz.ntmps159
 go_wp2
 go_ret
 refine ⟨zfm ?_,rfl⟩
 rw [len8tab_get]
 have h:=zfa 0 x.toNat (by omega) (by omega)
 simpa using h
theorem len64_8 (x : Int) (hl : 256 ≤ x) (hu : x ≤ 65535) (w : World) : Calls Tryz.prog 159 #[vI vU x] w fun e w' => e = .returned (.int .i64 (bitLen x.toNat)) ∧ w' = w:=by
 have h1 : x ≤ 4294967295:=by omega
 have h2 : x ≤ 65535:=by omega
 have h3 : (256 : Int) ≤ x:=by omega
 have h4 : x / 256 ≤ 255:=by omega
 have h0 : 0 ≤ x:=by omega
 clear hu hl
 go_enter Tryz.func159,Tryz.ntmps159
 go_wp2
 go_ret
 refine ⟨zfm ?_,rfl⟩
 rw [len8tab_get]
 have e : (x / 256).toNat = x.toNat / 2 ^ 8:=by show _ = x.toNat / 256; omega
 rw [e,zdz x.toNat 8 (by show 256 ≤ x.toNat; omega)]
 exact zfa 8 _ (by rw [← e]; omega) (by omega)
theorem len64_16 (x : Int) (hl : 65536 ≤ x) (hu : x ≤ 16777215) (w : World) : Calls Tryz.prog 159 #[vI vU x] w fun e w' => e = .returned (.int .i64 (bitLen x.toNat)) ∧ w' = w:=by
 have h1 : x ≤ 4294967295:=by omega
 have h2 : (65536 : Int) ≤ x:=by omega
 have h3 : x / 65536 ≤ 255:=by omega
 have h0 : 0 ≤ x:=by omega
 clear hu hl
 go_enter Tryz.func159,Tryz.ntmps159
 go_wp2
 go_ret
 refine ⟨zfm ?_,rfl⟩
 rw [len8tab_get]
 have e : (x / 65536).toNat = x.toNat / 2 ^ 16:=by show _ = x.toNat / 65536; omega
 rw [e,zdz x.toNat 16 (by show 65536 ≤ x.toNat; omega)]
 exact zfa 16 _ (by rw [← e]; omega) (by omega)
theorem len64_24 (x : Int) (hl : 16777216 ≤ x) (hu : x ≤ 4294967295) (w : World) : Calls Tryz.prog 159 #[vI vU x] w fun e w' => e = .returned (.int .i64 (bitLen x.toNat)) ∧ w' = w:=by
 have h1 : x ≤ 4294967295:=by omega
 have h2 : (65536 : Int) ≤ x:=by omega
 have h3 : (256 : Int) ≤ x / 65536:=by omega
 have h4 : x / 65536 / 256 ≤ 255:=by omega
 have h0 : 0 ≤ x:=by omega
 clear hu hl
 go_enter Tryz.func159,Tryz.ntmps159
 go_wp2
 go_ret
 refine ⟨zfm ?_,rfl⟩
 rw [len8tab_get]
 have e : (x / 65536 / 256).toNat = x.toNat / 2 ^ 24:=by show _ = x.toNat / 16777216; omega
 rw [e,zdz x.toNat 24 (by show 16777216 ≤ x.toNat; omega)]
 exact zfa 24 _ (by rw [← e]; omega) (by omega)
theorem len64_32 (x : Int) (hl : 4294967296 ≤ x) (hu : x ≤ 1099511627775) (w : World) : Calls Tryz.prog 159 #[vI vU x] w fun e w' => e = .returned (.int .i64 (bitLen x.toNat)) ∧ w' = w:=by
 have h1 : (4294967296 : Int) ≤ x:=by omega
 have h2 : x / 4294967296 ≤ 65535:=by omega
 have h3 : x / 4294967296 ≤ 255:=by omega
 have h0 : 0 ≤ x:=by omega
 clear hu hl
 go_enter Tryz.func159,Tryz.ntmps159
 go_wp2
 go_ret
 refine ⟨zfm ?_,rfl⟩
 rw [len8tab_get]
 have e : (x / 4294967296).toNat = x.toNat / 2 ^ 32:=by show _ = x.toNat / 4294967296; omega
 rw [e,zdz x.toNat 32 (by show 4294967296 ≤ x.toNat; omega)]
 exact zfa 32 _ (by rw [← e]; omega) (by omega)
theorem len64_40 (x : Int) (hl : 1099511627776 ≤ x) (hu : x ≤ 281474976710655) (w : World) : Calls Tryz.prog 159 #[vI vU x] w fun e w' => e = .returned (.int .i64 (bitLen x.toNat)) ∧ w' = w:=by
 have h1 : (4294967296 : Int) ≤ x:=by omega
 have h2 : x / 4294967296 ≤ 65535:=by omega
 have h3 : (256 : Int) ≤ x / 4294967296:=by omega
 have h4 : x / 4294967296 / 256 ≤ 255:=by omega
 have h0 : 0 ≤ x:=by omega
 clear hu hl
 go_enter Tryz.func159,Tryz.ntmps159
 go_wp2
 go_ret
 refine ⟨zfm ?_,rfl⟩
 rw [len8tab_get]
 have e : (x / 4294967296 / 256).toNat = x.toNat / 2 ^ 40:=by show _ = x.toNat / 1099511627776; omega
 rw [e,zdz x.toNat 40 (by show 1099511627776 ≤ x.toNat; omega)]
 exact zfa 40 _ (by rw [← e]; omega) (by omega)
theorem len64_48 (x : Int) (hl : 281474976710656 ≤ x) (hu : x ≤ 72057594037927935) (w : World) : Calls Tryz.prog 159 #[vI vU x] w fun e w' => e = .returned (.int .i64 (bitLen x.toNat)) ∧ w' = w:=by
 have h1 : (4294967296 : Int) ≤ x:=by omega
 have h2 : (65536 : Int) ≤ x / 4294967296:=by omega
 have h3 : x / 4294967296 / 65536 ≤ 255:=by omega
 have h0 : 0 ≤ x:=by omega
 clear hu hl
 go_enter Tryz.func159,Tryz.ntmps159
 go_wp2
 go_ret
 refine ⟨zfm ?_,rfl⟩
 rw [len8tab_get]
 have e : (x / 4294967296 / 65536).toNat = x.toNat / 2 ^ 48:=by show _ = x.toNat / 281474976710656; omega
 rw [e,zdz x.toNat 48 (by show 281474976710656 ≤ x.toNat; omega)]
 exact zfa 48 _ (by rw [← e]; omega) (by omega)
theorem len64_56 (x : Int) (hl : 72057594037927936 ≤ x) (hu : x ≤ 18446744073709551615) (w : World) : Calls Tryz.prog 159 #[vI vU x] w fun e w' => e = .returned (.int .i64 (bitLen x.toNat)) ∧ w' = w:=by
 have h1 : (4294967296 : Int) ≤ x:=by omega
 have h2 : (65536 : Int) ≤ x / 4294967296:=by omega
 have h3 : (256 : Int) ≤ x / 4294967296 / 65536:=by omega
 have h4 : x / 4294967296 / 65536 / 256 ≤ 255:=by omega
 have h0 : 0 ≤ x:=by omega
 clear hu hl
 go_enter Tryz.func159,Tryz.ntmps159
 go_wp2
 go_ret
 refine ⟨zfm ?_,rfl⟩
 rw [len8tab_get]
 have e : (x / 4294967296 / 65536 / 256).toNat = x.toNat / 2 ^ 56:=by show _ = x.toNat / 72057594037927936; omega
 rw [e,zdz x.toNat 56 (by show 72057594037927936 ≤ x.toNat; omega)]
 exact zfa 56 _ (by rw [← e]; omega) (by omega)
theorem len64_calls (x : Int) (h0 : 0 ≤ x) (h1 : x ≤ 18446744073709551615) (w : World) : Calls Tryz.prog 159 #[vI vU x] w fun e w' => e = .returned (.int .i64 (bitLen x.toNat)) ∧ w' = w:=by
 by_cases a : x ≤ 4294967295
 ·
  by_cases b : x ≤ 65535
  ·
   by_cases c : x ≤ 255
   ·
    exact len64_0 x (by omega) (by omega) w
   ·
    exact len64_8 x (by omega) (by omega) w
  ·
   by_cases c : x ≤ 16777215
   ·
    exact len64_16 x (by omega) (by omega) w
   ·
    exact len64_24 x (by omega) (by omega) w
 ·
  by_cases b : x ≤ 281474976710655
  ·
   by_cases c : x ≤ 1099511627775
   ·
    exact len64_32 x (by omega) (by omega) w
   ·
    exact len64_40 x (by omega) (by omega) w
  ·
   by_cases c : x ≤ 72057594037927935
   ·
    exact len64_48 x (by omega) (by omega) w
   ·
    exact len64_56 x (by omega) (by omega) w
theorem high_zero {X m : Nat} (hX : X < top) (h : ∀ j,m ≤ j → j < 4 → dg w64 X j = 0) : X < w64 ^ m:=by
 have hp : 0 < w64 ^ m:=Nat.pow_pos zba
 have e : X % w64 ^ 4 = X % w64 ^ m % w64 ^ 4:=zkw zba 4 fun i hi => by
  by_cases hlt : i < m
  ·
   rw [zdk X m i hlt]
  ·
   rw [h i (by omega) hi]
   unfold dg
   rw [Nat.div_eq_of_lt (Nat.lt_of_lt_of_le (Nat.mod_lt _ hp) (Nat.pow_le_pow_right zba (by omega)))]
   rfl
 rw [Nat.mod_eq_of_lt (show X < w64 ^ 4 from hX)] at e
 have h1:=Nat.mod_le (X % w64 ^ m) (w64 ^ 4)
 have h2:=Nat.mod_lt X hp
 omega
theorem len_word {X m : Nat} (hX : X < top) (h : ∀ j,m + 1 ≤ j → j < 4 → dg w64 X j = 0) (hne : dg w64 X m ≠ 0) : bitLen X = 64 * m + bitLen (dg w64 X m):=by
 have hlt:=high_zero hX h
 have hd : X / w64 ^ m = dg w64 X m:=by
  rw [dg,Nat.mod_eq_of_lt]
  rw [Nat.div_lt_iff_lt_mul (Nat.pow_pos zba),Nat.mul_comm,← Nat.pow_succ]
  exact hlt
 have e : 2 ^ (64 * m) = w64 ^ m:=by rw [w64_two,← Nat.pow_mul]
 rw [← hd] at hne ⊢
 have h1:=bitLen_shift X (64 * m) (by rw [e]; exact hne)
 rw [e] at h1
 exact h1
theorem wd_toNat (X i : Nat) : (wd X i).toNat = dg w64 X i:=by unfold wd; omega
theorem bitLen_le64 (X i : Nat) : bitLen (dg w64 X i) ≤ 64:=by
 unfold bitLen
 split
 ·
  omega
 ·
  rename_i h
  have:=(Nat.log2_lt h).2 (show dg w64 X i < 2 ^ 64 from dg_lt zba X i)
  omega
theorem len_calls (X : Nat) (hX : X < top) (w : World) :
  Calls Tryz.prog 145 #[.agg #[vI vU (wd X 0),vI vU (wd X 1),vI vU (wd X 2),vI vU (wd X 3)]] w fun e w' => e = .returned (.int .i64 (bitLen X)) ∧ Below w.heap.size w w':=by
 go_enter Tryz.func145,Tryz.ntmps145
 go_wp2
 go_loopw [3] (fun i wr => ∃ k : Nat,k ≤ 4 ∧ i = .int .i64 ((k : Int) - 1) ∧ (∀ j,k ≤ j → j < 4 → dg w64 X j = 0) ∧ wr.rowIs w.heap.size 27 4 (fun j => .int .u64 (wd X j)) ∧ Below w.heap.size w wr)
  (fun i _ => (intOf i + 1).toNat)
 case atStart => exact ⟨4,by omega,rfl,by intro j h1 h2; omega,zae (n:=4) (by simp) rfl (arr4 fun j => .int .u64 (wd X j)),(Below.refl _ _).alloc (by simp) _⟩
 case round =>
  obtain ⟨k,hk,hi,hall,hR,hbel⟩:=hrel
  have HALL:=veil hall
  clear hall
  cases k with
  | zero =>
   subst hi
   have h1:=high_zero hX HALL.out
   have hX0 : X = 0:=by simpa using h1
   have HX:=veil hX0
   clear hX0 h1
   go_wp2
   go_ret
   rw [show bitLen X = 0 by rw [HX.out]; rfl]
   exact ⟨rfl,hbel⟩
  | succ m =>
   obtain rfl : _ = Value.int .i64 (m : Int):=hi.trans (by congr 1; omega)
   have hm : m < 4:=by omega
   clear hi
   have c1:=hR.cell hm
   have l1:=wd_lo X m
   have u1:=wd_le X m
   by_cases h : dg w64 X m = 0
   ·
    have hz : (wd X m != 0) = false:=by unfold wd; rw [h]; rfl
    go_wp2
    go_roundw
    case rel => exact ⟨m,by omega,rfl,fun j h1 h2 => by
     by_cases e : j = m
     ·
      rw [e]; exact h
     ·
      exact HALL.out j (by omega) h2,hR,hbel⟩
    case measure => simp [intOf]
   ·
    have hz : (wd X m != 0) = true:=by rw [bne_iff_ne]; unfold wd; omega
    have hw:=len_word hX HALL.out h
    have hb:=bitLen_le64 X m
    have ht:=wd_toNat X m
    have HW:=veil hw
    have HT:=veil ht
    clear hw h ht
    go_wp2_with (go_at_call 159; refine (len64_calls _ l1 u1 _).mono ?_; rintro e w' ⟨rfl,rfl⟩)
    rw [HT.out]
    go_wp2
    go_ret
    rw [HW.out]
    exact ⟨zfm (by rw [IntWalk.wrap64_in _ (by omega)]; omega),hbel⟩
theorem top_two : top = 2 ^ 256:=by unfold top; rw [w64_two,← Nat.pow_mul]
theorem rbit_in (X n : Nat) (hn : n < 256) (w : World) :
  Calls Tryz.prog 134 #[.agg #[vI vU (wd X 0),vI vU (wd X 1),vI vU (wd X 2),vI vU (wd X 3)],.int .i64 (n : Int)] w fun e w' => e = .returned (.bool (bit X n)) ∧ Below w.heap.size w w':=by
 have hq : n / 16 < 16:=by omega
 have h0 : ¬ (n : Int) < 0:=by omega
 have h1 : ¬ (255 : Int) < (n : Int):=by omega
 have hB0 : Below w.heap.size w (w.alloc (.cells #[vI vU (wd X 0),vI vU (wd X 1),vI vU (wd X 2),vI vU (wd X 3)] 27)):=(Below.refl _ _).alloc (Nat.le_refl _) _
 go_enter Tryz.func134,Tryz.ntmps134
 go_wp2_with fail
 refine (zhw X _).mono ?_
 rintro e w1 ⟨g1,cap1,rfl,hg1,hp1,hb1⟩
 have hB1:=hB0.trans (hb1.mono (by simp))
 have c1:=hp1.cell hq
 simp only [ptv] at c1
 clear hB0 hb1 hg1 hp1
 go_wp2
 go_loop [5,6] (fun p i => ∃ k : Nat,k ≤ n % 16 ∧ i = .int .i64 k ∧ p = .int .i64 (ph X (n / 16) k)) (fun _ i => n % 16 - (intOf i).toNat)
 case atStart => exact ⟨0,Nat.zero_le _,rfl,by rw [ph_zero]⟩
 case round =>
  obtain ⟨k,hk,rfl,rfl⟩:=hrel
  by_cases hlt : k < n % 16
  ·
   have l1:=ph_lo X (n / 16) k
   have u1 : ph X (n / 16) k ≤ 65535:=by have:=ph_lt X (n / 16) k; omega
   go_wp2
   go_round
   case rel => exact ⟨k + 1,by omega,by go_num,by rw [ph_succ]⟩
   case measure => simp [intOf]; omega
  ·
   have hk' : k = n % 16:=by omega
   have HK:=veil hk'
   clear hk'
   go_wp2
   have l1:=ph_lo X (n / 16) k
   go_ret
   rw [← ph_bit,← HK.out]
   exact ⟨rfl,hB1⟩
theorem bitLen_one {i v : Nat} (h1 : 2 ^ i ≤ v) (h2 : v < 2 ^ (i + 1)) : bitLen v = i + 1:=by
 rw [zdz v i h1]
 have : v / 2 ^ i = 1:=by
  have hp:=Nat.two_pow_pos i
  apply Nat.le_antisymm
  ·
   have:=(Nat.div_lt_iff_lt_mul hp (x:=v) (y:=2)).2 (by rw [Nat.pow_succ] at h2; omega)
   omega
  ·
   exact (Nat.le_div_iff_mul_le hp).2 (by omega)
 rw [this]
 rfl
theorem bitLen_succ (X i : Nat) : bitLen (X % 2 ^ (i + 1)) = if bit X i = true then i + 1 else bitLen (X % 2 ^ i):=by
 have h:=zcg 2 X i
 have hb : bit X i = (dg 2 X i == 1):=rfl
 have hd:=dg_lt (B:=2) (by omega) X i
 have hm:=Nat.mod_lt X (Nat.two_pow_pos i)
 rw [hb,h]
 by_cases e : dg 2 X i = 1
 ·
  rw [e]
  simp only [BEq.rfl,if_true,Nat.mul_one]
  exact bitLen_one (by omega) (by rw [Nat.pow_succ]; omega)
 ·
  have e0 : dg 2 X i = 0:=by omega
  rw [e0]
  simp
def lenK (X i : Nat) : Int:=(bitLen (X % 2 ^ i) : Nat)
theorem lenK_zero (X : Nat) : lenK X 0 = 0:=by simp [lenK,Nat.mod_one,bitLen]
theorem lenK_yes {X i : Nat} (h : bit X i = true) : lenK X (i + 1) = (i : Int) + 1:=by unfold lenK; rw [bitLen_succ,if_pos h]; omega
theorem lenK_no {X i : Nat} (h : bit X i = false) : lenK X (i + 1) = lenK X i:=by unfold lenK; rw [bitLen_succ,h]; rfl
theorem lenK_top {X : Nat} (hX : X < top) : lenK X 256 = (bitLen X : Nat):=by
 rw [top_two] at hX
 unfold lenK
 rw [Nat.mod_eq_of_lt hX]
theorem rlen_calls (X : Nat) (hX : X < top) (w : World) :
  Calls Tryz.prog 133 #[.agg #[vI vU (wd X 0),vI vU (wd X 1),vI vU (wd X 2),vI vU (wd X 3)]] w fun e w' => e = .returned (.int .i64 (bitLen X)) ∧ Below w.heap.size w w':=by
 go_enter Tryz.func133,Tryz.ntmps133
 go_wp2
 go_loopw [3,4] (fun n i wr => ∃ k : Nat,k ≤ 256 ∧ i = .int .i64 k ∧ n = .int .i64 (lenK X k) ∧ wr.rowIs w.heap.size 27 4 (fun j => .int .u64 (wd X j)) ∧ Below w.heap.size w wr)
  (fun _ i _ => 256 - (intOf i).toNat)
 case atStart => exact ⟨0,by omega,rfl,by rw [lenK_zero],zae (n:=4) (by simp) rfl (arr4 fun j => .int .u64 (wd X j)),(Below.refl _ _).alloc (by simp) _⟩
 case round =>
  obtain ⟨k,hk,rfl,rfl,hR,hbel⟩:=hrel
  by_cases hlt : k < 256
  ·
   obtain ⟨c0,c1,c2,c3⟩:=zac hR
   have hle : (k : Int) ≤ 255:=by omega
   have HLT:=veil hlt
   clear hlt hk
   go_wp2_with fail
   refine (rbit_in X k HLT.out _).mono ?_
   rintro e w1 ⟨rfl,hb1⟩
   have hR1:=zaa hR hb1 hR.lt
   have hB1:=hbel.trans (hb1.mono hbel.size)
   clear hR hbel hb1 c0 c1 c2 c3
   cases hb : bit X k with
   | true =>
    go_wp2
    go_roundw
    case rel => exact ⟨k + 1,HLT.out,by go_num,by rw [lenK_yes hb],hR1,hB1⟩
    case measure => simp [intOf]; omega
   | false =>
    go_wp2
    go_roundw
    case rel => exact ⟨k + 1,HLT.out,by go_num,by rw [lenK_no hb],hR1,hB1⟩
    case measure => simp [intOf]; omega
  ·
   obtain rfl : k = 256:=by omega
   go_wp2
   go_ret
   rw [← lenK_top hX]
   exact ⟨rfl,hbel⟩
end Go.Proofs.YthlbemnbmbmjhaaGreatDoor
