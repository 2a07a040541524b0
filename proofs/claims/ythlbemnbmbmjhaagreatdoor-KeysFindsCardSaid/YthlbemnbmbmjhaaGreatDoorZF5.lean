/-
  Of Q3 Q4 J1 Ls TF K1 K4 C0 Cq Ce Gv K5 K6 K7 K9 Lk KA L3 Ln L1 TH.
-/
import Derived.BigQuiet
import Derived.Deep.Cut
import Derived.Deep.CutRange
import Derived.Deep.MidRow
import Derived.Deep.Slices
import Derived.Laws.OwnMore
import Derived.Maps.AppendAt
import Derived.Laws.IdiomStrings
import Derived.Great.BuildSlice
import Derived.Lib.SmallJoins
import Derived.Test.YthlbemnbmbmjhaaGreatDoorRows
import Derived.WalkKit
import Derived.WalkSpells
import Derived.WalkLawsBesides
import Derived.Deep.LoopGhost
import Derived.Deep.RegionWith
import Derived.Deep.QuietTactic
import Derived.BigRegion
import Derived.Test.YthlbemnbmbmjhaaGreatDoorZF4
import Derived.Test.YthlbemnbmbmjhaaGreatDoorZF1
import Derived.Test.YthlbemnbmbmjhaaGreatDoorZF2
import Derived.Test.YthlbemnbmbmjhaaGreatDoorZF3
set_option maxRecDepth 1000000
set_option maxHeartbeats 20000000
namespace Go.Proofs.YthlbemnbmbmjhaaGreatDoor
open Go.RowKit
open Go.Value renaming int → vI
open Go.IntKind renaming u64 → vU
open Go.Act renaming put → aP
open List renaming setIfInBounds_toArray → lA, set_cons_zero → lZ, set_cons_succ → lS
def rightN (X : Nat) : Nat:=((X * X % Pt.pp * X % Pt.pp + Pt.pp - 3 * X % Pt.pp) % Pt.pp + Pt.bb) % Pt.pp
def onB (X Y : Nat) (f : Bool) : Bool:=if f then decide (X = 0) && decide (Y = 0) else decide (X < Pt.pp) && (decide (Y < Pt.pp) && decide (Y * Y % Pt.pp = rightN X))
theorem eql_zero {X : Nat} (hX : X < top) (w : World) : (binOp .eql 27 (.agg #[vI vU (wd X 0),vI vU (wd X 1),vI vU (wd X 2),vI vU (wd X 3)]) (.agg #[vI vU 0,vI vU 0,vI vU 0,vI vU 0])).run Tryz.prog w = .ok (.bool (decide (X = 0))) w:=by
 have h:=eql_num hX (show 0 < top by decide) w
 have e0 : ∀ i,wd 0 i = 0:=by intro i; unfold wd dg; simp
 simp only [e0] at h
 exact h
theorem ron_far (X Y : Nat) (hX : X < top) (hY : Y < top) (w : World) :
  Calls Tryz.prog 21 #[.agg #[vI vU (wd X 0),vI vU (wd X 1),vI vU (wd X 2),vI vU (wd X 3),vI vU (wd Y 0),vI vU (wd Y 1),vI vU (wd Y 2),vI vU (wd Y 3),.bool (true)]] w fun e w' => e = .returned (.bool (decide (X = 0) && decide (Y = 0))) ∧ Below w.heap.size w w':=by
 have hR:=pt_new (w:=w) (b:=w.heap.size) X Y true (t:=29) rfl
 have hB : Below w.heap.size w (w.alloc (.cells #[vI vU (wd X 0),vI vU (wd X 1),vI vU (wd X 2),vI vU (wd X 3),vI vU (wd Y 0),vI vU (wd Y 1),vI vU (wd Y 2),vI vU (wd Y 3),.bool (true)] 29)):=(Below.refl _ _).alloc (Nat.le_refl _) _
 obtain ⟨x0,x1,x2,x3⟩:=pt_x hR
 obtain ⟨y0,y1,y2,y3⟩:=pt_y hR
 have f0:=pt_f hR
 have kx:=fun W => eql_zero hX W
 have ky:=fun W => eql_zero hY W
 obtain ⟨bx,hbx⟩ : ∃ b,b = decide (X = 0):=⟨_,rfl⟩
 obtain ⟨by',hby⟩ : ∃ b,b = decide (Y = 0):=⟨_,rfl⟩
 rw [← hbx] at kx ⊢
 rw [← hby] at ky ⊢
 clear hbx hby hR hX hY
 cases bx
 all_goals
  go_enter Tryz.func21,Tryz.ntmps21
  go_upto_region 1 with (fail)
  generalize w.alloc (.cells #[vI vU (wd X 0),vI vU (wd X 1),vI vU (wd X 2),vI vU (wd X 3),vI vU (wd Y 0),vI vU (wd Y 1),vI vU (wd Y 2),vI vU (wd Y 3),.bool (true)] 29) = wz at *
  go_wp2
  go_ret
  exact ⟨by simp,hB⟩
theorem ron_out (X Y : Nat) (hX : X < top) (hlt : ¬ X < Pt.pp) (w : World) :
  Calls Tryz.prog 21 #[.agg #[vI vU (wd X 0),vI vU (wd X 1),vI vU (wd X 2),vI vU (wd X 3),vI vU (wd Y 0),vI vU (wd Y 1),vI vU (wd Y 2),vI vU (wd Y 3),.bool (false)]] w fun e w' => e = .returned (.bool false) ∧ Below w.heap.size w w':=by
 have hR:=pt_new (w:=w) (b:=w.heap.size) X Y false (t:=29) rfl
 have hB : Below w.heap.size w (w.alloc (.cells #[vI vU (wd X 0),vI vU (wd X 1),vI vU (wd X 2),vI vU (wd X 3),vI vU (wd Y 0),vI vU (wd Y 1),vI vU (wd Y 2),vI vU (wd Y 3),.bool (false)] 29)):=(Below.refl _ _).alloc (Nat.le_refl _) _
 obtain ⟨x0,x1,x2,x3⟩:=pt_x hR
 have f0:=pt_f hR
 have lz:=hR.lt
 obtain ⟨M,hM⟩ : ∃ M,M = Pt.pp:=⟨_,rfl⟩
 have HP:=veil (show ∀ W,Calls Tryz.prog 41 #[] W fun e W' => e = .returned (.agg #[vI vU (wd M 0),vI vU (wd M 1),vI vU (wd M 2),vI vU (wd M 3)]) ∧ Below W.heap.size W W' from fun W => by rw [hM]; exact zcu W)
 rw [← hM] at hlt
 have hMt : M < top:=by rw [hM]; exact zbj
 clear hM
 have hc : cmpN X M = 0 ∨ cmpN X M = 1:=by
  unfold cmpN
  rw [if_neg (by omega)]
  split <;> simp
 obtain ⟨c,hcc⟩ : ∃ c,c = cmpN X M:=⟨_,rfl⟩
 rw [← hcc] at hc
 have HC:=veil (show ∀ W,Calls Tryz.prog 40 #[.agg #[vI vU (wd X 0),vI vU (wd X 1),vI vU (wd X 2),vI vU (wd X 3)],.agg #[vI vU (wd M 0),vI vU (wd M 1),vI vU (wd M 2),vI vU (wd M 3)]] W fun e W' => e = .returned (.int .i64 c) ∧ Below W.heap.size W W' from fun W => by rw [hcc]; exact zcb X M hX hMt W)
 clear hcc hlt hX hMt hR
 rcases hc with rfl | rfl
 all_goals
  go_enter Tryz.func21,Tryz.ntmps21
  go_upto_region 3 with (fail)
  generalize w.alloc (.cells #[vI vU (wd X 0),vI vU (wd X 1),vI vU (wd X 2),vI vU (wd X 3),vI vU (wd Y 0),vI vU (wd Y 1),vI vU (wd Y 2),vI vU (wd Y 3),.bool (false)] 29) = wz at *
  refine wp_region_held_drew (S:=fun w' => (∀ b o,b < wz.heap.size → w'.cell? ⟨b,o,none⟩ = wz.cell? ⟨b,o,none⟩) ∧ Below wz.heap.size wz w') (by kernel_rfl) (zbr _) (fun hH => ?_)
  repeat
   ((first
     | (refine wpAnyH_take (i:=0) (v:=.pointer (some ⟨w.heap.size,0,none⟩)) rfl (by kernel_rfl) (by kernel_rfl) (by decide +kernel) (fun _ _ _ h => h) (Or.inl ⟨by rfl,fun W hSw => (by dsimp only at hSw; go_simp)⟩) (by with_reducible assumption) ?_)
     | (refine wpAnyH_take (i:=1) (v:=.agg #[vI vU (wd X 0),vI vU (wd X 1),vI vU (wd X 2),vI vU (wd X 3)]) rfl (by kernel_rfl) (by kernel_rfl) (by decide +kernel) (fun _ _ _ h => h) (Or.inl ⟨by rfl,fun W hSw => (by dsimp only at hSw; go_simp)⟩) (by with_reducible assumption) ?_)
     | (refine wpAnyH_ready (rs:=[2]) (by decide +kernel) (by simp) ?_; refine AllReadyH.cons rfl (fun K hK => ?_) AllReadyH.nil; go_simp; refine (HP.out _).mono ?_; rintro e w1 ⟨rfl,hb⟩; refine hK.out _ _ (zbv hb hH) (fun hH => ?_); clear hK K)
     | (refine wpAnyH_ready (rs:=[3]) (by decide +kernel) (by simp) ?_; refine AllReadyH.cons rfl (fun K hK => ?_) AllReadyH.nil; go_simp; refine (HC.out _).mono ?_; rintro e w2 ⟨rfl,hb⟩; refine hK.out _ _ (zbv hb hH) (fun hH => ?_); clear hK K)
     | (refine wpAnyH_take (i:=4) (v:=.bool true) rfl (by kernel_rfl) (by kernel_rfl) (by decide +kernel) (fun _ _ _ h => h) (Or.inl ⟨by rfl,fun W hSw => (by dsimp only at hSw; go_simp)⟩) (by with_reducible assumption) ?_)
     | (refine wpAnyH_take (i:=5) (v:=.bool true) rfl (by kernel_rfl) (by kernel_rfl) (by decide +kernel) (fun _ _ _ h => h) (Or.inl ⟨by rfl,fun W hSw => (by dsimp only at hSw; go_simp)⟩) (by with_reducible assumption) ?_)
     | (refine wpAnyH_take (i:=6) (v:=undef) rfl (by kernel_rfl) (by kernel_rfl) (by decide +kernel) (fun _ _ _ h => h) (Or.inr ⟨by rfl,rfl⟩) (by with_reducible assumption) ?_)
     | (refine wpAnyH_take (i:=7) (v:=undef) rfl (by kernel_rfl) (by kernel_rfl) (by decide +kernel) (fun _ _ _ h => h) (Or.inr ⟨by rfl,rfl⟩) (by with_reducible assumption) ?_)
     | (refine wpAnyH_take (i:=8) (v:=undef) rfl (by kernel_rfl) (by kernel_rfl) (by decide +kernel) (fun _ _ _ h => h) (Or.inr ⟨by rfl,rfl⟩) (by with_reducible assumption) ?_)
     | (refine wpAnyH_take (i:=9) (v:=undef) rfl (by kernel_rfl) (by kernel_rfl) (by decide +kernel) (fun _ _ _ h => h) (Or.inr ⟨by rfl,rfl⟩) (by with_reducible assumption) ?_)
     | (refine wpAnyH_take (i:=10) (v:=undef) rfl (by kernel_rfl) (by kernel_rfl) (by decide +kernel) (fun _ _ _ h => h) (Or.inr ⟨by rfl,rfl⟩) (by with_reducible assumption) ?_)
     | (refine wpAnyH_take (i:=11) (v:=.bool true) rfl (by kernel_rfl) (by kernel_rfl) (by decide +kernel) (fun _ _ _ h => h) (Or.inl ⟨by rfl,fun W hSw => (by dsimp only at hSw; go_simp)⟩) (by with_reducible assumption) ?_)
     | fail);
    try simp only [Act.put,List.setIfInBounds_toArray,List.set_cons_zero,List.set_cons_succ,List.getElem_toArray,List.getElem_cons_zero,List.getElem_cons_succ])
  refine wpAnyH_done (by decide +kernel) ?_ _
  clear x0 x1 x2 x3 f0
  go_wp2
  go_ret
  exact ⟨rfl,hB.trans (hH.2.mono hB.size)⟩
theorem ron_high (X Y : Nat) (hX : X < Pt.pp) (hY : Y < top) (hlt : ¬ Y < Pt.pp) (w : World) :
  Calls Tryz.prog 21 #[.agg #[vI vU (wd X 0),vI vU (wd X 1),vI vU (wd X 2),vI vU (wd X 3),vI vU (wd Y 0),vI vU (wd Y 1),vI vU (wd Y 2),vI vU (wd Y 3),.bool (false)]] w fun e w' => e = .returned (.bool false) ∧ Below w.heap.size w w':=by
 have hR:=pt_new (w:=w) (b:=w.heap.size) X Y false (t:=29) rfl
 have hB : Below w.heap.size w (w.alloc (.cells #[vI vU (wd X 0),vI vU (wd X 1),vI vU (wd X 2),vI vU (wd X 3),vI vU (wd Y 0),vI vU (wd Y 1),vI vU (wd Y 2),vI vU (wd Y 3),.bool (false)] 29)):=(Below.refl _ _).alloc (Nat.le_refl _) _
 obtain ⟨x0,x1,x2,x3⟩:=pt_x hR
 obtain ⟨y0,y1,y2,y3⟩:=pt_y hR
 have f0:=pt_f hR
 have lz:=hR.lt
 obtain ⟨M,hM⟩ : ∃ M,M = Pt.pp:=⟨_,rfl⟩
 have HP:=veil (show ∀ W,Calls Tryz.prog 41 #[] W fun e W' => e = .returned (.agg #[vI vU (wd M 0),vI vU (wd M 1),vI vU (wd M 2),vI vU (wd M 3)]) ∧ Below W.heap.size W W' from fun W => by rw [hM]; exact zcu W)
 rw [← hM] at hlt hX
 have hMt : M < top:=by rw [hM]; exact zbj
 clear hM
 have hc : cmpN Y M = 0 ∨ cmpN Y M = 1:=by
  unfold cmpN
  rw [if_neg (by omega)]
  split <;> simp
 have hcx : cmpN X M = -1:=by
  unfold cmpN
  rw [if_pos hX]
 obtain ⟨c,hcc⟩ : ∃ c,c = cmpN Y M:=⟨_,rfl⟩
 rw [← hcc] at hc
 have HC:=veil (show ∀ W,Calls Tryz.prog 40 #[.agg #[vI vU (wd X 0),vI vU (wd X 1),vI vU (wd X 2),vI vU (wd X 3)],.agg #[vI vU (wd M 0),vI vU (wd M 1),vI vU (wd M 2),vI vU (wd M 3)]] W fun e W' => e = .returned (.int .i64 (-1)) ∧ Below W.heap.size W W' from fun W => by rw [← hcx]; exact zcb X M (by omega) hMt W)
 have HD:=veil (show ∀ W,Calls Tryz.prog 40 #[.agg #[vI vU (wd Y 0),vI vU (wd Y 1),vI vU (wd Y 2),vI vU (wd Y 3)],.agg #[vI vU (wd M 0),vI vU (wd M 1),vI vU (wd M 2),vI vU (wd M 3)]] W fun e W' => e = .returned (.int .i64 c) ∧ Below W.heap.size W W' from fun W => by rw [hcc]; exact zcb Y M hY hMt W)
 clear hcc hcx hlt hX hMt hR hY
 rcases hc with rfl | rfl
 all_goals
  go_enter Tryz.func21,Tryz.ntmps21
  go_upto_region 3 with (fail)
  generalize w.alloc (.cells #[vI vU (wd X 0),vI vU (wd X 1),vI vU (wd X 2),vI vU (wd X 3),vI vU (wd Y 0),vI vU (wd Y 1),vI vU (wd Y 2),vI vU (wd Y 3),.bool (false)] 29) = wz at *
  go_region_held3 (fun w' => (∀ b o,b < wz.heap.size → w'.cell? ⟨b,o,none⟩ = wz.cell? ⟨b,o,none⟩) ∧ Below wz.heap.size wz w')
   (first
    | with_reducible assumption
    | with_reducible exact zbr _
    | with_reducible exact zbv (by assumption) (by assumption)
    | fail)
   (first
    | (go_at_call 41; refine (HP.out _).mono ?_; rintro e w1 ⟨rfl,hb1⟩)
    | (go_at_call 40; first | ((with_reducible refine (HC.out _).mono ?_); rintro e w2 ⟨rfl,hb2⟩) | ((with_reducible refine (HD.out _).mono ?_); rintro e w3 ⟨rfl,hb3⟩)))
  rename (_ ∧ Below wz.heap.size wz _) => hH
  clear x0 x1 x2 x3 y0 y1 y2 y3 f0
  go_wp2
  go_ret
  exact ⟨rfl,hB.trans (hH.2.mono hB.size)⟩
theorem lits3 : wd 3 0 = 3 ∧ wd 3 1 = 0 ∧ wd 3 2 = 0 ∧ wd 3 3 = 0:=by decide
theorem three_lt : 3 < Pt.pp:=by decide +kernel
theorem bb_lt : Pt.bb < Pt.pp:=by decide +kernel
theorem ron_near (X Y : Nat) (hX : X < Pt.pp) (hY : Y < Pt.pp) (w : World) :
  Calls Tryz.prog 21 #[.agg #[vI vU (wd X 0),vI vU (wd X 1),vI vU (wd X 2),vI vU (wd X 3),vI vU (wd Y 0),vI vU (wd Y 1),vI vU (wd Y 2),vI vU (wd Y 3),.bool (false)]] w fun e w' => e = .returned (.bool (decide (Y * Y % Pt.pp = rightN X))) ∧ Below w.heap.size w w':=by
 have hR:=pt_new (w:=w) (b:=w.heap.size) X Y false (t:=29) rfl
 have hB : Below w.heap.size w (w.alloc (.cells #[vI vU (wd X 0),vI vU (wd X 1),vI vU (wd X 2),vI vU (wd X 3),vI vU (wd Y 0),vI vU (wd Y 1),vI vU (wd Y 2),vI vU (wd Y 3),.bool (false)] 29)):=(Below.refl _ _).alloc (Nat.le_refl _) _
 have hmod : ∀ a,a % Pt.pp < Pt.pp:=fun a => Nat.mod_lt _ pp_pos
 obtain ⟨A,hA⟩ : ∃ A,A = X * X % Pt.pp:=⟨_,rfl⟩
 obtain ⟨B,hBB⟩ : ∃ B,B = A * X % Pt.pp:=⟨_,rfl⟩
 obtain ⟨C,hC⟩ : ∃ C,C = 3 * X % Pt.pp:=⟨_,rfl⟩
 obtain ⟨D,hD⟩ : ∃ D,D = (B + Pt.pp - C) % Pt.pp:=⟨_,rfl⟩
 obtain ⟨R,hRR⟩ : ∃ R,R = (D + Pt.bb) % Pt.pp:=⟨_,rfl⟩
 obtain ⟨Q,hQ⟩ : ∃ Q,Q = Y * Y % Pt.pp:=⟨_,rfl⟩
 have hfin : rightN X = R:=by unfold rightN; rw [← hA,← hBB,← hC,← hD,← hRR]
 rw [hfin,← hQ]
 obtain ⟨M,hM⟩ : ∃ M,M = Pt.pp:=⟨_,rfl⟩
 obtain ⟨K,hK⟩ : ∃ K,K = Pt.bb:=⟨_,rfl⟩
 have lX : X < top:=Nat.lt_trans hX zbj
 have lY : Y < top:=Nat.lt_trans hY zbj
 have lA : A < Pt.pp:=by rw [hA]; exact hmod _
 have lB : B < Pt.pp:=by rw [hBB]; exact hmod _
 have lC : C < Pt.pp:=by rw [hC]; exact hmod _
 have lD : D < Pt.pp:=by rw [hD]; exact hmod _
 have lR : R < top:=by rw [hRR]; exact Nat.lt_trans (hmod _) zbj
 have lQ : Q < top:=by rw [hQ]; exact Nat.lt_trans (hmod _) zbj
 have hcx : cmpN X Pt.pp = -1:=by unfold cmpN; rw [if_pos hX]
 have hcy : cmpN Y Pt.pp = -1:=by unfold cmpN; rw [if_pos hY]
 obtain ⟨l0,l1,l2,l3⟩:=lits3
 have HP:=veil (show ∀ W,Calls Tryz.prog 41 #[] W fun e W' => e = .returned (.agg #[vI vU (wd M 0),vI vU (wd M 1),vI vU (wd M 2),vI vU (wd M 3)]) ∧ Below W.heap.size W W' from fun W => by rw [hM]; exact zcu W)
 have HCX:=veil (show ∀ W,Calls Tryz.prog 40 #[.agg #[vI vU (wd X 0),vI vU (wd X 1),vI vU (wd X 2),vI vU (wd X 3)],.agg #[vI vU (wd M 0),vI vU (wd M 1),vI vU (wd M 2),vI vU (wd M 3)]] W fun e W' => e = .returned (.int .i64 (-1)) ∧ Below W.heap.size W W' from fun W => by rw [hM,← hcx]; exact zcb X Pt.pp lX zbj W)
 have HCY:=veil (show ∀ W,Calls Tryz.prog 40 #[.agg #[vI vU (wd Y 0),vI vU (wd Y 1),vI vU (wd Y 2),vI vU (wd Y 3)],.agg #[vI vU (wd M 0),vI vU (wd M 1),vI vU (wd M 2),vI vU (wd M 3)]] W fun e W' => e = .returned (.int .i64 (-1)) ∧ Below W.heap.size W W' from fun W => by rw [hM,← hcy]; exact zcb Y Pt.pp lY zbj W)
 have H1:=veil (show ∀ W,Calls Tryz.prog 42 #[.agg #[vI vU (wd X 0),vI vU (wd X 1),vI vU (wd X 2),vI vU (wd X 3)],.agg #[vI vU (wd X 0),vI vU (wd X 1),vI vU (wd X 2),vI vU (wd X 3)]] W fun e W' => e = .returned (.agg #[vI vU (wd A 0),vI vU (wd A 1),vI vU (wd A 2),vI vU (wd A 3)]) ∧ Below W.heap.size W W' from fun W => rmul_is X X A hX lX hA W)
 have H2:=veil (show ∀ W,Calls Tryz.prog 42 #[.agg #[vI vU (wd A 0),vI vU (wd A 1),vI vU (wd A 2),vI vU (wd A 3)],.agg #[vI vU (wd X 0),vI vU (wd X 1),vI vU (wd X 2),vI vU (wd X 3)]] W fun e W' => e = .returned (.agg #[vI vU (wd B 0),vI vU (wd B 1),vI vU (wd B 2),vI vU (wd B 3)]) ∧ Below W.heap.size W W' from fun W => rmul_is A X B lA lX hBB W)
 have H3:=veil (show ∀ W,Calls Tryz.prog 42 #[.agg #[vI vU 3,vI vU 0,vI vU 0,vI vU 0],.agg #[vI vU (wd X 0),vI vU (wd X 1),vI vU (wd X 2),vI vU (wd X 3)]] W fun e W' => e = .returned (.agg #[vI vU (wd C 0),vI vU (wd C 1),vI vU (wd C 2),vI vU (wd C 3)]) ∧ Below W.heap.size W W' from fun W => by have h:=rmul_is 3 X C three_lt lX hC W; rw [l0,l1,l2,l3] at h; exact h)
 have H4:=veil (show ∀ W,Calls Tryz.prog 42 #[.agg #[vI vU (wd Y 0),vI vU (wd Y 1),vI vU (wd Y 2),vI vU (wd Y 3)],.agg #[vI vU (wd Y 0),vI vU (wd Y 1),vI vU (wd Y 2),vI vU (wd Y 3)]] W fun e W' => e = .returned (.agg #[vI vU (wd Q 0),vI vU (wd Q 1),vI vU (wd Q 2),vI vU (wd Q 3)]) ∧ Below W.heap.size W W' from fun W => rmul_is Y Y Q hY lY hQ W)
 have H5:=veil (show ∀ W,Calls Tryz.prog 44 #[.agg #[vI vU (wd B 0),vI vU (wd B 1),vI vU (wd B 2),vI vU (wd B 3)],.agg #[vI vU (wd C 0),vI vU (wd C 1),vI vU (wd C 2),vI vU (wd C 3)]] W fun e W' => e = .returned (.agg #[vI vU (wd D 0),vI vU (wd D 1),vI vU (wd D 2),vI vU (wd D 3)]) ∧ Below W.heap.size W W' from fun W => rsub_is B C D lB lC hD W)
 have H6:=veil (show ∀ W,Calls Tryz.prog 45 #[] W fun e W' => e = .returned (.agg #[vI vU (wd K 0),vI vU (wd K 1),vI vU (wd K 2),vI vU (wd K 3)]) ∧ Below W.heap.size W W' from fun W => by rw [hK]; exact rb_calls W)
 have H7:=veil (show ∀ W,Calls Tryz.prog 43 #[.agg #[vI vU (wd D 0),vI vU (wd D 1),vI vU (wd D 2),vI vU (wd D 3)],.agg #[vI vU (wd K 0),vI vU (wd K 1),vI vU (wd K 2),vI vU (wd K 3)],.agg #[vI vU (wd M 0),vI vU (wd M 1),vI vU (wd M 2),vI vU (wd M 3)]] W fun e W' => e = .returned (.agg #[vI vU (wd R 0),vI vU (wd R 1),vI vU (wd R 2),vI vU (wd R 3)]) ∧ Below W.heap.size W W' from fun W => by rw [hM,hK,hRR]; exact zeb D Pt.bb Pt.pp lD bb_lt zbj W)
 have kq:=fun W => eql_num lQ lR W
 obtain ⟨q,hq⟩ : ∃ q,q = decide (Q = R):=⟨_,rfl⟩
 rw [← hq] at kq ⊢
 obtain ⟨x0,x1,x2,x3⟩:=pt_x hR
 obtain ⟨y0,y1,y2,y3⟩:=pt_y hR
 have f0:=pt_f hR
 have lz:=hR.lt
 have HR:=veil hR
 clear hq lQ lR lD lC lB lA lX lY hcx hcy l0 l1 l2 l3 hM hK hfin hRR hD hC hBB hA hQ hX hY hmod hR
 go_enter Tryz.func21,Tryz.ntmps21
 go_upto_region 3 with (fail)
 generalize w.alloc (.cells #[vI vU (wd X 0),vI vU (wd X 1),vI vU (wd X 2),vI vU (wd X 3),vI vU (wd Y 0),vI vU (wd Y 1),vI vU (wd Y 2),vI vU (wd Y 3),.bool (false)] 29) = wz at *
 go_region_held3 (fun w' => (∀ b o,b < wz.heap.size → w'.cell? ⟨b,o,none⟩ = wz.cell? ⟨b,o,none⟩) ∧ Below wz.heap.size wz w')
  (first
   | (with_reducible assumption)
   | (with_reducible exact zbr _)
   | (with_reducible exact zbv (by assumption) (by assumption))
   | (fail))
  (first
   | (go_at_call 41; refine (HP.out _).mono ?_; rintro e w1 ⟨rfl,hb1⟩)
   | (go_at_call 40; first | ((with_reducible refine (HCX.out _).mono ?_); rintro e w2 ⟨rfl,hb2⟩) | ((with_reducible refine (HCY.out _).mono ?_); rintro e w3 ⟨rfl,hb3⟩)))
 rename (_ ∧ Below wz.heap.size wz _) => hH
 have hH2:=hH.2
 clear hH hb1 hb2 x0 x1 x2 x3 y0 y1 y2 y3 f0
 have hR3:=zaa HR.out hH2 lz
 have hB3:=hB.trans (hH2.mono hB.size)
 clear hH2 hB
 obtain ⟨x0,x1,x2,x3⟩:=pt_x hR3
 have l3:=hR3.lt
 go_upto_region 5 with (fail)
 go_cut [3] from 29 to 36 (fun v3 wx => ∃ g,v3 = .pointer (some ⟨g,0,none⟩) ∧ w3.heap.size ≤ g ∧ wx.rowIs g 27 4 (fun j => .int .u64 (wd B j)) ∧ Below w3.heap.size w3 wx)
 case first =>
  go_region_held3 (fun w' => (∀ b o,b < w3.heap.size → w'.cell? ⟨b,o,none⟩ = w3.cell? ⟨b,o,none⟩) ∧ Below w3.heap.size w3 w')
   (first
    | (with_reducible assumption)
    | (with_reducible exact zbr _)
    | (with_reducible exact keep_fresh _)
    | (with_reducible exact zea _ (by assumption))
    | ((with_reducible refine keep_swap (by assumption) ?_); first | exact Nat.le_refl _ | exact hbm.size | exact Nat.le_trans hbm.size hbp.size)
    | ((with_reducible refine keep_put4 ?_ (by assumption)); first | exact Nat.le_refl _ | exact hbm.size | exact Nat.le_trans hbm.size hbp.size)
    | (with_reducible exact zbv (by assumption) (by assumption))
    | (fail))
   (first
    | (go_at_call 42; first | ((with_reducible refine (H1.out _).mono ?_); rintro e wm ⟨rfl,hbm⟩; obtain ⟨hmc,hmf,hml⟩:=zcq hbm) | ((with_reducible refine (H2.out _).mono ?_); rintro e wp ⟨rfl,hbp⟩; obtain ⟨hpc,hpf,hpl⟩:=zcq hbp)))
  all_goals rename (_ ∧ Below w3.heap.size w3 _) => hH
  ·
   go_wp2
   go_meet
   exact ⟨_,rfl,Nat.le_trans hbm.size hbp.size,zac (n:=4) rfl rfl (arr4 fun j => .int .u64 (wd B j)),hH.2⟩
  ·
   go_wp2
   go_meet
   exact ⟨_,rfl,hbm.size,put4 (zaa (zac (n:=4) (f:=fun _ => .int .u64 0) rfl rfl (arr4 fun _ => .int .u64 0)) hbp (by simp)) (fun j => .int .u64 (wd B j)),hH.2⟩
  ·
   go_wp2
   go_meet
   exact ⟨_,rfl,Nat.le_refl _,put4 (zaa (zaa (zac (n:=4) (f:=fun _ => .int .u64 0) rfl rfl (arr4 fun _ => .int .u64 0)).drew hbm (by simp)) hbp (Nat.lt_of_lt_of_le (by simp) hbm.size)) (fun j => .int .u64 (wd B j)),hH.2⟩
 case rest =>
  obtain ⟨g,rfl,hg,hT5,hB5⟩:=hcut
  clear x0 x1 x2 x3
  have hR5:=zaa hR3 hB5 l3
  have hB6:=hB3.trans (hB5.mono hB3.size)
  clear hR3 hB3 hB5
  obtain ⟨x0,x1,x2,x3⟩:=pt_x hR5
  go_wp2_with fail
  refine (H3.out wc).mono ?_
  rintro e w6 ⟨rfl,hb6⟩
  have hT6:=zaa hT5 hb6 hT5.lt
  have hR6:=zaa hR5 hb6 hR5.lt
  have hB7:=hB6.trans (hb6.mono hB6.size)
  clear x0 x1 x2 x3 hT5 hR5 hB6 hb6
  go_upto_region 7 with (fail)
  have hU7 : (w6.alloc (.cells #[vI vU (wd C 0),vI vU (wd C 1),vI vU (wd C 2),vI vU (wd C 3)] 27)).rowIs w6.heap.size 27 4 (fun j => .int .u64 (wd C j)):=zac (n:=4) rfl rfl (arr4 fun j => .int .u64 (wd C j))
  have hT7:=hT6.alloc (.cells #[vI vU (wd C 0),vI vU (wd C 1),vI vU (wd C 2),vI vU (wd C 3)] 27)
  have hR7:=hR6.alloc (.cells #[vI vU (wd C 0),vI vU (wd C 1),vI vU (wd C 2),vI vU (wd C 3)] 27)
  have hB8:=hB7.alloc hB7.size (.cells #[vI vU (wd C 0),vI vU (wd C 1),vI vU (wd C 2),vI vU (wd C 3)] 27)
  generalize w6.alloc (.cells #[vI vU (wd C 0),vI vU (wd C 1),vI vU (wd C 2),vI vU (wd C 3)] 27) = w7 at *
  generalize w6.heap.size = g4 at *
  clear hT6 hR6 hB7
  obtain ⟨y0,y1,y2,y3⟩:=pt_y hR7
  obtain ⟨t0,t1,t2,t3⟩:=zab hT7
  obtain ⟨u0,u1,u2,u3⟩:=zab hU7
  have m1:=hR7.lt
  have m2:=hT7.lt
  have m3:=hU7.lt
  go_region_held3 (fun w' => (∀ b o,b < w7.heap.size → w'.cell? ⟨b,o,none⟩ = w7.cell? ⟨b,o,none⟩) ∧ Below w7.heap.size w7 w')
   (first
    | (with_reducible assumption)
    | (with_reducible exact zbr _)
    | (with_reducible exact zbv (by assumption) (by assumption))
    | (fail))
   (first
    | (go_at_call 42; (with_reducible refine (H4.out _).mono ?_); rintro e v1 ⟨rfl,hv1⟩)
    | (go_at_call 44; (with_reducible refine (H5.out _).mono ?_); rintro e v2 ⟨rfl,hv2⟩)
    | (go_at_call 45; (with_reducible refine (H6.out _).mono ?_); rintro e v3 ⟨rfl,hv3⟩)
    | (go_at_call 41; (with_reducible refine (HP.out _).mono ?_); rintro e v4 ⟨rfl,hv4⟩)
    | (go_at_call 43; (with_reducible refine (H7.out _).mono ?_); rintro e v5 ⟨rfl,hv5⟩))
  rename (_ ∧ Below w7.heap.size w7 _) => hH
  clear y0 y1 y2 y3 t0 t1 t2 t3 u0 u1 u2 u3
  go_wp2
  go_ret
  exact ⟨rfl,hB8.trans (hH.2.mono hB8.size)⟩
theorem ron_calls (X Y : Nat) (f : Bool) (hX : X < top) (hY : Y < top) (w : World) :
  Calls Tryz.prog 21 #[.agg #[vI vU (wd X 0),vI vU (wd X 1),vI vU (wd X 2),vI vU (wd X 3),vI vU (wd Y 0),vI vU (wd Y 1),vI vU (wd Y 2),vI vU (wd Y 3),.bool (f)]] w fun e w' => e = .returned (.bool (onB X Y f)) ∧ Below w.heap.size w w':=by
 unfold onB
 cases f with
 | true => exact ron_far X Y hX hY w
 | false =>
  by_cases hx : X < Pt.pp
  ·
   by_cases hy : Y < Pt.pp
   ·
    simp only [Bool.false_eq_true,if_false,hx,hy,decide_true,Bool.true_and]
    exact ron_near X Y hx hy w
   ·
    simp only [Bool.false_eq_true,if_false,hx,hy,decide_true,decide_false,Bool.true_and,Bool.false_and]
    exact ron_high X Y hx hY hy w
  ·
   simp only [Bool.false_eq_true,if_false,hx,decide_false,Bool.false_and]
   exact ron_out X Y hX hx w
end Go.Proofs.YthlbemnbmbmjhaaGreatDoor
namespace Go.Proofs.YthlbemnbmbmjhaaGreatDoor
structure Ky where
 i : Int
 x : Nat
 y : Nat
 f : Bool
 a : Int
 b : Int
def ky0 : Ky:=⟨0,0,0,false,0,0⟩
def okK (l : List Ky) (j : Nat) : Prop :=
 1 ≤ (l.getD j ky0).i ∧ (l.getD j ky0).i ≤ 2147483647 ∧ onB (l.getD j ky0).x (l.getD j ky0).y (l.getD j ky0).f = true ∧ (l.getD j ky0).f = false ∧ 0 ≤ (l.getD j ky0).a ∧ (l.getD j ky0).a ≤ (l.getD j ky0).b ∧ (l.getD j ky0).b ≤ 1073741824 ∧ (0 < j → (l.getD (j - 1) ky0).i < (l.getD j ky0).i)
instance (l : List Ky) (j : Nat) : Decidable (okK l j):=by unfold okK; exact inferInstance
def mayK (l : List Ky) : Bool:=decide (l.length ≤ 32 ∧ ∀ j,j < l.length → okK l j)
theorem mayK_false {l : List Ky} {j : Nat} (hj : j < l.length) (h : ¬ okK l j) : mayK l = false:=decide_eq_false fun hh => h (hh.2 j hj)
theorem mayK_len {l : List Ky} (h : ∀ j,j < l.length → okK l j) : mayK l = decide (l.length ≤ 32):=by
 unfold mayK
 by_cases hc : l.length ≤ 32
 ·
  rw [decide_eq_true hc,decide_eq_true ⟨hc,h⟩]
 ·
  rw [decide_eq_false hc,decide_eq_false fun hh => hc hh.1]
theorem mayK_ok {l : List Ky} (h : mayK l = true) {j : Nat} (hj : j < l.length) : okK l j:=(of_decide_eq_true h).2 j hj
theorem mayK_32 {l : List Ky} (h : mayK l = true) : l.length ≤ 32:=(of_decide_eq_true h).1
def cntK (k : Ky) (id at_ : Int) : Bool:=decide (k.i = id) && decide (k.a ≤ at_) && decide (at_ < k.b)
def findK (l : List Ky) (id at_ : Int) : Option Ky:=l.find? fun k => cntK k id at_
theorem zcs {l : List Ky} {id at_ : Int} (h : ∀ j,j < l.length → cntK (l.getD j ky0) id at_ = false) : findK l id at_ = none:=by
 unfold findK
 rw [List.find?_eq_none]
 intro k hk
 obtain ⟨j,hj,rfl⟩:=List.mem_iff_getElem.1 hk
 have:=h j hj
 rw [List.getD_eq_getElem?_getD,List.getElem?_eq_getElem hj] at this
 simpa using this
theorem findK_at {l : List Ky} {id at_ : Int} {j : Nat} (hj : j < l.length) (h : ∀ i,i < j → cntK (l.getD i ky0) id at_ = false) (hc : cntK (l.getD j ky0) id at_ = true) : findK l id at_ = some (l.getD j ky0):=by
 have e : l.getD j ky0 = l[j]:=by rw [List.getD_eq_getElem?_getD,List.getElem?_eq_getElem hj]; rfl
 rw [e] at hc ⊢
 unfold findK
 rw [List.find?_eq_some_iff_getElem]
 refine ⟨hc,j,hj,rfl,fun i hi => ?_⟩
 have:=h i hi
 rw [List.getD_eq_getElem?_getD,List.getElem?_eq_getElem (by omega)] at this
 simpa using this
/-! ### bytes -/
theorem pp_256 : Pt.pp < 256 ^ 32:=by decide +kernel
theorem onB_lt {x y : Nat} (h : onB x y false = true) : x < 256 ^ 32 ∧ y < 256 ^ 32:=by
 unfold onB at h
 rw [if_neg (by decide)] at h
 simp only [Bool.and_eq_true,decide_eq_true_eq] at h
 exact ⟨Nat.lt_trans h.1 pp_256,Nat.lt_trans h.2.1 pp_256⟩
theorem mayK_each {l : List Ky} (h : mayK l = true) : ∀ k ∈ l,1 ≤ k.i ∧ k.i ≤ 2147483647 ∧ onB k.x k.y false = true ∧ k.f = false ∧ 0 ≤ k.a ∧ k.a ≤ k.b ∧ k.b ≤ 1073741824:=by
 intro k hk
 obtain ⟨j,hj,rfl⟩:=List.mem_iff_getElem.1 hk
 obtain ⟨h1,h2,h3,h4,h5,h6,h7,_⟩:=mayK_ok h hj
 have e : l.getD j ky0 = l[j]:=by rw [List.getD_eq_getElem?_getD,List.getElem?_eq_getElem hj]; rfl
 rw [e] at h1 h2 h3 h4 h5 h6 h7
 rw [h4] at h3
 exact ⟨h1,h2,h3,h4,h5,h6,h7⟩
end Go.Proofs.YthlbemnbmbmjhaaGreatDoor
namespace Go.Proofs.YthlbemnbmbmjhaaGreatDoor
open Go.RowKit
open Go.Value renaming int → vI
open Go.IntKind renaming u64 → vU
open Go.Act renaming put → aP
open List renaming setIfInBounds_toArray → lA, set_cons_zero → lZ, set_cons_succ → lS
section
variable {α : Type} {sz : Nat} {cs : α → List Value} {w w' : World} {v : Value} {l : List α} {P : Program}
def Ls (sz : Nat) (cs : α → List Value) (w : World) (v : Value) (l : List α) : Prop :=
 ∃ A c,v = .slice A l.length c ∧ l.length ≤ c ∧ (l.length = 0 ∨ ∃ b o,A = some ⟨b,o,none⟩ ∧ b < w.heap.size ∧ ∀ i x,l[i]? = some x → w.rangeAt b (o + i * sz) (cs x))
theorem zbf (h : Ext w w') {b o : Nat} {L : List Value} (hb : b < w.heap.size) (hr : w.rangeAt b o L) : w'.rangeAt b o L:=fun j u hu => (h.cell hb).trans (hr j u hu)
theorem Ls.ext (h : Ls sz cs w v l) (k : Ext w w') : Ls sz cs w' v l:=by
 obtain ⟨A,c,e,hc,hx⟩:=h
 exact ⟨A,c,e,hc,hx.imp id fun ⟨b,o,ha,hb,hr⟩ => ⟨b,o,ha,Nat.lt_of_lt_of_le hb (Below.size k),fun i x hi => zbf k hb (hr i x hi)⟩⟩
theorem Ls.nil (w : World) (A : Option Addr) (c : Nat) : Ls sz cs w (.slice A 0 c) ([] : List α):=⟨A,c,rfl,Nat.zero_le _,.inl rfl⟩
theorem Ls.at (h : Ls sz cs w v l) {i : Nat} (hi : i < l.length) : ∃ b o c,v = .slice (some ⟨b,o,none⟩) l.length c ∧ l.length ≤ c ∧ b < w.heap.size ∧ ∀ i x,l[i]? = some x → w.rangeAt b (o + i * sz) (cs x):=by
 obtain ⟨A,c,e,hc,hx⟩:=h
 rcases hx with h0 | ⟨b,o,rfl,hb,hr⟩
 ·
  omega
 ·
  exact ⟨b,o,c,e,hc,hb,hr⟩
variable {base ty : Nat}
theorem ls_one {g c : Nat} {x : α} {fr : Nat × Nat} (hg : w.heap[g]? = some (.cells (cs x).toArray ty fr)) (hc : 1 ≤ c:=by decide) : Ls sz cs w (.slice (some ⟨g,0,none⟩) 1 c) [x] :=
 ⟨_,c,rfl,hc,.inr ⟨g,0,rfl,(Array.getElem?_eq_some_iff.1 hg).1,fun i y hi j u hu => by
  match i,hi with
  | 0,hi =>
   obtain rfl : x = y:=by simpa using hi
   simp only [Nat.zero_mul,Nat.zero_add]
   rw [cell_of_row w g j _ _ _ hg]
   simpa using hu⟩⟩
theorem ls_of {H : Type} {enc : TypeId × Value → H} {t e fuel base : Nat} {sp : Nat → Bool} {hd : Bool} {d : DataW H} {p : List MemPlace} (ht : P.underlying t = some (.slice e)) (hsz : P.cellsOf e = sz) (h0 : 0 < sz)
  (he : ∀ n cs' y,DataW.trod enc P w base sp hd n e cs' = some y → ∃ x,cs' = cs x) (hf : DataW.trod enc P w base sp hd fuel t [v] = some (d,p)) : ∃ l : List α,Ls sz cs w v l:=by
 rcases Go.Deep.open_slice ht hf with ⟨h,_⟩ | ⟨a,len,cap,m,n,D,Pl,h,_,hlc,_,hm,_,hx⟩
 ·
  simp only [List.cons.injEq,and_true] at h
  rw [h]
  exact ⟨[],Ls.nil _ _ _⟩
 ·
  simp only [List.cons.injEq,and_true] at h
  have hlm : len ≤ m:=by rw [hm]; split <;> omega
  have each : ∀ i,i < len → ∃ x : α,(cs x).length = sz ∧ ∀ j u,(cs x)[j]? = some u → w.cell? ((a.add (i * sz)).add j) = some u:=by
   intro i hi
   obtain ⟨cs',h1,h2⟩:=hx i (by omega)
   rw [hsz] at h1
   obtain ⟨_,hlen,hcell⟩:=World.cells?_some h1
   obtain ⟨x,rfl⟩:=he _ _ _ h2
   refine ⟨x,hlen,fun j u hu => ?_⟩
   have hj:=(List.getElem?_eq_some_iff.1 hu).1
   rw [hcell j (by omega),hu]
  by_cases hl0 : len = 0
  ·
   rw [h,hl0]
   exact ⟨[],Ls.nil _ _ _⟩
  ·
   obtain ⟨x0,_⟩:=each 0 (by omega)
   haveI : Inhabited α:=⟨x0⟩
   obtain ⟨q,hq⟩:=Go.Deep.choose_lt each
   refine ⟨(List.range len).map q,some a,cap,by rw [h]; simp,by simpa using hlc,.inr ?_⟩
   obtain ⟨b,off,spot⟩:=a
   have h00 : ∃ u,(cs (q 0))[0]? = some u:=⟨_,List.getElem?_eq_getElem (by rw [(hq 0 (by omega)).1]; exact h0)⟩
   obtain ⟨u0,hu0⟩:=h00
   have hc0:=(hq 0 (by omega)).2 0 u0 hu0
   have hspot : spot = none:=by simpa [Addr.add] using World.cell?_spot hc0
   subst hspot
   have hblk : b < w.heap.size:=by
    have:=World.block_lt_of_cell? w _ hc0
    simpa [Addr.add] using this
   refine ⟨b,off,rfl,hblk,fun i x hi j u hu => ?_⟩
   have hil : i < len:=by
    have:=(List.getElem?_eq_some_iff.1 hi).1
    simpa using this
   obtain rfl : q i = x:=by simpa [hil] using hi
   have:=(hq i hil).2 j u hu
   rw [Addr.add_mid,Addr.add_mid] at this
   exact this
end
theorem rng_fd {w : World} {b o : Nat} {x y : Value} (h0 : w.cell? ⟨b,o,none⟩ = some x) (h1 : w.cell? ⟨b,o + 1,none⟩ = some y) : w.rangeAt b o [x,y]:=fun j v hv => by
 match j,hv with
 | 0,hv => rw [Nat.add_zero,h0]; simpa using hv
 | 1,hv => rw [h1]; simpa using hv
theorem infoF2 : (Tryz.prog.info? 64).map (·.size) = some 2:=by kernel_rfl
theorem hzF (W : World) : (Instr.alloc 64 true (.tuple #[])).run Tryz.prog W = .ok (ptrTo W.heap.size) (W.alloc (.cells #[.int .i64 0,.slice none 0 0] 64)):=by simp [Instr.alloc,go_sem]
theorem cells_fd {w : World} {g : Nat} {x y : Value} (h : w.heap[g]? = some (.cells #[x,y] 64 (0,0))) : w.cell? ⟨g,0,none⟩ = some x ∧ w.cell? ⟨g,1,none⟩ = some y:=⟨by rw [cell_of_row w g 0 _ _ _ h]; rfl,by rw [cell_of_row w g 1 _ _ _ h]; rfl⟩
theorem one_fd {T : Int} {A : Option Addr} {L c : Nat} : (#[.int .i64 T,.slice A L c] : Array Value).all (·.oneCell') = true:=by simp [Value.oneCell']
theorem may8_calls (v : Value) (fs : List Fd) (w : World) (hF : Fl w v fs) (hL : fs.length ≤ 1000000000) :
  Calls Tryz.prog 51 #[v] w fun e w' => e = .returned (.bool (mayFs fs)) ∧ Ext w w':=by
 obtain ⟨hB,AL,c,rfl,hc,hx⟩:=hF
 obtain ⟨R,hR⟩ : ∃ R,R = mayFs fs:=⟨_,rfl⟩
 rw [← hR]
 obtain ⟨n,hn⟩ : ∃ n,n = fs.length:=⟨_,rfl⟩
 rw [← hn] at hx hc ⊢
 have HR:=veil (And.intro hR (And.intro hn hL))
 have HX:=veil hx
 have hnL : n ≤ 1000000000:=by omega
 clear hR hx hB hn hL
 by_cases h64 : (64 : Int) < (n : Int)
 ·
  have hd : decide ((64 : Int) < (n : Int)) = true:=decide_eq_true h64
  have e : R = false:=by
   rw [HR.out.1]
   exact decide_eq_false fun hh => by have:=hh.1; have:=HR.out.2.1; omega
  subst e
  go_enter Tryz.func51,Tryz.ntmps51
  go_wp2
  go_ret
  exact ⟨rfl,Ext.refl _⟩
 ·
  have hd : decide ((64 : Int) < (n : Int)) = false:=decide_eq_false h64
  have hn64 : n ≤ 64:=by omega
  clear hnL h64
  go_enter Tryz.func51,Tryz.ntmps51
  go_wp2
  go_loopw [3,11] (fun s v wr => ∃ (i : Nat) (P : Int),i ≤ n ∧ s = .int .i64 P ∧ v = .int .i64 (i : Int) ∧ (∀ j,j < i → okF fs j) ∧ 0 ≤ P ∧ P ≤ 255 ∧ (i = 0 ∧ P = 0 ∨ 0 < i ∧ P = tgF fs (i - 1)) ∧ Ext w wr)
   (fun _ v _ => n - (intOf v).toNat)
  case atStart => exact ⟨0,0,by omega,rfl,rfl,fun j hj => by omega,by omega,by omega,.inl ⟨rfl,rfl⟩,Ext.refl _⟩
  case round =>
   obtain ⟨i,P,hi,rfl,rfl,hall,hP0,hP1,hP,hE⟩:=hrel
   by_cases hlt : i < n
   ·
    have hd1 : decide ((i : Int) < (n : Int)) = true:=by simp; omega
    have hii : (i : Int) < (n : Int):=by omega
    obtain ⟨b,o,hAL,hb,hcl⟩:=HX.out.resolve_left (by omega)
    obtain ⟨h1,A,c',h2,_,_⟩:=hcl i hlt
    have c0:=(hE.cell hb).trans h1
    have c1:=(hE.cell hb).trans h2
    obtain ⟨T,hT⟩ : ∃ T,T = tgF fs i:=⟨_,rfl⟩
    obtain ⟨L,hL⟩ : ∃ L,L = (bsF fs i).length:=⟨_,rfl⟩
    rw [← hT] at c0
    rw [← hL] at c1
    have HT:=veil (And.intro hT (And.intro hL hP))
    have HALL:=veil hall
    have hfalse : ∀ h : ¬ okF fs i,R = false:=fun h => HR.out.1.trans (mayFs_false (by have:=HR.out.2.1; omega) h)
    have HF:=veil hfalse
    have HRG:=veil (rng_fd c0 c1)
    clear h1 h2 hT hL hall hfalse hP c0 c1 hcl
    subst hAL
    go_upto_region 7 with (first
     | ((with_reducible refine zav 14 ?_); refine wpList_load_mid rfl 64 _ rfl b _ rfl _ _ HRG.out Tryz.underlying64 rfl infoF2 ?_)
     | ((with_reducible refine zav 5 ?_); refine zde _ _ rfl rfl rfl rfl rfl rfl hzF (fun _ => rfl) (fun _ => rfl) infoF2 rfl one_fd ?_; intro g W hg hW hEW))
    have hEE:=hE.trans hEW
    obtain ⟨d0,d1⟩:=cells_fd hW
    clear hW hEW hE
    by_cases g1 : T ≤ P
    ·
     have e : R = false:=HF.out fun h => by
      have h4:=h.2.2.2
      have h1:=h.1
      rw [← HT.out.1] at h1 h4
      rcases HT.out.2.2 with ⟨_,h0⟩ | ⟨h0,h5⟩
      ·
       omega
      ·
       have:=h4 h0; omega
     subst e
     have hd2 : decide (T ≤ P) = true:=decide_eq_true g1
     go_wp2
     go_ret
     exact ⟨rfl,hEE⟩
    ·
     have hd2 : decide (T ≤ P) = false:=decide_eq_false g1
     by_cases g2 : 255 < T
     ·
      have e : R = false:=HF.out fun h => by have:=h.2.1; rw [← HT.out.1] at this; omega
      subst e
      have hd3 : decide (255 < T) = true:=decide_eq_true g2
      go_wp2
      go_ret
      exact ⟨rfl,hEE⟩
     ·
      have hd3 : decide (255 < T) = false:=decide_eq_false g2
      by_cases g3 : (65535 : Int) < (L : Int)
      ·
       have e : R = false:=HF.out fun h => by have:=h.2.2.1; rw [← HT.out.2.1] at this; omega
       subst e
       have hd4 : decide ((65535 : Int) < (L : Int)) = true:=decide_eq_true g3
       go_wp2
       go_ret
       exact ⟨rfl,hEE⟩
      ·
       have hd4 : decide ((65535 : Int) < (L : Int)) = false:=decide_eq_false g3
       go_wp2
       go_roundw
       case rel =>
        refine ⟨i + 1,T,by omega,rfl,by go_num,fun j hj => ?_,by omega,by omega,.inr ⟨by omega,HT.out.1⟩,hEE⟩
        by_cases e : j = i
        ·
         subst e
         refine ⟨by rw [← HT.out.1]; omega,by rw [← HT.out.1]; omega,by rw [← HT.out.2.1]; omega,fun h0 => ?_⟩
         rw [← HT.out.1]
         rcases HT.out.2.2 with ⟨h5,_⟩ | ⟨_,h5⟩ <;> omega
        ·
         exact HALL.out j (by omega)
       case measure => simp [intOf]; omega
   ·
    obtain rfl : i = n:=by omega
    have e : R = true:=by
     rw [HR.out.1,mayFs_len (by rw [← HR.out.2.1]; exact hall),← HR.out.2.1]
     exact decide_eq_true hn64
    subst e
    clear hall
    go_wp2
    go_ret
    exact ⟨rfl,hE⟩
end Go.Proofs.YthlbemnbmbmjhaaGreatDoor
namespace Go.Proofs.YthlbemnbmbmjhaaGreatDoor
structure Tk where
 s : Int
 p : Int
 z : Int
 f : Int
 k : Int
def Tk.list (t : Tk) : List Int:=[t.s,t.p,t.z,t.f,t.k]
def twoOk (fs : List Fd) : Prop:=fs.length = 2 ∧ tgF fs 0 = 1 ∧ tgF fs 1 = 2 ∧ (bsF fs 1).length = 64
instance (fs : List Fd) : Decidable (twoOk fs):=by unfold twoOk; exact inferInstance
end Go.Proofs.YthlbemnbmbmjhaaGreatDoor
namespace Go.Proofs.YthlbemnbmbmjhaaGreatDoor
open Go.RowKit
open Go.Value renaming int → vI
open Go.IntKind renaming u64 → vU
open Go.Act renaming put → aP
open List renaming setIfInBounds_toArray → lA, set_cons_zero → lZ, set_cons_succ → lS
def tkC (t : Tk) : Array Value:=#[.int .i64 t.s,.int .i64 t.p,.int .i64 t.z,.int .i64 t.f,.int .i64 t.k]
theorem iTk (t : Tk) : (Tryz.prog.info? 47).map (·.size) = some (tkC t).size:=by
 show _ = some 5
 kernel_rfl
theorem tkC_one (t : Tk) : (tkC t).all (·.oneCell') = true:=by simp [tkC,Value.oneCell']
theorem infoN4 : (Tryz.prog.info? 27).map (·.size) = some 4:=by kernel_rfl
def nc (x : Nat) : Array Value:=#[vI vU (wd x 0),vI vU (wd x 1),vI vU (wd x 2),vI vU (wd x 3)]
def nv (x : Nat) : Value:=.agg (nc x)
theorem nc_one (x : Nat) : (nc x).all (·.oneCell') = true:=by simp [nc,Value.oneCell']
theorem iN (x : Nat) : (Tryz.prog.info? 27).map (·.size) = some (nc x).size:=by exact infoN4
theorem uN : Tryz.prog.underlying 27 = some (.array 4 25):=Tryz.underlying27
section
variable {P : Program} {o : Oper} {a : Act} {w : World}
theorem zaf {f : FuncId} {fn : Func} {c : Code} (hf : P.funcs[f]? = some fn) (hname : (fn.name == "runtime.NumGoroutine") = false) (hb : fn.body = some c) (args : Array Value) (w : World) :
  (callFunc f args).run P w = .ok (.enter f args) w:=by
 have hn : ¬ fn.name = "runtime.NumGoroutine":=by simpa using hname
 simp [callFunc,go_sem,hf,hb,hn]
theorem zat {k : FuncId} {xs : List Operand} {ts : Array TypeId} {args : List Value} {v : Value} (ho : o.op = .call { callee:=.value (.func k),args:=xs.toArray,argTypes:=ts }) (hx : xs.map a.eval = args)
  (he : ∀ W,(callFunc k args.toArray).run P W = .ok (.enter k args.toArray) W) (hc : ∀ W,Ext w W → Calls P k args.toArray W fun e W' => e = .returned v ∧ Ext W W') : Made P o v a w :=
 made_call (fun W => by
  have h1 : execOp a.eval o = callFunc k (#[] ++ xs.toArray.map a.eval ++ #[]):=by
   cases o
   subst ho
   rfl
  rw [h1,List.map_toArray,hx]
  simpa using he W) hc
theorem zej {k : FuncId} {xs : List Operand} {ts : Array TypeId} {args : List Value} {v p : Value} {f : Tmp} (ho : o.op = .call { callee:=.value (.tmp f),args:=xs.toArray,argTypes:=ts }) (hf : a.eval (.tmp f) = .func (.func k) #[p] #[]) (hx : xs.map a.eval = args)
  (he : ∀ W,(callFunc k (p :: args).toArray).run P W = .ok (.enter k (p :: args).toArray) W) (hc : ∀ W,Ext w W → Calls P k (p :: args).toArray W fun e W' => e = .returned v ∧ Ext W W') : Made P o v a w :=
 made_call (fun W => by
  unfold execOp
  simp only [ho,resolve,hf,List.map_toArray,hx,Deferred.ofValue,Sem.run_bind,Sem.run_pure,Result.andThen_ok,invoke]
  simpa using he W) hc
theorem zcy {x : Operand} {ty ty2 : TypeId} {c : Int} {v : Bool} (ho : o.op = .binOp .geq ty x (.const (.int .i64 0)) ty2) (hx : a.eval x = .int .i64 c) (hv : decide (0 ≤ c) = v) : Made P o (.bool v) a w:=zar fun W _ => by
 have h0 : a.eval (.const (.int .i64 0)) = .int .i64 0:=rfl
 unfold execOp
 simp only [ho]
 generalize a.eval = ρ at *
 subst hv
 rw [hx,h0]
 simp [go_sem,eqGuard]
end
section
variable (W : World)
theorem hzN : (Instr.alloc 27 true (.tuple #[])).run Tryz.prog W = .ok (ptrTo W.heap.size) (W.alloc (.cells #[vI vU 0,vI vU 0,vI vU 0,vI vU 0] 27)):=by simp [Instr.alloc,go_sem]
theorem wd_z : wd 0 0 = 0 ∧ wd 0 1 = 0 ∧ wd 0 2 = 0 ∧ wd 0 3 = 0:=by decide
end
theorem heap_is {w : World} {o : Obj} {k : Nat} (hk : k = w.heap.size) : (w.alloc o).heap[k]? = some o:=by subst hk; exact zak w o
theorem blocks1 (w : World) (A : Obj) : Ext w (w.alloc A) ∧ (w.alloc A).heap[w.heap.size]? = some A:=⟨Ext.alloc _ _,heap_is rfl⟩
theorem blocks2 (w : World) (A B : Obj) : Ext w ((w.alloc A).alloc B) ∧ ((w.alloc A).alloc B).heap[w.heap.size]? = some A ∧ ((w.alloc A).alloc B).heap[w.heap.size + 1]? = some B :=
 ⟨(Ext.alloc _ _).trans (Ext.alloc _ _),(Ext.alloc _ _).block (heap_is rfl),heap_is (by simp)⟩
theorem wp_via1 {P : Program} {c : Code} {Q : Exit → Act → World → Prop} {a : Act} {w : World} {A : Obj} (h : ∀ w1,Ext w w1 → w1.heap[w.heap.size]? = some A → c.wp P Q a w1) : c.wp P Q a (w.alloc A):=h _ (blocks1 w A).1 (blocks1 w A).2
theorem zec {P : Program} {c : Code} {Q : Exit → Act → World → Prop} {a : Act} {w : World} {A B : Obj} (h : ∀ w1,Ext w w1 → w1.heap[w.heap.size]? = some A → w1.heap[w.heap.size + 1]? = some B → c.wp P Q a w1) : c.wp P Q a ((w.alloc A).alloc B):=h _ (blocks2 w A B).1 (blocks2 w A B).2.1 (blocks2 w A B).2.2
theorem Ext.new {w w1 W : World} {r : Nat} (h : Ext w w1) (k : But r w1 W) (hr : w.heap.size ≤ r) : Ext w W:=Below.trans h (k.new hr (Below.size h))
def qc (x y : Nat) (f : Bool) : Array Value:=#[vI vU (wd x 0),vI vU (wd x 1),vI vU (wd x 2),vI vU (wd x 3),vI vU (wd y 0),vI vU (wd y 1),vI vU (wd y 2),vI vU (wd y 3),.bool (f)]
def qv (x y : Nat) (f : Bool) : Value:=.agg (qc x y f)
theorem qc_one (x y : Nat) (f : Bool) : (qc x y f).all (·.oneCell') = true:=by simp [qc,Value.oneCell']
theorem iT (x y : Nat) (f : Bool) : (Tryz.prog.info? 29).map (·.size) = some (qc x y f).size:=by kernel_rfl
theorem zda (W : World) : (isAgg 4).run Tryz.prog W = .ok false W:=by simp [isAgg,go_sem]
section
variable (g : Nat) (W : World)
theorem fldT0 : (Instr.fieldAt 29 (ptrTo g) 0).run Tryz.prog W = .ok (.pointer (some ⟨g,0,none⟩)) W:=by simp [Instr.fieldAt,go_sem]
theorem fldT1 : (Instr.fieldAt 29 (ptrTo g) 1).run Tryz.prog W = .ok (.pointer (some ⟨g,4,none⟩)) W:=by simp [Instr.fieldAt,go_sem]
theorem fldT2 : (Instr.fieldAt 29 (ptrTo g) 2).run Tryz.prog W = .ok (.pointer (some ⟨g,8,none⟩)) W:=by simp [Instr.fieldAt,go_sem]
end
theorem eqT {X Y : Nat} {f : Bool} (hX : X < top) (hY : Y < top) (W : World) : (binOp .eql 29 (qv X Y f) (qv X Y f)).run Tryz.prog W = .ok (.bool true) W:=by
 have e:=eql_pt hX hY hX hY f f W
 rw [decide_eq_true ⟨rfl,rfl,rfl⟩] at e
 exact e
theorem gT (X Y X' Y' : Nat) (f f' : Bool) (op : BinOp) (x y : Operand) (W : World) : (eqGuard op 29 x y (qv X Y f) (qv X' Y' f')).run Tryz.prog W = .ok () W:=by
 unfold qv qc
 cases op <;> simp [eqGuard,go_sem]
theorem made_eqn {o : Oper} {a : Act} {w : World} {x y : Operand} {X Y : Nat} (ho : o.op = .binOp .eql 27 x y 27) (hx : a.eval x = nv X) (hy : a.eval y = nv Y) (lX : X < top) (lY : Y < top) : Made Tryz.prog o (.bool (decide (X = Y))) a w:=zar fun W _ => by
 have k:=eql_num lX lY W
 unfold execOp
 simp only [ho]
 generalize a.eval = ρ at *
 rw [hx,hy]
 unfold nv nc at *
 have hg : (eqGuard .eql 27 x y (.agg #[vI vU (wd X 0),vI vU (wd X 1),vI vU (wd X 2),vI vU (wd X 3)]) (.agg #[vI vU (wd Y 0),vI vU (wd Y 1),vI vU (wd Y 2),vI vU (wd Y 3)])).run Tryz.prog W = .ok () W:=by simp [eqGuard,go_sem]
 simp only [Sem.run_bind,hg,Result.andThen_ok,k,Sem.run_pure]
def gc (r s : Nat) : Array Value:=#[vI vU (wd r 0),vI vU (wd r 1),vI vU (wd r 2),vI vU (wd r 3),vI vU (wd s 0),vI vU (wd s 1),vI vU (wd s 2),vI vU (wd s 3)]
theorem gc_one (r s : Nat) : (gc r s).all (·.oneCell') = true:=by simp [gc,Value.oneCell']
theorem iSg (r s : Nat) : (Tryz.prog.info? 78).map (·.size) = some (gc r s).size:=by kernel_rfl
section
variable (g : Nat) (W : World)
end
structure Low where
def Z8 : Array Value:=#[vI vU 0,vI vU 0,vI vU 0,vI vU 0,vI vU 0,vI vU 0,vI vU 0,vI vU 0]
theorem z8_gc : Z8 = gc 0 0:=by
 obtain ⟨h0,h1,h2,h3⟩:=wd_z
 unfold gc Z8
 rw [h0,h1,h2,h3]
theorem iZ8 : (Tryz.prog.info? 78).map (·.size) = some Z8.size:=by kernel_rfl
theorem z8_one : Z8.all (·.oneCell') = true:=by simp [Z8,Value.oneCell']
theorem run_load_v {P : Program} {o : Oper} {a : Act} {ty : TypeId} {x : Operand} {g t : Nat} {cs : Array Value} {fr : Nat × Nat} {d : TypeDesc} {W : World} (ho : o.op = .load ty x) (hx : a.eval x = .pointer (some ⟨g,0,none⟩)) (hb : W.heap[g]? = some (.cells cs t fr))
  (hu : P.underlying ty = some d) (hd : d.isRow = true) (hi : (P.info? ty).map (·.size) = some cs.size) : (execOp a.eval o).run P W = .ok (.value (.agg cs)) W:=by
 have hl : (loadVar ty ⟨g,0,none⟩).run P W = .ok (.agg cs) W:=run_loadVar_mid W g 0 ty cs.toList d (fun j v hv => by rw [cell_of_row W g (0 + j) cs t fr hb,Nat.zero_add]; simpa using hv) hu hd (by simpa using hi)
 unfold execOp
 simp only [ho,hx,Instr.loadAt,Instr.sureAddr,Sem.run_bind,Sem.run_pure,Result.andThen_ok,hl]
theorem run_build_v {P : Program} {o : Oper} {a : Act} {ty : TypeId} {parts : List (Nat × Operand)} {vs : List (Nat × Value)} {v : Value} {W : World} (ho : o.op = .build ty parts.toArray) (hx : parts.map (fun p => (p.1,a.eval p.2)) = vs)
  (hb : (Instr.build ty vs.toArray).run P W = .ok v W) : (execOp a.eval o).run P W = .ok (.value v) W:=by
 unfold execOp
 simp only [ho,List.map_toArray]
 rw [show (parts.map fun x => match x with | (i,x) => (i,a.eval x)) = vs from hx]
 simp only [Sem.run_bind,hb,Result.andThen_ok,Sem.run_pure]
theorem Up.block {w : World} {D : World → Prop} (h : Up w D) {g : Nat} {o : Obj} (hb : w.heap[g]? = some o) (x : Gw D) : x.val.heap[g]? = some o:=(h.grown _ x.property).block hb
def TZ : Array Value:=#[.int .i64 0,.int .i64 0,.int .i64 0,.int .i64 0,.int .i64 0]
theorem iTZ : (Tryz.prog.info? 47).map (·.size) = some TZ.size:=by kernel_rfl
theorem tz_one : TZ.all (·.oneCell') = true:=by simp [TZ,Value.oneCell']
theorem results_two {P : Program} {fn : Func} {q p s : Tmp} {ty ty2 : TypeId} (h : fn.results = #[.cell q ty,.cell p ty2,.tmp s]) (tmps : Array Value) (w : World) (g g2 : Nat) (t t2 : TypeId) (cs cs2 : Array Value) (fr fr2 : Nat × Nat) (d d2 : TypeDesc)
  (hq : tmps.getD q undef = .pointer (some ⟨g,0,none⟩)) (hg : w.heap[g]? = some (.cells cs t fr)) (hu : P.underlying ty = some d) (hd : d.isRow = true) (hi : (P.info? ty).map (·.size) = some cs.size)
  (hp : tmps.getD p undef = .pointer (some ⟨g2,0,none⟩)) (hg2 : w.heap[g2]? = some (.cells cs2 t2 fr2)) (hu2 : P.underlying ty2 = some d2) (hd2 : d2.isRow = true) (hi2 : (P.info? ty2).map (·.size) = some cs2.size) :
  (results fn tmps).run P w = .ok (.tuple #[.agg cs,.agg cs2,tmps.getD s undef]) w:=by
 have hq' : tmps[q]?.getD undef = .pointer (some ⟨g,0,none⟩):=by simpa using hq
 have hp' : tmps[p]?.getD undef = .pointer (some ⟨g2,0,none⟩):=by simpa using hp
 have hl : (loadVar ty ⟨g,0,none⟩).run P w = .ok (.agg cs) w:=run_loadVar_mid w g 0 ty cs.toList d (fun j v hv => by rw [cell_of_row w g (0 + j) cs t fr hg,Nat.zero_add]; simpa using hv) hu hd (by simpa using hi)
 have hl2 : (loadVar ty2 ⟨g2,0,none⟩).run P w = .ok (.agg cs2) w:=run_loadVar_mid w g2 0 ty2 cs2.toList d2 (fun j v hv => by rw [cell_of_row w g2 (0 + j) cs2 t2 fr2 hg2,Nat.zero_add]; simpa using hv) hu2 hd2 (by simpa using hi2)
 simp [results,h,hq',hp',asAddr,hl,hl2]
theorem two_far {W : World} {g g' t : Nat} {cs : Array Value} (T : Array Value) (h : W.heap[g']? = some (.cells cs t (0,0))) (hg : g < g') : (W.setRow g T).heap[g']? = some (.cells cs t (0,0)):=(zca W T (by omega)).trans h
theorem two_rows {w W : World} {g g' t t' : Nat} {T G T0 G0 : Array Value} (hE : Ext w W) (h : W.heap[g]? = some (.cells T0 t (0,0))) (h' : W.heap[g']? = some (.cells G0 t' (0,0))) (hg : w.heap.size ≤ g ∧ g < g') :
  Ext w ((W.setRow g T).setRow g' G) ∧ ((W.setRow g T).setRow g' G).heap[g]? = some (.cells T t (0,0)) ∧ ((W.setRow g T).setRow g' G).heap[g']? = some (.cells G t' (0,0)) :=
 ⟨zau (zau hE hg.1 T) (by omega) G,(zca _ G (by omega)).trans (setRow_heap W g T0 T t (0,0) h),setRow_heap _ g' G0 G t' (0,0) (two_far T h' hg.2)⟩
/-! ### a region that draws its order,order by order -/
section
variable {P : Program} {ops : Array Oper} {Q : Exit → Act → World → Prop} {f j d : Nat} {listed : Array Bool} {a : Act} {w : World}
end
theorem zbc {P : Program} {fn : Func} {q s : Tmp} {ty : TypeId} (h : fn.results = #[.cell q ty,.tmp s]) (tmps : Array Value) (w : World) (g : Nat) (t : TypeId) (cs : Array Value) (fr : Nat × Nat) (d : TypeDesc)
  (hq : tmps.getD q undef = .pointer (some ⟨g,0,none⟩)) (hg : w.heap[g]? = some (.cells cs t fr)) (hu : P.underlying ty = some d) (hd : d.isRow = true) (hi : (P.info? ty).map (·.size) = some cs.size) :
  (results fn tmps).run P w = .ok (.tuple #[.agg cs,tmps.getD s undef]) w:=by
 have hq' : tmps[q]?.getD undef = .pointer (some ⟨g,0,none⟩):=by simpa using hq
 have hl : (loadVar ty ⟨g,0,none⟩).run P w = .ok (.agg cs) w:=run_loadVar_mid w g 0 ty cs.toList d (fun j v hv => by rw [cell_of_row w g (0 + j) cs t fr hg,Nat.zero_add]; simpa using hv) hu hd (by simpa using hi)
 simp [results,h,hq',asAddr,hl]
theorem zdh (w1 : World) (o o2 : Obj) : ((w1.alloc o).alloc o2).heap[w1.heap.size]? = some o ∧ ((w1.alloc o).alloc o2).heap[w1.heap.size + 1]? = some o2:=by
 have h:=zak (w1.alloc o) o2
 rw [World.size_alloc] at h
 exact ⟨(Ext.alloc (w1.alloc o) o2).block (zak w1 o),h⟩
theorem two_ext (w1 : World) (o o2 : Obj) : Ext w1 ((w1.alloc o).alloc o2):=(Ext.alloc _ _).trans (Ext.alloc _ _)
theorem Up.calls {P : Program} {w : World} {D : World → Prop} (h : Up w D) {f : FuncId} {args : Array Value} {v : Value} (k : ∀ W,Ext w W → Calls P f args W fun _e w' => _e = .returned v ∧ Ext W w') (x : Gw D) :
  Calls P f args x.val fun _e w' => _e = .returned v ∧ ∃ y : Gw D,w' = y.val :=
 (k _ (h.grown _ x.property)).mono fun _ w' ⟨he,hE⟩ => ⟨he,⟨w',h.up _ _ x.property hE⟩,rfl⟩
def kyC (k : Ky) : List Value:=.int .i64 k.i :: ((qc k.x k.y k.f).toList ++ [.int .i64 k.a,.int .i64 k.b])
theorem zdz (k : Ky) : (kyC k).length = 12:=by simp [kyC,qc]
abbrev Ks (w : World) (v : Value) (l : List Ky) : Prop:=Ls 12 kyC w v l
def TopK (l : List Ky) : Prop:=∀ k ∈ l,k.x < top ∧ k.y < top
theorem infoKy : (Tryz.prog.info? 55).map (·.size) = some 12:=by kernel_rfl
theorem iKy (k : Ky) : (Tryz.prog.info? 55).map (·.size) = some (kyC k).length:=by rw [zdz]; exact infoKy
theorem iKyA (k : Ky) : (Tryz.prog.info? 55).map (·.size) = some (kyC k).toArray.size:=by rw [List.size_toArray,zdz]; exact infoKy
theorem hzKy (W : World) : (Instr.alloc 55 true (.tuple #[])).run Tryz.prog W = .ok (ptrTo W.heap.size) (W.alloc (.cells #[.int .i64 0,vI vU 0,vI vU 0,vI vU 0,vI vU 0,vI vU 0,vI vU 0,vI vU 0,vI vU 0,.bool false,.int .i64 0,.int .i64 0] 55)):=by simp [Instr.alloc,go_sem]
theorem kyA_one (k : Ky) : (kyC k).toArray.all (·.oneCell') = true:=by simp [kyC,qc,Value.oneCell']
theorem kyA_size (k : Ky) : (#[.int .i64 0,vI vU 0,vI vU 0,vI vU 0,vI vU 0,vI vU 0,vI vU 0,vI vU 0,vI vU 0,.bool false,.int .i64 0,.int .i64 0] : Array Value).size = (kyC k).toArray.size:=by
 have h : (kyC k).toArray.size = 12:=by rw [List.size_toArray,zdz]
 rw [h]
 rfl
section
variable {w : World} {b o : Nat} {k : Ky}
theorem ky_i (h : w.rangeAt b o (kyC k)) : w.cell? ⟨b,o,none⟩ = some (.int .i64 k.i):=h 0 _ rfl
theorem ky_f (h : w.rangeAt b o (kyC k)) : w.cell? ⟨b,o + 9,none⟩ = some (.bool k.f):=h 9 _ rfl
theorem ky_a (h : w.rangeAt b o (kyC k)) : w.cell? ⟨b,o + 10,none⟩ = some (.int .i64 k.a):=h 10 _ rfl
theorem ky_b (h : w.rangeAt b o (kyC k)) : w.cell? ⟨b,o + 11,none⟩ = some (.int .i64 k.b):=h 11 _ rfl
theorem ky_q (h : w.rangeAt b o (kyC k)) : w.rangeAt b (o + 1) (qc k.x k.y k.f).toList:=fun j v hv => by
 have hj : j < 9:=(List.getElem?_eq_some_iff.1 hv).1
 have:=h (j + 1) v (by
  show ((qc k.x k.y k.f).toList ++ _)[j]? = _
  rw [List.getElem?_append_left hj]
  exact hv)
 rw [Nat.add_assoc,Nat.add_comm 1 j]
 exact this
theorem zcg {g : Nat} {fr : Nat × Nat} (h : w.heap[g]? = some (.cells (kyC k).toArray 55 fr)) : w.rangeAt g 0 (kyC k):=fun j v hv => by
 rw [Nat.zero_add,cell_of_row w g j _ _ _ h]
 simpa using hv
end
def qO : Option Ky → Array Value
 | none => qc 0 0 false
 | some k => qc k.x k.y k.f
def PZ : Array Value:=#[vI vU 0,vI vU 0,vI vU 0,vI vU 0,vI vU 0,vI vU 0,vI vU 0,vI vU 0,.bool false]
theorem pz_qc : PZ = qc 0 0 false:=by
 obtain ⟨h0,h1,h2,h3⟩:=wd_z
 unfold qc PZ
 rw [h0,h1,h2,h3]
theorem iPZ : (Tryz.prog.info? 29).map (·.size) = some PZ.size:=by kernel_rfl
theorem pz_one : PZ.all (·.oneCell') = true:=by simp [PZ,Value.oneCell']
theorem zdy {l : List Ky} {i : Nat} (h : i < l.length) : l[i]? = some (l.getD i ky0):=by rw [List.getD_eq_getElem?_getD,List.getElem?_eq_getElem h]; rfl
theorem cells_int : Tryz.prog.cellsOf 3 = 1:=by kernel_rfl
def Tk.ok (t : Tk) : Prop:=∀ n ∈ t.list,(Lit.int .i64 n).wf = true
theorem wpl_rowG {P : Program} {ops : Array Oper} {rest : List Oper} {o : Oper} {a : Act} {w : World} {Q : Exit → Act → World → Prop} (hgd : Region.wanted o (yielded ops a.tmps) = true) (ty : TypeId) (x : Operand) (ho : o.op = .load ty x)
  (g : Nat) (hx : a.eval x = .pointer (some ⟨g,0,none⟩)) (t : TypeId) (cs : Array Value) (fr : Nat × Nat) (d : TypeDesc) (hg : w.heap[g]? = some (.cells cs t fr))
  (hu : P.underlying ty = some d) (hd : (match d with | .struct _ | .array _ _ => true | _ => false) = true) (hi : (P.info? ty).map (·.size) = some cs.size)
  (h : wpList P ops Q rest (a.put o.dst (.agg cs)) w) : wpList P ops Q (o :: rest) a w :=
 wpList_step fun K hK => by
  rw [if_pos hgd]
  exact wp_load_row ty x ho g hx t cs fr d hg hu hd hi (hK _ _ h)
/-! ### what the laws ask of the landed package -/
def WfK (l : List Ky) : Prop:=∀ k ∈ l,(Lit.int .i64 k.i).wf = true ∧ (Lit.int .i64 k.a).wf = true ∧ (Lit.int .i64 k.b).wf = true
theorem cells_ky12 : Tryz.prog.cellsOf 55 = 12:=by kernel_rfl
theorem Up.range {w : World} {D : World → Prop} (h : Up w D) {b off : Nat} {L : List Value} (hb : b < w.heap.size) (hr : w.rangeAt b off L) (x : Gw D) : x.val.rangeAt b off L:=zbf (h.grown _ x.property) hb hr
theorem bldKy (k : Ky) (W : World) : (Instr.build 55 [(0,.int .i64 k.i),(1,.agg (qc k.x k.y k.f)),(2,.int .i64 k.a),(3,.int .i64 k.b)].toArray).run Tryz.prog W = .ok (.agg (kyC k).toArray) W:=by simp [Instr.build,go_sem,qc,kyC]
theorem bslKy (k : Ky) (W : World) : (Instr.buildSlice 22 1 #[(0,.agg (kyC k).toArray)]).run Tryz.prog W = .ok (.slice (some ⟨W.heap.size,0,none⟩) 1 1) (W.alloc (.cells (kyC k).toArray 55)):=by
 simp [Instr.buildSlice,go_sem,kyC,qc]
section
variable {ops : Array Oper} {Q : Exit → Act → World → Prop} {rest : List Oper} {a : Act} {w : World} {op : Oper}
end
theorem wpl_slice1 {P : Program} {ops : Array Oper} {Q : Exit → Act → World → Prop} {rest : List Oper} {a : Act} {w : World} {o : Oper} {t e : TypeId} {len : Nat} {ps : List (Nat × Operand)} {vs : List (Nat × Value)} {C : Array Value} (hg : o.guard = none) (hop : o.op = .buildSlice t len ps.toArray)
  (hv : ps.map (fun (i,x) => (i,a.eval x)) = vs) (hb : (Instr.buildSlice t len vs.toArray).run P w = .ok (.slice (some ⟨w.heap.size,0,none⟩) len len) (w.alloc (.cells C e)))
  (h : wpList P ops Q rest (a.put o.dst (.slice (some ⟨w.heap.size,0,none⟩) len len)) (w.alloc (.cells C e))) : wpList P ops Q (o :: rest) a w:=by
 refine wpList_plain hg fun K hK => ?_
 unfold Oper.wp execOp
 simp only [hop,List.map_toArray]
 rw [show ps.map (fun x => match x with | (i,x) => (i,a.eval x)) = vs from hv]
 simp only [Sem.run_bind,hb,Result.andThen_ok,Sem.run_pure]
 exact hK _ _ h
/-! ### the keys of fields,one by one -/
theorem onB_top {x y : Nat} (h : onB x y false = true) : x < top ∧ y < top:=by
 have e : (256 : Nat) ^ 32 = top:=by decide +kernel
 have:=onB_lt h
 rwa [e] at this
theorem rmay10_calls (v : Value) (l : List Ky) (w : World) (hF : Ks w v l) (hT : TopK l) (hL : l.length ≤ 1000000000) :
  Calls Tryz.prog 8 #[v] w fun e w' => e = .returned (.bool (mayK l)) ∧ Ext w w':=by
 obtain ⟨AL,c,rfl,hc,hx⟩:=hF
 obtain ⟨R,hR⟩ : ∃ R,R = mayK l:=⟨_,rfl⟩
 rw [← hR]
 obtain ⟨n,hn⟩ : ∃ n,n = l.length:=⟨_,rfl⟩
 rw [← hn] at hx hc ⊢
 have HR:=veil (And.intro hR (And.intro hn (And.intro hL hT)))
 have HX:=veil hx
 have hnL : n ≤ 1000000000:=by omega
 clear hR hx hn hL hT
 go_enter Tryz.func8,Tryz.ntmps8
 go_wp2
 go_loopw [3] (fun v wr => ∃ i : Nat,i ≤ n ∧ v = .int .i64 (i : Int) ∧ (∀ j,j < i → okK l j) ∧ Ext w wr)
  (fun v _ => n - (intOf v).toNat)
 case atStart => exact ⟨0,by omega,rfl,fun j hj => by omega,Ext.refl _⟩
 case round =>
  obtain ⟨i,hi,rfl,hall,hE⟩:=hrel
  by_cases hlt : i < n
  ·
   have hd1 : decide ((i : Int) < (n : Int)) = true:=by simp; omega
   have hii : (i : Int) < (n : Int):=by omega
   obtain ⟨b,o,hAL,hb,hcl⟩:=HX.out.resolve_left (by omega)
   have hil : i < l.length:=by have:=HR.out.2.1; omega
   have hgi : l[i]? = some (l.getD i ky0):=by rw [List.getD_eq_getElem?_getD,List.getElem?_eq_getElem hil]; rfl
   have HRG:=veil (zbf hE hb (hcl i _ hgi))
   obtain ⟨k,hk⟩ : ∃ k,k = l.getD i ky0:=⟨_,rfl⟩
   rw [← hk] at HRG
   have hkt:=HR.out.2.2.2 (l.getD i ky0) (List.mem_of_getElem? hgi)
   rw [← hk] at hkt
   have KO:=veil (fun W => show Calls Tryz.prog 21 #[.agg (qc k.x k.y k.f)] W (fun e w' => e = .returned (.bool (onB k.x k.y k.f)) ∧ Ext W w') from ron_calls k.x k.y k.f hkt.1 hkt.2 W)
   have hfalse : ∀ h : ¬ okK l i,R = false:=fun h => HR.out.1.trans (mayK_false hil h)
   have HK:=veil (And.intro hk (And.intro hall hfalse))
   have HP:=veil (And.intro hb hcl)
   clear hk hall hfalse hkt hgi hb hcl
   subst hAL
   go_upto_region 5 with (first
    | ((with_reducible refine zav 15 ?_); refine wpList_load_mid rfl 55 _ rfl b _ rfl (kyC k) _ HRG.out Tryz.underlying55 rfl (iKy k) ?_)
    | ((with_reducible refine zav 4 ?_); refine zde _ _ rfl rfl rfl rfl rfl rfl hzKy (fun _ => rfl) (fun _ => rfl) (iKyA k) (kyA_size k) (kyA_one k) ?_; intro g W hg hW hEW))
   have HW:=veil (And.intro (zcg hW) (hE.trans hEW))
   clear hW hEW
   go_upto_region 6 with (first
    | ((with_reducible refine zav 17 ?_); refine wpList_load_mid rfl 29 _ rfl g 1 rfl _ _ (ky_q HW.out.1) Tryz.underlying29 rfl (iT k.x k.y k.f) ?_)
    | (go_at_call 21; refine (KO.out _).mono ?_; rintro e w2 ⟨rfl,hE2⟩))
   have hrg:=fun j u (hu : (kyC k)[j]? = some u) => zbf hE2 (World.block_lt_of_cell? _ _ (ky_i HW.out.1)) HW.out.1 j u hu
   have hEE:=HW.out.2.trans hE2
   have HH:=veil (And.intro hrg hEE)
   have c0:=ky_i HH.out.1
   have c9:=ky_f HH.out.1
   have c10:=ky_a HH.out.1
   have c11:=ky_b HH.out.1
   simp only [Nat.zero_add] at c9 c10 c11
   clear hrg hE2 KO HW HRG hEE hE
   have hpc : 0 < i → w2.cell? ⟨b,o + (i - 1) * 12,none⟩ = some (.int .i64 (l.getD (i - 1) ky0).i):=fun h0 => by
    have hl2 : i - 1 < l.length:=by omega
    have:=zbf HH.out.2 HP.out.1 (HP.out.2 (i - 1) (l.getD (i - 1) ky0) (by rw [List.getD_eq_getElem?_getD,List.getElem?_eq_getElem hl2]; rfl))
    exact ky_i this
   have HPC:=veil hpc
   clear hpc
   obtain ⟨ki,hki⟩ : ∃ z,z = k.i:=⟨_,rfl⟩
   obtain ⟨kf,hkf⟩ : ∃ z,z = k.f:=⟨_,rfl⟩
   obtain ⟨ka,hka⟩ : ∃ z,z = k.a:=⟨_,rfl⟩
   obtain ⟨kb,hkb⟩ : ∃ z,z = k.b:=⟨_,rfl⟩
   obtain ⟨on,hon⟩ : ∃ z,z = onB k.x k.y k.f:=⟨_,rfl⟩
   rw [← hki] at c0
   rw [← hkf] at c9
   rw [← hka] at c10
   rw [← hkb] at c11
   rw [← hon]
   have HV:=veil (And.intro hki (And.intro hkf (And.intro hka (And.intro hkb hon))))
   clear hki hkf hka hkb hon hil
   have hno : ∀ (p : okK l i → False),R = false:=fun p => HK.out.2.2 p
   have HN:=veil hno
   clear hno
   by_cases g0 : ki < 1
   ·
    have hd2 : decide (ki < 1) = true:=decide_eq_true g0
    have e : R = false:=HN.out fun h => by
     unfold okK at h
     rw [← HK.out.1] at h
     have h1:=h.1
     rw [← HV.out.1] at h1
     omega
    subst e
    go_quiet (fail)
    go_wp2
    go_ret
    exact ⟨rfl,HH.out.2.trans (Ext.drewK _ _)⟩
   ·
    have hd2 : decide (ki < 1) = false:=decide_eq_false g0
    by_cases g1 : 2147483647 < ki
    ·
     have hd3 : decide (2147483647 < ki) = true:=decide_eq_true g1
     have e : R = false:=HN.out fun h => by
      unfold okK at h
      rw [← HK.out.1] at h
      have h1:=h.2.1
      rw [← HV.out.1] at h1
      omega
     subst e
     go_quiet (fail)
     go_wp2
     go_ret
     exact ⟨rfl,HH.out.2.trans (Ext.drewK _ _)⟩
    ·
     have hd3 : decide (2147483647 < ki) = false:=decide_eq_false g1
     cases on with
     | false =>
      have e : R = false:=HN.out fun h => by
       unfold okK at h
       rw [← HK.out.1] at h
       have h1:=h.2.2.1
       rw [← HV.out.2.2.2.2] at h1
       cases h1
      subst e
      go_quiet (fail)
      go_wp2
      go_ret
      exact ⟨rfl,HH.out.2.trans (Ext.drewK _ _)⟩
     | true =>
      cases kf with
      | true =>
       have e : R = false:=HN.out fun h => by
        unfold okK at h
        rw [← HK.out.1] at h
        have h1:=h.2.2.2.1
        rw [← HV.out.2.1] at h1
        cases h1
       subst e
       go_quiet (fail)
       go_wp2
       go_ret
       exact ⟨rfl,HH.out.2.trans (Ext.drewK _ _)⟩
      | false =>
       by_cases g4 : ka < 0
       ·
        have hd6 : decide (ka < 0) = true:=decide_eq_true g4
        have e : R = false:=HN.out fun h => by
         unfold okK at h
         rw [← HK.out.1] at h
         have h1:=h.2.2.2.2.1
         rw [← HV.out.2.2.1] at h1
         omega
        subst e
        go_quiet (fail)
        go_wp2
        go_ret
        exact ⟨rfl,HH.out.2.trans (Ext.drewK _ _)⟩
       ·
        have hd6 : decide (ka < 0) = false:=decide_eq_false g4
        by_cases g5 : kb < ka
        ·
         have hd7 : decide (kb < ka) = true:=decide_eq_true g5
         have e : R = false:=HN.out fun h => by
          unfold okK at h
          rw [← HK.out.1] at h
          have h1:=h.2.2.2.2.2.1
          rw [← HV.out.2.2.1,← HV.out.2.2.2.1] at h1
          omega
         subst e
         go_quiet (fail)
         go_wp2
         go_ret
         exact ⟨rfl,HH.out.2.trans (Ext.drewK _ _)⟩
        ·
         have hd7 : decide (kb < ka) = false:=decide_eq_false g5
         by_cases g6 : 1073741824 < kb
         ·
          have hd8 : decide (1073741824 < kb) = true:=decide_eq_true g6
          have e : R = false:=HN.out fun h => by
           unfold okK at h
           rw [← HK.out.1] at h
           have h1:=h.2.2.2.2.2.2.1
           rw [← HV.out.2.2.2.1] at h1
           omega
          subst e
          go_quiet (fail)
          go_wp2
          go_ret
          exact ⟨rfl,HH.out.2.trans (Ext.drewK _ _)⟩
         ·
          have hd8 : decide (1073741824 < kb) = false:=decide_eq_false g6
          by_cases g7 : i = 0
          ·
           have hd9 : decide (0 < i) = false:=by simp; omega
           have hd9' : decide ((0 : Int) < (i : Int)) = false:=by simp; omega
           have G:=veil g7
           clear g7
           go_quiet (fail)
           go_wp2
           go_roundw
           case rel =>
            refine ⟨i + 1,by omega,by go_num,fun j hj => ?_,HH.out.2.trans (Ext.drewK _ _)⟩
            obtain rfl : j = i:=by have:=G.out; omega
            unfold okK
            rw [← HK.out.1,← HV.out.1,← HV.out.2.1,← HV.out.2.2.1,← HV.out.2.2.2.1,HV.out.2.1,← HV.out.2.2.2.2,← HV.out.2.1]
            exact ⟨by omega,by omega,rfl,rfl,by omega,by omega,by omega,fun h => absurd h (by have:=G.out; omega)⟩
           case measure => simp [intOf]; omega
          ·
           have hd9 : decide (0 < i) = true:=by simp; omega
           have hd9' : decide ((0 : Int) < (i : Int)) = true:=by simp; omega
           have cp:=HPC.out (by omega)
           obtain ⟨z,hz⟩ : ∃ z,z = (l.getD (i - 1) ky0).i:=⟨_,rfl⟩
           rw [← hz] at cp
           have hki2 : (i : Int) - 1 = ((i - 1 : Nat) : Int):=by omega
           obtain ⟨m,hm⟩ : ∃ m,m = i - 1:=⟨_,rfl⟩
           rw [← hm] at cp hki2
           have hmn : (m : Int) < (n : Int):=by omega
           have HZ:=veil (And.intro hz hm)
           clear hz hm
           by_cases g8 : ki ≤ z
           ·
            have hd10 : decide (ki ≤ z) = true:=decide_eq_true g8
            have e : R = false:=HN.out fun h => by
             unfold okK at h
             rw [← HK.out.1] at h
             have h1:=h.2.2.2.2.2.2.2 (by omega)
             rw [← HV.out.1,← HZ.out.1] at h1
             omega
            subst e
            go_quiet (fail)
            go_wp2
            go_ret
            exact ⟨rfl,HH.out.2.trans (Ext.drewK _ _)⟩
           ·
            have hd10 : decide (ki ≤ z) = false:=decide_eq_false g8
            go_quiet (fail)
            go_wp2
            go_roundw
            case rel =>
             refine ⟨i + 1,by omega,by go_num,fun j hj => ?_,HH.out.2.trans (Ext.drewK _ _)⟩
             by_cases e : j = i
             ·
              subst e
              unfold okK
              rw [← HK.out.1,← HV.out.1,← HV.out.2.1,← HV.out.2.2.1,← HV.out.2.2.2.1,HV.out.2.1,← HV.out.2.2.2.2,← HV.out.2.1]
              exact ⟨by omega,by omega,rfl,rfl,by omega,by omega,by omega,fun _ => by rw [← HZ.out.1]; omega⟩
             ·
              exact HK.out.2.1 j (by omega)
            case measure => simp [intOf]; omega
  ·
   obtain rfl : i = n:=by omega
   have e : R = decide ((i : Int) ≤ 32):=by
    rw [HR.out.1,mayK_len (by rw [← HR.out.2.1]; exact hall),← HR.out.2.1]
    by_cases h : i ≤ 32
    ·
     rw [decide_eq_true h,decide_eq_true (by omega)]
    ·
     rw [decide_eq_false h,decide_eq_false (by omega)]
   have HE:=veil e
   clear hall e
   go_wp2
   go_ret
   exact ⟨by rw [HE.out]; rfl,hE⟩
theorem zek {P : Program} {f : FuncId} {fn : Func} {c : Code} (hf : P.funcs[f]? = some fn) (hname : (fn.name == "runtime.NumGoroutine") = false) (hb : fn.body = some c) (args : Array Value) (w : World) :
  (callFunc f args).run P w = .ok (.enter f args) w:=by
 have hn : ¬ fn.name = "runtime.NumGoroutine":=by simpa using hname
 simp [callFunc,go_sem,hf,hb,hn]
end Go.Proofs.YthlbemnbmbmjhaaGreatDoor
