/-
  Of L2 J2 L6 KB La Lb SMath SSpec HBase HWords HWrite HSum SSumA M1 HLaid HLaw N2 NK G8 Q7 Q9 Bit PS S4 FMath FBase Mul64 MulMath ArgB FrameN QArg ArgK.
-/
import Derived.Deep.AppendLies
import Derived.Deep.RegionHeld3
import Derived.Test.YthlbemnbmbmjhaaGreatDoorRows
import Derived.WalkKit
import Derived.WalkSpells
import Derived.WalkLawsBesides
import Derived.Deep.LoopGhost
import Derived.Deep.RegionWith
import Derived.Deep.QuietTactic
import Derived.BigQuiet
import Derived.BigRegion
import Derived.Deep.MidRow
import Derived.Deep.WholeRow
import Derived.ChangeKeysEq
import Derived.Deep.Cut
import Derived.Deep.CutRange
import Derived.StillTailTactics
import Derived.IntWalk
import Derived.Laws.CopyOwn
import Derived.Deep.OwnRows
import Derived.Deep.CutBlock
import Derived.ProofKit
import Derived.LaidMore
import Derived.OpenShut
import Derived.Stop.Joined
import Derived.MakeChecks
import Derived.Carry
import Derived.Laws.BytesString
import Derived.BigFrame
import Derived.Deep.Matrix
import Derived.Laws.OwnMore
import Derived.ChangeSlices
import Derived.Lib.SmallJoins
import Derived.Laws.IdiomArrays
import Derived.Deep.Strs
import Derived.Test.YthlbemnbmbmjhaaGreatDoorZF5
import Derived.Test.YthlbemnbmbmjhaaGreatDoorZF1
import Derived.Test.YthlbemnbmbmjhaaGreatDoorZF4
import Derived.Test.YthlbemnbmbmjhaaGreatDoorZF2
import Derived.Test.YthlbemnbmbmjhaaGreatDoorZF3
set_option maxRecDepth 1000000
set_option maxHeartbeats 20000000
namespace Go.Proofs.YthlbemnbmbmjhaaGreatDoor
open Go.RowKit
open Go.Value renaming int → vI
open Go.IntKind renaming u64 → vU
open Go.Act renaming put → aP
open List renaming setIfInBounds_toArray → lA, set_cons_zero → lZ, set_cons_succ → lS
theorem cntK_no {k : Ky} {id at_ : Int} (h : ¬ (k.i = id ∧ k.a ≤ at_ ∧ at_ < k.b)) : cntK k id at_ = false:=by
 unfold cntK
 simp only [Bool.and_eq_false_iff,decide_eq_false_iff_not]
 omega
theorem cntK_yes {k : Ky} {id at_ : Int} (h : k.i = id ∧ k.a ≤ at_ ∧ at_ < k.b) : cntK k id at_ = true:=by
 unfold cntK
 simp only [Bool.and_eq_true,decide_eq_true_eq]
 omega
theorem rfind10_calls (v : Value) (l : List Ky) (id at_ : Int) (w : World) (hF : Ks w v l) (hL : l.length ≤ 1000000000) :
  Calls Tryz.prog 11 #[v,.int .i64 id,.int .i64 at_] w fun e w' => e = .returned (.tuple #[.agg (qO (findK l id at_)),.bool (findK l id at_).isSome]) ∧ Ext w w':=by
 obtain ⟨AL,c,rfl,hc,hx⟩:=hF
 obtain ⟨n,hn⟩ : ∃ n,n = l.length:=⟨_,rfl⟩
 rw [← hn] at hx hc hL ⊢
 have HX:=veil (And.intro hx hn)
 obtain ⟨R,hR⟩ : ∃ R,R = findK l id at_:=⟨_,rfl⟩
 rw [← hR]
 have HR:=veil hR
 clear hx hn hR
 go_enter Tryz.func11,Tryz.ntmps11
 go_upto_region 1 with (fail)
 obtain ⟨g,hg⟩ : ∃ g,g = w.heap.size:=⟨_,rfl⟩
 obtain ⟨w0,hw0⟩ : ∃ W,W = w.alloc (.cells PZ 29):=⟨_,rfl⟩
 have h0:=zak w (.cells PZ 29)
 have hE0:=Ext.alloc w (.cells PZ 29)
 rw [← hw0] at hE0
 rw [← hw0,← hg] at h0
 have H0:=veil (And.intro hE0 (And.intro h0 (show w.heap.size ≤ g by omega)))
 unfold PZ at hw0
 rw [← hw0,← hg]
 clear hw0 hg h0 hE0
 go_wp2
 go_loopw [8] (fun v wr => ∃ i : Nat,i ≤ n ∧ v = .int .i64 (i : Int) ∧ (∀ j,j < i → cntK (l.getD j ky0) id at_ = false) ∧ Ext w0 wr)
  (fun v _ => n - (intOf v).toNat)
 case atStart => exact ⟨0,by omega,rfl,fun j hj => by omega,Ext.refl _⟩
 case round =>
  obtain ⟨i,hi,rfl,hall,hE⟩:=hrel
  by_cases hlt : i < n
  ·
   have hd1 : decide ((i : Int) < (n : Int)) = true:=by simp; omega
   have hii : (i : Int) < (n : Int):=by omega
   have hil : i < l.length:=by have:=HX.out.2; omega
   obtain ⟨b,o,hAL,hb,hcl⟩:=HX.out.1.resolve_left (by omega)
   have HRG:=veil (zbf (H0.out.1.trans hE) hb (hcl i _ (zdy hil)))
   obtain ⟨k,hk⟩ : ∃ k,k = l.getD i ky0:=⟨_,rfl⟩
   rw [← hk] at HRG
   have c0:=ky_i HRG.out
   have c10:=ky_a HRG.out
   have c11:=ky_b HRG.out
   have HK:=veil (And.intro hk (And.intro hall (And.intro hE hil)))
   subst hAL
   clear hk hall hE hil hb hcl
   by_cases gc : k.i = id ∧ k.a ≤ at_ ∧ at_ < k.b
   ·
    have hr : R = some k:=by
     rw [HR.out,HK.out.1]
     exact findK_at HK.out.2.2.2 HK.out.2.1 (by rw [← HK.out.1]; exact cntK_yes gc)
    have hd2 : decide (k.a ≤ at_) = true:=decide_eq_true gc.2.1
    have hd3 : decide (at_ < k.b) = true:=decide_eq_true gc.2.2
    have f1 : (k.i == id) = true:=by simp [gc.1]
    have HF:=veil (And.intro hr (HK.out.2.2.1.block H0.out.2.1))
    have g1:=gc.1
    rw [g1] at c0 f1
    clear hr gc g1
    go_wp2_with (first
     | ((with_reducible refine zav 44 ?_); refine wpList_load_mid rfl 29 _ rfl b (o + i * 12 + 1) rfl _ _ (ky_q HRG.out) Tryz.underlying29 rfl (iT k.x k.y k.f) ?_)
     | ((with_reducible refine zbb ?_); refine wpList_store_row rfl 29 _ _ rfl g (qc k.x k.y k.f) rfl rfl 29 _ HF.out.2 (iT _ _ _) rfl (qc_one _ _ _) ?_))
    refine bodyPost_ret (zbc rfl _ _ g 29 (qc k.x k.y k.f) (0,0) _ rfl (setRow_heap wr g _ (qc k.x k.y k.f) 29 (0,0) HF.out.2) Tryz.underlying29 rfl (iT _ _ _)) rfl ⟨by rw [HF.out.1]; rfl,zau (H0.out.1.trans HK.out.2.2.1) H0.out.2.2 _⟩
   ·
    have hno:=cntK_no gc
    have HN:=veil hno
    have go : ∀ j,j < i + 1 → cntK (l.getD j ky0) id at_ = false:=fun j hj => by
     by_cases e : j = i
     ·
      subst e
      rw [← HK.out.1]
      exact HN.out
     ·
      exact HK.out.2.1 j (by omega)
    have GO:=veil go
    clear hno go
    by_cases g1 : k.i = id
    ·
     have f1 : (k.i == id) = true:=by simp [g1]
     rw [g1] at c0 f1
     by_cases g2 : k.a ≤ at_
     ·
      have hd2 : decide (k.a ≤ at_) = true:=decide_eq_true g2
      have hd3 : decide (at_ < k.b) = false:=decide_eq_false fun h => gc ⟨g1,g2,h⟩
      clear gc g1 g2
      go_wp2
      go_roundw
      case rel => exact ⟨i + 1,by omega,by go_num,GO.out,HK.out.2.2.1⟩
      case measure => simp [intOf]; omega
     ·
      have hd2 : decide (k.a ≤ at_) = false:=decide_eq_false g2
      clear gc g1 g2
      go_wp2
      go_roundw
      case rel => exact ⟨i + 1,by omega,by go_num,GO.out,HK.out.2.2.1⟩
      case measure => simp [intOf]; omega
    ·
     have f1 : (k.i == id) = false:=by simp [g1]
     clear gc
     go_wp2
     go_roundw
     case rel => exact ⟨i + 1,by omega,by go_num,GO.out,HK.out.2.2.1⟩
     case measure => simp [intOf]; omega
  ·
   obtain rfl : i = n:=by omega
   have hr : R = none:=by
    rw [HR.out]
    exact zcs (by rw [← HX.out.2]; exact hall)
   have HE:=veil (And.intro hr (And.intro hE (hE.block H0.out.2.1)))
   clear hall hr hE
   go_wp2_with ((with_reducible refine zbb ?_); refine wpList_store_row rfl 29 _ _ rfl g PZ rfl rfl 29 _ HE.out.2.2 iPZ rfl pz_one ?_)
   refine bodyPost_ret (zbc rfl _ _ g 29 PZ (0,0) _ rfl (setRow_heap wr g _ PZ 29 (0,0) HE.out.2.2) Tryz.underlying29 rfl iPZ) rfl ⟨by rw [HE.out.1,pz_qc]; rfl,zau (H0.out.1.trans HE.out.2.1) H0.out.2.2 _⟩
end Go.Proofs.YthlbemnbmbmjhaaGreatDoor
namespace Go.Proofs.YthlbemnbmbmjhaaGreatDoor
theorem findK_cnt {l : List Ky} {id at_ : Int} {k : Ky} (h : findK l id at_ = some k) : cntK k id at_ = true ∧ k ∈ l:=by
 unfold findK at h
 exact ⟨List.find?_some (p:=fun k => cntK k id at_) h,List.mem_of_find?_eq_some h⟩
end Go.Proofs.YthlbemnbmbmjhaaGreatDoor
namespace Go.Proofs.YthlbemnbmbmjhaaGreatDoor
open Go.RowKit
open Go.Value renaming int → vI
open Go.IntKind renaming u64 → vU
open Go.Act renaming put → aP
open List renaming setIfInBounds_toArray → lA, set_cons_zero → lZ, set_cons_succ → lS
theorem zeg (o : Option Ky) : PZ.size = (qO o).size:=by cases o <;> rfl
theorem zdj (o : Option Ky) : (Tryz.prog.info? 29).map (·.size) = some (qO o).size:=by cases o <;> exact iT _ _ _
theorem qO_one (o : Option Ky) : (qO o).all (·.oneCell') = true:=by cases o <;> exact qc_one _ _ _
theorem eqCode22 (w : World) : (binOp .eql 35 (.iface 39 (.int .i64 2)) (.iface 39 (.int .i64 2))).run Tryz.prog w = .ok (.bool true) w:=by kernel_rfl
def findC (l : List Ky) (id at_ : Int) : Option Ky:=if mayK l = true then findK l id at_ else none
structure Code10 (L : Low) (I : World → Prop) : Prop where
 keep : ∀ w w',I w → Ext w w' → I w'
 base : ∀ w,Calls Tryz.prog 20 #[] w fun e w' => e = .returned (.agg (qc Pt.gx Pt.gy false)) ∧ Ext w w'
 may : ∀ v l w,Ks w v l → TopK l → l.length ≤ 1000 → Calls Tryz.prog 10 #[v] w fun e w' => e = .returned (.bool (mayK l)) ∧ Ext w w'
 find : ∀ v l id at_ w,Ks w v l → TopK l → l.length ≤ 1000 → Calls Tryz.prog 9 #[v,.int .i64 id,.int .i64 at_] w fun e w' => e = .returned (.tuple #[.agg (qO (findC l id at_)),.bool (findC l id at_).isSome]) ∧ Ext w w'
 check_nil : ∀ w,Calls Tryz.prog 17 #[.slice none 0 0,.slice none 0 0,.int .i64 0] w fun e w' => e = .returned (.tuple #[.agg (tkC ⟨0,0,0,0,0⟩),.iface 39 (.int .i64 2)]) ∧ Ext w w'
theorem onB_base : onB Pt.gx Pt.gy false = true:=by decide +kernel
theorem gx_top : Pt.gx < top:=(onB_top onB_base).1
theorem gy_top : Pt.gy < top:=(onB_top onB_base).2
def kB : Ky:=⟨1,Pt.gx,Pt.gy,false,5,6⟩
theorem may_kB : mayK [kB] = true:=by
 rw [mayK_len fun j hj => ?_]
 ·
  rfl
 ·
  obtain rfl : j = 0:=by simpa using hj
  exact ⟨by decide,by decide,onB_base,rfl,by decide,by decide,by decide,fun h => absurd h (by decide)⟩
theorem find_kB5 : findC [kB] 1 5 = some kB:=by
 unfold findC
 rw [if_pos may_kB]
 rfl
theorem find_kB6 : findC [kB] 1 6 = none:=by
 unfold findC
 rw [if_pos may_kB]
 rfl
theorem top_kB : TopK [kB]:=fun k hk => by
 rw [List.mem_singleton.1 hk]
 exact ⟨gx_top,gy_top⟩
theorem up10 {L : Low} {I : World → Prop} (C : Code10 L I) (w : World) : Calls Tryz.prog 7 #[] w fun e w' => e = .returned (.bool true) ∧ Ext w w':=by
 have KC:=veil (fun W => C.check_nil W)
 have KB:=veil (fun W => C.base W)
 have KF:=veil (fun (g : Nat) (at_ : Int) W (hg : W.heap[g]? = some (.cells (kyC kB).toArray 55 (0,0))) => C.find (.slice (some ⟨g,0,none⟩) 1 1) [kB] 1 at_ W (ls_one hg) top_kB (by decide : (1 : Nat) ≤ 1000))
 have h22:=eqCode22
 go_enter Tryz.func7,Tryz.ntmps7
 go_upto_region 2 with (first
  | (go_at_call 17; refine (KC.out _).mono ?_; rintro e w1 ⟨rfl,hE1⟩)
  | ((with_reducible refine zbb ?_); refine wpList_store_row rfl 47 _ _ rfl w1.heap.size (tkC ⟨0,0,0,0,0⟩) rfl rfl 47 _ (zak w1 _) (iTk _) rfl (tkC_one _) ?_; rw [World.setRow_alloc_new]))
 have hE2:=hE1.trans (Ext.alloc w1 (.cells (tkC ⟨0,0,0,0,0⟩) 47))
 generalize w1.alloc (.cells (tkC ⟨0,0,0,0,0⟩) 47) = w2 at *
 generalize w1.heap.size = g1 at *
 have H2:=veil hE2
 clear hE1 hE2 KC
 refine wp_region_list ?_
 refine wpl_fun (R:=fun v W => v = .agg (qc Pt.gx Pt.gy false) ∧ Ext w2 W) rfl rfl rfl (zek Tryz.func20 rfl rfl _) ((KB.out w2).mono fun e W' ⟨he,hE⟩ => ⟨_,he,rfl,hE⟩) ?_
 rintro _ w3 ⟨rfl,hE3⟩
 simp only [aP,lA,lZ,lS]
 refine zbt (.agg (kyC kB).toArray) rfl (run_build_v (vs:=[(0,.int .i64 1),(1,.agg (qc Pt.gx Pt.gy false)),(2,.int .i64 5),(3,.int .i64 6)]) rfl rfl (bldKy kB _)) ?_
 simp only [aP,lA,lZ,lS]
 refine wpl_slice1 (vs:=[(0,.agg (kyC kB).toArray)]) rfl rfl rfl (bslKy kB w3) ?_
 simp only [aP,lA,lZ,lS]
 have K5:=KF.out w3.heap.size 5 _ (zak w3 _)
 rw [find_kB5] at K5
 refine wpl_fun (R:=fun v W => v = .tuple #[.agg (qO (some kB)),.bool true] ∧ Ext _ W) rfl rfl rfl (zek Tryz.func9 rfl rfl _) (K5.mono fun e W' ⟨he,hE⟩ => ⟨_,he,rfl,hE⟩) ?_
 rintro _ w4 ⟨rfl,hE4⟩
 simp only [aP,lA,lZ,lS]
 refine zbt (.tuple #[.agg (qO (some kB)),.bool true]) rfl rfl ?_
 simp only [aP,lA,lZ,lS]
 refine zbt (.agg (qO (some kB))) rfl rfl ?_
 simp only [aP,lA,lZ,lS]
 refine zbt (.bool true) rfl rfl ?_
 simp only [aP,lA,lZ,lS]
 refine zde (zs:=PZ) _ _ rfl rfl rfl rfl rfl rfl (fun _ => rfl) (fun _ => rfl) (fun _ => rfl) (zdj (some kB)) (zeg (some kB)) (qO_one (some kB)) ?_
 intro g5 w5 _ h5 hE5
 simp only [aP,lA,lZ,lS]
 refine zbt (.bool true) rfl rfl ?_
 simp only [aP,lA,lZ,lS]
 refine wpList_nil ?_
 have H5:=veil (And.intro (H2.out.trans (hE3.trans ((Ext.alloc w3 _).trans (hE4.trans hE5)))) h5)
 clear K5 hE3 hE4 hE5 h5 H2
 go_upto_region 3 with (fail)
 refine wp_region_list ?_
 refine wpl_fun (R:=fun v W => v = .agg (qc Pt.gx Pt.gy false) ∧ Ext w5 W) rfl rfl rfl (zek Tryz.func20 rfl rfl _) ((KB.out w5).mono fun e W' ⟨he,hE⟩ => ⟨_,he,rfl,hE⟩) ?_
 rintro _ w6 ⟨rfl,hE6⟩
 simp only [aP,lA,lZ,lS]
 refine zbt (.agg (kyC kB).toArray) rfl (run_build_v (vs:=[(0,.int .i64 1),(1,.agg (qc Pt.gx Pt.gy false)),(2,.int .i64 5),(3,.int .i64 6)]) rfl rfl (bldKy kB _)) ?_
 simp only [aP,lA,lZ,lS]
 refine wpl_slice1 (vs:=[(0,.agg (kyC kB).toArray)]) rfl rfl rfl (bslKy kB w6) ?_
 simp only [aP,lA,lZ,lS]
 have K6:=KF.out w6.heap.size 6 _ (zak w6 _)
 rw [find_kB6] at K6
 refine wpl_fun (R:=fun v W => v = .tuple #[.agg (qO none),.bool false] ∧ Ext _ W) rfl rfl rfl (zek Tryz.func9 rfl rfl _) (K6.mono fun e W' ⟨he,hE⟩ => ⟨_,he,rfl,hE⟩) ?_
 rintro _ w7 ⟨rfl,hE7⟩
 simp only [aP,lA,lZ,lS]
 refine zbt (.tuple #[.agg (qO none),.bool false]) rfl rfl ?_
 simp only [aP,lA,lZ,lS]
 refine zbt (.agg (qO none)) rfl rfl ?_
 simp only [aP,lA,lZ,lS]
 refine zbt (.bool false) rfl rfl ?_
 simp only [aP,lA,lZ,lS]
 refine zde (zs:=PZ) _ _ rfl rfl rfl rfl rfl rfl (fun _ => rfl) (fun _ => rfl) (fun _ => rfl) (zdj none) (zeg none) (qO_one none) ?_
 intro g8 w8 _ _ hE8
 simp only [aP,lA,lZ,lS]
 refine zbt (.bool false) rfl rfl ?_
 simp only [aP,lA,lZ,lS]
 refine wpList_nil ?_
 have hE9:=hE6.trans ((Ext.alloc w6 _).trans (hE7.trans hE8))
 have H8:=veil (And.intro (H5.out.1.trans hE9) (hE9.block H5.out.2))
 clear K6 hE6 hE7 hE8 hE9 H5
 go_upto_region 4 with (fail)
 refine wp_sched 16 [(true,List.range 16)] (by kernel_rfl) (by kernel_rfl) fun Q' hQ' => ?_
 refine' sched_row (A:=_) _ rfl (by kernel_rfl) ?_ ?_
 rotate_left
 ·
  intro D hD hN
  have KD:=veil (fun x : Gw D => hD.calls (v:=.agg (qc Pt.gx Pt.gy false)) (fun W _ => KB.out W) x)
  have ke : ∀ W,(binOp .eql 29 (.agg (qc Pt.gx Pt.gy false)) (.agg (qc Pt.gx Pt.gy false))).run Tryz.prog W = .ok (.bool true) W:=fun W => eqT gx_top gy_top W
  have kg : ∀ op x y W,(eqGuard op 29 x y (.agg (qc Pt.gx Pt.gy false)) (.agg (qc Pt.gx Pt.gy false))).run Tryz.prog W = .ok () W:=fun op x y W => gT _ _ _ _ _ _ op x y W
  simp only [List.range,List.range.loop,pickI,consO,List.getElem?_cons_zero,List.getElem?_cons_succ]
  iterate 7 (go_big_quiet_step (fail))
  go_big_quiet_want
  refine quiet_val (.agg (qc Pt.gx Pt.gy false)) (fun x => run_load_v rfl rfl (hD.block H8.out.2 x) Tryz.underlying29 rfl (iT _ _ _)) ?_
  simp only [aP,lA,lZ,lS]
  go_big_quiet_on
  go_big_quiet_step (exact KD.out _)
  repeat (go_big_quiet_step (fail))
  exact wpq_end
 refine sched_end hQ' fun w9 hE9 => ?_
 have hE:=H8.out.1.trans hE9
 clear h22
 go_wp2
 go_ret
 exact ⟨rfl,hE⟩
theorem qO_eq {o : Option Ky} (h : ∀ k,o = some k → k.x < top ∧ k.y < top) (W : World) : (binOp .eql 29 (.agg (qO o)) (.agg (qO o))).run Tryz.prog W = .ok (.bool true) W:=by
 cases o with
 | none => exact eqT (by decide) (by decide) W
 | some k => exact eqT (h k rfl).1 (h k rfl).2 W
theorem qO_g (o o' : Option Ky) (op : BinOp) (x y : Operand) (W : World) : (eqGuard op 29 x y (.agg (qO o)) (.agg (qO o'))).run Tryz.prog W = .ok () W:=by
 cases o <;> cases o' <;> exact gT _ _ _ _ _ _ op x y W
theorem find_top {l : List Ky} (hT : TopK l) {id at_ : Int} : ∀ k,findK l id at_ = some k → k.x < top ∧ k.y < top:=fun k h => hT k (findK_cnt h).2
theorem finds_walk {L : Low} {I : World → Prop} (C : Code10 L I) (v : Value) (l : List Ky) (id at_ : Int) (w : World) (hF : Ks w v l) (hT : TopK l) :
  Calls Tryz.prog 3 #[v,.int .i64 id,.int .i64 at_] w fun e w' => e = .returned (.bool true) ∧ Ext w w':=by
 have HF:=veil (And.intro hF hT)
 have HC:=veil C
 obtain ⟨AL,c,rfl,hc,_⟩:=hF
 obtain ⟨n,hn⟩ : ∃ n,n = l.length:=⟨_,rfl⟩
 rw [← hn] at hc HF ⊢
 have HN:=veil hn
 have KU:=veil (up10 HC.out w)
 clear hT C hn
 go_enter Tryz.func3,Tryz.ntmps3
 go_upto_region 2 with (go_at_call 7; refine KU.out.mono ?_; rintro e w1 ⟨rfl,hE1⟩)
 have H1:=veil hE1
 clear hE1 KU
 by_cases g0 : (60 : Int) < (n : Int)
 ·
  have hd : decide ((60 : Int) < (n : Int)) = true:=decide_eq_true g0
  go_wp2
  go_ret
  exact ⟨rfl,H1.out⟩
 ·
  have hd : decide ((60 : Int) < (n : Int)) = false:=decide_eq_false g0
  have hle : l.length ≤ 1000:=by have:=HN.out; omega
  have KM:=veil (fun W (hW : Ext w W) => rmay10_calls _ l W (HF.out.1.ext hW) HF.out.2 (by omega))
  have KN:=veil (fun W (hW : Ext w W) => HC.out.may _ l W (HF.out.1.ext hW) HF.out.2 hle)
  have KF:=veil (fun W (hW : Ext w W) => HC.out.find _ l id at_ W (HF.out.1.ext hW) HF.out.2 hle)
  have KG:=veil (fun W (hW : Ext w W) => rfind10_calls _ l id at_ W (HF.out.1.ext hW) (by omega))
  clear hle g0
  obtain ⟨o,ho⟩ : ∃ o,o = findC l id at_:=⟨_,rfl⟩
  rw [← ho] at KF
  have HO:=veil ho
  clear ho
  go_upto_region 5 with (go_at_call 8; refine (KM.out _ H1.out).mono ?_; rintro e w2 ⟨rfl,hE2⟩)
  have H2:=veil (H1.out.trans hE2)
  clear hE2 H1 KM
  go_upto_region 6 with (first
   | (go_at_call 9; refine (KF.out _ H2.out).mono ?_; rintro e w3 ⟨rfl,hE3⟩)
   | ((with_reducible refine zbb ?_); refine wpList_store_row rfl 29 _ _ rfl w3.heap.size (qO o) rfl rfl 29 _ (zak w3 _) (zdj o) (zeg o) (qO_one o) ?_; rw [World.setRow_alloc_new]))
  have hE4:=hE3.trans (Ext.alloc w3 (.cells (qO o) 29))
  have h9:=zak w3 (.cells (qO o) 29)
  generalize w3.alloc (.cells (qO o) 29) = w4 at *
  generalize w3.heap.size = g9 at *
  have H4:=veil (And.intro (H2.out.trans hE4) h9)
  clear hE3 hE4 h9 H2 KF
  cases hm : mayK l with
  | false =>
   have hon : o = none:=by rw [HO.out]; unfold findC; rw [hm]; rfl
   rw [hm] at KN
   subst hon
   clear hm HO KG
   have ke : ∀ W,(binOp .eql 29 (.agg (qO none)) (.agg #[vI vU 0,vI vU 0,vI vU 0,vI vU 0,vI vU 0,vI vU 0,vI vU 0,vI vU 0,.bool false])).run Tryz.prog W = .ok (.bool true) W:=fun W => by
    have h:=eqT (X:=0) (Y:=0) (f:=false) (by decide) (by decide) W
    unfold qv at h
    show (binOp .eql 29 (.agg (qc 0 0 false)) (.agg PZ)).run Tryz.prog W = _
    rw [pz_qc]
    exact h
   have kg : ∀ op x y W,(eqGuard op 29 x y (.agg (qO none)) (.agg #[vI vU 0,vI vU 0,vI vU 0,vI vU 0,vI vU 0,vI vU 0,vI vU 0,vI vU 0,.bool false])).run Tryz.prog W = .ok () W:=fun op x y W => by
    show (eqGuard op 29 x y (.agg (qc 0 0 false)) (.agg PZ)).run Tryz.prog W = _
    rw [pz_qc]
    exact gT _ _ _ _ _ _ op x y W
   go_wp2_with (first
    | (go_at_call 10; refine (KN.out _ H4.out.1).mono ?_; rintro e w5 ⟨rfl,hE5⟩)
    | ((with_reducible refine zav 40 ?_); refine wpl_rowG rfl 29 _ rfl g9 rfl 29 (qO none) (0,0) _ (hE5.block H4.out.2) Tryz.underlying29 rfl (zdj none) ?_))
   go_ret
   exact ⟨rfl,H4.out.1.trans hE5⟩
  | true =>
   have hon : o = findK l id at_:=by rw [HO.out]; unfold findC; rw [if_pos hm]
   rw [← hon] at KG
   rw [hm] at KN
   have ke : ∀ W,(binOp .eql 29 (.agg (qO o)) (.agg (qO o))).run Tryz.prog W = .ok (.bool true) W:=fun W => qO_eq (by rw [hon]; exact find_top HF.out.2) W
   have kg : ∀ op x y W,(eqGuard op 29 x y (.agg (qO o)) (.agg (qO o))).run Tryz.prog W = .ok () W:=fun op x y W => qO_g o o op x y W
   clear hon hm HO
   have hq1:=zdj o
   have hq2:=zeg o
   have hq3:=qO_one o
   generalize qO o = q at *
   generalize o.isSome = b at *
   have HQ:=veil (And.intro hq1 (And.intro hq2 hq3))
   clear hq1 hq2 hq3
   go_upto_region 9 with (first
    | (go_at_call 11; refine (KG.out _ H4.out.1).mono ?_; rintro e w5 ⟨rfl,hE5⟩)
    | ((with_reducible refine zbb ?_); refine wpList_store_row rfl 29 _ _ rfl w5.heap.size q rfl rfl 29 _ (zak w5 _) HQ.out.1 HQ.out.2.1 HQ.out.2.2 ?_; rw [World.setRow_alloc_new]))
   have hE6:=hE5.trans (Ext.alloc w5 (.cells q 29))
   have h11:=zak w5 (.cells q 29)
   generalize w5.alloc (.cells q 29) = w6 at *
   generalize w5.heap.size = g11 at *
   have H6:=veil (And.intro (H4.out.1.trans hE6) (And.intro (hE6.block H4.out.2) h11))
   clear hE5 hE6 h11 H4 KG
   go_wp2_with (first
    | (go_at_call 10; refine (KN.out _ H6.out.1).mono ?_; rintro e w7 ⟨rfl,hE7⟩)
    | ((with_reducible refine zav 62 ?_); refine wpl_rowG rfl 29 _ rfl g9 rfl 29 q (0,0) _ (hE7.block H6.out.2.1) Tryz.underlying29 rfl HQ.out.1 ?_)
    | ((with_reducible refine zav 63 ?_); refine wpl_rowG rfl 29 _ rfl g11 rfl 29 q (0,0) _ (hE7.block H6.out.2.2) Tryz.underlying29 rfl HQ.out.1 ?_))
   go_ret
   exact ⟨rfl,H6.out.1.trans hE7⟩
end Go.Proofs.YthlbemnbmbmjhaaGreatDoor
namespace Go.Proofs.YthlbemnbmbmjhaaGreatDoor
def rot (x n : Nat) : Nat:=x / 2 ^ n + 2 ^ (32 - n) * (x % 2 ^ n)
end Go.Proofs.YthlbemnbmbmjhaaGreatDoor
namespace Go.Proofs.YthlbemnbmbmjhaaGreatDoor
def kList : List Nat:=[1116352408,1899447441,3049323471,3921009573,961987163,1508970993,2453635748,2870763221,3624381080,310598401,607225278,1426881987,1925078388,2162078206,2614888103,3248222580,3835390401,4022224774,264347078,604807628,770255983,1249150122,1555081692,1996064986,2554220882,2821834349,2952996808,3210313671,3336571891,3584528711,113926993,338241895,666307205,773529912,1294757372,1396182291,1695183700,1986661051,2177026350,2456956037,2730485921,2820302411,3259730800,3345764771,3516065817,3600352804,4094571909,275423344,430227734,506948616,659060556,883997877,958139571,1322822218,1537002063,1747873779,1955562222,2024104815,2227730452,2361852424,2428436474,2756734187,3204031479,3329325298]
def kc (t : Nat) : Nat:=kList.getD t 0
def ad (x y : Nat) : Nat:=(x + y) % 4294967296
def sg0 (x : Nat) : Nat:=rot x 7 ^^^ rot x 18 ^^^ (x / 2 ^ 3)
def sg1 (x : Nat) : Nat:=rot x 17 ^^^ rot x 19 ^^^ (x / 2 ^ 10)
def bs0 (x : Nat) : Nat:=rot x 2 ^^^ rot x 13 ^^^ rot x 22
def bs1 (x : Nat) : Nat:=rot x 6 ^^^ rot x 11 ^^^ rot x 25
def chN (x y z : Nat) : Nat:=(x &&& y) ^^^ ((4294967295 - x) &&& z)
def majN (x y z : Nat) : Nat:=(x &&& y) ^^^ (x &&& z) ^^^ (y &&& z)
def sched (m : Nat → Nat) : Nat → List Nat
 | 0 => []
 | t + 1 => let l:=sched m t
  l ++ [if t < 16 then m t else ad (ad (ad (sg1 (l.getD (t - 2) 0)) (l.getD (t - 7) 0)) (sg0 (l.getD (t - 15) 0))) (l.getD (t - 16) 0)]
def wt (m : Nat → Nat) (t : Nat) : Nat:=(sched m (t + 1)).getD t 0
structure St where
 a : Nat
 b : Nat
 c : Nat
 d : Nat
 e : Nat
 f : Nat
 g : Nat
 h : Nat
def t1N (s : St) (k w : Nat) : Nat:=ad (ad (ad (ad s.h (bs1 s.e)) (chN s.e s.f s.g)) k) w
def t2N (s : St) : Nat:=ad (bs0 s.a) (majN s.a s.b s.c)
def stepN (s : St) (k w : Nat) : St:=⟨ad (t1N s k w) (t2N s),s.a,s.b,s.c,ad s.d (t1N s k w),s.e,s.f,s.g⟩
def roundsN (m : Nat → Nat) (s : St) : Nat → St
 | 0 => s
 | t + 1 => stepN (roundsN m s t) (kc t) (wt m t)
def addSt (x y : St) : St:=⟨ad x.a y.a,ad x.b y.b,ad x.c y.c,ad x.d y.d,ad x.e y.e,ad x.f y.f,ad x.g y.g,ad x.h y.h⟩
def blockN (m : Nat → Nat) (s : St) : St:=addSt s (roundsN m s 64)
def word (text : Nat → Nat) (i : Nat) : Nat:=text i * 16777216 + text (i + 1) * 65536 + text (i + 2) * 256 + text (i + 3)
def blocksN (text : Nat → Nat) : Nat → St
 | 0 => ⟨1779033703,3144134277,1013904242,2773480762,1359893119,2600822924,528734635,1541459225⟩
 | n + 1 => blockN (fun t => word text (64 * n + 4 * t)) (blocksN text n)
def nBlocks (len : Nat) : Nat:=(len + 9 + 63) / 64
def padded (b : Nat → Nat) (len : Nat) : Nat → Nat:=fun i =>
 if i < len then b i else if i = len then 128 else if i < 64 * nBlocks len - 8 then 0 else 8 * len / 256 ^ (64 * nBlocks len - 1 - i) % 256
def shaSt (b : Nat → Nat) (len : Nat) : St:=blocksN (padded b len) (nBlocks len)
end Go.Proofs.YthlbemnbmbmjhaaGreatDoor
namespace Go.Proofs.YthlbemnbmbmjhaaGreatDoor
open Go.RowKit
open Go.Value renaming int → vI
open Go.IntKind renaming u64 → vU
open Go.Act renaming put → aP
open List renaming setIfInBounds_toArray → lA, set_cons_zero → lZ, set_cons_succ → lS
def St.at (s : St) (j : Nat) : Nat:=match j with | 0 => s.a | 1 => s.b | 2 => s.c | 3 => s.d | 4 => s.e | 5 => s.f | 6 => s.g | _ => s.h
section
variable {w w' : World} {g B len : Nat} {s : St} {blk : Nat → Nat}
end
structure KT (w : World) : Prop where
 lt : 0 < w.heap.size
 cell : ∀ j,j < 64 → w.cell? ⟨0,j,none⟩ = some (.int .u32 (kc j : Nat))
section
variable {w w' : World} {B : Nat}
theorem KT.of_block (h : KT w) (e : w'.heap[0]? = w.heap[0]?) (hs : w.heap.size ≤ w'.heap.size) : KT w' :=
 ⟨Nat.lt_of_lt_of_le h.lt hs,fun j hj => (World.cell?_of_block (w:=w) (a:=⟨0,j,none⟩) e).trans (h.cell j hj)⟩
theorem KT.below (h : KT w) (hb : Below B w w') (hB : 0 < B) : KT w':=h.of_block (hb.block 0 hB) hb.size
theorem KT.call (h : KT w) (hb : Below w.heap.size w w') : KT w':=h.below hb h.lt
theorem KT.alloc (h : KT w) (o : Obj) : KT (w.alloc o):=h.of_block (Below.heap_alloc _ _ _ h.lt) (by simp)
theorem KT.drew (h : KT w) : KT w.drew:=⟨h.lt,h.cell⟩
theorem KT.drewN (h : KT w) (k : Nat) : KT (w.drewN k):=⟨h.lt,h.cell⟩
theorem KT.far {b i : Nat} (h : KT w) (hne : 0 ≠ b) (v : Value) : KT (w.setCell ⟨b,i,none⟩ v):=h.of_block (Below.heap_setCell _ _ _ _ hne) (by simp [World.setCell])
theorem KT.grown {r : Nat} (h : KT w) (hg : w.grownBy w' (some r)) (hne : 0 ≠ r) : KT w':=h.of_block (hg.block 0 h.lt (by simpa using hne)) hg.size
end
def pwb (blk : Nat → Nat) (j : Nat) : Nat → Nat
 | 0 => 0
 | m + 1 => pwb blk j m * 256 + blk (4 * j + m)
def pw (blk : Nat → Nat) (k j : Nat) : Nat:=pwb blk j (min (k - 4 * j) 4)
section
variable {w w' : World} {g B L : Nat} {b b' : Nat → Nat}
end
def cat (b : Nat → Nat) (len : Nat) (y : Nat → Nat) : Nat → Nat:=fun i => if i < len then b i else y (i - len)
section
variable {w w' : World} {A : Option Addr} {n g B : Nat} {y : Nat → Nat}
end
def dByte (s : St) (i : Nat) : Nat:=s.at (i / 4) / 256 ^ (3 - i % 4) % 256
section
variable {w wr w' : World} {gR gT gH gK N : Nat} {tx : Nat → Value} {st st' : Nat → Value}
end
def hst (s : St) : Nat → Value:=fun j => .int .u32 (s.at j : Nat)
def upTo (y : Nat → Nat) (n j : Nat) : Nat:=if j < n then y j else 0
def kb (y : Nat → Nat) (n : Nat) : Nat → Nat:=if n > 64 then upTo (fun j => dByte (shaSt y n) j) 32 else upTo y n
def kx (k : Nat → Nat) (x : Nat) (j : Nat) : Value:=.int .u8 ((k j ^^^ x : Nat) : Int)
end Go.Proofs.YthlbemnbmbmjhaaGreatDoor
namespace Go.Proofs.YthlbemnbmbmjhaaGreatDoor
open Go.ChangeShapes Go.WideShapes Go.ChangeAt Go.RowKit
open Go.Value renaming int → vI
open Go.IntKind renaming u64 → vU
open Go.Act renaming put → aP
open List renaming setIfInBounds_toArray → lA, set_cons_zero → lZ, set_cons_succ → lS
theorem own : ownKnob Tryz.prog.godebug = none:=by kernel_rfl
def laidL : List (String × DataW Unit):=[("clapper/sha.roundWords",Rows.laid_clapper_sha_roundWords)]
theorem door_met (os : Os) (args : Array Value) : laidMetH Tryz.prog laidL ((World.doorLaid Tryz.prog 14 os).forCall (fun _ _ => 0) ⟨#[],args,[]⟩).memory :=
 laidMetH_of_parts3 (fuel:=8) (laidMet_of_run' 8 (by kernel_rfl) (by kernel_rfl)) (by kernel_rfl) (by kernel_rfl)
end Go.Proofs.YthlbemnbmbmjhaaGreatDoor
namespace Go.Proofs.YthlbemnbmbmjhaaGreatDoor
open Go.ChangeShapes Go.WideShapes Go.ChangeAt Go.RowKit
open Go.Value renaming int → vI
open Go.IntKind renaming u64 → vU
open Go.Act renaming put → aP
open List renaming setIfInBounds_toArray → lA, set_cons_zero → lZ, set_cons_succ → lS
/-! ### a text -/
/-! ### '==' between sums -/
/-! ### slices cut anywhere -/
theorem kt_now {w wr : World} (h : KT w) (hb : Below w.heap.size w wr) : KT wr:=h.call hb
/-! ### arguments -/
end Go.Proofs.YthlbemnbmbmjhaaGreatDoor
namespace Go.Proofs.YthlbemnbmbmjhaaGreatDoor
open Go.RowKit
open Go.Value renaming int → vI
open Go.IntKind renaming u64 → vU
open Go.Act renaming put → aP
open List renaming setIfInBounds_toArray → lA, set_cons_zero → lZ, set_cons_succ → lS
section
variable {P : Program} {o : Oper} {a : Act} {w : World}
end
def mayB (X : Nat) : Bool:=decide (X ≠ 0) && decide (X < Pt.nn)
structure KV where
 k : Nat → Nat
 v : Nat → Nat
def tx (v : Nat → Nat) (b : Nat) (t : Nat → Nat) : Nat → Nat:=cat v 32 (cat (fun _ => b) 1 t)
def none0 : Nat → Nat:=fun _ => 0
def be (X j : Nat) : Nat:=dg 256 X (31 - j)
def two (D M : Nat) : Nat → Nat:=cat (be D) 32 (be M)
def hf (X M : Nat) : Nat:=if X % 2 = 0 then X / 2 else (X + M) / 2
def x3 (U T X1 X2 : Nat) : Nat:=((U * T % Pt.pp * (U * T % Pt.pp) % Pt.pp + Pt.pp - X1) % Pt.pp + Pt.pp - X2) % Pt.pp
def y3 (U T X1 Y1 X2 : Nat) : Nat:=(U * T % Pt.pp * ((X1 + Pt.pp - x3 U T X1 X2) % Pt.pp) % Pt.pp + Pt.pp - Y1) % Pt.pp
theorem v_three : ((3 : Fin Pt.pp)).val = 3:=by
 rw [← Pt.F_three]
 exact Nat.mod_eq_of_lt three_lt
theorem right_val (x : Fin Pt.pp) : rightN x.val = (x * x * x - 3 * x + Pt.F Pt.bb).val:=by
 unfold rightN
 have e3 : 3 * x.val % Pt.pp = (3 * x).val:=by rw [← Pt.v_mul,v_three]
 have eb : Pt.bb = (Pt.F Pt.bb : Fin Pt.pp).val:=(Nat.mod_eq_of_lt bb_lt).symm
 rw [e3,Pt.v_mul,Pt.v_mul,Pt.v_sub]
 conv => lhs; rw [eb]
 rw [Pt.v_add]
def bit (X n : Nat) : Bool:=X / 2 ^ n % 2 == 1
theorem w64_two : w64 = 2 ^ 64:=by decide
theorem bit_dg (a n r m : Nat) (hr : r < m) : a / (2 ^ m) ^ n % 2 ^ m / 2 ^ r % 2 = a / 2 ^ (m * n + r) % 2:=by
 have h:=zbx (B:=2) (a / (2 ^ m) ^ n) m r hr
 unfold dg at h
 rw [h,← Nat.pow_mul,Nat.div_div_eq_div_mul,← Nat.pow_add]
theorem bit_word (X n : Nat) : (bits BinOp.and IntKind.u64 (wd X (n / 64) / 2 ^ (n % 64)) 1 == 1) = bit X n:=by
 have e : wd X (n / 64) / 2 ^ (n % 64) = ((dg w64 X (n / 64) / 2 ^ (n % 64) : Nat) : Int):=by
  unfold wd
  rw [Int.natCast_ediv]
  simp
 have hlt : dg w64 X (n / 64) / 2 ^ (n % 64) < 18446744073709551616:=Nat.lt_of_le_of_lt (Nat.div_le_self _ _) (dg_lt zaj X _)
 rw [e,show (1 : Int) = ((1 : Nat) : Int) from rfl,u64_and_nat _ _ hlt (by omega),Nat.and_one_is_mod]
 have h:=bit_dg X (n / 64) (n % 64) 64 (Nat.mod_lt _ (by omega))
 rw [Nat.div_add_mod] at h
 unfold bit dg
 rw [w64_two,h]
 rw [Bool.eq_iff_iff]
 simp only [beq_iff_eq]
 omega
theorem bit_in (X n : Nat) (hn : n < 256) (w : World) :
  Calls Tryz.prog 120 #[.agg #[vI vU (wd X 0),vI vU (wd X 1),vI vU (wd X 2),vI vU (wd X 3)],.int .i64 (n : Int)] w fun e w' => e = .returned (.bool (bit X n)) ∧ Below w.heap.size w w':=by
 have hq : n / 64 < 4:=by omega
 have h0 : ¬ (n : Int) < 0:=by omega
 have h1 : ¬ (256 : Int) ≤ (n : Int):=by omega
 have hR : (w.alloc (.cells #[vI vU (wd X 0),vI vU (wd X 1),vI vU (wd X 2),vI vU (wd X 3)] 27)).rowIs w.heap.size 27 4 (fun j => .int .u64 (wd X j)):=zac (n:=4) (by simp) rfl (arr4 fun j => .int .u64 (wd X j))
 have c1:=hR.cell hq
 have l1:=wd_lo X (n / 64)
 have u1:=wd_le X (n / 64)
 clear hR
 go_enter Tryz.func120,Tryz.ntmps120
 go_wp2
 go_ret
 rw [← bit_word]
 exact ⟨rfl,(Below.refl _ _).alloc (Nat.le_refl _) _⟩
end Go.Proofs.YthlbemnbmbmjhaaGreatDoor
namespace Go.Proofs.YthlbemnbmbmjhaaGreatDoor.Pt
abbrev Ne:=Fin nn
section
variable {n : Nat} [NeZero n]
def gi (x : Fin n) : Fin n:=pf x (n - 2)
end
section
variable (n : Nat) [NeZero n]
def iG (a : Nat) : Nat:=(gi (F a : Fin n)).val
end
/-! ### multiples -/
/-! ### signatures -/
def rOf (k : Nat) : Nat:=pX (grp.mul k base).1 % nn
def sOf (d e k : Nat) : Nat:=iG nn k * ((e % nn + rOf k * d % nn) % nn) % nn
end Go.Proofs.YthlbemnbmbmjhaaGreatDoor.Pt
namespace Go.Proofs.YthlbemnbmbmjhaaGreatDoor
open Go.RowKit
open Go.Value renaming int → vI
open Go.IntKind renaming u64 → vU
open Go.Act renaming put → aP
open List renaming setIfInBounds_toArray → lA, set_cons_zero → lZ, set_cons_succ → lS
def pick (D E : Nat) : List Nat → Option (Nat × Nat)
 | [] => none
 | k :: l => if (mayB (Pt.rOf k) && mayB (Pt.sOf D E k)) = true then some (Pt.rOf k,Pt.sOf D E k) else pick D E l
end Go.Proofs.YthlbemnbmbmjhaaGreatDoor
namespace Go.Proofs.YthlbemnbmbmjhaaGreatDoor
def top8 : Nat:=w64 ^ 8
theorem zee : top8 = top * top:=by unfold top8 top; rw [← Nat.pow_add]
theorem zed : w64 = 18446744073709551616:=rfl
theorem div_succ' (B n i : Nat) : n / B ^ (i + 1) = n / B ^ i / B:=by rw [Nat.pow_succ,Nat.div_div_eq_div_mul]
theorem setw {B : Nat} (hB : 0 < B) (Z k n v : Nat) (hk : k < n) (hZ : Z < B ^ n) (hv : v < B) :
  ∃ Z',Z' < B ^ n ∧ (∀ m,dg B Z' m = if m = k then v else dg B Z m) ∧ Z' + B ^ k * dg B Z k = Z + B ^ k * v:=by
 have hP : 0 < B ^ k:=Nat.pow_pos hB
 have e1 : B ^ k * (Z / B ^ k) + Z % B ^ k = Z:=Nat.div_add_mod _ _
 have e2 : B * (Z / B ^ k / B) + Z / B ^ k % B = Z / B ^ k:=Nat.div_add_mod _ _
 have hr:=Nat.mod_lt Z hP
 have hq : Z / B ^ k / B < B ^ (n - (k + 1)):=by
  rw [← div_succ',Nat.div_lt_iff_lt_mul (Nat.pow_pos hB),← Nat.pow_add,show n - (k + 1) + (k + 1) = n by omega]; exact hZ
 have hn : B ^ n = B ^ k * (B * B ^ (n - (k + 1))):=by
  rw [← Nat.mul_assoc,← Nat.pow_succ,← Nat.pow_add]; congr 1; omega
 have hd : dg B Z k = Z / B ^ k % B:=rfl
 have hdm : ∀ j,dg B Z (k + 1 + j) = Z / B ^ k / B / B ^ j % B:=by
  intro j; unfold dg; rw [Nat.pow_add,← Nat.div_div_eq_div_mul,div_succ']
 have hlo : ∀ j,j < k → dg B Z j = dg B (Z % B ^ k) j:=fun j hj => (zbx Z k j hj).symm
 rw [hd,hn]
 clear hd hn hZ
 generalize Z / B ^ k / B = q at *
 generalize Z / B ^ k % B = d at *
 generalize Z / B ^ k = a at *
 generalize Z % B ^ k = r at *
 have hz : r + B ^ k * (v + B * q) = r + B ^ k * v + B ^ k * (B * q):=by rw [Nat.mul_add,Nat.add_assoc]
 refine ⟨r + B ^ k * (v + B * q),?_,?_,?_⟩
 ·
  have : v + B * q + 1 ≤ B * B ^ (n - (k + 1)):=by
   have : B * (q + 1) ≤ B * B ^ (n - (k + 1)):=Nat.mul_le_mul_left _ hq
   rw [Nat.mul_add] at this; omega
  have:=Nat.mul_le_mul_left (B ^ k) this
  rw [Nat.mul_add] at this; omega
 ·
  have hdiv : (r + B ^ k * (v + B * q)) / B ^ k = v + B * q:=by
   rw [Nat.add_mul_div_left _ _ hP,Nat.div_eq_of_lt hr,Nat.zero_add]
  intro m
  by_cases h : m = k
  ·
   rw [if_pos h,h]
   unfold dg
   rw [hdiv,Nat.add_mul_mod_self_left,Nat.mod_eq_of_lt hv]
  ·
   rw [if_neg h]
   by_cases hlt : m < k
   ·
    rw [← zbx _ k m hlt,Nat.add_mul_mod_self_left,Nat.mod_eq_of_lt hr,hlo m hlt]
   ·
    obtain ⟨j,rfl⟩ : ∃ j,m = k + 1 + j:=⟨m - (k + 1),by omega⟩
    rw [hdm]
    unfold dg
    rw [Nat.pow_add,← Nat.div_div_eq_div_mul,div_succ',hdiv,Nat.add_mul_div_left _ _ hB,Nat.div_eq_of_lt hv,Nat.zero_add]
 ·
  rw [hz,← e1,← e2,Nat.mul_add]
  omega
theorem setwd (Z k : Nat) (v : Int) (hk : k < 8) (hZ : Z < top8) (h0 : 0 ≤ v) (h1 : v ≤ 18446744073709551615) :
  ∃ Z',Z' < top8 ∧ (∀ m,wd Z' m = if m = k then v else wd Z m) ∧ Z' + w64 ^ k * dg w64 Z k = Z + w64 ^ k * v.toNat:=by
 obtain ⟨Z',a,b,c⟩:=setw zaj Z k 8 v.toNat hk hZ (by unfold w64; omega)
 refine ⟨Z',a,fun m => ?_,c⟩
 unfold wd
 rw [b m]
 split
 ·
  omega
 ·
  rfl
theorem col_step {B Z Z' Z0 t m c c' x i j M : Nat} (hM : m = dg B M j) (e : Z + c * B ^ (i + j) = Z0 + t * (M % B ^ j) * B ^ i)
  (hx : x + B * c' = t * m + c + dg B Z (i + j)) (hZ : Z' + B ^ (i + j) * dg B Z (i + j) = Z + B ^ (i + j) * x) :
  Z' + c' * B ^ (i + (j + 1)) = Z0 + t * (M % B ^ (j + 1)) * B ^ i:=by
 rw [zaz,← hM,← Nat.add_assoc i j 1,Nat.pow_succ B (i + j)]
 have h1 : t * (M % B ^ j + B ^ j * m) * B ^ i = t * (M % B ^ j) * B ^ i + B ^ (i + j) * (t * m):=by
  rw [Nat.mul_add,Nat.add_mul,Nat.pow_add]
  congr 1
  rw [Nat.mul_left_comm t,Nat.mul_comm (B ^ i),Nat.mul_comm (B ^ j * B ^ i),Nat.mul_comm (B ^ j),Nat.mul_assoc]
 have h2:=congrArg (fun z => B ^ (i + j) * z) hx
 simp only [Nat.mul_add] at h2
 rw [h1]
 have h3 : c' * (B ^ (i + j) * B) = B ^ (i + j) * (B * c'):=by rw [Nat.mul_comm c',Nat.mul_assoc]
 rw [h3]
 rw [Nat.mul_comm c] at e
 generalize B ^ (i + j) * (B * c') = p1 at *
 generalize B ^ (i + j) * (t * m) = p2 at *
 generalize B ^ (i + j) * c = p3 at *
 generalize B ^ (i + j) * dg B Z (i + j) = p4 at *
 generalize B ^ (i + j) * x = p5 at *
 omega
theorem low_dvd {B Z : Nat} {k : Nat} (h : Z % B ^ k = 0) : Z = B ^ k * (Z / B ^ k):=by
 have:=Nat.div_add_mod Z (B ^ k); omega
theorem row_done {B X M Z Z1 Z2 T t c o o' x k : Nat} (hlow : Z % B ^ k = 0) (hT : T < B ^ k) (ht : t < B) (hM : M < B ^ 4) (e : Z + o * B ^ (k + 4) = X + T * M)
  (ht0 : (dg B Z k + t * dg B M 0) % B = 0) (h1 : Z1 + c * B ^ (k + 4) = Z + t * (M % B ^ 4) * B ^ k) (hx : x + B * o' = dg B Z1 (k + 4) + c + o)
  (h2 : Z2 + B ^ (k + 4) * dg B Z1 (k + 4) = Z1 + B ^ (k + 4) * x) :
  Z2 % B ^ (k + 1) = 0 ∧ T + B ^ k * t < B ^ (k + 1) ∧ Z2 + o' * B ^ (k + 1 + 4) = X + (T + B ^ k * t) * M:=by
 have hz:=low_dvd hlow
 rw [Nat.mod_eq_of_lt hM] at h1
 have hp5 : B ^ (k + 1 + 4) = B ^ (k + 4) * B:=by rw [← Nat.pow_succ,show k + 1 + 4 = k + 4 + 1 by omega]
 have hq : B ^ (k + 4) = B ^ (k + 1) * B ^ 3:=by rw [← Nat.pow_add,show k + 1 + 3 = k + 4 by omega]
 have f : Z2 + o' * B ^ (k + 1 + 4) = Z + t * M * B ^ k + o * B ^ (k + 4):=by
  have h3:=congrArg (fun z => B ^ (k + 4) * z) hx
  simp only [Nat.mul_add] at h3
  rw [hp5,Nat.mul_comm o',Nat.mul_assoc (B ^ (k + 4)),Nat.mul_comm o]
  rw [Nat.mul_comm c] at h1
  generalize B ^ (k + 4) * dg B Z1 (k + 4) = p1 at *
  generalize B ^ (k + 4) * x = p2 at *
  generalize B ^ (k + 4) * c = p3 at *
  generalize B ^ (k + 4) * o = p4 at *
  generalize B ^ (k + 4) * (B * o') = p5 at *
  omega
 refine ⟨?_,?_,?_⟩
 ·
  have g : (Z2 + o' * B ^ (k + 1 + 4)) % B ^ (k + 1) = Z2 % B ^ (k + 1):=by
   rw [hp5,hq,Nat.mul_comm o',Nat.mul_assoc,Nat.mul_assoc,Nat.add_mul_mod_self_left]
  rw [← g,f,hq,Nat.mul_comm o,Nat.mul_assoc (B ^ (k + 1)),Nat.add_mul_mod_self_left]
  have hd : (Z / B ^ k + t * M) % B = 0:=by
   have : dg B Z k = Z / B ^ k % B:=rfl
   rw [this] at ht0
   have h0 : dg B M 0 = M % B:=by unfold dg; rw [Nat.pow_zero,Nat.div_one]
   rw [h0,Nat.mod_add_mod,Nat.add_mod,Nat.mul_mod,Nat.mod_mod,← Nat.mul_mod,← Nat.add_mod] at ht0
   exact ht0
  rw [hz,Nat.mul_comm (t * M),← Nat.mul_add,Nat.pow_succ,Nat.mul_mod_mul_left,hd,Nat.mul_zero]
 ·
  rw [Nat.pow_succ]
  have : B ^ k * (t + 1) ≤ B ^ k * B:=Nat.mul_le_mul_left _ ht
  rw [Nat.mul_add] at this; omega
 ·
  rw [f,Nat.add_mul,Nat.mul_right_comm t M,Nat.mul_comm (B ^ k) t]
  generalize t * B ^ k * M = p3 at *
  generalize o * B ^ (k + 4) = p1 at *
  generalize T * M = p2 at *
  omega
theorem times_zero {d n m : Int} (h : (18446744073709551616 : Int) ∣ m * n - 1) :
  (d + (-d % 18446744073709551616 * n) % 18446744073709551616 * m) % 18446744073709551616 = 0:=by
 have e1:=Int.emod_add_mul_ediv (-d) 18446744073709551616
 have e2:=Int.emod_add_mul_ediv (-d % 18446744073709551616 * n) 18446744073709551616
 generalize -d % 18446744073709551616 * n / 18446744073709551616 = q2 at *
 generalize -d % 18446744073709551616 * n % 18446744073709551616 = t at *
 generalize -d / 18446744073709551616 = q1 at *
 generalize -d % 18446744073709551616 = s at *
 obtain ⟨c,hc⟩:=h
 apply Int.emod_eq_zero_of_dvd
 refine ⟨-d * c - q1 * n * m - q2 * m,?_⟩
 have et : t = s * n - 18446744073709551616 * q2:=by omega
 have es : s = -d - 18446744073709551616 * q1:=by omega
 have hmn : m * n = 18446744073709551616 * c + 1:=by omega
 rw [et,es]
 have : (-d - 18446744073709551616 * q1) * n * m = (-d - 18446744073709551616 * q1) * (m * n):=by rw [Int.mul_assoc,Int.mul_comm n]
 simp only [Int.sub_mul,Int.mul_sub,Int.neg_mul,Int.mul_assoc] at *
 rw [Int.mul_comm n m,hmn]
 simp only [Int.mul_add,Int.mul_one]
 have e3 : d * (18446744073709551616 * c) = 18446744073709551616 * (d * c):=by rw [Int.mul_left_comm]
 rw [e3]
 have e4 : q1 * (18446744073709551616 * c) = 18446744073709551616 * (q1 * c):=by rw [Int.mul_left_comm]
 rw [e4]
 omega
/-! ### Newton's steps -/
theorem newton {D E m x : Int} (h : D ∣ m * x - 1) (hE : E ∣ D * D) (hW : E ∣ 18446744073709551616) :
  E ∣ m * (x * ((2 - m * x % 18446744073709551616) % 18446744073709551616) % 18446744073709551616) - 1:=by
 obtain ⟨a,ha⟩:=h
 have e1:=Int.emod_add_mul_ediv (m * x) 18446744073709551616
 have e2:=Int.emod_add_mul_ediv (2 - m * x % 18446744073709551616) 18446744073709551616
 have e3:=Int.emod_add_mul_ediv (x * ((2 - m * x % 18446744073709551616) % 18446744073709551616)) 18446744073709551616
 generalize x * ((2 - m * x % 18446744073709551616) % 18446744073709551616) / 18446744073709551616 = q3 at *
 generalize x * ((2 - m * x % 18446744073709551616) % 18446744073709551616) % 18446744073709551616 = t3 at *
 generalize (2 - m * x % 18446744073709551616) / 18446744073709551616 = q2 at *
 generalize (2 - m * x % 18446744073709551616) % 18446744073709551616 = t2 at *
 generalize m * x / 18446744073709551616 = q1 at *
 generalize m * x % 18446744073709551616 = t1 at *
 -- m x = 1 + D a; t2 = 2 - m x + W (q1 - q2); t3 = x t2 - W q3
 have h3 : t3 = x * t2 - 18446744073709551616 * q3:=by omega
 have h2 : t2 = 2 - m * x + 18446744073709551616 * (q1 - q2):=by omega
 have hk : m * t3 - 1 = -(D * D) * (a * a) + 18446744073709551616 * (m * x * (q1 - q2) - m * q3):=by
  rw [h3,h2]
  have hx : m * x = 1 + D * a:=by omega
  rw [Int.mul_sub,← Int.mul_assoc,Int.mul_add,hx,Int.mul_left_comm m,Int.mul_left_comm (1 + D * a) 18446744073709551616]
  have : (1 + D * a) * (2 - (1 + D * a)) = 1 - D * D * (a * a):=by
   rw [show (2 : Int) - (1 + D * a) = 1 - D * a by omega,Int.mul_sub,Int.mul_one,Int.add_mul,Int.one_mul]
   have : D * a * (D * a) = D * D * (a * a):=by rw [Int.mul_assoc,Int.mul_left_comm a,Int.mul_assoc]
   omega
  rw [this,Int.neg_mul,Int.mul_sub]
  omega
 rw [hk]
 exact Int.dvd_add (Int.dvd_trans (Int.dvd_neg.2 hE) (Int.dvd_mul_right _ _)) (Int.dvd_trans hW (Int.dvd_mul_right _ _))
def dv (k : Nat) : Int:=match k with | 0 => 8 | 1 => 64 | 2 => 4096 | 3 => 16777216 | 4 => 281474976710656 | _ => 18446744073709551616
theorem dv_start {m : Int} (h : m % 2 = 1) : dv 0 ∣ m * m - 1:=by
 show (8 : Int) ∣ m * m - 1
 obtain ⟨a,b,ha,hb⟩ : ∃ a b : Int,m = 8 * a + b ∧ (b = 1 ∨ b = 3 ∨ b = 5 ∨ b = 7):=⟨m / 8,m % 8,by omega,by omega⟩
 have : m * m = 8 * (a * (8 * a) + 2 * (a * b)) + b * b:=by
  rw [ha,Int.add_mul,Int.mul_add,Int.mul_add,Int.mul_assoc,Int.mul_assoc,Int.mul_comm b,Int.mul_assoc 8 a b]
  omega
 rw [this]
 rcases hb with rfl | rfl | rfl | rfl <;> omega
theorem dv_step {m x : Int} {k : Nat} (hk : k < 5) (h : dv k ∣ m * x - 1) :
  dv (k + 1) ∣ m * (x * ((2 - m * x % 18446744073709551616) % 18446744073709551616) % 18446744073709551616) - 1:=by
 refine newton h ?_ ?_
 ·
  match k,hk with
  | 0,_ => decide
  | 1,_ => decide
  | 2,_ => decide
  | 3,_ => decide
  | 4,_ => decide
 ·
  match k,hk with
  | 0,_ => decide
  | 1,_ => decide
  | 2,_ => decide
  | 3,_ => decide
  | 4,_ => decide
/-! ### modulo an odd number,2^256 can be taken away -/
theorem top_twoF : top = 2 ^ 256:=by decide
theorem cop_top {M : Nat} (h : M % 2 = 1) : Nat.Coprime top M:=by
 rw [top_twoF]
 apply Nat.Coprime.pow_left
 unfold Nat.Coprime
 rw [Nat.gcd_rec,h]; rfl
theorem cut_top {M A B : Nat} (hM : M % 2 = 1) (h : A * top % M = B * top % M) : A % M = B % M:=by
 have hc : Nat.Coprime M top:=(cop_top hM).symm
 have key : ∀ {a b : Nat},a ≤ b → a * top % M = b * top % M → a % M = b % M:=by
  intro a b hab h
  have h1 : M ∣ (b - a) * top:=by
   rw [Nat.sub_mul]
   exact Nat.dvd_of_mod_eq_zero (Nat.sub_mod_eq_zero_of_mod_eq h.symm)
  have h2 : M ∣ b - a:=Nat.Coprime.dvd_of_dvd_mul_right hc h1
  obtain ⟨c,hc2⟩:=h2
  rw [show b = a + M * c by omega,Nat.add_mul_mod_self_left]
 rcases Nat.le_total A B with hab | hab
 ·
  exact key hab h
 ·
  exact (key hab h.symm).symm
theorem shr_sum {X M Z T o : Nat} (hX : X < top8) (hT : T < top) (hM0 : 0 < M) (hlow : Z % top = 0) (e : Z + o * top8 = X + T * M) :
  (Z / top + o * top) * top = X + T * M ∧ Z / top + o * top < top + M ∧ (X < M * top → Z / top + o * top < 2 * M):=by
 have hp:=zbe
 have hz : top * (Z / top) + Z % top = Z:=Nat.div_add_mod _ _
 rw [zee] at *
 have e2 : (Z / top + o * top) * top = X + T * M:=by
  rw [Nat.add_mul,Nat.mul_assoc,Nat.mul_comm (Z / top)]; omega
 have hTM : T * M < top * M:=Nat.mul_lt_mul_of_pos_right hT hM0
 refine ⟨e2,?_,fun h => ?_⟩
 ·
  apply Nat.lt_of_mul_lt_mul_right (a:=top)
  rw [e2,Nat.add_mul,Nat.mul_comm M]; omega
 ·
  apply Nat.lt_of_mul_lt_mul_right (a:=top)
  rw [e2,Nat.mul_assoc 2,Nat.mul_comm M] at *
  omega
end Go.Proofs.YthlbemnbmbmjhaaGreatDoor
namespace Go.Proofs.YthlbemnbmbmjhaaGreatDoor
open Go.RowKit
open Go.Value renaming int → vI
open Go.IntKind renaming u64 → vU
open Go.Act renaming put → aP
open List renaming setIfInBounds_toArray → lA, set_cons_zero → lZ, set_cons_succ → lS
def fdf (M : Nat) (N : Int) (Q : Nat) : Nat → Value:=fun j => if j < 4 then .int .u64 (wd M j) else if j = 4 then .int .u64 N else .int .u64 (wd Q (j - 5))
def Fb (w : World) (b M : Nat) (N : Int) (Q : Nat) : Prop:=w.rowIs b 159 9 (fdf M N Q)
structure Fok (M : Nat) (N : Int) (Q : Nat) : Prop where
 m2 : 2 < M
 odd : M % 2 = 1
 mt : M < top
 n0 : 0 ≤ N
 n1 : N ≤ 18446744073709551615
 inv : (18446744073709551616 : Int) ∣ wd M 0 * N - 1
 q : Q = top8 % M
theorem Fok.qm {M : Nat} {N : Int} {Q : Nat} (h : Fok M N Q) : Q < M:=by rw [h.q]; exact Nat.mod_lt _ (by have:=h.m2; omega)
section
variable {w w' : World} {b M Q B : Nat} {N : Int}
theorem Fb.lt (h : Fb w b M N Q) : b < w.heap.size:=World.rowIs.lt h
theorem Fb.below (h : Fb w b M N Q) (hb : Below B w w') (hlt : b < B) : Fb w' b M N Q:=zaa h hb hlt
theorem Fb.call (h : Fb w b M N Q) (hb : Below w.heap.size w w') : Fb w' b M N Q:=zaa h hb h.lt
theorem Fb.drew (h : Fb w b M N Q) : Fb w.drew b M N Q:=h
theorem Fb.alloc (h : Fb w b M N Q) (o : Obj) : Fb (w.alloc o) b M N Q:=World.rowIs.alloc h o
theorem Fb.far {b' i : Nat} (h : Fb w b M N Q) (hne : b ≠ b') (v : Value) : Fb (w.setCell ⟨b',i,none⟩ v) b M N Q:=zaq h hne v
theorem Fb.mod (h : Fb w b M N Q) : w.cell? ⟨b,0,none⟩ = some (vI vU (wd M 0)) ∧ w.cell? ⟨b,1,none⟩ = some (vI vU (wd M 1)) ∧ w.cell? ⟨b,2,none⟩ = some (vI vU (wd M 2)) ∧ w.cell? ⟨b,3,none⟩ = some (vI vU (wd M 3)) :=
 ⟨World.rowIs.cell h (by omega),World.rowIs.cell h (by omega),World.rowIs.cell h (by omega),World.rowIs.cell h (by omega)⟩
theorem Fb.inv (h : Fb w b M N Q) : w.cell? ⟨b,4,none⟩ = some (vI vU N):=World.rowIs.cell h (by omega)
theorem Fb.sq (h : Fb w b M N Q) : w.cell? ⟨b,5,none⟩ = some (vI vU (wd Q 0)) ∧ w.cell? ⟨b,6,none⟩ = some (vI vU (wd Q 1)) ∧ w.cell? ⟨b,7,none⟩ = some (vI vU (wd Q 2)) ∧ w.cell? ⟨b,8,none⟩ = some (vI vU (wd Q 3)) :=
 ⟨World.rowIs.cell h (by omega),World.rowIs.cell h (by omega),World.rowIs.cell h (by omega),World.rowIs.cell h (by omega)⟩
end
theorem wide_num (X : Nat) (h : X < top) : wd X 4 = 0 ∧ wd X 5 = 0 ∧ wd X 6 = 0 ∧ wd X 7 = 0:=by
 have e : ∀ i,4 ≤ i → wd X i = 0:=by
  intro i hi
  unfold wd dg
  rw [Nat.div_eq_of_lt (Nat.lt_of_lt_of_le h (Nat.pow_le_pow_right zaj hi))]; rfl
 exact ⟨e 4 (by omega),e 5 (by omega),e 6 (by omega),e 7 (by omega)⟩
theorem wide_calls (X : Nat) (hX : X < top) (w : World) :
  Calls Tryz.prog 156 #[.agg #[vI vU (wd X 0),vI vU (wd X 1),vI vU (wd X 2),vI vU (wd X 3)]] w fun e w' => e = .returned (.agg #[vI vU (wd X 0),vI vU (wd X 1),vI vU (wd X 2),vI vU (wd X 3),vI vU (wd X 4),vI vU (wd X 5),vI vU (wd X 6),vI vU (wd X 7)]) ∧ Below w.heap.size w w':=by
 obtain ⟨e4,e5,e6,e7⟩:=wide_num X hX
 rw [e4,e5,e6,e7]
 have hA0 : ((w.alloc (.cells #[vI vU (wd X 0),vI vU (wd X 1),vI vU (wd X 2),vI vU (wd X 3)] 27)).alloc (.cells #[vI vU 0,vI vU 0,vI vU 0,vI vU 0,vI vU 0,vI vU 0,vI vU 0,vI vU 0] 165)).rowIs w.heap.size 27 4 (fun j => .int .u64 (wd X j)):=(zac (n:=4) (by simp) rfl (arr4 fun j => .int .u64 (wd X j))).alloc _
 have hR0 : ((w.alloc (.cells #[vI vU (wd X 0),vI vU (wd X 1),vI vU (wd X 2),vI vU (wd X 3)] 27)).alloc (.cells #[vI vU 0,vI vU 0,vI vU 0,vI vU 0,vI vU 0,vI vU 0,vI vU 0,vI vU 0] 165)).rowIs (w.heap.size + 1) 165 8 (fun _ => .int .u64 0):=zac (n:=8) (by simp) rfl (arr8 fun _ => .int .u64 0)
 obtain ⟨c0,c1,c2,c3⟩:=zab hA0
 obtain ⟨f0,f1,f2,f3,f4,f5,f6,f7⟩:=row_f8 hR0
 obtain ⟨d0,d1,d2,d3,d4,d5,d6,d7⟩:=row_c8 hR0
 clear e4 e5 e6 e7
 go_enter Tryz.func156,Tryz.ntmps156
 go_wp2
 exact bodyPost_ret (results_cell_row rfl _ _ (w.heap.size + 1) 165 #[vI vU (wd X 0),vI vU (wd X 1),vI vU (wd X 2),vI vU (wd X 3),vI vU 0,vI vU 0,vI vU 0,vI vU 0] (0,0) _ rfl (blk8 (zac (n:=8) (f:=fun j => if j < 4 then Value.int .u64 (wd X j) else .int .u64 0) (by simp) rfl (arr8 fun j => if j < 4 then Value.int .u64 (wd X j) else .int .u64 0))) Tryz.underlying165 rfl (by kernel_rfl)) rfl ⟨rfl,((Below.refl _ _).alloc (by simp) _).alloc (by simp) _⟩
theorem inverse_calls (m : Int) (h0 : 0 ≤ m) (h1 : m ≤ 18446744073709551615) (hodd : m % 2 = 1) (w : World) :
  Calls Tryz.prog 137 #[vI vU m] w fun e w' => ∃ n : Int,0 ≤ n ∧ n ≤ 18446744073709551615 ∧ (18446744073709551616 : Int) ∣ m * n - 1 ∧ e = .returned (.int .u64 n) ∧ w' = w:=by
 have hS:=veil (dv_start hodd)
 clear hodd
 go_enter Tryz.func137,Tryz.ntmps137
 go_wp2
 go_loopw [3,5] (fun x i wr => ∃ (k : Nat) (n : Int),k ≤ 5 ∧ i = .int .i64 (k : Int) ∧ x = .int .u64 n ∧ 0 ≤ n ∧ n ≤ 18446744073709551615 ∧ Hid (dv k ∣ m * n - 1) ∧ wr = w)
  (fun _ i _ => 5 - (intOf i).toNat)
 case atStart => exact ⟨0,m,by omega,rfl,rfl,h0,h1,hS,rfl⟩
 case round =>
  obtain ⟨k,n,hk,rfl,rfl,n0,n1,hD,rfl⟩:=hrel
  by_cases hlt : k < 5
  ·
   have hn:=veil (dv_step hlt hD.out)
   obtain ⟨y,hy⟩ : ∃ y,y = n * ((2 - m * n % 18446744073709551616) % 18446744073709551616) % 18446744073709551616:=⟨_,rfl⟩
   rw [← hy] at hn
   have y0 : 0 ≤ y:=by omega
   have y1 : y ≤ 18446744073709551615:=by omega
   have hY:=veil hy
   clear hy
   go_wp2
   go_roundw
   case rel => exact ⟨k + 1,y,by omega,by go_num,by simp only [IntKind.wrap_u64]; rw [hY.out],y0,y1,hn,trivial⟩
   case measure => simp [intOf]; omega
  ·
   obtain rfl : k = 5:=by omega
   go_wp2
   go_ret
   exact ⟨n,n0,n1,hD.out,rfl,rfl⟩
theorem ret_u2 {a b c d : Int} (h : a = b) (h2 : c = d) : Ending.returned (.tuple #[vI vU a,vI vU c]) = .returned (.tuple #[vI vU b,vI vU d]):=by rw [h,h2]
theorem mul64 (x y : Int) (hx : 0 ≤ x) (hx2 : x ≤ 18446744073709551615) (hy : 0 ≤ y) (hy2 : y ≤ 18446744073709551615) (w : World) :
  Calls Tryz.prog 160 #[vI vU x,vI vU y] w fun e w' => e = .returned (.tuple #[vI vU (x * y / 18446744073709551616),vI vU (x * y % 18446744073709551616)]) ∧ w' = w:=by
 have key:=mul64_arith x y hx (by omega) hy (by omega)
 have m1:=and_low32 x hx (by omega)
 have m2:=and_low32 y hy (by omega)
 have K:=veil key
 have M1:=veil m1
 have M2:=veil m2
 clear key m1 m2
 go_enter Tryz.func160,Tryz.ntmps160
 go_wp2
 go_ret2
 refine ⟨ret_u2 ?_ ?_,rfl⟩
 ·
  simp only [M1.out,M2.out,IntKind.wrap_u64]
  rw [and_low32 _ (by omega) (by omega)]
  exact K.out
 ·
  exact IntKind.wrap_u64 _
theorem ma_bound {x y : Int} (hx : 0 ≤ x) (hx2 : x ≤ 18446744073709551615) (hy : 0 ≤ y) (hy2 : y ≤ 18446744073709551615) : 0 ≤ x * y ∧ x * y ≤ 340282366920938463426481119284349108225:=by
 refine ⟨Int.mul_nonneg hx hy,?_⟩
 have:=Int.mul_le_mul hx2 hy2 hy (by omega : (0 : Int) ≤ 18446744073709551615)
 omega
theorem mulAdd_calls (x y u v : Int) (hx : 0 ≤ x) (hx2 : x ≤ 18446744073709551615) (hy : 0 ≤ y) (hy2 : y ≤ 18446744073709551615) (hu : 0 ≤ u) (hu2 : u ≤ 18446744073709551615) (hv : 0 ≤ v) (hv2 : v ≤ 18446744073709551615) (w : World) :
  Calls Tryz.prog 150 #[vI vU x,vI vU y,vI vU u,vI vU v] w fun e w' => e = .returned (.tuple #[vI vU ((x * y + u + v) % 18446744073709551616),vI vU ((x * y + u + v) / 18446744073709551616)]) ∧ w' = w:=by
 obtain ⟨p0,p1⟩:=ma_bound hx hx2 hy hy2
 obtain ⟨P,hP⟩ : ∃ P,P = x * y:=⟨_,rfl⟩
 rw [← hP] at p0 p1 ⊢
 obtain ⟨L,hL⟩ : ∃ L,L = P % 18446744073709551616:=⟨_,rfl⟩
 obtain ⟨Hh,hH⟩ : ∃ Hh,Hh = P / 18446744073709551616:=⟨_,rfl⟩
 obtain ⟨L1,hL1⟩ : ∃ L1,L1 = (L + u + 0) % 18446744073709551616:=⟨_,rfl⟩
 obtain ⟨c1,hc1⟩ : ∃ c1,c1 = (L + u + 0) / 18446744073709551616:=⟨_,rfl⟩
 obtain ⟨L2,hL2⟩ : ∃ L2,L2 = (L1 + v + 0) % 18446744073709551616:=⟨_,rfl⟩
 obtain ⟨c2,hc2⟩ : ∃ c2,c2 = (L1 + v + 0) / 18446744073709551616:=⟨_,rfl⟩
 have h29a:=fun W => add64 L u 0 (by omega) hu (by omega) (by omega) W
 have h29b:=fun W => add64 L1 v 0 (by omega) hv (by omega) (by omega) W
 rw [← hL1,← hc1] at h29a
 rw [← hL2,← hc2] at h29b
 have b1 : 0 ≤ Hh:=by omega
 have b2 : 0 ≤ c1:=by omega
 have b3 : 0 ≤ c2:=by omega
 have b4 : Hh + c1 ≤ 18446744073709551615:=by omega
 have b5 : Hh + c1 + c2 ≤ 18446744073709551615:=by omega
 have e1 : (P + u + v) % 18446744073709551616 = L2:=by omega
 have e2 : (P + u + v) / 18446744073709551616 = Hh + c1 + c2:=by omega
 have hM:=fun W => mul64 x y hx hx2 hy hy2 W
 rw [← hP,← hL,← hH] at hM
 have HM:=veil hM
 have E:=veil (And.intro e1 e2)
 clear hM e1 e2 hP hL hH hL1 hc1 hL2 hc2 p0 p1 hx hx2 hy hy2 hu hu2 hv hv2
 go_enter Tryz.func150,Tryz.ntmps150
 go_wp2_with (go_at_call 160; refine (HM.out _).mono ?_; rintro e w' ⟨rfl,rfl⟩)
 go_ret2
 rw [E.out.1,E.out.2]
 exact ⟨rfl,rfl⟩
end Go.Proofs.YthlbemnbmbmjhaaGreatDoor
namespace Go.Proofs.YthlbemnbmbmjhaaGreatDoor
def PP (B X Y i : Nat) : Nat:=X % B ^ i * Y
def TT (B X Y i j : Nat) : Nat:=PP B X Y i % B ^ (i + j) + dg B X i * (B ^ i * (Y % B ^ j))
def CC (B X Y i j : Nat) : Nat:=TT B X Y i j / B ^ (i + j)
def UU (B X Y i j m : Nat) : Nat:=if m < i + j then dg B (TT B X Y i j) m else dg B (PP B X Y i) m
theorem UU_start {B : Nat} (X Y i m : Nat) : UU B X Y i 0 m = dg B (PP B X Y i) m:=by
 unfold UU
 split
 ·
  rename_i h
  unfold TT
  simp only [Nat.pow_zero,Nat.mod_one,Nat.mul_zero,Nat.add_zero] at *
  exact zbx _ i m h
 ·
  rfl
theorem CC_start {B : Nat} (hB : 0 < B) (X Y i : Nat) : CC B X Y i 0 = 0:=by
 unfold CC TT
 simp only [Nat.pow_zero,Nat.mod_one,Nat.mul_zero,Nat.add_zero]
 exact Nat.div_eq_of_lt (Nat.mod_lt _ (Nat.pow_pos hB))
theorem TT_lt {B : Nat} (hB : 0 < B) (X Y i j : Nat) : TT B X Y i j < B ^ (i + j) * B:=by
 have hQ : 0 < B ^ (i + j):=Nat.pow_pos hB
 have h1:=Nat.mod_lt (PP B X Y i) hQ
 have h2 : B ^ i * (Y % B ^ j) ≤ B ^ (i + j):=by
  rw [Nat.pow_add]
  exact Nat.mul_le_mul_left _ (Nat.le_of_lt (Nat.mod_lt _ (Nat.pow_pos hB)))
 have h3 : dg B X i * (B ^ i * (Y % B ^ j)) ≤ (B - 1) * B ^ (i + j):=Nat.mul_le_mul (by have:=dg_lt hB X i; omega) h2
 unfold TT
 have h4 : B ^ (i + j) * B = B ^ (i + j) + (B - 1) * B ^ (i + j):=by
  obtain ⟨b,rfl⟩ : ∃ b,B = b + 1:=⟨B - 1,by omega⟩
  rw [Nat.add_sub_cancel,Nat.mul_add,Nat.mul_one,Nat.mul_comm]
  omega
 omega
theorem CC_lt {B : Nat} (hB : 0 < B) (X Y i j : Nat) : CC B X Y i j < B:=by
 unfold CC
 rw [Nat.div_lt_iff_lt_mul (Nat.pow_pos hB),Nat.mul_comm]
 exact TT_lt hB X Y i j
theorem UU_lt {B : Nat} (hB : 0 < B) (X Y i j m : Nat) : UU B X Y i j m < B:=by
 unfold UU
 split <;> exact dg_lt hB _ _
theorem TT_step {B : Nat} (X Y i j : Nat) :
  TT B X Y i (j + 1) = TT B X Y i j % B ^ (i + j) + B ^ (i + j) * (dg B X i * dg B Y j + dg B (PP B X Y i) (i + j) + CC B X Y i j):=by
 have h1 : TT B X Y i (j + 1) = TT B X Y i j + B ^ (i + j) * (dg B (PP B X Y i) (i + j) + dg B X i * dg B Y j):=by
  unfold TT
  rw [show i + (j + 1) = (i + j) + 1 by omega,zaz B (PP B X Y i) (i + j),zaz B Y j,Nat.mul_add (B ^ i),← Nat.mul_assoc (B ^ i),← Nat.pow_add,Nat.mul_add (dg B X i),Nat.mul_add (B ^ (i + j)),
   show dg B X i * (B ^ (i + j) * dg B Y j) = B ^ (i + j) * (dg B X i * dg B Y j) by rw [Nat.mul_left_comm]]
  omega
 have h2 : B ^ (i + j) * CC B X Y i j + TT B X Y i j % B ^ (i + j) = TT B X Y i j:=Nat.div_add_mod _ _
 rw [h1,Nat.mul_add,Nat.mul_add,Nat.mul_add]
 omega
theorem UU_step {B : Nat} (hB : 0 < B) (X Y i j : Nat) : UU B X Y i (j + 1) (i + j) = (dg B X i * dg B Y j + UU B X Y i j (i + j) + CC B X Y i j) % B:=by
 have hu : UU B X Y i j (i + j) = dg B (PP B X Y i) (i + j):=by unfold UU; rw [if_neg (by omega)]
 rw [hu]
 unfold UU
 rw [if_pos (by omega),dg,TT_step,Nat.add_mul_div_left _ _ (Nat.pow_pos hB),Nat.div_eq_of_lt (Nat.mod_lt _ (Nat.pow_pos hB)),Nat.zero_add]
theorem CC_step {B : Nat} (hB : 0 < B) (X Y i j : Nat) : CC B X Y i (j + 1) = (dg B X i * dg B Y j + UU B X Y i j (i + j) + CC B X Y i j) / B:=by
 have hu : UU B X Y i j (i + j) = dg B (PP B X Y i) (i + j):=by unfold UU; rw [if_neg (by omega)]
 rw [hu]
 show TT B X Y i (j + 1) / B ^ (i + (j + 1)) = _
 rw [show i + (j + 1) = (i + j) + 1 by omega,Nat.pow_succ,← Nat.div_div_eq_div_mul,TT_step,Nat.add_mul_div_left _ _ (Nat.pow_pos hB),Nat.div_eq_of_lt (Nat.mod_lt _ (Nat.pow_pos hB)),Nat.zero_add]
theorem UU_other {B : Nat} (X Y i j m : Nat) (hm : m ≠ i + j) : UU B X Y i (j + 1) m = UU B X Y i j m:=by
 unfold UU
 by_cases h : m < i + j
 ·
  rw [if_pos (by omega),if_pos h,← zbx _ (i + j) m h,TT_step,Nat.add_mul_mod_self_left,Nat.mod_mod,zbx _ (i + j) m h]
 ·
  rw [if_neg (by omega),if_neg h]
theorem PP_lt {B : Nat} (hB : 0 < B) (X Y i n : Nat) (hY : Y < B ^ n) : PP B X Y i < B ^ (i + n):=by
 have h1 : X % B ^ i < B ^ i:=Nat.mod_lt _ (Nat.pow_pos hB)
 unfold PP
 rw [Nat.pow_add]
 exact Nat.mul_lt_mul_of_lt_of_le h1 (Nat.le_of_lt hY) (by omega)
theorem PP_step {B : Nat} (hB : 0 < B) (X Y i n : Nat) (hY : Y < B ^ n) : PP B X Y (i + 1) = TT B X Y i n:=by
 unfold TT
 rw [Nat.mod_eq_of_lt (PP_lt hB X Y i n hY),Nat.mod_eq_of_lt hY]
 unfold PP
 rw [zaz,Nat.add_mul,Nat.mul_comm (B ^ i) (dg B X i),Nat.mul_assoc]
theorem PP_row {B : Nat} (hB : 0 < B) (X Y i n m : Nat) (hY : Y < B ^ n) : dg B (PP B X Y (i + 1)) m = if m = i + n then CC B X Y i n else UU B X Y i n m:=by
 rw [PP_step hB X Y i n hY]
 by_cases h : m = i + n
 ·
  subst h
  rw [if_pos rfl]
  show CC B X Y i n % B = _
  exact Nat.mod_eq_of_lt (CC_lt hB X Y i n)
 ·
  rw [if_neg h]
  unfold UU
  by_cases h2 : m < i + n
  ·
   rw [if_pos h2]
  ·
   rw [if_neg h2]
   have hle : B ^ (i + n) * B ≤ B ^ m:=by rw [← Nat.pow_succ]; exact Nat.pow_le_pow_right hB (by omega)
   have h3:=TT_lt hB X Y i n
   have h4:=PP_lt hB X Y i n hY
   have h5 : B ^ (i + n) ≤ B ^ (i + n) * B:=Nat.le_mul_of_pos_right _ hB
   unfold dg
   rw [Nat.div_eq_of_lt (by omega),Nat.div_eq_of_lt (by omega)]
theorem PP_zero (B X Y : Nat) : PP B X Y 0 = 0:=by simp [PP,Nat.mod_one]
theorem PP_end {B : Nat} (X Y n : Nat) (hX : X < B ^ n) : PP B X Y n = X * Y:=by unfold PP; rw [Nat.mod_eq_of_lt hX]
theorem dg_zero (B i : Nat) : dg B 0 i = 0:=by simp [dg]
end Go.Proofs.YthlbemnbmbmjhaaGreatDoor
namespace Go.Proofs.YthlbemnbmbmjhaaGreatDoor
open Go.ChangeShapes Go.WideShapes Go.RowKit
open Go.Value renaming int → vI
open Go.IntKind renaming u64 → vU
open Go.Act renaming put → aP
open List renaming setIfInBounds_toArray → lA, set_cons_zero → lZ, set_cons_succ → lS
theorem ownT : ownKnob Tryz.prog.godebug = none:=by kernel_rfl
theorem laidOutT : laidOutB Tryz.prog = true:=by kernel_rfl
end Go.Proofs.YthlbemnbmbmjhaaGreatDoor
namespace Go.Proofs.YthlbemnbmbmjhaaGreatDoor
open Go.ChangeShapes Go.WideShapes Go.ChangeAt Go.RowKit
open Go.Value renaming int → vI
open Go.IntKind renaming u64 → vU
open Go.Act renaming put → aP
open List renaming setIfInBounds_toArray → lA, set_cons_zero → lZ, set_cons_succ → lS
theorem cellsWord : Tryz.prog.cellsOf 25 = 1:=by kernel_rfl
def numD {H : Type} (X : Nat) : DataW H:=.agg [.lit (.int .u64 (wd X 0)),.lit (.int .u64 (wd X 1)),.lit (.int .u64 (wd X 2)),.lit (.int .u64 (wd X 3))]
theorem wf_u64 {x : Int} (h : (Lit.int .u64 x).wf = true) : 0 ≤ x ∧ x < 18446744073709551616:=by
 simp only [Lit.wf,Bool.and_eq_true,decide_eq_true_eq] at h
 have e1 : IntKind.u64.min = 0:=rfl
 have e2 : IntKind.u64.max = 18446744073709551615:=rfl
 omega
section
variable {H : Type} {enc : TypeId × Value → H}
end
end Go.Proofs.YthlbemnbmbmjhaaGreatDoor
namespace Go.Proofs.YthlbemnbmbmjhaaGreatDoor
open Go.ChangeShapes Go.WideShapes Go.ChangeAt Go.RowKit
open Go.Value renaming int → vI
open Go.IntKind renaming u64 → vU
open Go.Act renaming put → aP
open List renaming setIfInBounds_toArray → lA, set_cons_zero → lZ, set_cons_succ → lS
section
variable {H : Type} {enc : TypeId × Value → H}
theorem num_of_trod {W : World} {base : Nat} {sp : Nat → Bool} {hd : Bool} {fuel : Nat} {c0 c1 c2 c3 : Value} {x : DataW H × List MemPlace} (hf : DataW.trod enc Tryz.prog W base sp hd fuel 27 [c0,c1,c2,c3] = some x) :
  ∃ X,X < top ∧ c0 = .int .u64 (wd X 0) ∧ c1 = .int .u64 (wd X 1) ∧ c2 = .int .u64 (wd X 2) ∧ c3 = .int .u64 (wd X 3) ∧ x = (numD X,[]):=by
 obtain ⟨y0,y1,y2,y3,m,hx,hy0,hy1,hy2,hy3⟩:=trod_array4 Tryz.underlying27 cellsWord hf
 obtain ⟨x0,e0,rfl,w0⟩:=DataW.trod_int Tryz.underlying25 hy0
 obtain ⟨x1,e1,rfl,w1⟩:=DataW.trod_int Tryz.underlying25 hy1
 obtain ⟨x2,e2,rfl,w2⟩:=DataW.trod_int Tryz.underlying25 hy2
 obtain ⟨x3,e3,rfl,w3⟩:=DataW.trod_int Tryz.underlying25 hy3
 simp at e0 e1 e2 e3
 subst e0 e1 e2 e3
 subst hx
 obtain ⟨a0,b0⟩:=wf_u64 w0
 obtain ⟨a1,b1⟩:=wf_u64 w1
 obtain ⟨a2,b2⟩:=wf_u64 w2
 obtain ⟨a3,b3⟩:=wf_u64 w3
 obtain ⟨g0,g1,g2,g3⟩:=wd_ofWords a0 b0 a1 b1 a2 b2 a3 b3
 refine ⟨ofWords x0 x1 x2 x3,ofWords_lt b0 b1 b2 b3,?_,?_,?_,?_,?_⟩
 ·
  rw [g0]
 ·
  rw [g1]
 ·
  rw [g2]
 ·
  rw [g3]
 ·
  unfold numD
  rw [g0,g1,g2,g3]
  rfl
end
end Go.Proofs.YthlbemnbmbmjhaaGreatDoor
namespace Go.Proofs.YthlbemnbmbmjhaaGreatDoor
open Go.ChangeShapes Go.WideShapes Go.RowKit
open Go.Value renaming int → vI
open Go.IntKind renaming u64 → vU
open Go.Act renaming put → aP
open List renaming setIfInBounds_toArray → lA, set_cons_zero → lZ, set_cons_succ → lS
def GoodK (k : Ky) : Prop:=(k.x < top ∧ k.y < top) ∧ (Lit.int .i64 k.i).wf = true ∧ (Lit.int .i64 k.a).wf = true ∧ (Lit.int .i64 k.b).wf = true
section
variable {H : Type} {enc : TypeId × Value → H} {W : World} {base : Nat} {sp : Nat → Bool} {hd : Bool} {fuel : Nat}
theorem pt_of_trod {c0 c1 c2 c3 c4 c5 c6 c7 c8 : Value} {x : DataW H × List MemPlace} (hf : DataW.trod enc Tryz.prog W base sp hd fuel 29 [c0,c1,c2,c3,c4,c5,c6,c7,c8] = some x) :
  ∃ X Y f,X < top ∧ Y < top ∧ [c0,c1,c2,c3,c4,c5,c6,c7,c8] = (qc X Y f).toList:=by
 obtain ⟨y0,y1,y2,m,hx,_,hy0,hy1,hy2⟩:=Deep.trod_struct3 Tryz.underlying29 hf
 have hy0 : DataW.trod enc Tryz.prog W base sp hd m 27 [c0,c1,c2,c3] = some y0:=by simpa [zdn] using hy0
 have hy1 : DataW.trod enc Tryz.prog W base sp hd m 27 [c4,c5,c6,c7] = some y1:=by simpa [zdn] using hy1
 have hy2 : DataW.trod enc Tryz.prog W base sp hd m 4 [c8] = some y2:=by simpa [cells_bool] using hy2
 obtain ⟨X,lX,rfl,rfl,rfl,rfl,rfl⟩:=num_of_trod hy0
 obtain ⟨Y,lY,rfl,rfl,rfl,rfl,rfl⟩:=num_of_trod hy1
 obtain ⟨f,e,rfl⟩:=DataW.trod_bool Tryz.underlying4 hy2
 obtain rfl:=List.head_eq_of_cons_eq e
 exact ⟨X,Y,f,lX,lY,rfl⟩
theorem underK : ∃ f0 f1 f2 f3 : Field,Tryz.prog.underlying 55 = some (.struct #[f0,f1,f2,f3]) ∧ (f0.offset = 0 ∧ f1.offset = 1 ∧ f2.offset = 10 ∧ f3.offset = 11) ∧ f0.type = 3 ∧ f1.type = 29 ∧ f2.type = 3 ∧ f3.type = 3:=⟨_,_,_,_,Tryz.underlying55,⟨rfl,rfl,rfl,rfl⟩,rfl,rfl,rfl,rfl⟩
theorem list12 {cs : List Value} (h : cs.length = 12) : ∃ c0 c1 c2 c3 c4 c5 c6 c7 c8 c9 c10 c11,cs = [c0,c1,c2,c3,c4,c5,c6,c7,c8,c9,c10,c11]:=by
 match cs,h with
 | [c0,c1,c2,c3,c4,c5,c6,c7,c8,c9,c10,c11],_ => exact ⟨c0,c1,c2,c3,c4,c5,c6,c7,c8,c9,c10,c11,rfl⟩
theorem ky_of_trod {cs : List Value} {x : DataW H × List MemPlace} (hf : DataW.trod enc Tryz.prog W base sp hd fuel 55 cs = some x) : ∃ k,GoodK k ∧ cs = kyC k:=by
 obtain ⟨f0,f1,f2,f3,hu,⟨o0,o1,o2,o3⟩,t0,t1,t2,t3⟩:=underK
 obtain ⟨y0,y1,y2,y3,m,_,hl,h0,h1,h2,h3⟩:=Joins.trod_struct4 hu hf
 rw [cells_ky12] at hl
 obtain ⟨c0,c1,c2,c3,c4,c5,c6,c7,c8,c9,c10,c11,rfl⟩:=list12 hl
 rw [t0,o0,cells_int] at h0
 rw [t1,o1,zep] at h1
 rw [t2,o2,cells_int] at h2
 rw [t3,o3,cells_int] at h3
 obtain ⟨X,Y,f,lX,lY,e⟩:=pt_of_trod (by simpa using h1)
 obtain ⟨z0,e0,_,w0⟩:=DataW.trod_int Tryz.underlying3 h0
 obtain ⟨z2,e2,_,w2⟩:=DataW.trod_int Tryz.underlying3 h2
 obtain ⟨z3,e3,_,w3⟩:=DataW.trod_int Tryz.underlying3 h3
 simp at e0 e2 e3
 refine ⟨⟨z0,X,Y,f,z2,z3⟩,⟨⟨lX,lY⟩,w0,w2,w3⟩,?_⟩
 unfold kyC
 rw [← e,e0,e2,e3]
 rfl
theorem ks_of {v : Value} {d : DataW H} {p : List MemPlace} (hf : DataW.trod enc Tryz.prog W base sp hd fuel 22 [v] = some (d,p)) : ∃ l : List Ky,Ks W v l ∧ TopK l ∧ WfK l:=by
 obtain ⟨l,A,c,e,hc,hx⟩:=ls_of (α:={k : Ky // GoodK k}) (cs:=fun k => kyC k.1) Tryz.underlying22 cells_ky12 (by decide) (fun n cs' y h => by
  obtain ⟨k,hk,e⟩:=ky_of_trod h
  exact ⟨⟨k,hk⟩,e⟩) hf
 refine ⟨l.map (·.1),⟨A,c,by rw [List.length_map]; exact e,by rw [List.length_map]; exact hc,?_⟩,fun k hk => ?_,fun k hk => ?_⟩
 ·
  rw [List.length_map]
  refine hx.imp id ?_
  rintro ⟨b,o,ha,hb,hr⟩
  refine ⟨b,o,ha,hb,fun i x hi => ?_⟩
  rw [List.getElem?_map,Option.map_eq_some_iff] at hi
  obtain ⟨y,hy,rfl⟩:=hi
  exact hr i y hy
 ·
  obtain ⟨y,_,rfl⟩:=List.mem_map.1 hk
  exact y.2.1
 ·
  obtain ⟨y,_,rfl⟩:=List.mem_map.1 hk
  exact y.2.2
end
end Go.Proofs.YthlbemnbmbmjhaaGreatDoor
