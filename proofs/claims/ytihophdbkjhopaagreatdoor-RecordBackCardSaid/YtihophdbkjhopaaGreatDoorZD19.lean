/-
  Of D3 D4 NS3 NS5 NS6 NS7 Y0 Y1 Y2.
-/
import Derived.Deep.RegionWith
import Derived.Deep.Cut
import Derived.Deep.CutRange
import Derived.Deep.LoopGhost
import Derived.Test.YtihophdbkjhopaaGreatDoorZD13
import Derived.Test.YtihophdbkjhopaaGreatDoorZD9
import Derived.Test.YtihophdbkjhopaaGreatDoorZD18
import Derived.Test.YtihophdbkjhopaaGreatDoorZD12
import Derived.Test.YtihophdbkjhopaaGreatDoorZD4
import Derived.Test.YtihophdbkjhopaaGreatDoorZD3
import Derived.Test.YtihophdbkjhopaaGreatDoorZD15
import Derived.Test.YtihophdbkjhopaaGreatDoorZD8
set_option maxRecDepth 1000000
set_option maxHeartbeats 20000000
namespace Go.Proofs.YtihophdbkjhopaaGreatDoor
open Go.RowKit
open Go.Value renaming int → vI
open Go.IntKind renaming u64 → vU
open Go.Act renaming put → aP
open List renaming setIfInBounds_toArray → lA, set_cons_zero → lZ, set_cons_succ → lS
def mlT (n : Nat) : List (Nat × SV):=[(2,.p 0 0),(3,.p 1 0),(4,.p 2 0),(6,.p 3 0),(7,.p 4 0),(8,.v (.int .i64 ((n : Int) - 1)))]
def mlM (K b : Nat) (q : Pt.Q) (x y z : Fe) : List Blk:=[⟨29,cN K⟩,⟨44,cQ (Pt.pX q.1) (Pt.pY q.1) (Pt.pFar q.1)⟩,⟨44,cQ 0 0 false⟩,⟨144,(cc b).toList.map SV.v⟩,⟨147,(sc x.val y.val z.val).toList.map SV.v⟩]
section
variable {w0 : World} {Post : Value → World → Prop} {J : World → Prop}
def mlNext (K n b : Nat) (q : Pt.Q) (x y z : Fe) (h : n ≤ 256) (h0 : ¬ n = 0) (hr : Rep x y z (Pt.grp.mul (K / 2 ^ (n - 1)) q).1) : OT Tryz.prog w0 Post J :=
 .ins 24 (binK .sub 3 (.tmp 23) (.const (.int .i64 1)) (.int .i64 ((n : Int) - 1)) (.int .i64 1)) (.int .i64 (((n - 1 : Nat) : Int) - 1)) (fun _ _ => pred_run (by omega) (by omega) (by omega)) <|
 .nextG (mlT (n - 1)) (mlM K b q x y z) (∃ l : Nat × Fe × Fe × Fe,((l.1 ≤ 256 ∧ Rep l.2.1 l.2.2.1 l.2.2.2 (Pt.grp.mul (K / 2 ^ l.1) q).1) ∧ l.1 < n) ∧ mlT l.1 = mlT (n - 1) ∧ mlM K b q l.2.1 l.2.2.1 l.2.2.2 = mlM K b q x y z)
  ⟨(n - 1,x,y,z),⟨⟨by show n - 1 ≤ 256; omega,hr⟩,by show n - 1 < n; omega⟩,rfl,rfl⟩
end
theorem mul_yes (K : Nat) (hK : K < top) (q : Pt.Q) (w : World) :
  Calls Tryz.prog 53 #[nv K,qvP q.1] w fun e w' => e = .returned (.tuple #[qvP (Pt.grp.mul K q).1,.nilIface]) ∧ Ext w w' :=
 have h0 : ∃ t : Fe × Fe × Fe,Rep t.1 t.2.1 t.2.2 none ∧ ∀ w,Calls Tryz.prog 102 #[qvP none] w fun e w' => e = .returned (sv t.1.val t.2.1.val t.2.2.val) ∧ Ext w w':=by
  obtain ⟨x,y,z,h⟩:=lift_rep none
  exact ⟨(x,y,z),h⟩
 have h2 : ∀ {x y z : Fe} {p : Pt.Q},Rep x y z p.1 → ∃ t : Fe × Fe × Fe,Rep t.1 t.2.1 t.2.2 (Pt.grp.op p p).1 ∧ ∀ (b : Nat) (w : World),Fp w b → Calls Tryz.prog 104 #[cv b,sv x.val y.val z.val] w fun e w' => e = .returned (sv t.1.val t.2.1.val t.2.2.val) ∧ Ext w w':=fun {x y z p} h => by
  obtain ⟨x,y,z,h⟩:=twice_rep p.2 h
  exact ⟨(x,y,z),h⟩
 have h3 : ∀ {x y z : Fe} {p : Pt.Q},Rep x y z p.1 → ∃ t : Fe × Fe × Fe,Rep t.1 t.2.1 t.2.2 (Pt.grp.op p q).1 ∧ ∀ (b : Nat) (w : World),Fp w b → Calls Tryz.prog 106 #[cv b,sv x.val y.val z.val,qvP q.1] w fun e w' => e = .returned (sv t.1.val t.2.1.val t.2.2.val) ∧ Ext w w':=fun {x y z p} h => by
  obtain ⟨x,y,z,h⟩:=plus_rep p.2 q.2 h
  exact ⟨(x,y,z),h⟩
 way1 Tryz.func53 [nv K,qvP q.1] (hCurve fun b => .call _ _ _ (fun _ hW => on_yes q hW.2) <| .get _ h0 fun t ht => .call _ _ _ (fun W _ => ht.2 W) <| .call _ _ _ (fun W _ => klen K (bitLen K) rfl hK W) <|
  .ins 20 (binK .sub 3 (.tmp 19) (.const (.int .i64 1)) (.int .i64 (bitLen K : Int)) (.int .i64 1)) (.int .i64 ((bitLen K : Int) - 1)) (fun _ _ => by have:=bl_le hK; exact pred_run rfl (by omega) (by omega)) <|
  .loopG (α:=Nat × Fe × Fe × Fe) (fun s => mlT s.1) (fun s => mlM K b q s.2.1 s.2.2.1 s.2.2.2) (fun s => s.1) (fun s => s.1 ≤ 256 ∧ Rep s.2.1 s.2.2.1 s.2.2.2 (Pt.grp.mul (K / 2 ^ s.1) q).1) (bitLen K,t) ⟨bl_le hK,by
   show Rep t.1 t.2.1 t.2.2 (Pt.grp.mul (K / 2 ^ bitLen K) q).1
   rw [bl_div]
   exact ht.1⟩ (mlT (bitLen K)) (mlM K b q t.1 t.2.1 t.2.2) ⟨rfl,rfl⟩ fun s h =>
  .cases (s.1 = 0)
   (fun h0 => .ins 22 (binK .geq 3 (.tmp 21) (.const (.int .i64 0)) (.int .i64 ((s.1 : Int) - 1)) (.int .i64 0)) (.bool false) (fun W _ => zjg (decide_eq_false (by omega)) W) <|
    .call _ _ _ (fun _ hW => flat_rep h.2 hW.2) <| .ret (.tuple #[qvP (Pt.grp.mul (K / 2 ^ s.1) q).1,.nilIface]) fun _ hW => ⟨by rw [h0,Nat.pow_zero,Nat.div_one],hW.1⟩)
   (fun h0 => .ins 22 (binK .geq 3 (.tmp 21) (.const (.int .i64 0)) (.int .i64 ((s.1 : Int) - 1)) (.int .i64 0)) (.bool true) (fun W _ => zjg (decide_eq_true (by omega)) W) <|
    .get _ (h2 h.2) fun u hu => .call _ _ _ (fun W hW => hu.2 b W hW.2) <|
    .cases (bit K (s.1 - 1) = true)
     (fun hb => .call _ #[nv K,.int .i64 ((s.1 : Int) - 1)] (.bool true) (fun W _ => by have k:=kbit K (s.1 - 1) true hb (by omega) W; rw [show ((s.1 - 1 : Nat) : Int) = (s.1 : Int) - 1 by omega] at k; exact k) <|
      .get _ (h3 hu.1) fun v hv => .call _ _ _ (fun W hW => hv.2 b W hW.2) <| mlNext K s.1 b q v.1 v.2.1 v.2.2 h.1 h0 (by rw [times_step,if_pos hb,show s.1 - 1 + 1 = s.1 by omega]; exact hv.1))
     (fun hb => .call _ #[nv K,.int .i64 ((s.1 : Int) - 1)] (.bool false) (fun W _ => by have k:=kbit K (s.1 - 1) false (Bool.eq_false_iff.2 hb) (by omega) W; rw [show ((s.1 - 1 : Nat) : Int) = (s.1 : Int) - 1 by omega] at k; exact k) <|
      mlNext K s.1 b q u.1 u.2.1 u.2.2 h.1 h0 (by rw [times_step,if_neg hb,show s.1 - 1 + 1 = s.1 by omega]; exact hu.1)))) (by kernel_rfl)
theorem on_is (X Y : Nat) (f : Bool) (hX : X < top) (hY : Y < top) (w : World) :
  Calls Tryz.prog 77 #[qv X Y f] w fun e w' => e = .returned (.bool (onB X Y f)) ∧ Ext w w':=by
 have KO:=veil (fun (b : Nat) (w : World) (hF : Fp w b) => on_calls X Y f hX hY hF)
 obtain ⟨r,hr⟩ : ∃ r,r = onB X Y f:=⟨_,rfl⟩
 rw [← hr] at KO ⊢
 clear hX hY hr
 unfold qv qc
 go_enter Tryz.func77,Tryz.ntmps77
 go_upto_region 1 with (fail)
 refine zif fun w1 hx b0 => ?_
 have b0 : w1.heap[w.heap.size]? = some (.cells (qc X Y f) 44 (0,0)):=b0
 refine wp_region_noPanic ?_
 refine wp_region_held_drew (S:=fun W => Ext w1 W) (by kernel_rfl) (Ext.drew _) (fun hH => ?_)
 refine wpAnyH_take (i:=1) (v:=qv X Y f) rfl (by kernel_rfl) (by kernel_rfl) (by decide +kernel) (fun _ _ _ h => h) (yieldsIf_load_mid (by rfl) _ _ rfl _ _ rfl (qc X Y f).toList _ (fun W hW j v hv => by rw [cell_of_row W _ _ (qc X Y f) 44 (0,0) (hW.block b0),Nat.zero_add]; simpa using hv) Tryz.underlying44 rfl (iT X Y f)) hH ?_
 refine wpAnyH_ready (rs:=[0]) (by decide +kernel) (by simp) ?_
 refine AllReadyH.cons rfl (fun K hK => ?_) AllReadyH.nil
 go_simp
 refine (curve_calls _).mono ?_
 rintro e w2 ⟨b,rfl,hF,hE⟩
 refine hK.out _ _ (hH.trans hE) (fun hH => ?_)
 clear hK K hE
 refine wpAnyH_ready (rs:=[2]) (by decide +kernel) (by simp) ?_
 refine AllReadyH.cons rfl (fun K hK => ?_) AllReadyH.nil
 go_simp
 refine (KO.out _ _ hF).mono ?_
 rintro e w3 ⟨rfl,hE⟩
 refine hK.out _ _ (hH.trans hE) (fun hH => ?_)
 clear hK K hE
 refine wpAnyH_take (i:=3) (v:=.bool r) rfl (by kernel_rfl) (by kernel_rfl) (by decide +kernel) (fun _ _ _ h => h) (Or.inl ⟨by rfl,fun W hSw => (by dsimp only at hSw; go_simp)⟩) hH ?_
 refine wpAnyH_done (by decide +kernel) ?_ _
 refine NoPanic.normal ?_
 go_wp2
 go_ret
 exact ⟨rfl,hx.trans hH⟩
theorem row_of_setRow {w : World} {g r : Nat} {s : KV} {cs : Array Value} (h : SRow w g s) (hne : g ≠ r) : SRow (w.setRow r cs) g s:=World.rowIs.of_block h (zap w cs hne)
theorem But.farRow {w w' : World} {g r : Nat} {cs : Array Value} (h : But g w w') (hr : w.heap.size ≤ r) : But g w (w'.setRow r cs) :=
 ⟨h.os,h.tape,h.output,by simpa [World.setRow] using h.size,fun k hk hne => (zap w' cs (by omega)).trans (h.block k hk hne)⟩
theorem parts_nil (w : World) : Parts3 w none 0 (fun _ => none) (fun _ => 0) (fun _ => 0) (fun _ _ => 0) where
 row:=.inl rfl
 src:=fun r hr => by omega
 cap:=fun r hr => by omega
 lt:=fun _ _ => by decide
theorem mix_none (g : Nat) (hg : g ≠ 0) (s : KV) (hs : s.Ok) (w : World) (hK : KT w) (hS : SRow w g s) :
  Calls Tryz.prog 143 #[.pointer (some ⟨g,0,none⟩),.int .u8 0,.slice none 0 0] w fun e w' => e = .returned (.tuple #[]) ∧ SRow w' g (s.mix 0 none0 0) ∧ But g w w' :=
 nmix_calls g hg s hs 0 (by decide) none 0 0 (fun _ => none) (fun _ => 0) (fun _ => 0) (fun _ _ => 0) (by decide) (by decide) w hK hS (parts_nil w)
theorem next_calls (g : Nat) (hg : g ≠ 0) (s : KV) (hs : s.Ok) (w : World) (hK : KT w) (hS : SRow w g s) :
  Calls Tryz.prog 114 #[.pointer (some ⟨g,0,none⟩)] w fun e w' => e = .returned (nv (num32 s.step.v)) ∧ SRow w' g s.next ∧ But g w w':=by
 obtain ⟨X,hX⟩ : ∃ X,X = num32 s.step.v:=⟨_,rfl⟩
 rw [← hX]
 have HX:=veil hX
 have HK:=veil hK
 have HS:=veil hS
 have HG:=veil (And.intro hg hs)
 have hlt:=hS.lt
 clear hX hK hS hg hs
 go_enter Tryz.func114,Tryz.ntmps114
 go_upto_region 1 with (fail)
 have hn : (w.alloc (.cells #[vI vU 0,vI vU 0,vI vU 0,vI vU 0] 29)).heap[w.heap.size]? = some (.cells #[vI vU 0,vI vU 0,vI vU 0,vI vU 0] 29 (0,0)):=heap_alloc_last w _
 have H1:=veil (And.intro (HK.out.alloc (.cells #[vI vU 0,vI vU 0,vI vU 0,vI vU 0] 29)) (And.intro (HS.out.alloc (.cells #[vI vU 0,vI vU 0,vI vU 0,vI vU 0] 29)) (And.intro (But.alloc (But.refl g w) (.cells #[vI vU 0,vI vU 0,vI vU 0,vI vU 0] 29)) hn)))
 generalize w.alloc (.cells #[vI vU 0,vI vU 0,vI vU 0,vI vU 0] 29) = w1 at *
 have HQ:=veil (step_calls g s HG.out.2 w1 H1.out.1 H1.out.2.1)
 clear hn
 go_upto_region 2 with (refine HQ.out.mono ?_; rintro e w2 ⟨rfl,hS2,hB2⟩)
 have hn2:=(hB2.block w.heap.size (Array.getElem?_eq_some_iff.1 H1.out.2.2.2).1 (by intro e; injection e; omega)).trans H1.out.2.2.2
 have H2:=veil (And.intro (H1.out.1.grown hB2 (Ne.symm HG.out.1)) (And.intro hS2 (And.intro (H1.out.2.2.1.trans hB2) hn2)))
 clear hS2 hB2 hn2 H1 HQ
 have HOf:=veil (show Calls Tryz.prog 74 #[.slice (some ⟨g,32,none⟩) 32 32] w2 fun e w' => e = .returned (.tuple #[nv X,.nilIface]) ∧ Below w2.heap.size w2 w' from by rw [HX.out]; exact ziu g 32 32 32 s.step.v HG.out.2.step.v (by decide) w2 H2.out.2.1.lt H2.out.2.1.cellV)
 go_upto_region 3 with (first
  | (go_at_call 74; refine HOf.out.mono ?_; rintro e w3 ⟨rfl,hb3⟩)
  | ((with_reducible refine zae ?_); refine wpList_store_row rfl 29 _ _ rfl w3.heap.size (nc X) rfl rfl 29 _ (heap_alloc_last w3 _) (iN X) (by rfl) (zdu X) ?_; rw [World.setRow_alloc_new]))
 have h4:=((H2.out.2.1.call hb3).alloc (.cells (nc X) 29))
 have hk4:=((H2.out.1.call hb3).alloc (.cells (nc X) 29))
 have hb4:=((H2.out.2.2.1.below hb3).alloc (.cells (nc X) 29))
 have hn4:=(Below.heap_alloc w3 (.cells (nc X) 29) _ (Nat.lt_of_lt_of_le (Array.getElem?_eq_some_iff.1 H2.out.2.2.2).1 hb3.size)).trans ((hb3.block _ (Array.getElem?_eq_some_iff.1 H2.out.2.2.2).1).trans H2.out.2.2.2)
 have hx4 : (w3.alloc (.cells (nc X) 29)).heap[w3.heap.size]? = some (.cells (nc X) 29 (0,0)):=heap_alloc_last w3 _
 have hne : g < w3.heap.size:=Nat.lt_of_lt_of_le H2.out.2.1.lt hb3.size
 have hne2 : w.heap.size ≠ w3.heap.size:=by have:=(Array.getElem?_eq_some_iff.1 H2.out.2.2.2).1; have:=hb3.size; omega
 have hlx : w3.heap.size < (w3.alloc (.cells (nc X) 29)).heap.size:=by simp
 generalize w3.alloc (.cells (nc X) 29) = w4 at *
 generalize w3.heap.size = gx at *
 have H4:=veil (And.intro hn4 hx4)
 have HB4:=veil hb4
 have HQ:=veil (mix_none g HG.out.1 s.step HG.out.2.step w4 hk4 h4)
 clear h4 hk4 hn4 hx4 hb3 H2 HOf hb4
 go_upto_region 4 with (go_at_call 143; refine HQ.out.mono ?_; rintro e w5 ⟨rfl,hS5,hB5⟩)
 have hn5:=(hB5.block _ (Array.getElem?_eq_some_iff.1 H4.out.1).1 (by intro e; injection e; omega)).trans H4.out.1
 have hx5:=(hB5.block _ (Array.getElem?_eq_some_iff.1 H4.out.2).1 (by intro e; injection e; omega)).trans H4.out.2
 have H5:=veil (And.intro hn5 hx5)
 have HB5:=veil (And.intro hS5 (HB4.out.trans hB5))
 clear hn5 hx5 hS5 hB5 HB4 H4 HQ
 go_wp2_with (first
  | ((with_reducible refine zab 17 ?_); refine wpList_load_row rfl 29 _ rfl gx rfl 29 (nc X) (0,0) _ H5.out.2 Tryz.underlying29 rfl (iN X) ?_)
  | ((with_reducible refine zae ?_); refine wpList_store_row rfl 29 _ _ rfl w.heap.size (nc X) rfl rfl 29 _ H5.out.1 (iN X) (by rfl) (zdu X) ?_))
 have hfin : SRow w5 g s.next:=HB5.out.1
 exact bodyPost_ret (results_cell_row rfl _ _ w.heap.size 29 (nc X) (0,0) _ rfl (setRow_heap w5 w.heap.size _ (nc X) 29 (0,0) H5.out.1) Tryz.underlying29 rfl (iN X)) rfl ⟨rfl,row_of_setRow hfin (by omega),But.farRow HB5.out.2 (by omega)⟩
theorem zeros64N : (#[.int .u8 0,.int .u8 0,.int .u8 0,.int .u8 0,.int .u8 0,.int .u8 0,.int .u8 0,.int .u8 0,.int .u8 0,.int .u8 0,.int .u8 0,.int .u8 0,.int .u8 0,.int .u8 0,.int .u8 0,.int .u8 0,.int .u8 0,.int .u8 0,.int .u8 0,.int .u8 0,.int .u8 0,.int .u8 0,.int .u8 0,.int .u8 0,.int .u8 0,.int .u8 0,.int .u8 0,.int .u8 0,.int .u8 0,.int .u8 0,.int .u8 0,.int .u8 0,.int .u8 0,.int .u8 0,.int .u8 0,.int .u8 0,.int .u8 0,.int .u8 0,.int .u8 0,.int .u8 0,.int .u8 0,.int .u8 0,.int .u8 0,.int .u8 0,.int .u8 0,.int .u8 0,.int .u8 0,.int .u8 0,.int .u8 0,.int .u8 0,.int .u8 0,.int .u8 0,.int .u8 0,.int .u8 0,.int .u8 0,.int .u8 0,.int .u8 0,.int .u8 0,.int .u8 0,.int .u8 0,.int .u8 0,.int .u8 0,.int .u8 0,.int .u8 0] : Array Value) = arrOf 64 (fun _ => .int .u8 0):=rfl
def kvI (i : Nat) : KV:=⟨fun _ => 0,fun j => if j < i then 1 else 0⟩
theorem parts_pair {w : World} {ga gb t D M : Nat} (ha : w.rowIs ga 5 32 (fun j => .int .u8 (be D j : Nat))) (hb : w.rowIs gb 5 32 (fun j => .int .u8 (be M j : Nat))) :
  Parts3 (w.alloc (.cells #[.slice (some ⟨ga,0,none⟩) 32 32,.slice (some ⟨gb,0,none⟩) 32 32] t)) (some ⟨w.heap.size,0,none⟩) 2 (fun r => if r = 0 then some ⟨ga,0,none⟩ else some ⟨gb,0,none⟩) (fun _ => 32) (fun _ => 32) (fun r => if r = 0 then be D else be M) where
 row:=.inr ⟨_,0,rfl,by simp,fun r hr => by
  rw [Nat.zero_add,cell_of_row _ _ r _ t (0,0) (heap_alloc_last w _)]
  obtain rfl | rfl : r = 0 ∨ r = 1:=by omega
  ·
   rfl
  ·
   rfl⟩
 src:=fun r hr => by
  obtain rfl | rfl : r = 0 ∨ r = 1:=by omega
  ·
   exact .inr ⟨ga,0,rfl,by have:=ha.lt; simp; omega,by have:=ha.lt; simp; omega,fun j hj => by rw [Nat.zero_add]; exact (ha.alloc _).cell hj⟩
  ·
   exact .inr ⟨gb,0,rfl,by have:=hb.lt; simp; omega,by have:=hb.lt; simp; omega,fun j hj => by rw [Nat.zero_add]; exact (hb.alloc _).cell hj⟩
 cap:=fun _ _ => Nat.le_refl _
 lt:=fun r j => by
  show (if r = 0 then be D else be M) j < 256
  split
  ·
   exact be_lt D j
  ·
   exact be_lt M j
theorem nmix_two (g : Nat) (hg : g ≠ 0) (s : KV) (hs : s.Ok) (b : Nat) (hb : b < 256) (ga gb t D M : Nat) (w : World) (hK : KT w) (hS : SRow w g s)
  (hra : w.rowIs ga 5 32 (fun j => .int .u8 (be D j : Nat))) (hrb : w.rowIs gb 5 32 (fun j => .int .u8 (be M j : Nat))) :
  Calls Tryz.prog 143 #[.pointer (some ⟨g,0,none⟩),.int .u8 (b : Int),.slice (some ⟨w.heap.size,0,none⟩) 2 2] (w.alloc (.cells #[.slice (some ⟨ga,0,none⟩) 32 32,.slice (some ⟨gb,0,none⟩) 32 32] t)) fun e w' =>
   e = .returned (.tuple #[]) ∧ SRow w' g (s.mix b (two D M) 64) ∧ But g (w.alloc (.cells #[.slice (some ⟨ga,0,none⟩) 32 32,.slice (some ⟨gb,0,none⟩) 32 32] t)) w':=by
 have h:=nmix_calls g hg s hs b hb _ 2 2 _ _ _ _ (by decide) (show lenN (fun _ => 32) 2 ≤ 1000 by decide) _ (hK.alloc _) (hS.alloc _) (parts_pair (t:=t) hra hrb)
 have e : textN (fun _ => 32) (fun r => if r = 0 then be D else be M) 2 = two D M:=by
  show cat (cat (fun _ => 0) 0 (be D)) 32 (be M) = _
  rw [zgx]; rfl
 rw [e] at h
 exact h
theorem be_slice (X : Nat) (w : World) : Calls Tryz.prog 64 #[nv X] w fun e w' => ∃ g,e = .returned (.slice (some ⟨g,0,none⟩) 32 32) ∧ w.heap.size ≤ g ∧ w'.rowIs g 5 32 (fun j => .int .u8 (be X j : Nat)) ∧ Ext w w' :=
 (bytes_calls X w).mono fun _ _ ⟨g,he,hl,hr,hb⟩ => ⟨g,he,hl,hr,hb⟩
theorem newSource_calls (D : Nat) (y : Nat → Nat) (hy : ∀ j,y j < 256) (w : World) (hK : KT w) :
  Calls Tryz.prog 113 #[nv D,.agg (arrOf 32 fun i => .int .u8 (y i : Nat))] w fun e w' => ∃ g,e = .returned (.pointer (some ⟨g,0,none⟩)) ∧ w.heap.size ≤ g ∧ SRow w' g (kvS D (num32 y % Pt.nn)) ∧ Ext w w':=by
 obtain ⟨F,hF⟩ : ∃ F,F = arrOf 32 fun i => Value.int .u8 (y i : Nat):=⟨_,rfl⟩
 obtain ⟨M,hM⟩ : ∃ M,M = num32 y % Pt.nn:=⟨_,rfl⟩
 rw [← hF,← hM]
 have HR:=veil (show ∀ W,Calls Tryz.prog 142 #[.agg F] W fun e w' => e = .returned (nv M) ∧ Ext W w' from fun W => by rw [hF,hM]; exact reduced_calls y hy W)
 have HF:=veil (show F.size = 32 ∧ (Tryz.prog.info? 23).map (·.size) = some F.size from by rw [hF,zah]; exact ⟨rfl,infoD⟩)
 have HK:=veil hK
 clear hF hM hK hy
 show Calls _ _ #[.agg (nc D),.agg F] w _
 obtain ⟨C,hC⟩ : ∃ C,C = nc D:=⟨_,rfl⟩
 rw [← hC]
 have HC:=veil hC
 clear hC
 go_enter Tryz.func113,Tryz.ntmps113
 go_upto_region 2 with (fail)
 rw [zeros64N]
 have hc1 : (w.alloc (.cells C 29)).heap[w.heap.size]? = some (.cells C 29 (0,0)):=heap_alloc_last w _
 have hz1 : (w.alloc (.cells C 29)).heap.size = w.heap.size + 1:=by simp
 have hE1 : Ext w (w.alloc (.cells C 29)):=Ext.alloc _ _
 generalize w.alloc (.cells C 29) = w1 at *
 have hf2 : (w1.alloc (.cells F 23)).heap[w.heap.size + 1]? = some (.cells F 23 (0,0)):=by rw [← hz1]; exact heap_alloc_last w1 _
 have hz2 : (w1.alloc (.cells F 23)).heap.size = w.heap.size + 1 + 1:=by simp [hz1]
 have hE2:=Ext.alloc w1 (.cells F 23)
 have hc2:=hE2.block hc1
 replace hE2:=hE1.trans hE2
 clear hc1 hE1 hz1
 generalize w1.alloc (.cells F 23) = w2 at *
 have hS3 : SRow (w2.alloc (.cells (arrOf 64 (fun _ => .int .u8 0)) 176)) (w.heap.size + 1 + 1) (kvI 0):=(zbe w2 64 176 (fun _ => Value.int .u8 0) hz2.symm).congr fun j hj => by
  unfold sb kvI
  split <;> simp
 have hE3:=Ext.alloc w2 (.cells (arrOf 64 (fun _ => .int .u8 0)) 176)
 have hc3:=hE3.block hc2
 have hf3:=hE3.block hf2
 replace hE3:=hE2.trans hE3
 clear hc2 hf2 hE2 hz2
 generalize w2.alloc (.cells (arrOf 64 (fun _ => .int .u8 0)) 176) = w3 at *
 generalize hg : w.heap.size + 1 + 1 = g at *
 have H3:=veil (And.intro hE3 (And.intro hc3 (And.intro hf3 (show w.heap.size + 1 < g by omega))))
 clear hE3 hc3 hf3 hg
 go_upto_region 3 with (fail)
 go_loopw [11] (fun v wr => ∃ i : Nat,i ≤ 32 ∧ v = .int .i64 (i : Int) ∧ SRow wr g (kvI i) ∧ But g w3 wr)
  (fun v _ => 32 - (intOf v).toNat)
 case atStart => exact ⟨0,by omega,rfl,hS3,But.refl _ _⟩
 case round =>
  clear hS3
  obtain ⟨i,hi,rfl,hS,hB⟩:=hrel
  by_cases hlt : i < 32
  ·
   have c0:=hS.cellV i hlt
   have f0:=World.rowIs.frozen hS (32 + i)
   go_wp2
   go_roundw
   case rel =>
    refine ⟨i + 1,by omega,by go_num,(World.rowIs.set hS (32 + i) _).congr fun j hj => ?_,hB.set _ _⟩
    unfold sb kvI
    by_cases h : j = 32 + i
    ·
     rw [if_pos h,if_neg (by omega)]
     show Value.int .u8 1 = .int .u8 (((if j - 32 < i + 1 then 1 else 0 : Nat)) : Int)
     rw [if_pos (by omega)]; rfl
    ·
     rw [if_neg h]
     by_cases h2 : j < 32
     ·
      rw [if_pos h2,if_pos h2]
     ·
      rw [if_neg h2,if_neg h2]
      by_cases h3 : j - 32 < i
      ·
       simp [h3,show j - 32 < i + 1 by omega]
      ·
       simp [h3,show ¬ j - 32 < i + 1 by omega]
   case measure => simp [intOf]; omega
  ·
   obtain rfl : i = 32:=by omega
   have hS0 : SRow wr g kv0:=World.rowIs.congr hS fun j hj => by
    unfold sb kvI kv0
    by_cases h2 : j < 32
    ·
     rw [if_pos h2,if_pos h2]
    ·
     rw [if_neg h2,if_neg h2]
     simp [show j - 32 < 32 by omega]
   have hc:=(hB.block _ (Array.getElem?_eq_some_iff.1 H3.out.2.1).1 (by have:=H3.out.2.2.2; intro e; injection e; omega)).trans H3.out.2.1
   have hf:=(hB.block _ (Array.getElem?_eq_some_iff.1 H3.out.2.2.1).1 (by have:=H3.out.2.2.2; intro e; injection e; omega)).trans H3.out.2.2.1
   have hE : Ext w wr:=Below.trans H3.out.1 (But.new hB (by have:=H3.out.2.2.2; omega) H3.out.1.size)
   have HI:=veil (show (Tryz.prog.info? 29).map (·.size) = some C.size from by rw [HC.out]; exact iN D)
   have KB1:=veil (fun W => be_slice D W)
   rw [show nv D = .agg C from by rw [HC.out]; rfl] at KB1
   have KB2:=veil (fun W => be_slice M W)
   go_upto_region 7 with (fail)
   go_cut [7,8] from 20 to 24 (fun v7 v8 wx => ∃ ga gb,wr.heap.size ≤ ga ∧ wr.heap.size ≤ gb ∧ v7 = .slice (some ⟨ga,0,none⟩) 32 32 ∧ v8 = .slice (some ⟨gb,0,none⟩) 32 32 ∧ wx.rowIs ga 5 32 (fun j => .int .u8 (be D j : Nat)) ∧ wx.rowIs gb 5 32 (fun j => .int .u8 (be M j : Nat)) ∧ Ext wr wx)
   case first =>
    refine wp_region_noPanic ?_
    refine wp_region_held_drew (S:=fun W => Ext wr W) (by kernel_rfl) (Ext.drew _) (fun hH => ?_)
    refine wpAnyH_take (i:=0) (v:=.agg C) rfl (by kernel_rfl) (by kernel_rfl) (by decide +kernel) (fun _ _ _ h => h) (yif_load (by rfl) rfl rfl hc Tryz.underlying29 rfl HI.out) hH ?_
    refine wpAnyH_take (i:=2) (v:=.agg F) rfl (by kernel_rfl) (by kernel_rfl) (by decide +kernel) (fun _ _ _ h => h) (yif_load (by rfl) rfl rfl hf Tryz.underlying23 rfl HF.out.2) hH ?_
    refine wpAnyH_ready (rs:=[1]) (by decide +kernel) (by simp) ?_
    refine AllReadyH.cons rfl (fun K hK => ?_) AllReadyH.nil
    go_simp
    refine (KB1.out _).mono ?_
    rintro e w4 ⟨ga,rfl,hla,hra,hE4⟩
    replace hla:=Nat.le_trans (Below.size hH) hla
    refine hK.out _ _ (hH.trans hE4) (fun hH => ?_)
    clear hK K hE4
    refine wpAnyH_ready (rs:=[3]) (by decide +kernel) (by simp) ?_
    refine AllReadyH.cons rfl (fun K hK => ?_) AllReadyH.nil
    go_simp
    refine (HR.out _).mono ?_
    rintro e w5 ⟨rfl,hE5⟩
    refine hK.out _ _ (hH.trans hE5) (fun hH => ?_)
    replace hra:=Ext.row hra hE5
    clear hK K hE5
    refine wpAnyH_ready (rs:=[4]) (by decide +kernel) (by simp) ?_
    refine AllReadyH.cons rfl (fun K hK => ?_) AllReadyH.nil
    go_simp
    refine (KB2.out _).mono ?_
    rintro e w6 ⟨gb,rfl,hlb,hrb,hE6⟩
    replace hlb:=Nat.le_trans (Below.size hH) hlb
    refine hK.out _ _ (hH.trans hE6) (fun hH => ?_)
    replace hra:=Ext.row hra hE6
    clear hK K hE6
    refine wpAnyH_take (i:=5) (v:=.slice (some ⟨ga,0,none⟩) 32 32) rfl (by kernel_rfl) (by kernel_rfl) (by decide +kernel) (fun _ _ _ h => h) (Or.inl ⟨by rfl,fun W hSw => (by dsimp only at hSw; go_simp)⟩) hH ?_
    refine wpAnyH_take (i:=6) (v:=.slice (some ⟨gb,0,none⟩) 32 32) rfl (by kernel_rfl) (by kernel_rfl) (by decide +kernel) (fun _ _ _ h => h) (Or.inl ⟨by rfl,fun W hSw => (by dsimp only at hSw; go_simp)⟩) hH ?_
    refine wpAnyH_done (by decide +kernel) ?_ _
    refine NoPanic.normal ?_
    simp only [Act.put,List.setIfInBounds_toArray,List.set_cons_zero,List.set_cons_succ,List.getElem_toArray,List.getElem_cons_zero,List.getElem_cons_succ]
    go_wp2_with fail
    go_meet
    case rel => exact ⟨ga,gb,hla,hlb,rfl,rfl,hra,hrb,hH⟩
   case rest =>
    obtain ⟨ga,gb,hla,hlb,rfl,rfl,hra,hrb,hEx⟩:=hcut
    have hlg:=hS0.lt
    have hgw : w.heap.size < g:=by have:=H3.out.2.2.2; omega
    have H:=veil (And.intro (HK.out.call (hE.trans hEx)) (And.intro (hS0.call hEx) (And.intro hra (And.intro hrb (hE.trans hEx)))))
    have HN:=veil (show g ≠ 0 ∧ ga ≠ g ∧ gb ≠ g ∧ w.heap.size ≤ g from ⟨by omega,by omega,by omega,by omega⟩)
    clear hE hEx hS0 hc hf HI KB1 KB2 hS hB hi hlt H3 HR HF HK hra hrb hla hlb hlg hgw
    have HQ:=veil (show Calls Tryz.prog 143 #[.pointer (some ⟨g,0,none⟩),.int .u8 0,.slice (some ⟨wc.heap.size,0,none⟩) 2 2] (wc.alloc (.cells #[.slice (some ⟨ga,0,none⟩) 32 32,.slice (some ⟨gb,0,none⟩) 32 32] 24)) _ from
     nmix_two g HN.out.1 kv0 kv0_ok 0 (by decide) ga gb 24 D M wc H.out.1 H.out.2.1 H.out.2.2.1 H.out.2.2.2.1)
    go_upto_region 9 with (go_at_call 143; refine HQ.out.mono ?_; rintro e w4 ⟨rfl,hS4,hB4⟩)
    have hB4:=(But.alloc (But.refl g wc) (.cells #[.slice (some ⟨ga,0,none⟩) 32 32,.slice (some ⟨gb,0,none⟩) 32 32] 24)).trans hB4
    have H4:=veil (And.intro (H.out.1.grown hB4 (Ne.symm HN.out.1)) (And.intro hS4 (And.intro (zdw H.out.2.2.1 hB4 HN.out.2.1) (And.intro (zdw H.out.2.2.2.1 hB4 HN.out.2.2.1) (Below.trans H.out.2.2.2.2 (But.new hB4 HN.out.2.2.2 H.out.2.2.2.2.size))))))
    clear H HQ hS4 hB4
    have HQ:=veil (show Calls Tryz.prog 143 #[.pointer (some ⟨g,0,none⟩),.int .u8 1,.slice (some ⟨w4.heap.size,0,none⟩) 2 2] (w4.alloc (.cells #[.slice (some ⟨ga,0,none⟩) 32 32,.slice (some ⟨gb,0,none⟩) 32 32] 24)) _ from
     nmix_two g HN.out.1 _ (kv0_ok.mix _ _ _) 1 (by decide) ga gb 24 D M w4 H4.out.1 H4.out.2.1 H4.out.2.2.1 H4.out.2.2.2.1)
    go_upto_region 10 with (go_at_call 143; refine HQ.out.mono ?_; rintro e w5 ⟨rfl,hS5,hB5⟩)
    have hB5:=(But.alloc (But.refl g w4) (.cells #[.slice (some ⟨ga,0,none⟩) 32 32,.slice (some ⟨gb,0,none⟩) 32 32] 24)).trans hB5
    have H5:=veil (And.intro hS5 (Below.trans H4.out.2.2.2.2 (But.new hB5 HN.out.2.2.2 H4.out.2.2.2.2.size)))
    clear H4 HQ hS5 hB5
    go_wp2
    go_ret
    exact ⟨g,rfl,HN.out.2.2.2,H5.out.1,H5.out.2⟩
theorem pre_step {D M many i : Nat} (h : ∀ j,j < i → (outN D M j).length < many) (hi : (outN D M i).length < many) : ∀ j,j < i + 1 → (outN D M j).length < many:=fun j hj => by
 rcases Nat.lt_or_ge j i with e | e
 ·
  exact h j e
 ·
  have : j = i:=by omega
  subst this
  exact hi
theorem But.belowAt {w w' w'' : World} {g B : Nat} (h : But g w w') (hb : Below B w' w'') (hB : w.heap.size ≤ B) : But g w w'' :=
 ⟨hb.os.trans h.os,hb.tape.trans h.tape,hb.output.trans h.output,Nat.le_trans h.size hb.size,fun k hk hne => (hb.block k (by omega)).trans (h.block k hk hne)⟩
theorem firstOf_calls (D M many g : Nat) (hm : many ≤ 16) (hg : g ≠ 0) (w : World) (hK : KT w) (hS : SRow w g (kvS D M)) :
  Calls Tryz.prog 112 #[.func (.func 114) #[.pointer (some ⟨g,0,none⟩)] #[],.int .i64 (many : Int)] w fun e w' => (∃ s,Ends D M many s ∧
   ((¬ (outN D M s).length < many ∧ ∃ v,e = .returned (.tuple #[v,.nilIface]) ∧ OwnN w' w.heap.size v (outN D M s)) ∨
    ((outN D M s).length < many ∧ e = .returned (.tuple #[.slice none 0 0,.iface 37 (.int .i64 4)])))) ∧ But g w w':=by
 have HK:=veil hK
 have HG:=veil (And.intro hg hm)
 have hlt:=hS.lt
 have h0 : (0 : Int) ≤ (many : Int):=by omega
 have h16 : (many : Int) ≤ 16:=by omega
 obtain ⟨i4,hi4,hz4,hsz4,hby4⟩:=info_parts4 infoN32
 obtain ⟨w1,hr,hO1,hgr⟩:=run_make_own (P:=Tryz.prog) w w.heap.size 101 29 i4 _ 4 Tryz.underlying101 hi4 hz4 hsz4 .i64 .i64 many (by rw [hby4]; omega) (by unfold maxLen; omega) (Nat.le_refl _)
 have hE1 : Ext w w1:=zds (Below.refl _ _) hgr (Nat.le_refl _) (fun k e => by cases e)
 have hS1:=hS.call hE1
 have hB1 : But g w w1:=But.of_below hE1
 have hO1 : OwnN w1 w.heap.size (.slice (some ⟨w.heap.size,0,none⟩) 0 many) []:=hO1
 clear hi4 hz4 hsz4 hby4 hgr hE1 hS hK hg
 go_enter Tryz.func112,Tryz.ntmps112
 go_upto_region 3 with (fail)
 clear hr
 go_loopw [6,7] (fun v6 v7 wr => ∃ i : Nat,i ≤ 100 ∧ v7 = .int .i64 (i : Int) ∧ (∀ j,j < i → (outN D M j).length < many) ∧ OwnN wr w.heap.size v6 (outN D M i) ∧ SRow wr g (kvN D M i) ∧ But g w wr)
  (fun _ v7 _ => 100 - (intOf v7).toNat)
 case atStart => exact ⟨0,by omega,rfl,fun j hj => by omega,hO1,hS1,hB1⟩
 case round =>
  clear hO1 hS1 hB1
  obtain ⟨i,hi,rfl,hpre,hO,hS,hB⟩:=hrel
  have hlw:=(show g < w.heap.size by assumption)
  obtain ⟨A,c,rfl,hnc⟩:=hO.form
  obtain ⟨n,hn⟩ : ∃ n,n = (outN D M i).length:=⟨_,rfl⟩
  rw [← hn] at hO hnc
  have HN:=veil hn
  have HP:=veil hpre
  clear hpre
  by_cases hlt : n < many
  ·
   have hd : decide ((n : Int) < (many : Int)) = true:=by simp; omega
   by_cases h100 : i = 100
   ·
    subst h100
    rw [← hn]
    have hEnd:=veil (show Ends D M many 100 ∧ (outN D M 100).length < many from ⟨⟨by omega,HP.out,.inl rfl⟩,by rw [← hn]; exact hlt⟩)
    clear hn hO hS
    go_wp2
    go_ret2
    exact ⟨⟨100,hEnd.out.1,.inr ⟨hEnd.out.2,rfl⟩⟩,hB⟩
   ·
    rw [← hn]
    have hx : ((i : Int) == 100) = false:=by simp; omega
    obtain ⟨X,hX⟩ : ∃ X,X = numN D M i:=⟨_,rfl⟩
    obtain ⟨m,hmX⟩ : ∃ m,m = mayB X:=⟨_,rfl⟩
    have HX:=veil (And.intro hX (And.intro hmX (show X < top from by rw [hX]; exact numN_lt D M i)))
    have hlg:=hS.lt
    have KN:=veil (show Calls Tryz.prog 114 #[.pointer (some ⟨g,0,none⟩)] wr fun e w' => e = .returned (nv X) ∧ SRow w' g (kvN D M (i + 1)) ∧ But g wr w' from by
     rw [hX]; exact next_calls g HG.out.1 (kvN D M i) (kvN_ok D M i) wr (HK.out.grown hB (Ne.symm HG.out.1)) hS)
    have HO:=veil hO
    have HB:=veil hB
    have HL:=veil (show (outN D M i).length < many from by rw [← hn]; exact hlt)
    have hi99 : i < 100:=by omega
    clear hn hO hX hmX hB hS hnc hO1 h100 hi
    go_upto_region 8 with (first
     | (go_at_call 114; refine KN.out.mono ?_; rintro e w2 ⟨rfl,hS2,hB2⟩)
     | ((with_reducible refine zae ?_); refine wpList_store_row rfl 29 _ _ rfl w2.heap.size (nc X) rfl rfl 29 _ (heap_alloc_last w2 _) (iN X) (by rfl) (zdu X) ?_; rw [World.setRow_alloc_new]))
    have hE3 : Ext w2 (w2.alloc (.cells (nc X) 29)):=Ext.alloc _ _
    have hx3 : (w2.alloc (.cells (nc X) 29)).heap[w2.heap.size]? = some (.cells (nc X) 29 (0,0)):=heap_alloc_last w2 _
    generalize w2.alloc (.cells (nc X) 29) = w3 at *
    generalize w2.heap.size = gx at *
    have KC:=veil (can_calls X HX.out.2.2 w3)
    rw [← HX.out.2.1] at KC
    have HO3:=veil ((HO.out.but hB2 hlw).ext hE3)
    have H3:=veil (And.intro (hS2.call hE3) (And.intro ((HB.out.trans hB2).below hE3) hx3))
    clear hS2 hB2 hE3 hx3 HO HB KN hlg hx hd
    have hl1000 : (outN D M i).length ≤ 1000:=by have:=HL.out; omega
    cases m with
    | false =>
     go_wp2_with (first
      | ((with_reducible refine zab 22 ?_); refine wpList_load_row rfl 29 _ rfl gx rfl 29 (nc X) (0,0) _ H3.out.2.2 Tryz.underlying29 rfl (iN X) ?_)
      | (go_at_call 111; refine KC.out.mono ?_; rintro e w4 ⟨rfl,hE4⟩))
     have hout : outN D M (i + 1) = outN D M i:=by
      show (if mayB (numN D M i) = true then _ else _) = _
      rw [← HX.out.1,← HX.out.2.1]; rfl
     go_roundw
     case rel => exact ⟨i + 1,by omega,by go_num,pre_step HP.out HL.out,by rw [hout]; exact HO3.out.ext hE4,H3.out.1.call hE4,H3.out.2.1.below hE4⟩
     case measure => simp [intOf]; omega
    | true =>
     have hnc4 : (nc X).size = 4:=rfl
     go_wp2_with (first
      | ((with_reducible refine zab 22 ?_); refine wpList_load_row rfl 29 _ rfl gx rfl 29 (nc X) (0,0) _ H3.out.2.2 Tryz.underlying29 rfl (iN X) ?_)
      | (go_at_call 111; refine KC.out.mono ?_; rintro e w4 ⟨rfl,hE4⟩)
      | ((with_reducible refine zab 25 ?_); refine wpList_load_row rfl 29 _ rfl gx rfl 29 (nc X) (0,0) _ (hE4.block H3.out.2.2) Tryz.underlying29 rfl (iN X) ?_)
      | (at_builtin; refine wpl_append_num rfl _ _ rfl w.heap.size (.slice A n c) (outN D M i) rfl ((HO3.out.ext hE4).ext (Ext.alloc _ (.cells (nc X) 29))) w4.heap.size X rfl (heap_alloc_last w4 _) hl1000 (Nat.le_trans H3.out.2.1.size (Nat.le_trans hE4.size (by simp))) ?_; intro v6 w6 hO6 hg6))
     have hout : outN D M (i + 1) = outN D M i ++ [X]:=by
      show (if mayB (numN D M i) = true then _ else _) = _
      rw [← HX.out.1,← HX.out.2.1]; rfl
     have hb6 : Below w.heap.size (w4.alloc (.cells (nc X) 29)) w6:=zds (Below.refl _ _) hg6 (Nat.le_trans H3.out.2.1.size (Nat.le_trans hE4.size (by simp))) (fun k e => (HO3.out.lt e).1)
     have hS6 : SRow w6 g (kvN D M (i + 1)):=World.rowIs.of_block ((H3.out.1.call hE4).alloc (.cells (nc X) 29)) (hb6.block g hlw)
     have hB6 : But g w w6:=((H3.out.2.1.below hE4).alloc (.cells (nc X) 29)).belowAt hb6 (Nat.le_refl _)
     clear hb6 hg6 H3
     go_roundw
     case rel => exact ⟨i + 1,by omega,by go_num,pre_step HP.out HL.out,by rw [hout]; exact hO6,hS6,hB6⟩
     case measure => simp [intOf]; omega
  ·
   have hd : decide ((n : Int) < (many : Int)) = false:=by simp; omega
   have hEnd:=veil (show Ends D M many i ∧ ¬ (outN D M i).length < many from ⟨⟨hi,HP.out,.inr (by rw [← hn]; exact hlt)⟩,by rw [← hn]; exact hlt⟩)
   rw [← hn]
   have HO:=veil hO
   clear hn hS hO
   go_wp2
   go_ret2
   exact ⟨⟨i,hEnd.out.1,.inl ⟨hEnd.out.2,_,rfl,HO.out⟩⟩,hB⟩
def Res (D M many : Nat) (W : World) (base : Nat) (v ev : Value) : Prop :=
 ∃ s,Ends D M many s ∧ ((¬ (outN D M s).length < many ∧ ev = .nilIface ∧ OwnN W base v (outN D M s)) ∨ ((outN D M s).length < many ∧ v = .slice none 0 0 ∧ ev = .iface 37 (.int .i64 4)))
theorem Res.ext {D M many base : Nat} {W W' : World} {v ev : Value} (h : Res D M many W base v ev) (k : Ext W W') : Res D M many W' base v ev:=by
 obtain ⟨s,hE,h⟩:=h
 exact ⟨s,hE,h.imp (fun ⟨a,b,c⟩ => ⟨a,b,c.ext k⟩) id⟩
theorem Res.base_le {D M many base base' : Nat} {W : World} {v ev : Value} (h : Res D M many W base v ev) (k : base' ≤ base) : Res D M many W base' v ev:=by
 obtain ⟨s,hE,h⟩:=h
 exact ⟨s,hE,h.imp (fun ⟨a,b,c⟩ => ⟨a,b,c.base_le k⟩) id⟩
theorem firstOf_res (D M many g : Nat) (hm : many ≤ 16) (hg : g ≠ 0) (w : World) (hK : KT w) (hS : SRow w g (kvS D M)) :
  Calls Tryz.prog 112 #[.func (.func 114) #[.pointer (some ⟨g,0,none⟩)] #[],.int .i64 (many : Int)] w fun e w' => ∃ v ev,e = .returned (.tuple #[v,ev]) ∧ Res D M many w' w.heap.size v ev ∧ But g w w' :=
 (firstOf_calls D M many g hm hg w hK hS).mono fun e w' ⟨⟨s,hE,h⟩,hB⟩ => by
  rcases h with ⟨hn,v,rfl,hO⟩ | ⟨hn,rfl⟩
  ·
   exact ⟨v,_,rfl,⟨s,hE,.inl ⟨hn,rfl,hO⟩⟩,hB⟩
  ·
   exact ⟨_,_,rfl,⟨s,hE,.inr ⟨hn,rfl,rfl⟩⟩,hB⟩
theorem list_good (D : Nat) (hD : D < top) (y : Nat → Nat) (hy : ∀ j,y j < 256) (many : Nat) (hm : many ≤ 16) (hb : mayB D = true) (w : World) (hK : KT w) :
  Calls Tryz.prog 57 #[nv D,.agg (arrOf 32 fun i => .int .u8 (y i : Nat)),.int .i64 (many : Int)] w fun e w' => ∃ v ev,e = .returned (.tuple #[v,ev]) ∧ Res D (num32 y % Pt.nn) many w' w.heap.size v ev ∧ Ext w w':=by
 obtain ⟨M,hM⟩ : ∃ M,M = num32 y % Pt.nn:=⟨_,rfl⟩
 have KN:=veil (fun W hK => newSource_calls D y hy W hK)
 rw [← hM] at KN ⊢
 obtain ⟨F,hF⟩ : ∃ F,F = arrOf 32 fun i => Value.int .u8 (y i : Nat):=⟨_,rfl⟩
 rw [← hF] at KN ⊢
 have HF:=veil (show F.size = 32 ∧ (Tryz.prog.info? 23).map (·.size) = some F.size from by rw [hF,zah]; exact ⟨rfl,infoD⟩)
 have KC:=veil (fun W => can_calls D hD W)
 rw [hb] at KC
 have HK:=veil hK
 have HM:=veil hm
 have h0 : decide ((many : Int) < 0) = false:=decide_eq_false (by omega)
 have h16 : decide (16 < (many : Int)) = false:=decide_eq_false (by omega)
 clear hF hM hD hb hK hy hm
 obtain ⟨C,hC⟩ : ∃ C,C = nc D:=⟨_,rfl⟩
 rw [show nv D = .agg C from by rw [hC]; rfl] at KC KN ⊢
 have HC:=veil (show (Tryz.prog.info? 29).map (·.size) = some C.size from by rw [hC]; exact iN D)
 clear hC
 go_enter Tryz.func57,Tryz.ntmps57
 go_upto_region 1 with (fail)
 have hc1 : (w.alloc (.cells C 29)).heap[w.heap.size]? = some (.cells C 29 (0,0)):=heap_alloc_last w _
 have hz1 : (w.alloc (.cells C 29)).heap.size = w.heap.size + 1:=by simp
 have hE1:=Ext.alloc w (.cells C 29)
 generalize w.alloc (.cells C 29) = w1 at *
 have hf2 : (w1.alloc (.cells F 23)).heap[w.heap.size + 1]? = some (.cells F 23 (0,0)):=by rw [← hz1]; exact heap_alloc_last w1 _
 have hc2:=(Ext.alloc w1 (.cells F 23)).block hc1
 have hE2:=hE1.trans (Ext.alloc w1 (.cells F 23))
 generalize w1.alloc (.cells F 23) = w2 at *
 have H2:=veil (And.intro hc2 (And.intro hf2 (And.intro hE2 (HK.out.call hE2))))
 clear hc1 hz1 hE1 hf2 hc2 hE2 HK
 go_upto_region 3 with (first
  | ((with_reducible refine zab 8 ?_); refine wpList_load_row rfl 29 _ rfl w.heap.size rfl 29 C (0,0) _ H2.out.1 Tryz.underlying29 rfl HC.out ?_)
  | (go_at_call 111; refine (KC.out _).mono ?_; rintro e w4 ⟨rfl,hE4⟩))
 have H4:=veil (And.intro (hE4.block H2.out.1) (And.intro (hE4.block H2.out.2.1) (And.intro (H2.out.2.2.1.trans hE4) (H2.out.2.2.2.call hE4))))
 clear H2 hE4 h0 h16
 go_wp2_with (first
  | ((with_reducible refine zab 20 ?_); refine wpList_load_row rfl 29 _ rfl w.heap.size rfl 29 C (0,0) _ H4.out.1 Tryz.underlying29 rfl HC.out ?_)
  | ((with_reducible refine zab 21 ?_); refine wpList_load_row rfl 23 _ rfl (w.heap.size + 1) rfl 23 F (0,0) _ H4.out.2.1 Tryz.underlying23 rfl HF.out.2 ?_)
  | (go_at_call 113; refine (KN.out _ H4.out.2.2.2).mono ?_; rintro e w5 ⟨g,rfl,hgw,hS5,hE5⟩)
  | (go_at_call 112; refine (firstOf_res D M many g HM.out (by have:=H4.out.2.2.2.lt; omega) w5 (H4.out.2.2.2.call hE5) hS5).mono ?_; rintro e w6 ⟨v,ev,rfl,hR,hB⟩))
 go_ret2
 have hE : Ext w w6:=Below.trans (H4.out.2.2.1.trans hE5) (But.new hB (Nat.le_trans H4.out.2.2.1.size hgw) (H4.out.2.2.1.trans hE5).size)
 exact ⟨v,ev,rfl,hR.base_le (H4.out.2.2.1.trans hE5).size,hE⟩
/-! ### the field of n -/
def Fn (w : World) (b : Nat) : Prop:=∃ N Q,Fok Pt.nn N Q ∧ Fb w b Pt.nn N Q
theorem Fn.ext {w w' : World} {b : Nat} (h : Fn w b) (k : Ext w w') : Fn w' b:=by
 obtain ⟨N,Q,h1,h2⟩:=h
 exact ⟨N,Q,h1,h2.call k⟩
theorem Fn.but {w w' : World} {b r : Nat} (h : Fn w b) (k : But r w w') (hne : b ≠ r) : Fn w' b:=by
 obtain ⟨N,Q,h1,h2⟩:=h
 exact ⟨N,Q,h1,World.rowIs.of_block h2 (k.block b h2.lt (fun e => hne (Option.some.inj e)))⟩
section
variable {b : Nat} {w : World}
theorem nadd_p {X Y Z : Nat} (hZ : Z = (X % Pt.nn + Y % Pt.nn) % Pt.nn) (hX : X < top) (hY : Y < top) (hF : Fn w b) : Calls Tryz.prog 133 #[ptrTo b,nv X,nv Y] w fun e w' => e = .returned (nv Z) ∧ Ext w w':=by
 obtain ⟨N,Q,h1,h2⟩:=hF
 exact zgs b X Y Pt.nn N Q Z hX hY h1 hZ.symm w h2
theorem ncut_p {X Z : Nat} (hZ : Z = X % Pt.nn) (hX : X < top) (hF : Fn w b) : Calls Tryz.prog 133 #[ptrTo b,nv X,nv 0] w fun e w' => e = .returned (nv Z) ∧ Ext w w' :=
 nadd_p (by rw [hZ,Nat.zero_mod,Nat.add_zero,Nat.mod_mod]) hX zcs hF
theorem nmul_p {X Y Z : Nat} (hZ : Z = X * Y % Pt.nn) (hX : X < top) (hY : Y < top) (hF : Fn w b) : Calls Tryz.prog 81 #[ptrTo b,nv X,nv Y] w fun e w' => e = .returned (nv Z) ∧ Ext w w':=by
 obtain ⟨N,Q,h1,h2⟩:=hF
 exact fmul2_calls b X Y Pt.nn N Q Z hX hY h1 hZ.symm w h2
theorem ninv_p {X t : Nat} (h0 : X ≠ 0) (hX : X < Pt.nn) (ht : t = Pt.iG Pt.nn X) (hF : Fn w b) : Calls Tryz.prog 79 #[ptrTo b,nv X] w fun e w' => e = .returned (.tuple #[nv t,.nilIface]) ∧ Ext w w':=by
 obtain ⟨N,Q,h1,h2⟩:=hF
 refine (zib b X Pt.nn N Q (Nat.lt_trans hX zcp) h1 w h2).mono ?_
 rintro e w' ⟨⟨y,hy,hi,rfl⟩,hb⟩
 have hg:=Pt.gcd_nn h0 hX
 have e1 : y = t:=by rw [ht]; exact Pt.iG_of Pt.nn Pt.nn_root Pt.nn_one hy (hi hg)
 rw [zhz hg,e1]
 exact ⟨rfl,hb⟩
end
/-! ### a maker -/
def mc (g D E : Nat) : Array Value:=#[ptrTo g,vI vU (wd D 0),vI vU (wd D 1),vI vU (wd D 2),vI vU (wd D 3),vI vU (wd E 0),vI vU (wd E 1),vI vU (wd E 2),vI vU (wd E 3)]
def mv (g D E : Nat) : Value:=.agg (mc g D E)
theorem mc_one (g D E : Nat) : (mc g D E).all (·.oneCell') = true:=by simp [mc,ptrTo,Value.oneCell']
theorem iMk (g D E : Nat) : (Tryz.prog.info? 106).map (·.size) = some (mc g D E).size:=by kernel_rfl
theorem gz_size (r s : Nat) : (#[vI vU 0,vI vU 0,vI vU 0,vI vU 0,vI vU 0,vI vU 0,vI vU 0,vI vU 0] : Array Value).size = (gc r s).size:=by simp [gc]
theorem qz_size (x y : Nat) (f : Bool) : (#[vI vU 0,vI vU 0,vI vU 0,vI vU 0,vI vU 0,vI vU 0,vI vU 0,vI vU 0,.bool false] : Array Value).size = (qc x y f).size:=by simp [qc]
theorem zjc (W : World) : (isAgg 104).run Tryz.prog W = .ok false W:=by simp [isAgg,go_sem]
section
variable (g : Nat) (W : World)
theorem fldM0 : (Instr.fieldAt 106 (ptrTo g) 0).run Tryz.prog W = .ok (.pointer (some ⟨g,0,none⟩)) W:=by simp [Instr.fieldAt,go_sem]
theorem fldM1 : (Instr.fieldAt 106 (ptrTo g) 1).run Tryz.prog W = .ok (.pointer (some ⟨g,1,none⟩)) W:=by simp [Instr.fieldAt,go_sem]
theorem fldM2 : (Instr.fieldAt 106 (ptrTo g) 2).run Tryz.prog W = .ok (.pointer (some ⟨g,5,none⟩)) W:=by simp [Instr.fieldAt,go_sem]
theorem bldM (D E : Nat) : (Instr.build 106 [(0,ptrTo g),(1,nv D),(2,nv E)].toArray).run Tryz.prog W = .ok (mv g D E) W:=by simp [Instr.build,go_sem,nv,nc,mv,mc]
end
theorem zfk {S : World → Prop} {P : Program} {ops : Array Oper} {o : Oper} {a : Act} {ty : TypeId} {parts : List (Nat × Operand)} {vs : List (Nat × Value)} {v : Value} (hw : Region.wanted o (yielded ops a.tmps) = true) (ho : o.op = .build ty parts.toArray) (hx : parts.map (fun p => (p.1,a.eval p.2)) = vs)
  (hb : ∀ W,(Instr.build ty vs.toArray).run P W = .ok v W) : YieldsIf P ops S o v a:=Or.inl ⟨hw,fun W _ => by
 unfold execOp
 simp only [ho,List.map_toArray]
 rw [show (parts.map fun x => match x with | (i,x) => (i,a.eval x)) = vs from hx]
 simp only [Sem.run_bind,hb W,Result.andThen_ok,Sem.run_pure]⟩
theorem yif_pickB {S : World → Prop} {P : Program} {ops : Array Oper} {o : Oper} {a : Act} {c x y : Operand} {b : Bool} {v : Value} (hw : Region.wanted o (yielded ops a.tmps) = true) (ho : o.op = .pick c x y) (hc : a.eval c = .bool b) (hx : (if b then a.eval x else a.eval y) = v) : YieldsIf P ops S o v a:=Or.inl ⟨hw,fun W _ => by
 unfold execOp
 simp only [ho]
 generalize a.eval = ρ at *
 subst hx
 rw [hc]
 cases b <;> simp [go_sem,asBool]⟩
/-! ### what the layers below answer -/
theorem ofl_is {y : Nat → Nat} {X : Nat} (hy : ∀ j,y j < 256) (hX : X = num32 y) {g : Nat} (w : World) (hb : w.heap[g]? = some (.cells (dgc y) 23 (0,0))) : Calls Tryz.prog 74 #[.slice (some ⟨g,0,none⟩) 32 32] w fun e w' => e = .returned (.tuple #[nv X,.nilIface]) ∧ Ext w w':=by
 subst hX
 exact ziu g 0 32 32 y hy (by decide) w (Array.getElem?_eq_some_iff.1 hb).1 (fun j hj => by rw [Nat.zero_add,cell_of_row w g j _ _ _ hb]; exact zbk _ hj)
theorem mulb_is {K : Nat} (hK : K < top) {P : Pt.Q} (hP : P = Pt.grp.mul K Pt.base) (w : World) : Calls Tryz.prog 53 #[nv K,qv Pt.gx Pt.gy false] w fun e w' => e = .returned (.tuple #[qv (Pt.pX P.1) (Pt.pY P.1) (Pt.pFar P.1),.nilIface]) ∧ Ext w w':=by
 subst hP
 have h:=mul_yes K hK Pt.base w
 unfold qvP at h
 rwa [base_x.1,base_x.2.1,base_x.2.2] at h
theorem mulq_is {K X Y : Nat} {f : Bool} (hK : K < top) {p q : Pt.Q} (hp : X = Pt.pX p.1 ∧ Y = Pt.pY p.1 ∧ f = Pt.pFar p.1) (hq : q = Pt.grp.mul K p) (w : World) : Calls Tryz.prog 53 #[nv K,qv X Y f] w fun e w' => e = .returned (.tuple #[qv (Pt.pX q.1) (Pt.pY q.1) (Pt.pFar q.1),.nilIface]) ∧ Ext w w':=by
 obtain ⟨rfl,rfl,rfl⟩:=hp
 subst hq
 exact mul_yes K hK p w
theorem addq_is {a b c : Pt.Q} (hc : c = Pt.grp.op a b) (w : World) : Calls Tryz.prog 130 #[qv (Pt.pX a.1) (Pt.pY a.1) (Pt.pFar a.1),qv (Pt.pX b.1) (Pt.pY b.1) (Pt.pFar b.1)] w fun e w' => e = .returned (.tuple #[qv (Pt.pX c.1) (Pt.pY c.1) (Pt.pFar c.1),.nilIface]) ∧ Ext w w':=by
 subst hc; exact add_yes a b w
theorem onp_is {X Y : Nat} {f r : Bool} (h : onB X Y f = r) (hX : X < top) (hY : Y < top) (w : World) : Calls Tryz.prog 77 #[qv X Y f] w fun e w' => e = .returned (.bool r) ∧ Ext w w':=by
 subst h; exact on_is X Y f hX hY w
theorem iz_is {X : Nat} {b : Bool} (hb : decide (X = 0) = b) (hX : X < top) (w : World) :
  Calls Tryz.prog 97 #[nv X] w fun e w' => e = .returned (.bool b) ∧ Ext w w':=by
 have k:=veil fun W => eql_zero hX W
 rw [hb] at k
 clear hb hX
 exact way1 Tryz.func97 [nv X] (.ins 5 (binK .eql 29 (.tmp 3) (.tmp 4) (nv X) (nv 0)) (.bool b) (fun W _ => zdt (gN _ _ _ _ _ W) (k.out W)) <| .ret _ fun _ h => ⟨rfl,h⟩) (by kernel_rfl)
theorem rng_zero (w : World) : Calls Tryz.prog 52 #[nv 0] w fun e w' => e = .returned (.bool false) ∧ Ext w w' :=
 way1 Tryz.func52 [nv 0] (.call _ _ _ (fun W _ => iz_is (b:=true) rfl (Nat.two_pow_pos 256) W) <| .ret _ fun _ h => ⟨rfl,h⟩) (by kernel_rfl)
theorem rng_else {X : Nat} {b : Bool} (hX : X < top) (h0 : X ≠ 0) (hb : decide (X < Pt.nn) = b) (w : World) :
  Calls Tryz.prog 52 #[nv X] w fun e w' => e = .returned (.bool b) ∧ Ext w w':=by
 have hl : decide (cmpN X Pt.nn < 0) = b:=by
  subst hb
  unfold cmpN
  by_cases h : X < Pt.nn
  ·
   simp [h]
  ·
   simp only [h,if_false,decide_false]
   split <;> decide
 have k:=veil (And.intro hX (And.intro h0 hl))
 clear hX h0 hb hl
 exact way1 Tryz.func52 [nv X] (.call _ _ _ (fun W _ => iz_is (decide_eq_false k.out.2.1) k.out.1 W) <| .call _ _ _ (fun W _ => pN_is W) <| .call _ _ _ (fun W _ => kcmp X Pt.nn _ rfl k.out.1 zcp W) <|
  .ins 10 (binK .lss 3 (.tmp 9) (.const (.int .i64 0)) (.int .i64 (cmpN X Pt.nn)) (.int .i64 0)) (.bool b) (fun _ _ => lss_run k.out.2.2) <| .ret _ fun _ h => ⟨rfl,h⟩) (by kernel_rfl)
theorem zey {X : Nat} {b : Bool} (hb : mayB X = b) (hX : X < top) (w : World) :
  Calls Tryz.prog 52 #[nv X] w fun e w' => e = .returned (.bool b) ∧ Ext w w':=by
 subst hb
 unfold mayB
 by_cases h0 : X = 0
 ·
  subst h0
  exact rng_zero w
 ·
  rw [decide_eq_true h0,Bool.true_and]
  exact rng_else hX h0 rfl w
theorem ziw (w : World) :
  Calls Tryz.prog 78 #[] w fun e w' => (∃ b,e = .returned (ptrTo b) ∧ w.heap.size ≤ b ∧ Fn w' b) ∧ Ext w w':=by
 go_enter Tryz.func78,Tryz.ntmps78
 go_upto_region 1 with (fail)
 have HN:=veil (pN_is w)
 go_wp2_with (first
  | (go_at_call 99; refine HN.out.mono ?_; rintro e w5 ⟨rfl,hb5⟩)
  | (go_at_call 125; refine (new_good Pt.nn nn_odd.1 nn_odd.2 zcp w5).mono ?_; rintro e w6 ⟨⟨b,N,Q,hok,hfb,hge,rfl⟩,hb6⟩))
 go_ret
 exact ⟨⟨b,rfl,Nat.le_trans (Below.size hb5) hge,N,Q,hok,hfb⟩,hb5.trans hb6⟩
theorem Fn.cells {W : World} {b g o : Nat} {vs : List Value} (h : Fn W b) (hne : ¬ g = b) : Fn (W.setCells g o vs) b:=by
 obtain ⟨N,Q,h1,h2⟩:=h
 exact ⟨N,Q,h1,h2.of_block (zhg (fun e => hne e.symm) vs o W)⟩
def hMod {w0 : World} {Post : Value → World → Prop} {J : World → Prop} (r : ∀ b,OT Tryz.prog w0 Post (fun W => J W ∧ Fn W b)) : OT Tryz.prog w0 Post J :=
 .hang 78 #[] ptrTo (fun b W => Fn W b) (fun b g => g = b) (fun _ _ _ h k => h.ext k) (fun _ _ _ _ _ h hn => h.cells hn)
  (fun W _ => (ziw W).mono fun _ _ ⟨⟨b,he,hge,hF⟩,hE⟩ => ⟨b,he,hE,hF,fun g hg => by
   subst hg
   obtain ⟨_,_,_,h2⟩:=hF
   exact ⟨.inl hge,h2.lt⟩⟩) r
theorem zgp {y : Nat → Nat} (hy : ∀ j,y j < 256) {X : Nat} (hX : X = num32 y) (w : World) :
  Calls Tryz.prog 82 #[dgv y] w fun e w' => e = .returned (nv X) ∧ Ext w w':=by
 have ky:=veil hy
 have kX:=veil hX
 clear hX hy
 unfold nv nc dgv dgc
 go_enter Tryz.func82,Tryz.ntmps82
 go_upto_region 1 with (fail)
 refine wp_via2 fun w1 hx b0 b1 => ?_
 have b0 : w1.heap[w.heap.size]? = some (.cells (dgc y) 23 (0,0)):=b0
 refine' zby (m:=5) (A:=_) (by kernel_rfl) ?h1 ?h2
 case h1 =>
  refine zaa (.slice (some ⟨w.heap.size,0,none⟩) 32 32) rfl (made_slice rfl rfl (sliceD _ ·)) ?_
  refine zaa (.tuple #[nv X,.nilIface]) rfl (zbc (args:=[.slice (some ⟨w.heap.size,0,none⟩) 32 32]) rfl rfl (fun W => zaf Tryz.func74 rfl rfl _ W) (fun W hW => ofl_is ky.out kX.out W (hW.block b0))) ?_;simp only [aP,lA,lZ,lS]
  refine zaa (.tuple #[nv X,.nilIface]) rfl (zbb (.inl rfl) rfl) ?_
  refine zaa (nv X) rfl (zcg rfl rfl rfl) ?_;simp only [aP,lA,lZ,lS]
  refine zaa (.nilIface) rfl (zcg rfl rfl rfl) ?_;simp only [aP,lA,lZ,lS]
  exact zcf
 refine zfr _ _ rfl rfl rfl rfl rfl rfl rfl (hzN ·) (fun _ => rfl) (fun _ => rfl) (iN _) rfl (zdu _) ?_
 intro gx w2 hgx bx hE
 replace b1:=hE.block b1
 replace hx:=hx.trans hE
 clear hE
 simp only [aP,lA,lZ,lS]
 clear hgx
 go_upto_region 2 with (fail)
 refine' zby (m:=1) (A:=_) (by kernel_rfl) ?h2a ?h2b
 case h2a =>
  refine zaa (nv X) rfl (zan rfl rfl bx rfl uN rfl (iN _)) ?_;simp only [aP,lA,lZ,lS]
  exact zcf
 refine prest_store _ rfl rfl rfl rfl rfl rfl b1 (iN _) rfl (zdu _) ?_
 intro w3 hB hb
 go_wp2
 exact bodyPost_ret (results_cell_row rfl _ _ (w.heap.size + 1) 29 (nc X) (0,0) _ rfl hb Tryz.underlying29 rfl (by kernel_rfl)) rfl ⟨rfl,hx.new hB (by omega)⟩
theorem scut_calls {b X Z : Nat} (hZ : Z = X % Pt.nn) (hX : X < top) {w : World} (hF : Fn w b) :
  Calls Tryz.prog 83 #[ptrTo b,nv X] w fun e w' => e = .returned (nv Z) ∧ Ext w w':=by
 have kZ:=veil hZ
 have kX:=veil hX
 clear hX hZ
 exact way1 Tryz.func83 [ptrTo b,nv X] (.call _ _ _ (fun W hW => ncut_p kZ.out kX.out (hF.ext hW)) <|
  .ret _ fun _ h => ⟨rfl,h⟩) (by kernel_rfl)
theorem sumof_calls {u v X Y : Nat} {f : Bool} {p a b c : Pt.Q} (hu : u < top) (hv : v < top) (hp : X = Pt.pX p.1 ∧ Y = Pt.pY p.1 ∧ f = Pt.pFar p.1) (ha : a = Pt.grp.mul u Pt.base) (hb : b = Pt.grp.mul v p) (hc : c = Pt.grp.op a b) (w : World) :
  Calls Tryz.prog 80 #[nv u,nv v,qv X Y f] w fun e w' => e = .returned (qv (Pt.pX c.1) (Pt.pY c.1) (Pt.pFar c.1)) ∧ Ext w w':=by
 have ku:=veil hu
 have kv:=veil hv
 have kp:=veil hp
 have ka:=veil ha
 have kb:=veil hb
 have kc:=veil hc
 clear hc hb ha hp hv hu
 exact way1 Tryz.func80 [nv u,nv v,qv X Y f] (.call _ _ _ (fun W _ => zie W) <|
  .call _ _ _ (fun W _ => mulb_is ku.out ka.out W) <|
  .call _ _ _ (fun W _ => mulq_is kv.out kp.out kb.out W) <|
  .call _ _ _ (fun W _ => addq_is kc.out W) <|
  .ret _ fun _ h => ⟨rfl,h⟩) (by kernel_rfl)
theorem maker_calls {D E : Nat} {y : Nat → Nat} (hy : ∀ j,y j < 256) (hE : E = num32 y) (w : World) :
  Calls Tryz.prog 58 #[nv D,dgv y] w fun e w' => (∃ g,e = .returned (mv g D E) ∧ Fn w' g) ∧ Ext w w':=by
 have ky:=veil hy
 have kE:=veil hE
 clear hE hy
 unfold nv nc dgv dgc
 go_enter Tryz.func58,Tryz.ntmps58
 go_upto_region 1 with (fail)
 refine wp_via3 fun w1 hx b0 b1 b2 => ?_
 have b0 : w1.heap[w.heap.size]? = some (.cells (nc D) 29 (0,0)):=b0
 have b1 : w1.heap[w.heap.size + 1]? = some (.cells (dgc y) 23 (0,0)):=b1
 have hb0:=(Array.getElem?_eq_some_iff.1 b0).1
 have hb1:=(Array.getElem?_eq_some_iff.1 b1).1
 have hb2:=(Array.getElem?_eq_some_iff.1 b2).1
 refine wp_region_noPanic ?_
 refine wp_region_held_drew (S:=fun W => But (w.heap.size + 1 + 1) w1 W) (by kernel_rfl) (But.of_below (Ext.drew w1)) (fun hH => ?_)
 refine wpAnyH_take (i:=1) (v:=nv D) rfl (by kernel_rfl) (by kernel_rfl) (by decide +kernel) (fun _ _ _ h => h) (yieldsIf_load_mid (by rfl) _ _ rfl _ _ rfl (nc D).toList _ (fun W hW j v hv => by rw [cell_of_row W _ _ (nc D) 29 (0,0) ((hW.block _ hb0 (by intro e; injection e; omega)).trans b0),Nat.zero_add]; simpa using hv) uN rfl (iN D)) hH ?_
 refine wpAnyH_take (i:=2) (v:=dgv y) rfl (by kernel_rfl) (by kernel_rfl) (by decide +kernel) (fun _ _ _ h => h) (yieldsIf_load_mid (by rfl) _ _ rfl _ _ rfl (dgc y).toList _ (fun W hW j v hv => by rw [cell_of_row W _ _ (dgc y) 23 (0,0) ((hW.block _ hb1 (by intro e; injection e; omega)).trans b1),Nat.zero_add]; simpa using hv) Tryz.underlying23 rfl (iDg y)) hH ?_
 refine wpAnyH_ready (rs:=[0]) (by decide +kernel) (by simp) ?_
 refine AllReadyH.cons rfl (fun K hK => ?_) AllReadyH.nil
 go_simp
 refine (ziw _).mono ?_
 rintro e w3 ⟨⟨g,rfl,hg,hF⟩,hE1⟩
 have hX : Ext w1 w3:=(Ext.drew w1).trans hE1
 have hg2 : w1.heap.size ≤ g:=hg
 refine hK.out _ _ (But.of_below hX) (fun hH => ?_)
 clear hK K hE1 hg
 refine wpAnyH_ready (rs:=[3]) (by decide +kernel) (by simp) ?_
 refine AllReadyH.cons rfl (fun K hK => ?_) AllReadyH.nil
 go_simp
 refine (zgp ky.out kE.out _).mono ?_
 rintro e w4 ⟨rfl,hE2⟩
 have hF:=hF.ext hE2
 have hX:=hX.trans hE2
 refine hK.out _ _ (But.of_below hX) (fun hH => ?_)
 clear hK K hE2
 refine wpAnyH_take (i:=4) (v:=mv g D E) rfl (by kernel_rfl) (by kernel_rfl) (by decide +kernel) (fun _ _ _ h => h) (zfk (vs:=[(0,ptrTo g),(1,nv D),(2,nv E)]) (by rfl) rfl rfl (fun W => bldM g W D E)) hH ?_
 refine wpAnyH_ready (rs:=[5]) (by decide +kernel) (by simp) ?_
 refine AllReadyH.cons rfl (fun K hK => ?_) AllReadyH.nil
 refine wp_store_row 106 _ _ rfl (w.heap.size + 1 + 1) (mc g D E) rfl rfl 106 _ (hX.block b2) (iMk _ _ _) rfl (mc_one _ _ _) ?_
 have hB:=zci (But.refl (w.heap.size + 1 + 1) w4) (mc g D E)
 have hb:=setRow_heap w4 _ _ (mc g D E) 106 (0,0) (hX.block b2)
 have hF:=hF.but hB (by omega)
 refine hK.out _ _ (zci (But.of_below hX) _) (fun hH => ?_)
 clear hK K
 refine wpAnyH_done (by decide +kernel) ?_ _
 refine NoPanic.normal ?_
 go_wp2
 exact bodyPost_ret (results_cell_row rfl _ _ (w.heap.size + 1 + 1) 106 (mc g D E) (0,0) _ rfl hb Tryz.underlying106 rfl (iMk _ _ _)) rfl ⟨⟨g,rfl,hF⟩,hx.new hH (by omega)⟩
theorem made_all {g D E K x r t u v s : Nat} {b : Bool} (hD : D < top) (hE : E < top) (hK : K ≠ 0 ∧ K < Pt.nn) (hx0 : x < top) (ht : t = Pt.iG Pt.nn K) (hr : r = x % Pt.nn) (hu : u = r * D % Pt.nn) (hv : v = (E % Pt.nn + u % Pt.nn) % Pt.nn) (hs : s = v * t % Pt.nn) (hb0 : (!decide (r = 0) && !decide (s = 0)) = b) {w : World} (hF : Fn w g) :
  Calls Tryz.prog 115 #[mv g D E,nv K,nv x] w fun e w' => e = .returned (.tuple #[gv r s,.bool b]) ∧ Ext w w':=by
 have kKt:=veil (Nat.lt_trans hK.2 zcp)
 have kD:=veil hD
 have kE:=veil hE
 have kK:=veil hK
 have kx0:=veil hx0
 have kt:=veil ht
 have kr:=veil hr
 have ku:=veil hu
 have kv:=veil hv
 have ks:=veil hs
 have kb0:=veil hb0
 clear hb0 hs hv hu hr ht hx0 hK hE hD
 unfold mv mc nv nc
 go_enter Tryz.func115,Tryz.ntmps115
 go_upto_region 1 with (fail)
 refine wp_via4 fun w1 hx b0 b1 b2 b3 => ?_
 have b0 : w1.heap[w.heap.size]? = some (.cells (mc g D E) 106 (0,0)):=b0
 have b1 : w1.heap[w.heap.size + 1]? = some (.cells (nc K) 29 (0,0)):=b1
 have b2 : w1.heap[w.heap.size + 1 + 1]? = some (.cells (nc x) 29 (0,0)):=b2
 have hf:=hF.ext hx
 clear hF
 refine' zby (m:=7) (A:=_) (by kernel_rfl) ?h1 ?h2
 case h1 =>
  refine zaa (ptrTo w.heap.size) rfl (zbw rfl rfl (fldM0 _ ·)) ?_
  refine zaa (ptrTo g) rfl (zdg rfl rfl b0 rfl (zjc ·)) ?_;simp only [aP,lA,lZ,lS]
  refine zaa (nv K) rfl (zan rfl rfl b1 rfl uN rfl (iN _)) ?_
  refine zaa (.tuple #[nv t,.nilIface]) rfl (zbc (args:=[ptrTo g,nv K]) rfl rfl (fun W => zaf Tryz.func79 rfl rfl _ W) (fun W hW => ninv_p kK.out.1 kK.out.2 kt.out (hf.ext hW))) ?_;simp only [aP,lA,lZ,lS]
  refine zaa (.tuple #[nv t,.nilIface]) rfl (zbb (.inl rfl) rfl) ?_
  refine zaa (nv t) rfl (zcg rfl rfl rfl) ?_;simp only [aP,lA,lZ,lS]
  refine zaa (.nilIface) rfl (zcg rfl rfl rfl) ?_;simp only [aP,lA,lZ,lS]
  exact zcf
 refine zfr _ _ rfl rfl rfl rfl rfl rfl rfl (hzN ·) (fun _ => rfl) (fun _ => rfl) (iN _) rfl (zdu _) ?_
 intro gt w2 hgt bt hE
 replace b0:=hE.block b0
 replace b2:=hE.block b2
 replace b3:=hE.block b3
 replace hf:=hf.ext hE
 replace hx:=hx.trans hE
 clear hE
 simp only [aP,lA,lZ,lS]
 clear hgt
 go_upto_region 2 with (fail)
 refine' zby (m:=4) (A:=_) (by kernel_rfl) ?h2a ?h2b
 case h2a =>
  refine zaa (ptrTo w.heap.size) rfl (zbw rfl rfl (fldM0 _ ·)) ?_
  refine zaa (ptrTo g) rfl (zdg rfl rfl b0 rfl (zjc ·)) ?_;simp only [aP,lA,lZ,lS]
  refine zaa (nv x) rfl (zan rfl rfl b2 rfl uN rfl (iN _)) ?_
  refine zaa (nv r) rfl (zbc (args:=[ptrTo g,nv x]) rfl rfl (fun W => zaf Tryz.func83 rfl rfl _ W) (fun W hW => scut_calls kr.out kx0.out (hf.ext hW))) ?_;simp only [aP,lA,lZ,lS]
  exact zcf
 refine prest_var _ _ rfl rfl rfl rfl rfl rfl rfl (hzN ·) (fun _ => rfl) (fun _ => rfl) (iN _) rfl (zdu _) ?_
 intro gr w3 hgr br hE
 replace b0:=hE.block b0
 replace b3:=hE.block b3
 replace bt:=hE.block bt
 replace hf:=hf.ext hE
 replace hx:=hx.trans hE
 clear hE
 simp only [aP,lA,lZ,lS]
 clear hgr
 go_upto_region 3 with (fail)
 refine' wp_made (m:=15) (A:=_) 16 (by kernel_rfl) (by kernel_rfl) (by kernel_rfl) ?h3a ?h3b
 case h3a =>
  refine zaa (ptrTo w.heap.size) rfl (zbw rfl rfl (fldM0 _ ·)) ?_
  refine zaa (ptrTo g) rfl (zdg rfl rfl b0 rfl (zjc ·)) ?_;simp only [aP,lA,lZ,lS]
  refine zaa (ptrTo w.heap.size) rfl (zbw rfl rfl (fldM0 _ ·)) ?_
  refine zaa (ptrTo g) rfl (zdg rfl rfl b0 rfl (zjc ·)) ?_;simp only [aP,lA,lZ,lS]
  refine zaa (.pointer (some ⟨w.heap.size,5,none⟩)) rfl (zbw rfl rfl (fldM2 _ ·)) ?_
  refine zaa (nv E) rfl (zan rfl rfl b0 rfl uN rfl (iN _)) ?_;simp only [aP,lA,lZ,lS]
  refine zaa (ptrTo w.heap.size) rfl (zbw rfl rfl (fldM0 _ ·)) ?_
  refine zaa (ptrTo g) rfl (zdg rfl rfl b0 rfl (zjc ·)) ?_;simp only [aP,lA,lZ,lS]
  refine zaa (nv r) rfl (zan rfl rfl br rfl uN rfl (iN _)) ?_
  refine zaa (.pointer (some ⟨w.heap.size,1,none⟩)) rfl (zbw rfl rfl (fldM1 _ ·)) ?_;simp only [aP,lA,lZ,lS]
  refine zaa (nv D) rfl (zan rfl rfl b0 rfl uN rfl (iN _)) ?_
  refine zaa (nv u) rfl (zbc (args:=[ptrTo g,nv r,nv D]) rfl rfl (fun W => zaf Tryz.func81 rfl rfl _ W) (fun W hW => nmul_p ku.out (zdy kr.out) kD.out (hf.ext hW))) ?_;simp only [aP,lA,lZ,lS]
  refine zaa (nv v) rfl (zbc (args:=[ptrTo g,nv E,nv u]) rfl rfl (fun W => zaf Tryz.func133 rfl rfl _ W) (fun W hW => nadd_p kv.out kE.out (zdy ku.out) (hf.ext hW))) ?_
  refine zaa (nv t) rfl (zan rfl rfl bt rfl uN rfl (iN _)) ?_;simp only [aP,lA,lZ,lS]
  refine zaa (nv s) rfl (zbc (args:=[ptrTo g,nv v,nv t]) rfl rfl (fun W => zaf Tryz.func81 rfl rfl _ W) (fun W hW => nmul_p ks.out (zdy kv.out) (zjd kt.out) (hf.ext hW))) ?_;simp only [aP,lA,lZ,lS]
  exact zcf
 refine rest_var _ _ rfl rfl rfl rfl rfl rfl rfl rfl rfl (by kernel_rfl) (by kernel_rfl) (by kernel_rfl) rfl rfl (hzN ·) (fun _ => rfl) (fun _ => rfl) (iN _) rfl (zdu _) ?_
 intro gs w4 hgs bs hE
 refine NoPanic.normal ?_
 replace b3:=hE.block b3
 replace br:=hE.block br
 replace hf:=hf.ext hE
 replace hx:=hx.trans hE
 clear hE
 simp only [aP,lA,lZ,lS]
 clear hgs
 go_upto_region 4 with (fail)
 have hgr : gr ≠ w.heap.size + 1 + 1 + 1:=by intro e; rw [e,b3] at br; injection br with br; injection br with _ br; exact absurd br (by decide)
 have hgs : gs ≠ w.heap.size + 1 + 1 + 1:=by intro e; rw [e,b3] at bs; injection bs with bs; injection bs with _ bs; exact absurd bs (by decide)
 cases hzr : decide (r = 0) with
 | true =>
  have kzr:=veil hzr
  obtain rfl : b = false:=by rw [← kb0.out,kzr.out]; rfl
  clear hzr
  have hbr:=(Array.getElem?_eq_some_iff.1 br).1
  have hbs:=(Array.getElem?_eq_some_iff.1 bs).1
  have hRlt:=(Array.getElem?_eq_some_iff.1 b3).1
  refine wp_region_noPanic ?_
  have hS:=But.of_below (r:=w.heap.size + 1 + 1 + 1) (Ext.drew w4)
  have hR:=(Ext.drew w4).block b3
  refine wp_region_held_drew (S:=fun W => But (w.heap.size + 1 + 1 + 1) w4 W) (by kernel_rfl) hS (fun hH => ?_)
  refine wpAnyH_take (i:=0) (v:=nv r) rfl (by kernel_rfl) (by kernel_rfl) (by decide +kernel) (fun _ _ _ h => h) (yieldsIf_load_mid (by rfl) _ _ rfl _ _ rfl (nc r).toList _ (fun W hW j v hv => by rw [cell_of_row W _ _ (nc r) 29 (0,0) ((hW.block _ hbr (fun e => hgr (Option.some.inj e))).trans br),Nat.zero_add]; simpa using hv) uN rfl (iN _)) hH ?_
  simp only [Act.put,List.setIfInBounds_toArray,List.set_cons_zero,List.set_cons_succ,List.getElem_toArray,List.getElem_cons_zero]
  refine wpAnyH_take (i:=1) (v:=nv s) rfl (by kernel_rfl) (by kernel_rfl) (by decide +kernel) (fun _ _ _ h => h) (yieldsIf_load_mid (by rfl) _ _ rfl _ _ rfl (nc s).toList _ (fun W hW j v hv => by rw [cell_of_row W _ _ (nc s) 29 (0,0) ((hW.block _ hbs (fun e => hgs (Option.some.inj e))).trans bs),Nat.zero_add]; simpa using hv) uN rfl (iN _)) hH ?_
  simp only [Act.put,List.setIfInBounds_toArray,List.set_cons_zero,List.set_cons_succ,List.getElem_toArray,List.getElem_cons_zero,List.getElem_cons_succ]
  refine wpAnyH_take (i:=2) (v:=gv r s) rfl (by kernel_rfl) (by kernel_rfl) (by decide +kernel) (fun _ _ _ h => h) (zfk (vs:=[(0,nv r),(1,nv s)]) (by rfl) rfl rfl (fun W => bldG W _ _)) hH ?_
  simp only [Act.put,List.setIfInBounds_toArray,List.set_cons_zero,List.set_cons_succ,List.getElem_toArray,List.getElem_cons_zero,List.getElem_cons_succ]
  refine wpAnyH_take (i:=3) (v:=nv r) rfl (by kernel_rfl) (by kernel_rfl) (by decide +kernel) (fun _ _ _ h => h) (yieldsIf_load_mid (by rfl) _ _ rfl _ _ rfl (nc r).toList _ (fun W hW j v hv => by rw [cell_of_row W _ _ (nc r) 29 (0,0) ((hW.block _ hbr (fun e => hgr (Option.some.inj e))).trans br),Nat.zero_add]; simpa using hv) uN rfl (iN _)) hH ?_
  simp only [Act.put,List.setIfInBounds_toArray,List.set_cons_zero,List.set_cons_succ,List.getElem_toArray,List.getElem_cons_zero,List.getElem_cons_succ]
  refine wpAnyH_ready (rs:=[4]) (by decide +kernel) (by simp) ?_
  refine AllReadyH.cons rfl (fun K hK => ?_) AllReadyH.nil
  go_simp
  refine (iz_is kzr.out (zdy kr.out) _).mono ?_
  rintro e v1 ⟨rfl,hE⟩
  have hS:=hS.below hE
  have hR:=hE.block hR
  refine hK.out _ _ hS (fun hH => ?_)
  clear hK K hE
  try simp only [Act.put,List.setIfInBounds_toArray,List.set_cons_zero,List.set_cons_succ,List.getElem_toArray,List.getElem_cons_zero,List.getElem_cons_succ]
  refine wpAnyH_take (i:=5) (v:=.bool false) rfl (by kernel_rfl) (by kernel_rfl) (by decide +kernel) (fun _ _ _ h => h) (Or.inl ⟨by rfl,fun W hSw => (by dsimp only at hSw; go_simp)⟩) hH ?_
  simp only [Act.put,List.setIfInBounds_toArray,List.set_cons_zero,List.set_cons_succ,List.getElem_toArray,List.getElem_cons_zero,List.getElem_cons_succ]
  refine wpAnyH_take (i:=6) (v:=.bool false) rfl (by kernel_rfl) (by kernel_rfl) (by decide +kernel) (fun _ _ _ h => h) (Or.inl ⟨by rfl,fun W hSw => (by dsimp only at hSw; go_simp)⟩) hH ?_
  simp only [Act.put,List.setIfInBounds_toArray,List.set_cons_zero,List.set_cons_succ,List.getElem_toArray,List.getElem_cons_zero,List.getElem_cons_succ]
  refine wpAnyH_take (i:=7) (v:=undef) rfl (by kernel_rfl) (by kernel_rfl) (by decide +kernel) (fun _ _ _ h => h) (Or.inr ⟨by rfl,rfl⟩) hH ?_
  simp only [Act.put,List.setIfInBounds_toArray,List.set_cons_zero,List.set_cons_succ,List.getElem_toArray,List.getElem_cons_zero,List.getElem_cons_succ]
  refine wpAnyH_take (i:=8) (v:=undef) rfl (by kernel_rfl) (by kernel_rfl) (by decide +kernel) (fun _ _ _ h => h) (Or.inr ⟨by rfl,rfl⟩) hH ?_
  simp only [Act.put,List.setIfInBounds_toArray,List.set_cons_zero,List.set_cons_succ,List.getElem_toArray,List.getElem_cons_zero,List.getElem_cons_succ]
  refine wpAnyH_take (i:=9) (v:=undef) rfl (by kernel_rfl) (by kernel_rfl) (by decide +kernel) (fun _ _ _ h => h) (Or.inr ⟨by rfl,rfl⟩) hH ?_
  simp only [Act.put,List.setIfInBounds_toArray,List.set_cons_zero,List.set_cons_succ,List.getElem_toArray,List.getElem_cons_zero,List.getElem_cons_succ]
  refine wpAnyH_take (i:=10) (v:=.bool false) rfl (by kernel_rfl) (by kernel_rfl) (by decide +kernel) (fun _ _ _ h => h) (yif_pickB (by rfl) rfl rfl rfl) hH ?_
  simp only [Act.put,List.setIfInBounds_toArray,List.set_cons_zero,List.set_cons_succ,List.getElem_toArray,List.getElem_cons_zero,List.getElem_cons_succ]
  refine wpAnyH_ready (rs:=[11]) (by decide +kernel) (by simp) ?_
  refine AllReadyH.cons rfl (fun K hK => ?_) AllReadyH.nil
  refine wp_store_row 46 _ _ rfl (w.heap.size + 1 + 1 + 1) (gc r s) rfl rfl 46 _ hR (iSg _ _) (gz_size _ _) (zbu _ _) ?_
  have hR:=setRow_heap _ _ _ (gc r s) 46 (0,0) hR
  have hS:=zci hS (gc r s)
  refine hK.out _ _ hS (fun hH => ?_)
  clear hK K
  refine wpAnyH_ready (rs:=[12]) (by decide +kernel) (by simp) ?_
  refine AllReadyH.cons rfl (fun K hK => ?_) AllReadyH.nil
  go_simp
  refine hK.out _ _ hS (fun hH => ?_)
  clear hK K
  refine wpAnyH_done (by decide +kernel) ?_ _
  refine NoPanic.normal ?_
  go_wp2
  exact bodyPost_ret (zaz rfl _ _ (w.heap.size + 1 + 1 + 1) 46 (gc r s) (0,0) _ rfl hR Tryz.underlying46 rfl (iSg _ _)) rfl ⟨rfl,hx.new hS (by omega)⟩
 | false =>
  cases hzs : decide (s = 0) with
  | true =>
   have kzr:=veil hzr
   have kzs:=veil hzs
   obtain rfl : b = false:=by rw [← kb0.out,kzr.out,kzs.out]; rfl
   clear hzr hzs
   have hbr:=(Array.getElem?_eq_some_iff.1 br).1
   have hbs:=(Array.getElem?_eq_some_iff.1 bs).1
   have hRlt:=(Array.getElem?_eq_some_iff.1 b3).1
   refine wp_region_noPanic ?_
   have hS:=But.of_below (r:=w.heap.size + 1 + 1 + 1) (Ext.drew w4)
   have hR:=(Ext.drew w4).block b3
   refine wp_region_held_drew (S:=fun W => But (w.heap.size + 1 + 1 + 1) w4 W) (by kernel_rfl) hS (fun hH => ?_)
   refine wpAnyH_take (i:=0) (v:=nv r) rfl (by kernel_rfl) (by kernel_rfl) (by decide +kernel) (fun _ _ _ h => h) (yieldsIf_load_mid (by rfl) _ _ rfl _ _ rfl (nc r).toList _ (fun W hW j v hv => by rw [cell_of_row W _ _ (nc r) 29 (0,0) ((hW.block _ hbr (fun e => hgr (Option.some.inj e))).trans br),Nat.zero_add]; simpa using hv) uN rfl (iN _)) hH ?_
   simp only [Act.put,List.setIfInBounds_toArray,List.set_cons_zero,List.set_cons_succ,List.getElem_toArray,List.getElem_cons_zero]
   refine wpAnyH_take (i:=1) (v:=nv s) rfl (by kernel_rfl) (by kernel_rfl) (by decide +kernel) (fun _ _ _ h => h) (yieldsIf_load_mid (by rfl) _ _ rfl _ _ rfl (nc s).toList _ (fun W hW j v hv => by rw [cell_of_row W _ _ (nc s) 29 (0,0) ((hW.block _ hbs (fun e => hgs (Option.some.inj e))).trans bs),Nat.zero_add]; simpa using hv) uN rfl (iN _)) hH ?_
   simp only [Act.put,List.setIfInBounds_toArray,List.set_cons_zero,List.set_cons_succ,List.getElem_toArray,List.getElem_cons_zero,List.getElem_cons_succ]
   refine wpAnyH_take (i:=2) (v:=gv r s) rfl (by kernel_rfl) (by kernel_rfl) (by decide +kernel) (fun _ _ _ h => h) (zfk (vs:=[(0,nv r),(1,nv s)]) (by rfl) rfl rfl (fun W => bldG W _ _)) hH ?_
   simp only [Act.put,List.setIfInBounds_toArray,List.set_cons_zero,List.set_cons_succ,List.getElem_toArray,List.getElem_cons_zero,List.getElem_cons_succ]
   refine wpAnyH_take (i:=3) (v:=nv r) rfl (by kernel_rfl) (by kernel_rfl) (by decide +kernel) (fun _ _ _ h => h) (yieldsIf_load_mid (by rfl) _ _ rfl _ _ rfl (nc r).toList _ (fun W hW j v hv => by rw [cell_of_row W _ _ (nc r) 29 (0,0) ((hW.block _ hbr (fun e => hgr (Option.some.inj e))).trans br),Nat.zero_add]; simpa using hv) uN rfl (iN _)) hH ?_
   simp only [Act.put,List.setIfInBounds_toArray,List.set_cons_zero,List.set_cons_succ,List.getElem_toArray,List.getElem_cons_zero,List.getElem_cons_succ]
   refine wpAnyH_ready (rs:=[4]) (by decide +kernel) (by simp) ?_
   refine AllReadyH.cons rfl (fun K hK => ?_) AllReadyH.nil
   go_simp
   refine (iz_is kzr.out (zdy kr.out) _).mono ?_
   rintro e v1 ⟨rfl,hE⟩
   have hS:=hS.below hE
   have hR:=hE.block hR
   refine hK.out _ _ hS (fun hH => ?_)
   clear hK K hE
   try simp only [Act.put,List.setIfInBounds_toArray,List.set_cons_zero,List.set_cons_succ,List.getElem_toArray,List.getElem_cons_zero,List.getElem_cons_succ]
   refine wpAnyH_take (i:=5) (v:=.bool true) rfl (by kernel_rfl) (by kernel_rfl) (by decide +kernel) (fun _ _ _ h => h) (Or.inl ⟨by rfl,fun W hSw => (by dsimp only at hSw; go_simp)⟩) hH ?_
   simp only [Act.put,List.setIfInBounds_toArray,List.set_cons_zero,List.set_cons_succ,List.getElem_toArray,List.getElem_cons_zero,List.getElem_cons_succ]
   refine wpAnyH_take (i:=6) (v:=.bool true) rfl (by kernel_rfl) (by kernel_rfl) (by decide +kernel) (fun _ _ _ h => h) (Or.inl ⟨by rfl,fun W hSw => (by dsimp only at hSw; go_simp)⟩) hH ?_
   simp only [Act.put,List.setIfInBounds_toArray,List.set_cons_zero,List.set_cons_succ,List.getElem_toArray,List.getElem_cons_zero,List.getElem_cons_succ]
   refine wpAnyH_take (i:=7) (v:=nv s) rfl (by kernel_rfl) (by kernel_rfl) (by decide +kernel) (fun _ _ _ h => h) (yieldsIf_load_mid (by rfl) _ _ rfl _ _ rfl (nc s).toList _ (fun W hW j v hv => by rw [cell_of_row W _ _ (nc s) 29 (0,0) ((hW.block _ hbs (fun e => hgs (Option.some.inj e))).trans bs),Nat.zero_add]; simpa using hv) uN rfl (iN _)) hH ?_
   simp only [Act.put,List.setIfInBounds_toArray,List.set_cons_zero,List.set_cons_succ,List.getElem_toArray,List.getElem_cons_zero,List.getElem_cons_succ]
   refine wpAnyH_ready (rs:=[8]) (by decide +kernel) (by simp) ?_
   refine AllReadyH.cons rfl (fun K hK => ?_) AllReadyH.nil
   go_simp
   refine (iz_is kzs.out (zdy ks.out) _).mono ?_
   rintro e v2 ⟨rfl,hE⟩
   have hS:=hS.below hE
   have hR:=hE.block hR
   refine hK.out _ _ hS (fun hH => ?_)
   clear hK K hE
   try simp only [Act.put,List.setIfInBounds_toArray,List.set_cons_zero,List.set_cons_succ,List.getElem_toArray,List.getElem_cons_zero,List.getElem_cons_succ]
   refine wpAnyH_take (i:=9) (v:=.bool false) rfl (by kernel_rfl) (by kernel_rfl) (by decide +kernel) (fun _ _ _ h => h) (Or.inl ⟨by rfl,fun W hSw => (by dsimp only at hSw; go_simp)⟩) hH ?_
   simp only [Act.put,List.setIfInBounds_toArray,List.set_cons_zero,List.set_cons_succ,List.getElem_toArray,List.getElem_cons_zero,List.getElem_cons_succ]
   refine wpAnyH_take (i:=10) (v:=.bool false) rfl (by kernel_rfl) (by kernel_rfl) (by decide +kernel) (fun _ _ _ h => h) (yif_pickB (by rfl) rfl rfl rfl) hH ?_
   simp only [Act.put,List.setIfInBounds_toArray,List.set_cons_zero,List.set_cons_succ,List.getElem_toArray,List.getElem_cons_zero,List.getElem_cons_succ]
   refine wpAnyH_ready (rs:=[11]) (by decide +kernel) (by simp) ?_
   refine AllReadyH.cons rfl (fun K hK => ?_) AllReadyH.nil
   refine wp_store_row 46 _ _ rfl (w.heap.size + 1 + 1 + 1) (gc r s) rfl rfl 46 _ hR (iSg _ _) (gz_size _ _) (zbu _ _) ?_
   have hR:=setRow_heap _ _ _ (gc r s) 46 (0,0) hR
   have hS:=zci hS (gc r s)
   refine hK.out _ _ hS (fun hH => ?_)
   clear hK K
   refine wpAnyH_ready (rs:=[12]) (by decide +kernel) (by simp) ?_
   refine AllReadyH.cons rfl (fun K hK => ?_) AllReadyH.nil
   go_simp
   refine hK.out _ _ hS (fun hH => ?_)
   clear hK K
   refine wpAnyH_done (by decide +kernel) ?_ _
   refine NoPanic.normal ?_
   go_wp2
   exact bodyPost_ret (zaz rfl _ _ (w.heap.size + 1 + 1 + 1) 46 (gc r s) (0,0) _ rfl hR Tryz.underlying46 rfl (iSg _ _)) rfl ⟨rfl,hx.new hS (by omega)⟩
  | false =>
   have kzr:=veil hzr
   have kzs:=veil hzs
   obtain rfl : b = true:=by rw [← kb0.out,kzr.out,kzs.out]; rfl
   clear hzr hzs
   have hbr:=(Array.getElem?_eq_some_iff.1 br).1
   have hbs:=(Array.getElem?_eq_some_iff.1 bs).1
   have hRlt:=(Array.getElem?_eq_some_iff.1 b3).1
   refine wp_region_noPanic ?_
   have hS:=But.of_below (r:=w.heap.size + 1 + 1 + 1) (Ext.drew w4)
   have hR:=(Ext.drew w4).block b3
   refine wp_region_held_drew (S:=fun W => But (w.heap.size + 1 + 1 + 1) w4 W) (by kernel_rfl) hS (fun hH => ?_)
   refine wpAnyH_take (i:=0) (v:=nv r) rfl (by kernel_rfl) (by kernel_rfl) (by decide +kernel) (fun _ _ _ h => h) (yieldsIf_load_mid (by rfl) _ _ rfl _ _ rfl (nc r).toList _ (fun W hW j v hv => by rw [cell_of_row W _ _ (nc r) 29 (0,0) ((hW.block _ hbr (fun e => hgr (Option.some.inj e))).trans br),Nat.zero_add]; simpa using hv) uN rfl (iN _)) hH ?_
   simp only [Act.put,List.setIfInBounds_toArray,List.set_cons_zero,List.set_cons_succ,List.getElem_toArray,List.getElem_cons_zero]
   refine wpAnyH_take (i:=1) (v:=nv s) rfl (by kernel_rfl) (by kernel_rfl) (by decide +kernel) (fun _ _ _ h => h) (yieldsIf_load_mid (by rfl) _ _ rfl _ _ rfl (nc s).toList _ (fun W hW j v hv => by rw [cell_of_row W _ _ (nc s) 29 (0,0) ((hW.block _ hbs (fun e => hgs (Option.some.inj e))).trans bs),Nat.zero_add]; simpa using hv) uN rfl (iN _)) hH ?_
   simp only [Act.put,List.setIfInBounds_toArray,List.set_cons_zero,List.set_cons_succ,List.getElem_toArray,List.getElem_cons_zero,List.getElem_cons_succ]
   refine wpAnyH_take (i:=2) (v:=gv r s) rfl (by kernel_rfl) (by kernel_rfl) (by decide +kernel) (fun _ _ _ h => h) (zfk (vs:=[(0,nv r),(1,nv s)]) (by rfl) rfl rfl (fun W => bldG W _ _)) hH ?_
   simp only [Act.put,List.setIfInBounds_toArray,List.set_cons_zero,List.set_cons_succ,List.getElem_toArray,List.getElem_cons_zero,List.getElem_cons_succ]
   refine wpAnyH_take (i:=3) (v:=nv r) rfl (by kernel_rfl) (by kernel_rfl) (by decide +kernel) (fun _ _ _ h => h) (yieldsIf_load_mid (by rfl) _ _ rfl _ _ rfl (nc r).toList _ (fun W hW j v hv => by rw [cell_of_row W _ _ (nc r) 29 (0,0) ((hW.block _ hbr (fun e => hgr (Option.some.inj e))).trans br),Nat.zero_add]; simpa using hv) uN rfl (iN _)) hH ?_
   simp only [Act.put,List.setIfInBounds_toArray,List.set_cons_zero,List.set_cons_succ,List.getElem_toArray,List.getElem_cons_zero,List.getElem_cons_succ]
   refine wpAnyH_ready (rs:=[4]) (by decide +kernel) (by simp) ?_
   refine AllReadyH.cons rfl (fun K hK => ?_) AllReadyH.nil
   go_simp
   refine (iz_is kzr.out (zdy kr.out) _).mono ?_
   rintro e v1 ⟨rfl,hE⟩
   have hS:=hS.below hE
   have hR:=hE.block hR
   refine hK.out _ _ hS (fun hH => ?_)
   clear hK K hE
   try simp only [Act.put,List.setIfInBounds_toArray,List.set_cons_zero,List.set_cons_succ,List.getElem_toArray,List.getElem_cons_zero,List.getElem_cons_succ]
   refine wpAnyH_take (i:=5) (v:=.bool true) rfl (by kernel_rfl) (by kernel_rfl) (by decide +kernel) (fun _ _ _ h => h) (Or.inl ⟨by rfl,fun W hSw => (by dsimp only at hSw; go_simp)⟩) hH ?_
   simp only [Act.put,List.setIfInBounds_toArray,List.set_cons_zero,List.set_cons_succ,List.getElem_toArray,List.getElem_cons_zero,List.getElem_cons_succ]
   refine wpAnyH_take (i:=6) (v:=.bool true) rfl (by kernel_rfl) (by kernel_rfl) (by decide +kernel) (fun _ _ _ h => h) (Or.inl ⟨by rfl,fun W hSw => (by dsimp only at hSw; go_simp)⟩) hH ?_
   simp only [Act.put,List.setIfInBounds_toArray,List.set_cons_zero,List.set_cons_succ,List.getElem_toArray,List.getElem_cons_zero,List.getElem_cons_succ]
   refine wpAnyH_take (i:=7) (v:=nv s) rfl (by kernel_rfl) (by kernel_rfl) (by decide +kernel) (fun _ _ _ h => h) (yieldsIf_load_mid (by rfl) _ _ rfl _ _ rfl (nc s).toList _ (fun W hW j v hv => by rw [cell_of_row W _ _ (nc s) 29 (0,0) ((hW.block _ hbs (fun e => hgs (Option.some.inj e))).trans bs),Nat.zero_add]; simpa using hv) uN rfl (iN _)) hH ?_
   simp only [Act.put,List.setIfInBounds_toArray,List.set_cons_zero,List.set_cons_succ,List.getElem_toArray,List.getElem_cons_zero,List.getElem_cons_succ]
   refine wpAnyH_ready (rs:=[8]) (by decide +kernel) (by simp) ?_
   refine AllReadyH.cons rfl (fun K hK => ?_) AllReadyH.nil
   go_simp
   refine (iz_is kzs.out (zdy ks.out) _).mono ?_
   rintro e v2 ⟨rfl,hE⟩
   have hS:=hS.below hE
   have hR:=hE.block hR
   refine hK.out _ _ hS (fun hH => ?_)
   clear hK K hE
   try simp only [Act.put,List.setIfInBounds_toArray,List.set_cons_zero,List.set_cons_succ,List.getElem_toArray,List.getElem_cons_zero,List.getElem_cons_succ]
   refine wpAnyH_take (i:=9) (v:=.bool true) rfl (by kernel_rfl) (by kernel_rfl) (by decide +kernel) (fun _ _ _ h => h) (Or.inl ⟨by rfl,fun W hSw => (by dsimp only at hSw; go_simp)⟩) hH ?_
   simp only [Act.put,List.setIfInBounds_toArray,List.set_cons_zero,List.set_cons_succ,List.getElem_toArray,List.getElem_cons_zero,List.getElem_cons_succ]
   refine wpAnyH_take (i:=10) (v:=.bool true) rfl (by kernel_rfl) (by kernel_rfl) (by decide +kernel) (fun _ _ _ h => h) (yif_pickB (by rfl) rfl rfl rfl) hH ?_
   simp only [Act.put,List.setIfInBounds_toArray,List.set_cons_zero,List.set_cons_succ,List.getElem_toArray,List.getElem_cons_zero,List.getElem_cons_succ]
   refine wpAnyH_ready (rs:=[11]) (by decide +kernel) (by simp) ?_
   refine AllReadyH.cons rfl (fun K hK => ?_) AllReadyH.nil
   refine wp_store_row 46 _ _ rfl (w.heap.size + 1 + 1 + 1) (gc r s) rfl rfl 46 _ hR (iSg _ _) (gz_size _ _) (zbu _ _) ?_
   have hR:=setRow_heap _ _ _ (gc r s) 46 (0,0) hR
   have hS:=zci hS (gc r s)
   refine hK.out _ _ hS (fun hH => ?_)
   clear hK K
   refine wpAnyH_ready (rs:=[12]) (by decide +kernel) (by simp) ?_
   refine AllReadyH.cons rfl (fun K hK => ?_) AllReadyH.nil
   go_simp
   refine hK.out _ _ hS (fun hH => ?_)
   clear hK K
   refine wpAnyH_done (by decide +kernel) ?_ _
   refine NoPanic.normal ?_
   go_wp2
   exact bodyPost_ret (zaz rfl _ _ (w.heap.size + 1 + 1 + 1) 46 (gc r s) (0,0) _ rfl hR Tryz.underlying46 rfl (iSg _ _)) rfl ⟨rfl,hx.new hS (by omega)⟩
theorem mod_aux (n e u i : Nat) : (e % n + u % n % n) % n * i % n = i * ((e % n + u % n) % n) % n:=by rw [Nat.mod_mod,Nat.mul_comm]
theorem sOf_eq {D E K r t u v s : Nat} (ht : t = Pt.iG Pt.nn K) (hr : r = Pt.rOf K) (hu : u = r * D % Pt.nn) (hv : v = (E % Pt.nn + u % Pt.nn) % Pt.nn) (hs : s = v * t % Pt.nn) : s = Pt.sOf D E K:=by
 rw [hs,hv,hu,ht,hr]
 exact mod_aux Pt.nn E (Pt.rOf K * D) (Pt.iG Pt.nn K)
theorem mayB_mod {X M : Nat} (h : X = M % Pt.nn) : mayB X = !decide (X = 0):=by
 unfold mayB
 rw [decide_eq_true (mod_nn h),Bool.and_true]
 by_cases h0 : X = 0 <;> simp [h0]
theorem made_is {g D E K x : Nat} (hD : D < top) (hE : E < top) (hK : mayB K = true) (hx : x = Pt.pX (Pt.grp.mul K Pt.base).1) {r s : Nat} (hr : r = Pt.rOf K) (hs : s = Pt.sOf D E K) {b : Bool} (hb : (mayB r && mayB s) = b) {w : World} (hF : Fn w g) :
  Calls Tryz.prog 115 #[mv g D E,nv K,nv x] w fun e w' => e = .returned (.tuple #[gv r s,.bool b]) ∧ Ext w w':=by
 have hxt : x < top:=by rw [hx]; exact (p_top _).1
 have hr2 : r = x % Pt.nn:=by rw [hr,hx]; rfl
 have hs2 : s = (E % Pt.nn + (r * D % Pt.nn) % Pt.nn) % Pt.nn * Pt.iG Pt.nn K % Pt.nn:=by rw [hs]; exact (sOf_eq rfl hr rfl rfl rfl).symm
 have hK2 : K ≠ 0 ∧ K < Pt.nn:=⟨may_ne hK,zfu hK⟩
 rw [mayB_mod hr2,mayB_mod hs2] at hb
 exact made_all hD hE hK2 hxt rfl hr2 rfl rfl hs2 hb hF
end Go.Proofs.YtihophdbkjhopaaGreatDoor
