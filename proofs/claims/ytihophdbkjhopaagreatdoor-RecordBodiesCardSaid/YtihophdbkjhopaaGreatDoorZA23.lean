/-
  Of KI Rcm.
-/
import Derived.Test.YtihophdbkjhopaaGreatDoorCards
import Derived.Test.YtihophdbkjhopaaGreatDoorTie
import Derived.Carry
import Derived.Deep.Strs
import Derived.Test.YtihophdbkjhopaaGreatDoorZA10
import Derived.Test.YtihophdbkjhopaaGreatDoorZA22
import Derived.Test.YtihophdbkjhopaaGreatDoorZA18
import Derived.Test.YtihophdbkjhopaaGreatDoorZA12
import Derived.Test.YtihophdbkjhopaaGreatDoorZA11
import Derived.Test.YtihophdbkjhopaaGreatDoorZA9
import Derived.Test.YtihophdbkjhopaaGreatDoorZA6
import Derived.Test.YtihophdbkjhopaaGreatDoorZA8
set_option maxRecDepth 1000000
set_option maxHeartbeats 20000000
namespace Go.Proofs.YtihophdbkjhopaaGreatDoor
open Go.RowKit
open Go.Value renaming int → vI
open Go.IntKind renaming u64 → vU
open Go.Act renaming put → aP
open List renaming setIfInBounds_toArray → lA, set_cons_zero → lZ, set_cons_succ → lS
theorem low_bytes (r s : Nat) (w : World) : Calls Tryz.prog 55 #[gv r s] w fun e w' => ∃ A c,e = .returned (.slice A 64 c) ∧ 64 ≤ c ∧ Bs w' A (sigB r s) ∧ Fresh w A (sigB r s) ∧ Ext w w' :=
 (rsig_bytes r s w).mono fun e w' ⟨g,c,he,_,o,hE⟩ => by
  obtain ⟨A,c2,hv,h1,h2,h3⟩:=own_sig o
  rw [hv] at he
  exact ⟨A,c2,he,h1,h2,h3,hE⟩
theorem low_num (A : Option Addr) (m c : Nat) (bs : List Nat) (w : World) (hm : m = bs.length) (h32 : m = 32) (hS : Bs w A bs) : Calls Tryz.prog 75 #[.slice A m c] w fun e w' => e = .returned (nv (valB bs)) ∧ Ext w w':=by
 subst hm
 obtain ⟨b,o,rfl,hb,hc⟩:=hS.2.resolve_left (by omega)
 refine (zkh b o bs.length c (fun j => bs.getD j 0) hS.1.getD (by omega) w hb hc).mono fun e w' ⟨he,hE⟩ => ⟨?_,hE⟩
 rw [he,lev_valB hS.1 rfl fun k _ => rfl]
 rfl
theorem low_sum (A : Option Addr) (m c : Nat) (bs : List Nat) (w : World) (hm : m = bs.length) (hle : m ≤ 100000) (hS : Bs w A bs) : Calls Tryz.prog 36 #[.slice A m c] w fun e w' => e = .returned (dgv (dgL bs)) ∧ Ext w w':=by
 subst hm
 exact rsum_calls A bs.length c (fun j => bs.getD j 0) hS.1.getD (by omega) w (src_bs hS)
theorem low_sign (D : Nat) (y : Nat → Nat) (w : World) (hm : mayB D = true) (hy : ∀ j,y j < 256) : Calls Tryz.prog 35 #[nv D,dgv y] w fun e w' => e = .returned (.tuple #[sgw (sgL D y),.bool (sgL D y).isSome]) ∧ Ext w w' :=
 (rsign_calls rsum_calls D hm y hy w).mono fun e w' ⟨s,o,h2,ho,he,hE⟩ => by
  obtain rfl:=sgL_of h2 ho
  rw [sgw_is]
  exact ⟨he,hE⟩
theorem low_may (D : Nat) (w : World) (hD : D < top) : Calls Tryz.prog 13 #[nv D] w fun e w' => e = .returned (.bool (mayB D)) ∧ Ext w w':=may_calls D hD w
theorem lowR : LowR lowL where
 bytes:=low_bytes
 num:=low_num
 sum:=low_sum
 may:=low_may
 sign:=low_sign
end Go.Proofs.YtihophdbkjhopaaGreatDoor
namespace Go.Proofs.YtihophdbkjhopaaGreatDoor
open Go.ChangeShapes Go.WideShapes Go.ChangeAt Go.RowKit
open Go.Value renaming int → vI
open Go.IntKind renaming u64 → vU
open Go.Act renaming put → aP
open List renaming setIfInBounds_toArray → lA, set_cons_zero → lZ, set_cons_succ → lS
theorem ziz (C : Code17 lowL KT) (os : Os) (started : os.Started) (H : Type) (enc : TypeId × Value → H) :
  ReturnsInHanded {} Tryz.checked os 3 .any (fun w args => (Rows.recordBodiesSpec.pre enc Tryz.prog Tryz.f3 [] false w args ∧ laidMetH Tryz.prog Rows.recordBodiesRow.laid w) ∧ sizedMet enc Tryz.prog Tryz.f3 (OpenSpec.ofChange Rows.recordBodiesSpec) false w args)
   (Rows.recordBodiesSpec.post enc Tryz.prog Tryz.f3 false true false false):=by
 refine returnsInHanded_of_change_and (C:=Tryz.checked) (X:=fun w _ => laidMetH Tryz.prog Rows.recordBodiesRow.laid w) (fun _ _ _ hh h => h.of_heap hh) ownT started (by kernel_rfl) Tryz.func3
  (ChangeSpec.witness_shaped (enc:=enc) (C:=Tryz.checked) (os:=os) (X:=fun w _ => laidMetH Tryz.prog Rows.recordBodiesRow.laid w) false (World.doorLaid Tryz.prog 14 os) #[.agg #[.int .i64 0,.int .i64 0,.int .i64 0,.int .i64 0,.int .i64 0,.int .i64 0,.int .i64 0,.int .i64 0,.int .u8 0,.int .u8 0,.int .u8 0,.int .u8 0,.int .u8 0,.int .u8 0,.int .u8 0,.int .u8 0,.int .u8 0,.int .u8 0,.int .u8 0,.int .u8 0,.int .u8 0,.int .u8 0,.int .u8 0,.int .u8 0,.int .u8 0,.int .u8 0,.int .u8 0,.int .u8 0,.int .u8 0,.int .u8 0,.int .u8 0,.int .u8 0,.int .u8 0,.int .u8 0,.int .u8 0,.int .u8 0,.int .u8 0,.int .u8 0,.int .u8 0,.int .u8 0,.slice none 0 0],.agg #[vI vU 0,vI vU 0,vI vU 0,vI vU 0]] 8 rfl (World.shaped_of_RefB (by kernel_rfl) (by kernel_rfl)) (by kernel_rfl) (by kernel_rfl) (by kernel_rfl) (door_met os _)) ?_
 intro W base args ds gs before hval0 hW _ _ hL _
 have hval : ∀ (j : Nat) t v,Tryz.f3.params[j]? = some t → args[j]? = some v → Value.okWide Tryz.prog W .any base t v:=hval0
 have hW':=hW
 obtain ⟨p,q,hA0,hV,rfl,_,_⟩:=hW
 have hA : DataW.TrodAll enc Tryz.prog W 0 (fun _ => true) true Tryz.f3.params.toList args.toList ds p:=hA0
 rw [Tryz.params3] at hA hval
 obtain ⟨v0,v1,d0,d1,p0,p1,rfl,rfl,rfl,h0,h1⟩:=trodAll_two hA
 obtain ⟨rfl,rfl⟩:=trodVars_none hV
 have h0k:=h0
 have h1k:=h1
 clear hA0 hval0
 simp only [List.append_nil] at hW'
 have hlt0 : ∀ x ∈ p0,x.block < W.heap.size:=fun x hx => by simpa using hW'.lt x (by simp [hx])
 obtain ⟨X0,r0,rfl,hR0,hN0⟩:=open_rc (hval 0 26 v0 rfl rfl) h0
 have hlt1 : ∀ x ∈ p1,x.block < W.heap.size:=fun x hx => by simpa using hW'.lt x (by simp [hx])
 obtain ⟨X1,lX1,rfl,_,_⟩:=open_num (hval 1 29 v1 rfl rfl) h1
 refine (bodies17_walk lowR C X0 r0 X1 lX1 W (kt_of_laid hL) hR0 (by omega)).mono fun e W' ⟨he,hb⟩ => ?_
 subst he
 exact ⟨_,rfl,_,_,_,[],_,[],hW',trodAll_mk1 (shut_bool Tryz.underlying4 true),by
  have h2:=trodAll_mk2 (Below.trod laidOutT (by kernel_rfl) (of_decide_eq_true (by kernel_rfl)) h0k hb hlt0) (Below.trod laidOutT (by kernel_rfl) (of_decide_eq_true (by kernel_rfl)) h1k hb hlt1)
  try simp only [List.append_nil] at h2
  exact h2,rfl,hb.frame _,fun h => by cases h⟩
theorem zmn (C : Code17 lowL KT) : Rows.recordBodiesRow.holds Tryz.pinned (OpenSpec.ofChange Rows.recordBodiesSpec) :=
 OpenClaim.holds_of_wide 3 Tryz.f3 rfl rfl rfl rfl rfl rfl rfl ⟨rfl,rfl,rfl,rfl,rfl⟩ rfl rfl rfl rfl rfl (by kernel_rfl) Tryz.func3 (by kernel_rfl)
  (of_decide_eq_true (by kernel_rfl)) (by unfold Func.isWrapper; rw [if_neg (of_decide_eq_false (by kernel_rfl))]; exact ⟨rfl,rfl⟩)
  (fun os started H enc _ => ziz C os started H enc)
theorem RecordBodies_of (C : Code17 lowL KT) : Rows.RecordBodiesCardSaid :=
 Claim7.holds_tied_plain_at .later [] [.data] true _ true
  (zmn C) (fun _ h => by cases h) (by kernel_rfl) (fun _ h => by cases h) recordBodies_row_tie rfl ⟨rfl,rfl⟩ (by kernel_rfl) rfl
  (fun f fn hf hfn => by
   obtain rfl : f = 3:=Option.some.inj ((show Tryz.prog.funcNamed "clapper/clapperlaw17.RecordBodies" = some 3 by kernel_rfl).symm.trans hf) |>.symm
   obtain rfl : fn = Tryz.f3:=(Option.some.inj (Tryz.func3.symm.trans hfn)).symm
   exact ⟨by kernel_rfl,fun j t ht => by
    rw [Tryz.params3] at ht
    have hm : t ∈ [26,29]:=by simpa using Array.mem_of_getElem? ht
    have hall : ([26,29].all fun u => !Tryz.prog.wantsStandIn u) = true:=by kernel_rfl
    exact (show Tryz.prog.wantsStandIn t = false by simpa using List.all_eq_true.1 hall t hm)⟩)
  (by kernel_rfl)
end Go.Proofs.YtihophdbkjhopaaGreatDoor
