/-
  Of KI Rcn.
-/
import Derived.Test.YtihophdbkjhopaaGreatDoorCards
import Derived.Test.YtihophdbkjhopaaGreatDoorTie
import Derived.Carry
import Derived.OpenShut
import Derived.Test.YtihophdbkjhopaaGreatDoorZB10
import Derived.Test.YtihophdbkjhopaaGreatDoorZB22
import Derived.Test.YtihophdbkjhopaaGreatDoorZB18
import Derived.Test.YtihophdbkjhopaaGreatDoorZB12
import Derived.Test.YtihophdbkjhopaaGreatDoorZB8
import Derived.Test.YtihophdbkjhopaaGreatDoorZB1
import Derived.Test.YtihophdbkjhopaaGreatDoorZB3
import Derived.Test.YtihophdbkjhopaaGreatDoorZB9
set_option maxRecDepth 1000000
set_option maxHeartbeats 20000000
namespace Go.Proofs.YtihophdbkjhopaaGreatDoor
open Go.RowKit
open Go.Value renaming int → vI
open Go.IntKind renaming u64 → vU
open Go.Act renaming put → aP
open List renaming setIfInBounds_toArray → lA, set_cons_zero → lZ, set_cons_succ → lS
theorem low_bytes (r s : Nat) (w : World) : Calls Tryz.prog 55 #[gv r s] w fun e w' => ∃ A c,e = .returned (.slice A 64 c) ∧ 64 ≤ c ∧ Bs w' A (sigB r s) ∧ Fresh w A (sigB r s) ∧ Ext w w' :=
 (rsig_bytes r s w).mono fun e w' ⟨g,c,he,_,o,hE⟩ => by
  obtain ⟨A,c2,hv,h1,h2,h3⟩:=own_sig o
  rw [hv] at he
  exact ⟨A,c2,he,h1,h2,h3,hE⟩
theorem low_num (A : Option Addr) (m c : Nat) (bs : List Nat) (w : World) (hm : m = bs.length) (h32 : m = 32) (hS : Bs w A bs) : Calls Tryz.prog 75 #[.slice A m c] w fun e w' => e = .returned (nv (valB bs)) ∧ Ext w w':=by
 subst hm
 obtain ⟨b,o,rfl,hb,hc⟩:=hS.2.resolve_left (by omega)
 refine (rof_some b o bs.length c (fun j => bs.getD j 0) hS.1.getD (by omega) w hb hc).mono fun e w' ⟨he,hE⟩ => ⟨?_,hE⟩
 rw [he,lev_valB hS.1 rfl fun k _ => rfl]
 rfl
theorem low_sum (A : Option Addr) (m c : Nat) (bs : List Nat) (w : World) (hm : m = bs.length) (hle : m ≤ 100000) (hS : Bs w A bs) : Calls Tryz.prog 36 #[.slice A m c] w fun e w' => e = .returned (dgv (dgL bs)) ∧ Ext w w':=by
 subst hm
 exact rsum_calls A bs.length c (fun j => bs.getD j 0) hS.1.getD (by omega) w (src_bs hS)
theorem low_ver (X Y : Nat) (f : Bool) (y : Nat → Nat) (R S : Nat) (w : World) (hX : X < top) (hY : Y < top) (hR : R < top) (hS : S < top) (hy : ∀ j,y j < 256) : Calls Tryz.prog 19 #[qv X Y f,dgv y,gv R S] w fun e w' => e = .returned (.bool (vfL X Y f y R S)) ∧ Ext w w':=by
 cases h : onB X Y f with
 | false =>
  rw [vfL_off h]
  exact ver_no hX hY hR hS h y w
 | true =>
  obtain ⟨p,rfl,rfl,rfl⟩:=onB_some h
  rw [vfL_on]
  exact ver_yes p hR hS y hy w
theorem lowR : LowR lowL where
 bytes:=low_bytes
 num:=low_num
 sum:=low_sum
 ver:=low_ver
end Go.Proofs.YtihophdbkjhopaaGreatDoor
namespace Go.Proofs.YtihophdbkjhopaaGreatDoor
open Go.ChangeShapes Go.WideShapes Go.ChangeAt Go.RowKit
open Go.Value renaming int → vI
open Go.IntKind renaming u64 → vU
open Go.Act renaming put → aP
open List renaming setIfInBounds_toArray → lA, set_cons_zero → lZ, set_cons_succ → lS
theorem ziz (C : Code17 lowL KT) (os : Os) (started : os.Started) (H : Type) (enc : TypeId × Value → H) :
  ReturnsInHanded {} Tryz.checked os 4 .any (fun w args => (Rows.recordOpensSpec.pre enc Tryz.prog Tryz.f4 [] false w args ∧ laidMetH Tryz.prog Rows.recordOpensRow.laid w) ∧ sizedMet enc Tryz.prog Tryz.f4 (OpenSpec.ofChange Rows.recordOpensSpec) false w args)
   (Rows.recordOpensSpec.post enc Tryz.prog Tryz.f4 false true false false):=by
 refine returnsInHanded_of_change_and (C:=Tryz.checked) (X:=fun w _ => laidMetH Tryz.prog Rows.recordOpensRow.laid w) (fun _ _ _ hh h => h.of_heap hh) ownT started (by kernel_rfl) Tryz.func4
  (ChangeSpec.witness_shaped (enc:=enc) (C:=Tryz.checked) (os:=os) (X:=fun w _ => laidMetH Tryz.prog Rows.recordOpensRow.laid w) false (World.doorLaid Tryz.prog 14 os) #[.slice none 0 0,.agg #[vI vU 0,vI vU 0,vI vU 0,vI vU 0,vI vU 0,vI vU 0,vI vU 0,vI vU 0,.bool false]] 8 rfl (World.shaped_of_RefB (by kernel_rfl) (by kernel_rfl)) (by kernel_rfl) (by kernel_rfl) (by kernel_rfl) (door_met os _)) ?_
 intro W base args ds gs before hval0 hW _ _ hL _
 have hval : ∀ (j : Nat) t v,Tryz.f4.params[j]? = some t → args[j]? = some v → Value.okWide Tryz.prog W .any base t v:=hval0
 have hW':=hW
 obtain ⟨p,q,hA0,hV,rfl,_,_⟩:=hW
 have hA : DataW.TrodAll enc Tryz.prog W 0 (fun _ => true) true Tryz.f4.params.toList args.toList ds p:=hA0
 rw [Tryz.params4] at hA hval
 obtain ⟨v0,v1,d0,d1,p0,p1,rfl,rfl,rfl,h0,h1⟩:=trodAll_two hA
 obtain ⟨rfl,rfl⟩:=trodVars_none hV
 have h0k:=h0
 obtain ⟨fuel0,hf0⟩:=h0
 obtain ⟨a0,len0,cap0,rfl⟩:=okWide_slice Tryz.underlying24 (hval 0 24 v0 rfl rfl)
 have h1k:=h1
 clear hA0 hval0
 simp only [List.append_nil] at hW'
 have hlt0 : ∀ x ∈ p0,x.block < W.heap.size:=fun x hx => by simpa using hW'.lt x (by simp [hx])
 obtain ⟨A0,m0,c0,bs0,e0,hm0,hS0,hc0⟩:=bs_of (v:=.slice a0 len0 cap0) (by simpa [Value.cells] using hf0)
 obtain ⟨rfl,rfl,rfl⟩ : a0 = A0 ∧ len0 = m0 ∧ cap0 = c0:=by injection e0 with x y z; exact ⟨x,y,z⟩
 have hlt1 : ∀ x ∈ p1,x.block < W.heap.size:=fun x hx => by simpa using hW'.lt x (by simp [hx])
 obtain ⟨X1,Y1,f1,lX1,lY1,rfl,_,_⟩:=open_point (hval 1 44 v1 rfl rfl) h1
 refine (opens17_walk lowR C X1 Y1 f1 lX1 lY1 a0 len0 cap0 bs0 hm0 hc0 W (kt_of_laid hL) hS0).mono fun e W' ⟨he,hb⟩ => ?_
 subst he
 exact ⟨_,rfl,_,_,_,[],_,[],hW',trodAll_mk1 (shut_bool Tryz.underlying4 true),by
  have h2:=trodAll_mk2 (Below.trod laidOutT (by kernel_rfl) (of_decide_eq_true (by kernel_rfl)) h0k hb hlt0) (Below.trod laidOutT (by kernel_rfl) (of_decide_eq_true (by kernel_rfl)) h1k hb hlt1)
  try simp only [List.append_nil] at h2
  exact h2,rfl,hb.frame _,fun h => by cases h⟩
theorem RecordOpens_over (C : Code17 lowL KT) : Rows.recordOpensRow.holds Tryz.pinned (OpenSpec.ofChange Rows.recordOpensSpec) :=
 OpenClaim.holds_of_wide 4 Tryz.f4 rfl rfl rfl rfl rfl rfl rfl ⟨rfl,rfl,rfl,rfl,rfl⟩ rfl rfl rfl rfl rfl (by kernel_rfl) Tryz.func4 (by kernel_rfl)
  (of_decide_eq_true (by kernel_rfl)) (by unfold Func.isWrapper; rw [if_neg (of_decide_eq_false (by kernel_rfl))]; exact ⟨rfl,rfl⟩)
  (fun os started H enc _ => ziz C os started H enc)
theorem RecordOpens_of (C : Code17 lowL KT) : Rows.RecordOpensCardSaid :=
 Claim7.holds_tied_plain_at .later [] [.data] true _ true
  (RecordOpens_over C) (fun _ h => by cases h) (by kernel_rfl) (fun _ h => by cases h) recordOpens_row_tie rfl ⟨rfl,rfl⟩ (by kernel_rfl) rfl
  (fun f fn hf hfn => by
   obtain rfl : f = 4:=Option.some.inj ((show Tryz.prog.funcNamed "clapper/clapperlaw17.RecordOpens" = some 4 by kernel_rfl).symm.trans hf) |>.symm
   obtain rfl : fn = Tryz.f4:=(Option.some.inj (Tryz.func4.symm.trans hfn)).symm
   exact ⟨by kernel_rfl,fun j t ht => by
    rw [Tryz.params4] at ht
    have hm : t ∈ [24,44]:=by simpa using Array.mem_of_getElem? ht
    have hall : ([24,44].all fun u => !Tryz.prog.wantsStandIn u) = true:=by kernel_rfl
    exact (show Tryz.prog.wantsStandIn t = false by simpa using List.all_eq_true.1 hall t hm)⟩)
  (by kernel_rfl)
end Go.Proofs.YtihophdbkjhopaaGreatDoor
