/-
  Of Py.
-/
import Derived.Test.YtbfkecfcolcclaaGreatDoorCards
import Derived.Test.YtbfkecfcolcclaaGreatDoorTie
import Derived.Carry
import Derived.Test.YtbfkecfcolcclaaGreatDoorZB10
import Derived.Test.YtbfkecfcolcclaaGreatDoorZB12
import Derived.Test.YtbfkecfcolcclaaGreatDoorZB24
import Derived.Test.YtbfkecfcolcclaaGreatDoorZB19
import Derived.Test.YtbfkecfcolcclaaGreatDoorZB9
set_option maxRecDepth 1000000
set_option maxHeartbeats 20000000
namespace Go.Proofs.YtbfkecfcolcclaaGreatDoor
open Go.ChangeShapes Go.WideShapes Go.ChangeAt Go.RowKit
open Go.Value renaming int → vI
open Go.IntKind renaming u64 → vU
open Go.Act renaming put → aP
open List renaming setIfInBounds_toArray → lA, set_cons_zero → lZ, set_cons_succ → lS
theorem zhw (C : Code14a ∧ Code14b lowL KT) (os : Os) (started : os.Started) (H : Type) (enc : TypeId × Value → H) :
  ReturnsInHanded {} Tryz.checked os 4 .any (fun w args => (Rows.fareVerdictsSpec.pre enc Tryz.prog Tryz.f4 [] false w args ∧ laidMetH Tryz.prog Rows.fareVerdictsRow.laid w) ∧ sizedMet enc Tryz.prog Tryz.f4 (OpenSpec.ofChange Rows.fareVerdictsSpec) false w args)
   (Rows.fareVerdictsSpec.post enc Tryz.prog Tryz.f4 false true false false):=by
 refine returnsInHanded_of_change_and (C:=Tryz.checked) (X:=fun w _ => laidMetH Tryz.prog Rows.fareVerdictsRow.laid w) (fun _ _ _ hh h => h.of_heap hh) ownT started (by kernel_rfl) Tryz.func4
  (ChangeSpec.witness_shaped (enc:=enc) (C:=Tryz.checked) (os:=os) (X:=fun w _ => laidMetH Tryz.prog Rows.fareVerdictsRow.laid w) false (World.doorLaid Tryz.prog 14 os) #[.slice none 0 0,.slice none 0 0,.slice none 0 0,.slice none 0 0,.int .i64 0,.int .i64 0] 8 rfl (World.shaped_of_RefB (by kernel_rfl) (by kernel_rfl)) (by kernel_rfl) (by kernel_rfl) (by kernel_rfl) (door_met os _)) ?_
 intro W base args ds gs before hval0 hW _ _ hL _
 have hval : ∀ (j : Nat) t v,Tryz.f4.params[j]? = some t → args[j]? = some v → Value.okWide Tryz.prog W .any base t v:=hval0
 have hW':=hW
 obtain ⟨p,q,hA0,hV,rfl,_,_⟩:=hW
 have hA : DataW.TrodAll enc Tryz.prog W 0 (fun _ => true) true Tryz.f4.params.toList args.toList ds p:=hA0
 rw [Tryz.params4] at hA hval
 obtain ⟨v0,v1,v2,v3,v4,v5,d0,d1,d2,d3,d4,d5,p0,p1,p2,p3,p4,p5,rfl,rfl,rfl,h0,h1,h2,h3,h4,h5⟩:=trodAll_v6 hA
 obtain ⟨rfl,rfl⟩:=trodVars_none hV
 have h0k:=h0
 obtain ⟨fuel0,hf0⟩:=h0
 obtain ⟨a0,len0,cap0,rfl⟩:=okWide_slice Tryz.underlying28 (hval 0 28 v0 rfl rfl)
 have h1k:=h1
 obtain ⟨fuel1,hf1⟩:=h1
 obtain ⟨a1,len1,cap1,rfl⟩:=okWide_slice Tryz.underlying29 (hval 1 29 v1 rfl rfl)
 have h2k:=h2
 obtain ⟨fuel2,hf2⟩:=h2
 obtain ⟨a2,len2,cap2,rfl⟩:=okWide_slice Tryz.underlying22 (hval 2 22 v2 rfl rfl)
 have h3k:=h3
 obtain ⟨fuel3,hf3⟩:=h3
 obtain ⟨a3,len3,cap3,rfl⟩:=okWide_slice Tryz.underlying30 (hval 3 30 v3 rfl rfl)
 have h4k:=h4
 have h5k:=h5
 clear hA0 hval0
 simp only [List.append_nil] at hW'
 have hlt0 : ∀ x ∈ p0,x.block < W.heap.size:=fun x hx => by simpa using hW'.lt x (by simp [hx])
 obtain ⟨l0,hF0,hT0,hW0⟩:=ks_of (v:=.slice a0 len0 cap0) (by simpa [Value.cells] using hf0)
 have hlt1 : ∀ x ∈ p1,x.block < W.heap.size:=fun x hx => by simpa using hW'.lt x (by simp [hx])
 obtain ⟨l1,hF1⟩:=rs_of (v:=.slice a1 len1 cap1) (by simpa [Value.cells] using hf1)
 have hlt2 : ∀ x ∈ p2,x.block < W.heap.size:=fun x hx => by simpa using hW'.lt x (by simp [hx])
 obtain ⟨l2,hF2,hL2⟩:=ps_of (v:=.slice a2 len2 cap2) (by simpa [Value.cells] using hf2)
 have hlt3 : ∀ x ∈ p3,x.block < W.heap.size:=fun x hx => by simpa using hW'.lt x (by simp [hx])
 obtain ⟨A3,m3,c3,bs3,e3,hm3,hS3,hc3⟩:=bs_of (v:=.slice a3 len3 cap3) (by simpa [Value.cells] using hf3)
 obtain ⟨rfl,rfl,rfl⟩ : a3 = A3 ∧ len3 = m3 ∧ cap3 = c3:=by injection e3 with x y z; exact ⟨x,y,z⟩
 have hlt4 : ∀ x ∈ p4,x.block < W.heap.size:=fun x hx => by simpa using hW'.lt x (by simp [hx])
 obtain ⟨z4,rfl,_,_,w4⟩:=open_int Tryz.underlying3 (hval 4 3 v4 rfl rfl) h4
 obtain ⟨lo4,hi4⟩:=bounds_i64 w4
 have hlt5 : ∀ x ∈ p5,x.block < W.heap.size:=fun x hx => by simpa using hW'.lt x (by simp [hx])
 obtain ⟨z5,rfl,_,_,w5⟩:=open_int Tryz.underlying3 (hval 5 3 v5 rfl rfl) h5
 obtain ⟨lo5,hi5⟩:=bounds_i64 w5
 refine (verdicts14_walk lowR C.1 C.2 _ _ _ l0 l1 l2 a3 len3 cap3 bs3 z4 z5 hm3 hc3 W (kt_of_laid hL) hF0 hT0 hF1 hF2 hL2 hS3 lo4 hi4 lo5 hi5).mono fun e W' ⟨he,hb⟩ => ?_
 subst he
 exact ⟨_,rfl,_,_,_,[],_,[],hW',trodAll_mk1 (shut_bool Tryz.underlying4 true),by
  have h2:=trodAll_mkv6 (Below.trod laidOutT (by kernel_rfl) (of_decide_eq_true (by kernel_rfl)) h0k hb hlt0) (Below.trod laidOutT (by kernel_rfl) (of_decide_eq_true (by kernel_rfl)) h1k hb hlt1) (Below.trod laidOutT (by kernel_rfl) (of_decide_eq_true (by kernel_rfl)) h2k hb hlt2) (Below.trod laidOutT (by kernel_rfl) (of_decide_eq_true (by kernel_rfl)) h3k hb hlt3) (Below.trod laidOutT (by kernel_rfl) (of_decide_eq_true (by kernel_rfl)) h4k hb hlt4) (Below.trod laidOutT (by kernel_rfl) (of_decide_eq_true (by kernel_rfl)) h5k hb hlt5)
  try simp only [List.append_nil] at h2
  exact h2,rfl,hb.frame _,fun h => by cases h⟩
theorem zkd (C : Code14a ∧ Code14b lowL KT) : Rows.fareVerdictsRow.holds Tryz.pinned (OpenSpec.ofChange Rows.fareVerdictsSpec) :=
 OpenClaim.holds_of_wide 4 Tryz.f4 rfl rfl rfl rfl rfl rfl rfl ⟨rfl,rfl,rfl,rfl,rfl⟩ rfl rfl rfl rfl rfl (by kernel_rfl) Tryz.func4 (by kernel_rfl)
  (of_decide_eq_true (by kernel_rfl)) (by unfold Func.isWrapper; rw [if_neg (of_decide_eq_false (by kernel_rfl))]; exact ⟨rfl,rfl⟩)
  (fun os started H enc _ => zhw C os started H enc)
theorem FareVerdicts_of (C : Code14a ∧ Code14b lowL KT) : Rows.FareVerdictsCardSaid :=
 Claim7.holds_tied_plain_at .later [] [.data] true _ true
  (zkd C) (fun _ h => by cases h) (by kernel_rfl) (fun _ h => by cases h) fareVerdicts_row_tie rfl ⟨rfl,rfl⟩ (by kernel_rfl) rfl
  (fun f fn hf hfn => by
   obtain rfl : f = 4:=Option.some.inj ((show Tryz.prog.funcNamed "clapper/clapperlaw14.FareVerdicts" = some 4 by kernel_rfl).symm.trans hf) |>.symm
   obtain rfl : fn = Tryz.f4:=(Option.some.inj (Tryz.func4.symm.trans hfn)).symm
   exact ⟨by kernel_rfl,fun j t ht => by
    rw [Tryz.params4] at ht
    have hm : t ∈ [28,29,22,30,3,3]:=by simpa using Array.mem_of_getElem? ht
    have hall : ([28,29,22,30,3,3].all fun u => !Tryz.prog.wantsStandIn u) = true:=by kernel_rfl
    exact (show Tryz.prog.wantsStandIn t = false by simpa using List.all_eq_true.1 hall t hm)⟩)
  (by kernel_rfl)
end Go.Proofs.YtbfkecfcolcclaaGreatDoor
