/-
  Of Pg ArgB ArgT ArgS ArgN ArgP SMath SSpec HBase HWords HWrite HSum HLaid Svm Svn Svo Svp Svq Pj KM.
-/
import Derived.ChangeSlices
import Derived.Carry
import Derived.BigFrame
import Derived.ProofKit
import Derived.Lib.SmallJoins
import Derived.Deep.Strs
import Derived.WalkKit
import Derived.Test.YtbfkecfcolcclaaGreatDoorRows
import Derived.Deep.MidRow
import Derived.Deep.WholeRow
import Derived.ChangeKeysEq
import Derived.WalkSpells
import Derived.WalkLawsBesides
import Derived.Deep.LoopGhost
import Derived.Deep.RegionWith
import Derived.Deep.Cut
import Derived.Deep.CutRange
import Derived.Deep.RegionHeld3
import Derived.Deep.QuietTactic
import Derived.BigQuiet
import Derived.StillTailTactics
import Derived.IntWalk
import Derived.Laws.CopyOwn
import Derived.Deep.OwnRows
import Derived.LaidMore
import Derived.OpenShut
import Derived.Stop.Joined
import Derived.MakeChecks
import Derived.Test.YtbfkecfcolcclaaGreatDoorZA4
import Derived.Test.YtbfkecfcolcclaaGreatDoorZA3
import Derived.Test.YtbfkecfcolcclaaGreatDoorZA1
set_option maxRecDepth 1000000
set_option maxHeartbeats 20000000
namespace Go.Proofs.YtbfkecfcolcclaaGreatDoor
open Go.RowKit
open Go.Value renaming int → vI
open Go.IntKind renaming u64 → vU
open Go.Act renaming put → aP
open List renaming setIfInBounds_toArray → lA, set_cons_zero → lZ, set_cons_succ → lS
theorem covers14_walk (C : Code14a) (v : Value) (l : List Pw) (t : Tk) (z a : Int) (w : World) (hF : Ps14 w v l) (b0 : -9223372036854775808 ≤ z) (b1 : z ≤ 9223372036854775807) (b2 : -9223372036854775808 ≤ a) (b3 : a ≤ 9223372036854775807) (hL : (l.length : Int) ≤ 9223372036854775807) :
  Calls Tryz.prog 3 #[v,tkV t,.int .i64 z,.int .i64 a] w fun e w' => e = .returned (.bool true) ∧ Ext w w':=by
 have KU:=veil (fun W => up14_calls C W)
 have KF:=veil (fun W (h : Ext w W) => few14_calls v l W (hF.ext h) hL)
 have KR:=veil (fun W (h : Ext w W) (hw : fewP (pds l) = true) => rmay14_calls v l W (hF.ext h) hw)
 have KRC:=veil (fun W (h : Ext w W) (hM : mayP (pds l) = true) => rcovers14_calls v l t z a W (hF.ext h) hM)
 have KM:=veil (fun W (h : Ext w W) (hw : fewP (pds l) = true) => C.may v l W (hF.ext h) hw)
 have KC:=veil (fun W (h : Ext w W) (hw : fewP (pds l) = true) => C.covers v l t z a W (hF.ext h) hw b0 b1 b2 b3)
 obtain ⟨⟨AL,c,rfl,-,-⟩,-⟩:=hF
 obtain ⟨n,hn⟩ : ∃ n,n = l.length:=⟨_,rfl⟩
 rw [← hn] at KF KR KRC KM KC ⊢
 clear hn hL b0 b1 b2 b3 C
 obtain ⟨R,hR⟩ : ∃ R,R = fewP (pds l):=⟨_,rfl⟩
 obtain ⟨M,hM⟩ : ∃ M,M = mayP (pds l):=⟨_,rfl⟩
 obtain ⟨Y,hY⟩ : ∃ Y,Y = coversV (pds l) t z a:=⟨_,rfl⟩
 have hMY : M = false → Y = false:=fun h => by rw [hY]; unfold coversV; rw [← hM,h]; rfl
 rw [← hR] at KF KR KM KC
 rw [← hM] at KR KRC KM
 rw [← hY] at KRC KC
 have HM:=veil hMY
 clear hR hM hY hMY
 have hE0:=Ext.alloc w (.cells (tkC t) 24)
 have hS0:=TkAt.new w t
 unfold tkV at *
 go_enter Tryz.func3,Tryz.ntmps3
 go_upto_region 1 with (fail)
 obtain ⟨g,hg⟩ : ∃ g,g = w.heap.size:=⟨_,rfl⟩
 rw [← hg] at hS0 ⊢
 generalize w.alloc (.cells (tkC t) 24) = w0 at *
 have HS:=veil hS0
 have HE:=veil hE0
 clear hE0 hS0 hg
 go_upto_region 3 with (first
  | (go_at_call 6; with_reducible refine (KU.out _).mono ?_; rintro e w1 ⟨rfl,hE1⟩; have HE1:=veil (HE.out.trans hE1); have HS1 : Hid (TkAt w1 g t):=veil (HS.out.ext hE1); clear hE1)
  | (go_at_call 7; with_reducible refine (KF.out _ HE1.out).mono ?_; rintro e w2 ⟨rfl,rfl⟩))
 clear HE HS KU KF
 cases R with
 | false =>
  go_wp2
  go_ret
  exact ⟨rfl,HE1.out⟩
 | true =>
  go_upto_region 6 with (go_at_call 8; with_reducible refine (KR.out _ HE1.out (by trivial)).mono ?_; rintro e w3 ⟨rfl,hE3⟩)
  have HE3:=veil (HE1.out.trans hE3)
  have HS3 : Hid (TkAt w3 g t):=veil (HS1.out.ext hE3)
  clear hE3 HE1 HS1 KR
  cases M with
  | false =>
   obtain rfl:=HM.out rfl
   go_wp2_with (first
    | (go_at_call 10; with_reducible refine (KM.out _ HE3.out (by trivial)).mono ?_; rintro e w4 ⟨rfl,hE4⟩; have HE4:=veil (HE3.out.trans hE4); have HS4 : Hid (TkAt w4 g t):=veil (HS3.out.ext hE4); clear hE4)
    | ((with_reducible refine zaa 38 ?_); refine zaf rfl 24 _ rfl g rfl 24 (tkC t) (0,0) _ HS4.out Tryz.underlying24 rfl (iTk _) ?_)
    | (go_at_call 11; with_reducible refine (KC.out _ HE4.out (by trivial)).mono ?_; rintro e w5 ⟨rfl,hE5⟩))
   go_ret
   exact ⟨rfl,HE4.out.trans hE5⟩
  | true =>
   go_upto_region 7 with (first
    | ((with_reducible refine zaa 24 ?_); refine zaf rfl 24 _ rfl g rfl 24 (tkC t) (0,0) _ HS3.out Tryz.underlying24 rfl (iTk _) ?_)
    | (go_at_call 9; with_reducible refine (KRC.out _ HE3.out (by trivial)).mono ?_; rintro e w4 ⟨rfl,hE4⟩))
   have HE4:=veil (HE3.out.trans hE4)
   have HS4 : Hid (TkAt w4 g t):=veil (HS3.out.ext hE4)
   clear hE4 HE3 HS3 KRC
   cases Y with
   | false =>
    go_wp2_with (first
     | (go_at_call 10; with_reducible refine (KM.out _ HE4.out (by trivial)).mono ?_; rintro e w5 ⟨rfl,hE5⟩; have HE5:=veil (HE4.out.trans hE5); have HS5 : Hid (TkAt w5 g t):=veil (HS4.out.ext hE5); clear hE5)
     | ((with_reducible refine zaa 38 ?_); refine zaf rfl 24 _ rfl g rfl 24 (tkC t) (0,0) _ HS5.out Tryz.underlying24 rfl (iTk _) ?_)
     | (go_at_call 11; with_reducible refine (KC.out _ HE5.out (by trivial)).mono ?_; rintro e w6 ⟨rfl,hE6⟩))
    go_ret
    exact ⟨rfl,HE5.out.trans hE6⟩
   | true =>
    go_wp2_with (first
     | (go_at_call 10; with_reducible refine (KM.out _ HE4.out (by trivial)).mono ?_; rintro e w5 ⟨rfl,hE5⟩; have HE5:=veil (HE4.out.trans hE5); have HS5 : Hid (TkAt w5 g t):=veil (HS4.out.ext hE5); clear hE5)
     | ((with_reducible refine zaa 38 ?_); refine zaf rfl 24 _ rfl g rfl 24 (tkC t) (0,0) _ HS5.out Tryz.underlying24 rfl (iTk _) ?_)
     | (go_at_call 11; with_reducible refine (KC.out _ HE5.out (by trivial)).mono ?_; rintro e w6 ⟨rfl,hE6⟩))
    go_ret
    exact ⟨rfl,HE5.out.trans hE6⟩
end Go.Proofs.YtbfkecfcolcclaaGreatDoor
namespace Go.Proofs.YtbfkecfcolcclaaGreatDoor
open Go.ChangeShapes Go.WideShapes Go.RowKit
open Go.Value renaming int → vI
open Go.IntKind renaming u64 → vU
open Go.Act renaming put → aP
open List renaming setIfInBounds_toArray → lA, set_cons_zero → lZ, set_cons_succ → lS
theorem ownT : ownKnob Tryz.prog.godebug = none:=by kernel_rfl
theorem laidOutT : laidOutB Tryz.prog = true:=by kernel_rfl
theorem cellsI1 : Tryz.prog.cellsOf 3 = 1:=by kernel_rfl
end Go.Proofs.YtbfkecfcolcclaaGreatDoor
namespace Go.Proofs.YtbfkecfcolcclaaGreatDoor
open Go.ChangeShapes Go.WideShapes Go.RowKit
open Go.Value renaming int → vI
open Go.IntKind renaming u64 → vU
open Go.Act renaming put → aP
open List renaming setIfInBounds_toArray → lA, set_cons_zero → lZ, set_cons_succ → lS
theorem array5 {cs : Array Value} (h : cs.size = 5) : ∃ c0 c1 c2 c3 c4,cs = #[c0,c1,c2,c3,c4]:=by
 obtain ⟨l⟩:=cs
 match l,h with
 | [c0,c1,c2,c3,c4],_ => exact ⟨c0,c1,c2,c3,c4,rfl⟩
theorem underT : ∃ f0 f1 f2 f3 f4 : Field,Tryz.prog.underlying 24 = some (.struct #[f0,f1,f2,f3,f4]) ∧ (f0.offset = 0 ∧ f1.offset = 1 ∧ f2.offset = 2 ∧ f3.offset = 3 ∧ f4.offset = 4) ∧ f0.type = 3 ∧ f1.type = 3 ∧ f2.type = 3 ∧ f3.type = 3 ∧ f4.type = 3:=⟨_,_,_,_,_,Tryz.underlying24,⟨rfl,rfl,rfl,rfl,rfl⟩,rfl,rfl,rfl,rfl,rfl⟩
theorem cellsK5 : Tryz.prog.cellsOf 24 = 5:=by kernel_rfl
theorem open_tk {H : Type} {enc : TypeId × Value → H} {W : World} {base : Nat} {v : Value} {d : DataW H} {p : List MemPlace} (hv : Value.okWide Tryz.prog W .any base 24 v) (h : DataW.Trod enc Tryz.prog W 0 (fun _ => true) true 24 v d p) : ∃ t : Tk,v = tkV t:=by
 obtain ⟨f0,f1,f2,f3,f4,hu,⟨o0,o1,o2,o3,o4⟩,t0,t1,t2,t3,t4⟩:=underT
 obtain ⟨cs,rfl,hsz⟩:=okWide_struct hu hv
 rw [cellsK5] at hsz
 obtain ⟨c0,c1,c2,c3,c4,rfl⟩:=array5 hsz
 obtain ⟨fuel,hf⟩:=h
 obtain ⟨xs,n,_,hx,hl,hlen,hf⟩:=DataW.trod_struct hu hf
 have each : ∀ (i : Nat) (f : Field) (c : Value),(#[f0,f1,f2,f3,f4] : Array Field)[i]? = some f → f.type = 3 → (((Value.agg #[c0,c1,c2,c3,c4]).cells.toList.drop f.offset).take 1) = [c] → ∃ z,c = .int .i64 z:=by
  intro i f c hi ht hc
  have h1:=hf i f hi
  rw [ht,cellsI1,hc] at h1
  cases hy : xs[i]? with
  | none => exact absurd (List.getElem?_eq_none_iff.1 hy) (Nat.not_le.2 (by rw [hlen]; exact (Array.getElem?_eq_some_iff.1 hi).1))
  | some y =>
   rw [hy] at h1
   obtain ⟨z,h2,_⟩:=DataW.trod_int Tryz.underlying3 (by simpa using h1)
   simp only [List.cons.injEq,and_true] at h2
   exact ⟨z,h2⟩
 obtain ⟨z0,rfl⟩:=each 0 f0 c0 rfl t0 (by rw [o0]; rfl)
 obtain ⟨z1,rfl⟩:=each 1 f1 c1 rfl t1 (by rw [o1]; rfl)
 obtain ⟨z2,rfl⟩:=each 2 f2 c2 rfl t2 (by rw [o2]; rfl)
 obtain ⟨z3,rfl⟩:=each 3 f3 c3 rfl t3 (by rw [o3]; rfl)
 obtain ⟨z4,rfl⟩:=each 4 f4 c4 rfl t4 (by rw [o4]; rfl)
 exact ⟨⟨z0,z1,z2,z3,z4⟩,rfl⟩
end Go.Proofs.YtbfkecfcolcclaaGreatDoor
namespace Go.Proofs.YtbfkecfcolcclaaGreatDoor
open Go.ChangeShapes Go.WideShapes Go.RowKit
open Go.Value renaming int → vI
open Go.IntKind renaming u64 → vU
open Go.Act renaming put → aP
open List renaming setIfInBounds_toArray → lA, set_cons_zero → lZ, set_cons_succ → lS
theorem underS12 : ∃ f0 f1 f2 f3 f4 : Field,Tryz.prog.underlying 49 = some (.struct #[f0,f1,f2,f3,f4]) ∧ (f0.offset = 0 ∧ f1.offset = 1 ∧ f2.offset = 2 ∧ f3.offset = 3 ∧ f4.offset = 4) ∧ f0.type = 3 ∧ f1.type = 3 ∧ f2.type = 3 ∧ f3.type = 47 ∧ f4.type = 47:=⟨_,_,_,_,_,Tryz.underlying49,⟨rfl,rfl,rfl,rfl,rfl⟩,rfl,rfl,rfl,rfl,rfl⟩
theorem cellsS12 : Tryz.prog.cellsOf 49 = 5:=by kernel_rfl
theorem cellsL12 : Tryz.prog.cellsOf 47 = 1:=by kernel_rfl
section
variable {H : Type} {enc : TypeId × Value → H} {W : World} {base : Nat}
theorem d_of_trod {sp : Nat → Bool} {hd : Bool} {fuel : Nat} {cs : List Value} {x : DataW H × List MemPlace} (hf : DataW.trod enc Tryz.prog W base sp hd fuel 3 cs = some x) : ∃ k : Int,cs = dC k:=by
 obtain ⟨z,e,_,_⟩:=DataW.trod_int Tryz.underlying3 hf
 exact ⟨z,e⟩
theorem ds_of {sp : Nat → Bool} {hd : Bool} {fuel : Nat} {v : Value} {d : DataW H} {p : List MemPlace} (hf : DataW.trod enc Tryz.prog W base sp hd fuel 47 [v] = some (d,p)) : ∃ l : List Int,Ds W v l :=
 ls_of (cs:=dC) Tryz.underlying47 cellsI1 (by decide) (fun _ _ _ h => d_of_trod h) hf
end
end Go.Proofs.YtbfkecfcolcclaaGreatDoor
namespace Go.Proofs.YtbfkecfcolcclaaGreatDoor
open Go.ChangeShapes Go.WideShapes Go.RowKit
open Go.Value renaming int → vI
open Go.IntKind renaming u64 → vU
open Go.Act renaming put → aP
open List renaming setIfInBounds_toArray → lA, set_cons_zero → lZ, set_cons_succ → lS
theorem clist5 {cs : List Value} (h : cs.length = 5) : ∃ c0 c1 c2 c3 c4,cs = [c0,c1,c2,c3,c4]:=by
 match cs,h with
 | [c0,c1,c2,c3,c4],_ => exact ⟨c0,c1,c2,c3,c4,rfl⟩
section
variable {H : Type} {enc : TypeId × Value → H} {W : World} {base : Nat} {sp : Nat → Bool} {hd : Bool} {fuel : Nat}
def GoodS (W : World) (x : Sw) : Prop:=Ds W x.2.1 x.1.ex ∧ Ds W x.2.2 x.1.ec
theorem sw_of_trod {cs : List Value} {x : DataW H × List MemPlace} (hf : DataW.trod enc Tryz.prog W base sp hd fuel 49 cs = some x) : ∃ s : Sw,GoodS W s ∧ cs = swC s:=by
 obtain ⟨f0,f1,f2,f3,f4,hu,⟨o0,o1,o2,o3,o4⟩,t0,t1,t2,t3,t4⟩:=underS12
 obtain ⟨d,p⟩:=x
 obtain ⟨xs,n,_,hx,hl,hlen,hf⟩:=DataW.trod_struct hu hf
 rw [cellsS12] at hl
 obtain ⟨c0,c1,c2,c3,c4,rfl⟩:=clist5 hl
 have at_ : ∀ (i : Nat) (f : Field),(#[f0,f1,f2,f3,f4] : Array Field)[i]? = some f → ∃ y,xs[i]? = some y:=by
  intro i f hi
  cases hy : xs[i]? with
  | none => exact absurd (List.getElem?_eq_none_iff.1 hy) (Nat.not_le.2 (by rw [hlen]; exact (Array.getElem?_eq_some_iff.1 hi).1))
  | some y => exact ⟨y,rfl⟩
 have each : ∀ (i : Nat) (f : Field) (c : Value),(#[f0,f1,f2,f3,f4] : Array Field)[i]? = some f → f.type = 3 → (([c0,c1,c2,c3,c4].drop f.offset).take 1) = [c] → ∃ z,c = .int .i64 z:=by
  intro i f c hi ht hc
  have h1:=hf i f hi
  rw [ht,cellsI1,hc] at h1
  obtain ⟨y,hy⟩:=at_ i f hi
  rw [hy] at h1
  obtain ⟨z,h2,_⟩:=DataW.trod_int Tryz.underlying3 (by simpa using h1)
  simp only [List.cons.injEq,and_true] at h2
  exact ⟨z,h2⟩
 have each2 : ∀ (i : Nat) (f : Field) (c : Value),(#[f0,f1,f2,f3,f4] : Array Field)[i]? = some f → f.type = 47 → (([c0,c1,c2,c3,c4].drop f.offset).take 1) = [c] → ∃ l,Ds W c l:=by
  intro i f c hi ht hc
  have h1:=hf i f hi
  rw [ht,cellsL12,hc] at h1
  obtain ⟨⟨y,q⟩,hy⟩:=at_ i f hi
  rw [hy] at h1
  exact ds_of (by simpa using h1)
 obtain ⟨z0,rfl⟩:=each 0 f0 c0 rfl t0 (by rw [o0]; rfl)
 obtain ⟨z1,rfl⟩:=each 1 f1 c1 rfl t1 (by rw [o1]; rfl)
 obtain ⟨z2,rfl⟩:=each 2 f2 c2 rfl t2 (by rw [o2]; rfl)
 obtain ⟨l3,h3⟩:=each2 3 f3 c3 rfl t3 (by rw [o3]; rfl)
 obtain ⟨l4,h4⟩:=each2 4 f4 c4 rfl t4 (by rw [o4]; rfl)
 exact ⟨(⟨z0,z1,z2,l3,l4⟩,c3,c4),⟨h3,h4⟩,rfl⟩
end
end Go.Proofs.YtbfkecfcolcclaaGreatDoor
namespace Go.Proofs.YtbfkecfcolcclaaGreatDoor
open Go.ChangeShapes Go.WideShapes Go.RowKit
open Go.Value renaming int → vI
open Go.IntKind renaming u64 → vU
open Go.Act renaming put → aP
open List renaming setIfInBounds_toArray → lA, set_cons_zero → lZ, set_cons_succ → lS
theorem underP14 : ∃ f0 f1 f2 : Field,Tryz.prog.underlying 51 = some (.struct #[f0,f1,f2]) ∧ (f0.offset = 0 ∧ f1.offset = 1 ∧ f2.offset = 2) ∧ f0.type = 3 ∧ f1.type = 3 ∧ f2.type = 49:=⟨_,_,_,Tryz.underlying51,⟨rfl,rfl,rfl⟩,rfl,rfl,rfl⟩
theorem cellsP14 : Tryz.prog.cellsOf 51 = 7:=by kernel_rfl
theorem list7 {cs : List Value} (h : cs.length = 7) : ∃ c0 c1 c2 c3 c4 c5 c6,cs = [c0,c1,c2,c3,c4,c5,c6]:=by
 match cs,h with
 | [c0,c1,c2,c3,c4,c5,c6],_ => exact ⟨c0,c1,c2,c3,c4,c5,c6,rfl⟩
section
variable {H : Type} {enc : TypeId × Value → H} {W : World} {base : Nat} {sp : Nat → Bool} {hd : Bool} {fuel : Nat}
def GoodP (W : World) (x : Pw) : Prop:=Ds W x.2.1 x.1.sv.ex ∧ Ds W x.2.2 x.1.sv.ec
theorem pw_of_trod {cs : List Value} {x : DataW H × List MemPlace} (hf : DataW.trod enc Tryz.prog W base sp hd fuel 51 cs = some x) : ∃ s : Pw,GoodP W s ∧ cs = pwC s:=by
 obtain ⟨f0,f1,f2,hu,⟨o0,o1,o2⟩,t0,t1,t2⟩:=underP14
 obtain ⟨d,p⟩:=x
 obtain ⟨xs,n,_,hx,hl,hlen,hf⟩:=DataW.trod_struct hu hf
 rw [cellsP14] at hl
 obtain ⟨c0,c1,c2,c3,c4,c5,c6,rfl⟩:=list7 hl
 have at_ : ∀ (i : Nat) (f : Field),(#[f0,f1,f2] : Array Field)[i]? = some f → ∃ y,xs[i]? = some y:=by
  intro i f hi
  cases hy : xs[i]? with
  | none => exact absurd (List.getElem?_eq_none_iff.1 hy) (Nat.not_le.2 (by rw [hlen]; exact (Array.getElem?_eq_some_iff.1 hi).1))
  | some y => exact ⟨y,rfl⟩
 have each : ∀ (i : Nat) (f : Field) (c : Value),(#[f0,f1,f2] : Array Field)[i]? = some f → f.type = 3 → (([c0,c1,c2,c3,c4,c5,c6].drop f.offset).take 1) = [c] → ∃ z,c = .int .i64 z:=by
  intro i f c hi ht hc
  have h1:=hf i f hi
  rw [ht,cellsI1,hc] at h1
  obtain ⟨y,hy⟩:=at_ i f hi
  rw [hy] at h1
  obtain ⟨z,h2,_⟩:=DataW.trod_int Tryz.underlying3 (by simpa using h1)
  simp only [List.cons.injEq,and_true] at h2
  exact ⟨z,h2⟩
 obtain ⟨z0,rfl⟩:=each 0 f0 c0 rfl t0 (by rw [o0]; rfl)
 obtain ⟨z1,rfl⟩:=each 1 f1 c1 rfl t1 (by rw [o1]; rfl)
 have h2:=hf 2 f2 rfl
 rw [t2,cellsS12,o2] at h2
 obtain ⟨y,hy⟩:=at_ 2 f2 rfl
 rw [hy] at h2
 obtain ⟨⟨s,vE,vX⟩,hs,e⟩:=sw_of_trod (by simpa using h2)
 unfold swC at e
 simp only [List.cons.injEq,and_true] at e
 obtain ⟨rfl,rfl,rfl,rfl,rfl⟩:=e
 exact ⟨(⟨z0,z1,s⟩,_,_),hs,rfl⟩
theorem len_top {t e : TypeId} {A : Option Addr} {n c : Nat} {x : DataW H × List MemPlace} (ht : Tryz.prog.underlying t = some (.slice e)) (hf : DataW.trod enc Tryz.prog W base sp hd fuel t [.slice A n c] = some x) : (n : Int) ≤ 9223372036854775807:=by
 rcases DataW.trod_slice ht hf with ⟨h,_⟩ | ⟨a,len,cap,_,_,_,_,h,_,_,h1,h2,_⟩
 ·
  simp only [List.cons.injEq,Value.slice.injEq,and_true] at h
  omega
 ·
  simp only [List.cons.injEq,Value.slice.injEq,and_true] at h
  unfold maxLen at h2
  omega
theorem ps_of {v : Value} {d : DataW H} {p : List MemPlace} (hf : DataW.trod enc Tryz.prog W base sp hd fuel 22 [v] = some (d,p)) : ∃ l : List Pw,Ps14 W v l ∧ (l.length : Int) ≤ 9223372036854775807:=by
 obtain ⟨l,A,c,e,hc,hx⟩:=ls_of (α:={x : Pw // GoodP W x}) (cs:=fun x => pwC x.1) Tryz.underlying22 cellsP14 (by decide) (fun n cs' y h => by
  obtain ⟨s,hs,e⟩:=pw_of_trod h
  exact ⟨⟨s,hs⟩,e⟩) hf
 have hn : (l.length : Int) ≤ 9223372036854775807:=by
  rw [e] at hf
  exact len_top Tryz.underlying22 hf
 refine ⟨l.map (·.1),⟨⟨A,c,by rw [List.length_map]; exact e,by rw [List.length_map]; exact hc,?_⟩,fun x hx => ?_⟩,by rw [List.length_map]; exact hn⟩
 ·
  rw [List.length_map]
  refine hx.imp id ?_
  rintro ⟨b,o,ha,hb,hr⟩
  refine ⟨b,o,ha,hb,fun i x hi => ?_⟩
  rw [List.getElem?_map] at hi
  cases h : l[i]? with
  | none => rw [h] at hi; cases hi
  | some y =>
   rw [h] at hi
   rw [← Option.some.inj hi]
   exact hr i y h
 ·
  obtain ⟨y,_,rfl⟩:=List.mem_map.1 hx
  exact y.2
end
end Go.Proofs.YtbfkecfcolcclaaGreatDoor
namespace Go.Proofs.YtbfkecfcolcclaaGreatDoor
def rot (x n : Nat) : Nat:=x / 2 ^ n + 2 ^ (32 - n) * (x % 2 ^ n)
end Go.Proofs.YtbfkecfcolcclaaGreatDoor
namespace Go.Proofs.YtbfkecfcolcclaaGreatDoor
def kList : List Nat:=[1116352408,1899447441,3049323471,3921009573,961987163,1508970993,2453635748,2870763221,3624381080,310598401,607225278,1426881987,1925078388,2162078206,2614888103,3248222580,3835390401,4022224774,264347078,604807628,770255983,1249150122,1555081692,1996064986,2554220882,2821834349,2952996808,3210313671,3336571891,3584528711,113926993,338241895,666307205,773529912,1294757372,1396182291,1695183700,1986661051,2177026350,2456956037,2730485921,2820302411,3259730800,3345764771,3516065817,3600352804,4094571909,275423344,430227734,506948616,659060556,883997877,958139571,1322822218,1537002063,1747873779,1955562222,2024104815,2227730452,2361852424,2428436474,2756734187,3204031479,3329325298]
def kc (t : Nat) : Nat:=kList.getD t 0
def ad (x y : Nat) : Nat:=(x + y) % 4294967296
def sg0 (x : Nat) : Nat:=rot x 7 ^^^ rot x 18 ^^^ (x / 2 ^ 3)
def sg1 (x : Nat) : Nat:=rot x 17 ^^^ rot x 19 ^^^ (x / 2 ^ 10)
def bs0 (x : Nat) : Nat:=rot x 2 ^^^ rot x 13 ^^^ rot x 22
def bs1 (x : Nat) : Nat:=rot x 6 ^^^ rot x 11 ^^^ rot x 25
def chN (x y z : Nat) : Nat:=(x &&& y) ^^^ ((4294967295 - x) &&& z)
def majN (x y z : Nat) : Nat:=(x &&& y) ^^^ (x &&& z) ^^^ (y &&& z)
def sched (m : Nat → Nat) : Nat → List Nat
 | 0 => []
 | t + 1 => let l:=sched m t
  l ++ [if t < 16 then m t else ad (ad (ad (sg1 (l.getD (t - 2) 0)) (l.getD (t - 7) 0)) (sg0 (l.getD (t - 15) 0))) (l.getD (t - 16) 0)]
def wt (m : Nat → Nat) (t : Nat) : Nat:=(sched m (t + 1)).getD t 0
structure St where
 a : Nat
 b : Nat
 c : Nat
 d : Nat
 e : Nat
 f : Nat
 g : Nat
 h : Nat
def t1N (s : St) (k w : Nat) : Nat:=ad (ad (ad (ad s.h (bs1 s.e)) (chN s.e s.f s.g)) k) w
def t2N (s : St) : Nat:=ad (bs0 s.a) (majN s.a s.b s.c)
def stepN (s : St) (k w : Nat) : St:=⟨ad (t1N s k w) (t2N s),s.a,s.b,s.c,ad s.d (t1N s k w),s.e,s.f,s.g⟩
def roundsN (m : Nat → Nat) (s : St) : Nat → St
 | 0 => s
 | t + 1 => stepN (roundsN m s t) (kc t) (wt m t)
def addSt (x y : St) : St:=⟨ad x.a y.a,ad x.b y.b,ad x.c y.c,ad x.d y.d,ad x.e y.e,ad x.f y.f,ad x.g y.g,ad x.h y.h⟩
def blockN (m : Nat → Nat) (s : St) : St:=addSt s (roundsN m s 64)
def word (text : Nat → Nat) (i : Nat) : Nat:=text i * 16777216 + text (i + 1) * 65536 + text (i + 2) * 256 + text (i + 3)
def blocksN (text : Nat → Nat) : Nat → St
 | 0 => ⟨1779033703,3144134277,1013904242,2773480762,1359893119,2600822924,528734635,1541459225⟩
 | n + 1 => blockN (fun t => word text (64 * n + 4 * t)) (blocksN text n)
def nBlocks (len : Nat) : Nat:=(len + 9 + 63) / 64
def padded (b : Nat → Nat) (len : Nat) : Nat → Nat:=fun i =>
 if i < len then b i else if i = len then 128 else if i < 64 * nBlocks len - 8 then 0 else 8 * len / 256 ^ (64 * nBlocks len - 1 - i) % 256
def shaSt (b : Nat → Nat) (len : Nat) : St:=blocksN (padded b len) (nBlocks len)
end Go.Proofs.YtbfkecfcolcclaaGreatDoor
namespace Go.Proofs.YtbfkecfcolcclaaGreatDoor
open Go.RowKit
open Go.Value renaming int → vI
open Go.IntKind renaming u64 → vU
open Go.Act renaming put → aP
open List renaming setIfInBounds_toArray → lA, set_cons_zero → lZ, set_cons_succ → lS
def St.at (s : St) (j : Nat) : Nat:=match j with | 0 => s.a | 1 => s.b | 2 => s.c | 3 => s.d | 4 => s.e | 5 => s.f | 6 => s.g | _ => s.h
section
variable {w w' : World} {g B len : Nat} {s : St} {blk : Nat → Nat}
end
section
variable {w w' : World} {B : Nat}
end
def pwb (blk : Nat → Nat) (j : Nat) : Nat → Nat
 | 0 => 0
 | m + 1 => pwb blk j m * 256 + blk (4 * j + m)
def pw (blk : Nat → Nat) (k j : Nat) : Nat:=pwb blk j (min (k - 4 * j) 4)
section
variable {w w' : World} {g B L : Nat} {b b' : Nat → Nat}
end
def cat (b : Nat → Nat) (len : Nat) (y : Nat → Nat) : Nat → Nat:=fun i => if i < len then b i else y (i - len)
section
variable {w w' : World} {A : Option Addr} {n g B : Nat} {y : Nat → Nat}
end
def dByte (s : St) (i : Nat) : Nat:=s.at (i / 4) / 256 ^ (3 - i % 4) % 256
end Go.Proofs.YtbfkecfcolcclaaGreatDoor
namespace Go.Proofs.YtbfkecfcolcclaaGreatDoor
open Go.ChangeShapes Go.WideShapes Go.ChangeAt Go.RowKit
open Go.Value renaming int → vI
open Go.IntKind renaming u64 → vU
open Go.Act renaming put → aP
open List renaming setIfInBounds_toArray → lA, set_cons_zero → lZ, set_cons_succ → lS
theorem own : ownKnob Tryz.prog.godebug = none:=by kernel_rfl
def laidL : List (String × DataW Unit):=[("clapper/sha.roundWords",Rows.laid_clapper_sha_roundWords)]
theorem door_met (os : Os) (args : Array Value) : laidMetH Tryz.prog laidL ((World.doorLaid Tryz.prog 14 os).forCall (fun _ _ => 0) ⟨#[],args,[]⟩).memory :=
 laidMetH_of_parts3 (fuel:=8) (laidMet_of_run' 8 (by kernel_rfl) (by kernel_rfl)) (by kernel_rfl) (by kernel_rfl)
end Go.Proofs.YtbfkecfcolcclaaGreatDoor
namespace Go.Proofs.YtbfkecfcolcclaaGreatDoor
open Go.RowKit
open Go.Value renaming int → vI
open Go.IntKind renaming u64 → vU
open Go.Act renaming put → aP
open List renaming setIfInBounds_toArray → lA, set_cons_zero → lZ, set_cons_succ → lS
def riseD (l : List Int) : Prop:=∀ i j,i < j → j < l.length → l.getD i 0 < l.getD j 0
theorem rise_of {l : List Int} (h : daysB l = true) : riseD l:=by
 intro i j
 induction j with
 | zero => intro h1; omega
 | succ j ih =>
  intro h1 h2
  have h3:=(daysB_ok h h2).2.2 (by omega)
  rw [Nat.add_sub_cancel] at h3
  by_cases c : i = j
  ·
   rw [c]; exact h3
  ·
   have:=ih (by omega) (by omega)
   omega
def AtD (l : List Int) (x : Int) (i : Nat) : Prop:=i ≤ l.length ∧ (∀ j,j < i → l.getD j 0 < x) ∧ (∀ j,i ≤ j → j < l.length → x ≤ l.getD j 0)
theorem at_end {l : List Int} {x : Int} {i : Nat} (h : AtD l x i) (hi : i = l.length) : decide (x ∈ l) = false:=d_not fun j hj e => by
 have:=h.2.1 j (by omega)
 omega
theorem at_yes {l : List Int} {x : Int} {i : Nat} (_ : AtD l x i) (hi : i < l.length) (e : l.getD i 0 = x) : decide (x ∈ l) = true:=d_is hi e
theorem at_no {l : List Int} {x : Int} {i : Nat} (hr : riseD l) (h : AtD l x i) (hi : i < l.length) (e : ¬ l.getD i 0 = x) : decide (x ∈ l) = false:=d_not fun j hj k => by
 by_cases c : j < i
 ·
  have:=h.2.1 j c
  omega
 ·
  have h1:=h.2.2 i (by omega) hi
  by_cases c2 : j = i
  ·
   subst c2; exact e k
  ·
   have:=hr i j (by omega) hj
   omega
theorem below_of {l : List Int} {x : Int} {h : Nat} (hr : riseD l) (hh : h < l.length) (k : l.getD h 0 < x) : ∀ j,j < h + 1 → l.getD j 0 < x:=fun j hj => by
 by_cases c : j = h
 ·
  subst c; exact k
 ·
  have:=hr j h (by omega) hh
  omega
theorem above_of {l : List Int} {x : Int} {h : Nat} (hr : riseD l) (k : ¬ l.getD h 0 < x) : ∀ j,h ≤ j → j < l.length → x ≤ l.getD j 0:=fun j hj hl => by
 by_cases c : j = h
 ·
  subst c; omega
 ·
  have:=hr h j (by omega) hl
  omega
theorem isNaN12_calls (a : Int) (w : World) : Calls Tryz.prog 115 #[.int .i64 a] w fun e w' => e = .returned (.bool false) ∧ w' = w:=by
 have f1 : (a == a) = true:=by simp
 go_enter Tryz.func115,Tryz.ntmps115
 go_wp2
 go_ret
 exact ⟨rfl,rfl⟩
theorem isNaNs_calls (a : Int) (w : World) : Calls Tryz.prog 200 #[.int .i64 a] w fun e w' => e = .returned (.bool false) ∧ w' = w:=by
 have f1 : (a == a) = true:=by simp
 go_enter Tryz.func200,Tryz.ntmps200
 go_wp2
 go_ret
 exact ⟨rfl,rfl⟩
theorem cmpLess_calls (a b : Int) (w : World) : Calls Tryz.prog 199 #[.int .i64 a,.int .i64 b] w fun e w' => e = .returned (.bool (decide (a < b))) ∧ w' = w:=by
 have K:=veil (fun x W => isNaN12_calls x W)
 obtain ⟨R,hR⟩ : ∃ R,R = decide (a < b):=⟨_,rfl⟩
 have hd:=hR.symm
 rw [← hR]
 clear hR
 go_enter Tryz.func199,Tryz.ntmps199
 go_wp2_with (go_at_call 115; refine (K.out _ _).mono ?_; rintro e w' ⟨rfl,rfl⟩)
 go_ret
 exact ⟨rfl,rfl⟩
theorem search_calls (v : Value) (l : List Int) (x : Int) (w : World) (hF : Ds w v l) (hL : l.length ≤ 1000000000) (hr : riseD l) :
  Calls Tryz.prog 166 #[v,.int .i64 x] w fun e w' => ∃ i : Nat,e = .returned (.tuple #[.int .i64 (i : Int),.bool (decide (x ∈ l))]) ∧ w' = w ∧ AtD l x i:=by
 obtain ⟨AL,c,rfl,hc,hx⟩:=hF
 obtain ⟨R,hR⟩ : ∃ R,R = decide (x ∈ l):=⟨_,rfl⟩
 rw [← hR]
 obtain ⟨n,hn⟩ : ∃ n,n = l.length:=⟨_,rfl⟩
 rw [← hn] at hx hc ⊢
 have HR:=veil (And.intro hR (And.intro hn (And.intro hL hr)))
 have HX:=veil hx
 have hnL : n ≤ 1000000000:=by omega
 have KN:=veil (fun y W => isNaNs_calls y W)
 have KL:=veil (fun y W => cmpLess_calls y x W)
 clear hR hx hn hL hr
 go_enter Tryz.func166,Tryz.ntmps166
 go_wp2
 go_loopw [7,8,9] (fun u v _ wr => ∃ i j : Nat,i ≤ j ∧ j ≤ n ∧ u = .int .i64 (i : Int) ∧ v = .int .i64 (j : Int) ∧ (∀ k,k < i → l.getD k 0 < x) ∧ (∀ k,j ≤ k → k < l.length → x ≤ l.getD k 0) ∧ wr = w)
  (fun u v _ _ => (intOf v).toNat - (intOf u).toNat)
 case atStart => exact ⟨0,n,by omega,by omega,rfl,rfl,fun j hj => by omega,fun k h1 h2 => by have:=HR.out.2.1; omega,rfl⟩
 case round =>
  obtain ⟨i,j,hij,hjn,rfl,rfl,hlo,hhi,rfl⟩:=hrel
  by_cases hlt : i < j
  ·
   have hd1 : decide ((i : Int) < (j : Int)) = true:=by simp; omega
   obtain ⟨b,o,hAL,hb,hcl⟩:=HX.out.resolve_left (by omega)
   obtain ⟨m,hm⟩ : ∃ m,m = (i + j) / 2:=⟨_,rfl⟩
   have hml : m < l.length:=by have:=HR.out.2.1; omega
   have hmn : (m : Int) < (n : Int):=by omega
   have c0:=zcq (Ext.refl _) hb hcl hml
   have HK:=veil (And.intro hlo (And.intro hhi (And.intro hml (And.intro hm hij))))
   obtain ⟨k,hk⟩ : ∃ z,z = l.getD m 0:=⟨_,rfl⟩
   rw [← hk] at c0
   have HV:=veil hk
   have hij2 : (i : Int) + (j : Int) ≤ 2000000000:=by omega
   have hmm : ((i : Int) + (j : Int)) / 2 = (m : Int):=by omega
   have hm0 : (m : Int) ≤ 1000000000:=by omega
   subst hAL
   clear hk hlo hhi hcl hb hml hm hij
   by_cases g : k < x
   ·
    have KL1:=veil (show Calls Tryz.prog 199 #[.int .i64 k,.int .i64 x] wr fun e w' => e = .returned (.bool true) ∧ w' = wr from by have:=KL.out k wr; rwa [decide_eq_true g] at this)
    have G:=veil g
    clear g
    go_wp2_with (go_at_call 199; refine KL1.out.mono ?_; rintro e w' ⟨rfl,rfl⟩)
    go_roundw
    case rel => exact ⟨m + 1,j,by have:=HK.out; omega,by omega,by go_num,rfl,below_of HR.out.2.2.2 HK.out.2.2.1 (by rw [← HV.out]; exact G.out),HK.out.2.1,trivial⟩
    case measure => have:=HK.out; simp [intOf]; omega
   ·
    have KL1:=veil (show Calls Tryz.prog 199 #[.int .i64 k,.int .i64 x] wr fun e w' => e = .returned (.bool false) ∧ w' = wr from by have:=KL.out k wr; rwa [decide_eq_false g] at this)
    have G:=veil g
    clear g
    go_wp2_with (go_at_call 199; refine KL1.out.mono ?_; rintro e w' ⟨rfl,rfl⟩)
    go_roundw
    case rel => exact ⟨i,m,by have:=HK.out; omega,by have:=HK.out; omega,rfl,rfl,HK.out.1,above_of HR.out.2.2.2 (by rw [← HV.out]; have:=G.out; omega),trivial⟩
    case measure => have:=HK.out; simp [intOf]; omega
  ·
   obtain rfl : i = j:=by omega
   have hd1 : decide ((i : Int) < (i : Int)) = false:=by simp
   have HA:=veil (show AtD l x i from ⟨by have:=HR.out.2.1; omega,hlo,hhi⟩)
   clear hlo hhi
   by_cases hin : i < n
   ·
    have hd2 : decide ((i : Int) < (n : Int)) = true:=by simp; omega
    have hii : (i : Int) < (n : Int):=by omega
    obtain ⟨b,o,hAL,hb,hcl⟩:=HX.out.resolve_left (by omega)
    have hil : i < l.length:=by have:=HR.out.2.1; omega
    have c0:=zcq (Ext.refl _) hb hcl hil
    obtain ⟨k,hk⟩ : ∃ z,z = l.getD i 0:=⟨_,rfl⟩
    rw [← hk] at c0
    have HV:=veil (And.intro hk hil)
    subst hAL
    clear hk hcl hb hil
    by_cases g : k = x
    ·
     have f1 : (k == x) = true:=by simp [g]
     obtain rfl : R = true:=HR.out.1.trans (at_yes HA.out HV.out.2 (HV.out.1.symm.trans g))
     clear g
     go_wp2_with (go_at_call 200; refine (KN.out _ _).mono ?_; rintro e w' ⟨rfl,rfl⟩)
     go_ret2
     exact ⟨i,rfl,rfl,HA.out⟩
    ·
     have f1 : (k == x) = false:=by simp [g]
     obtain rfl : R = false:=HR.out.1.trans (at_no HR.out.2.2.2 HA.out HV.out.2 fun h => g (HV.out.1.trans h))
     clear g
     go_wp2_with (go_at_call 200; refine (KN.out _ _).mono ?_; rintro e w' ⟨rfl,rfl⟩)
     go_ret2
     exact ⟨i,rfl,rfl,HA.out⟩
   ·
    obtain rfl : i = n:=by omega
    have hd2 : decide ((i : Int) < (i : Int)) = false:=by simp
    obtain rfl : R = false:=HR.out.1.trans (at_end HA.out HR.out.2.1)
    go_wp2
    go_ret2
    exact ⟨i,rfl,rfl,HA.out⟩
theorem zcn (v : Value) (l : List Int) (d : Int) (w : World) (hF : Ds w v l) (hL : l.length ≤ 1000000000) (hr : riseD l) :
  Calls Tryz.prog 118 #[v,.int .i64 d] w fun e w' => e = .returned (.bool (decide (d ∈ l))) ∧ w' = w:=by
 have K:=veil (search_calls v l d w hF hL hr)
 obtain ⟨R,hR⟩ : ∃ R,R = decide (d ∈ l):=⟨_,rfl⟩
 rw [← hR] at K ⊢
 clear hR hF hL hr
 go_enter Tryz.func118,Tryz.ntmps118
 go_wp2_with (go_at_call 166; refine K.out.mono ?_; rintro e w' ⟨i,rfl,rfl,_⟩)
 go_ret
 exact ⟨rfl,rfl⟩
def lastD (l : List Int) (i : Nat) : Int:=if i = 0 then -1 else l.getD (i - 1) 0
theorem okD_no {l : List Int} {i : Nat} (h : l.getD i 0 ≤ lastD l i) : ¬ okD l i:=fun k => by
 unfold lastD at h
 obtain ⟨k1,_,k3⟩:=k
 split at h
 ·
  omega
 ·
  have:=k3 (by omega)
  omega
theorem okD_yes {l : List Int} {i : Nat} (hall : ∀ j,j < i → okD l j) (h : ¬ l.getD i 0 ≤ lastD l i) (h2 : ¬ 1048576 < l.getD i 0) : okD l i:=by
 unfold lastD at h
 split at h
 ·
  exact ⟨by omega,by omega,fun _ => by omega⟩
 ·
  have:=(hall (i - 1) (by omega)).1
  exact ⟨by omega,by omega,fun _ => by omega⟩
theorem zcy (v : Value) (l : List Int) (w : World) (hF : Ds w v l) (hL : l.length ≤ 1000000000) :
  Calls Tryz.prog 74 #[v] w fun e w' => e = .returned (.bool (daysB l)) ∧ w' = w:=by
 obtain ⟨AL,c,rfl,hc,hx⟩:=hF
 obtain ⟨R,hR⟩ : ∃ R,R = daysB l:=⟨_,rfl⟩
 rw [← hR]
 obtain ⟨n,hn⟩ : ∃ n,n = l.length:=⟨_,rfl⟩
 rw [← hn] at hx hc ⊢
 have HR:=veil (And.intro hR (And.intro hn hL))
 have HX:=veil hx
 have hnL : n ≤ 1000000000:=by omega
 clear hR hx hn hL
 by_cases g0 : n ≤ 100
 rotate_left
 ·
  have hd0 : decide ((100 : Int) < (n : Int)) = true:=by simp; omega
  obtain rfl : R = false:=HR.out.1.trans (zdh (by rw [← HR.out.2.1]; exact g0))
  go_enter Tryz.func74,Tryz.ntmps74
  go_wp2
  go_ret
  exact ⟨rfl,rfl⟩
 have hd0 : decide ((100 : Int) < (n : Int)) = false:=by simp; omega
 have HG:=veil g0
 clear g0
 go_enter Tryz.func74,Tryz.ntmps74
 go_wp2
 go_loopw [3,5,11] (fun u _ v wr => ∃ i : Nat,i ≤ n ∧ v = .int .i64 (i : Int) ∧ u = .int .i64 (lastD l i) ∧ (∀ j,j < i → okD l j) ∧ wr = w)
  (fun _ _ v _ => n - (intOf v).toNat)
 case atStart => exact ⟨0,by omega,rfl,rfl,fun j hj => by omega,rfl⟩
 case round =>
  obtain ⟨i,hi,rfl,rfl,hall,rfl⟩:=hrel
  by_cases hlt : i < n
  ·
   have hd1 : decide ((i : Int) < (n : Int)) = true:=by simp; omega
   have hii : (i : Int) < (n : Int):=by omega
   obtain ⟨b,o,hAL,hb,hcl⟩:=HX.out.resolve_left (by omega)
   have hil : i < l.length:=by have:=HR.out.2.1; omega
   have c0:=zcq (Ext.refl _) hb hcl hil
   have HK:=veil (And.intro hall hil)
   have HF:=veil (fun h : ¬ okD l i => HR.out.1.trans (daysB_false hil h))
   obtain ⟨k,hk⟩ : ∃ z,z = l.getD i 0:=⟨_,rfl⟩
   obtain ⟨y,hy⟩ : ∃ z,z = lastD l i:=⟨_,rfl⟩
   rw [← hk] at c0
   rw [← hy]
   have HV:=veil (And.intro hk hy)
   subst hAL
   clear hk hy hall hcl hb hil
   by_cases g1 : k ≤ y
   ·
    have hd2 : decide (k ≤ y) = true:=decide_eq_true g1
    obtain rfl : R = false:=HF.out (okD_no (by rw [← HV.out.1,← HV.out.2]; exact g1))
    go_wp2
    go_ret
    exact ⟨rfl,rfl⟩
   ·
    have hd2 : decide (k ≤ y) = false:=decide_eq_false g1
    by_cases g2 : 1048576 < k
    ·
     have hd3 : decide (1048576 < k) = true:=decide_eq_true g2
     obtain rfl : R = false:=HF.out fun h => by have:=h.2.1; rw [← HV.out.1] at this; omega
     go_wp2
     go_ret
     exact ⟨rfl,rfl⟩
    ·
     have hd3 : decide (1048576 < k) = false:=decide_eq_false g2
     have HO:=veil (okD_yes HK.out.1 (by rw [← HV.out.1,← HV.out.2]; exact g1) (by rw [← HV.out.1]; exact g2))
     clear g1 g2
     go_wp2
     go_roundw
     case rel =>
      refine ⟨i + 1,by omega,by go_num,by rw [HV.out.1]; rfl,fun j hj => ?_,trivial⟩
      by_cases e : j = i
      ·
       subst e; exact HO.out
      ·
       exact HK.out.1 j (by omega)
     case measure => simp [intOf]; omega
  ·
   obtain rfl : i = n:=by omega
   have hd1 : decide ((i : Int) < (i : Int)) = false:=by simp
   obtain rfl : R = true:=HR.out.1.trans (by rw [daysB_len (by rw [← HR.out.2.1]; exact hall),← HR.out.2.1]; exact decide_eq_true HG.out)
   clear hall
   go_wp2
   go_ret
   exact ⟨rfl,rfl⟩
theorem sharef_calls (g : Nat) (v : Value) (l : List Int) (d : Int) (w : World) (hF : Ds w v l) (hg : w.cell? ⟨g,0,none⟩ = some v) (hL : l.length ≤ 1000000000) (hr : riseD l) :
  Calls Tryz.prog 117 #[.int .i64 d,.pointer (some ⟨g,0,none⟩)] w fun e w' => e = .returned (.bool (decide (d ∈ l))) ∧ w' = w:=by
 have K:=veil (zcn v l d w hF hL hr)
 obtain ⟨R,hR⟩ : ∃ R,R = decide (d ∈ l):=⟨_,rfl⟩
 rw [← hR] at K ⊢
 obtain ⟨AL,c,rfl,hc,hx⟩:=hF
 obtain ⟨n,hn⟩ : ∃ n,n = l.length:=⟨_,rfl⟩
 rw [← hn] at hg K
 clear hR hL hr hx hc hn
 go_enter Tryz.func117,Tryz.ntmps117
 go_wp2_with (go_at_call 118; refine K.out.mono ?_; rintro e w' ⟨rfl,rfl⟩)
 go_ret
 exact ⟨rfl,rfl⟩
theorem farB_eq {a b : List Int} : farB a b = !a.any fun d => decide (d ∈ b):=by
 unfold farB
 rw [Bool.eq_iff_iff,Bool.not_eq_true',← Bool.not_eq_true,List.any_eq_true,decide_eq_true_eq]
 constructor
 ·
  rintro h ⟨x,hx,hy⟩
  obtain ⟨i,hi,rfl⟩:=d_idx hx
  exact h i hi (of_decide_eq_true hy)
 ·
  intro h i hi hm
  exact h ⟨_,d_mem hi,decide_eq_true hm⟩
theorem indexf12_calls (v u : Value) (l m : List Int) (g : Nat) (w : World) (hF : Ds w v l) (hL : l.length ≤ 1000000000) (hG : Ds w u m) (hg : w.cell? ⟨g,0,none⟩ = some u) (hM : m.length ≤ 1000000000) (hr : riseD m) :
  Calls Tryz.prog 165 #[v,.func (.func 117) #[] #[.pointer (some ⟨g,0,none⟩)]] w fun e w' => ∃ z : Int,e = .returned (.int .i64 z) ∧ decide (0 ≤ z) = l.any (fun d => decide (d ∈ m)) ∧ w' = w:=by
 have KO:=veil (fun d => sharef_calls g u m d w hG hg hM hr)
 obtain ⟨AL,c,rfl,hc,hx⟩:=hF
 obtain ⟨n,hn⟩ : ∃ n,n = l.length:=⟨_,rfl⟩
 rw [← hn] at hx hc hL ⊢
 obtain ⟨R,hR⟩ : ∃ R,R = l.any (fun d => decide (d ∈ m)):=⟨_,rfl⟩
 rw [← hR]
 have HR:=veil (And.intro hR hn)
 have HX:=veil hx
 clear hR hx hn hG hg hM hr
 go_enter Tryz.func165,Tryz.ntmps165
 go_wp2
 go_loopw [5,8] (fun _ v wr => ∃ i : Nat,i ≤ n ∧ v = .int .i64 (i : Int) ∧ (∀ j,j < i → l.getD j 0 ∉ m) ∧ wr = w)
  (fun _ v _ => n - (intOf v).toNat)
 case atStart => exact ⟨0,by omega,rfl,fun j hj => by omega,rfl⟩
 case round =>
  obtain ⟨i,hi,rfl,hall,rfl⟩:=hrel
  by_cases hlt : i < n
  ·
   have hd1 : decide ((i : Int) < (n : Int)) = true:=by simp; omega
   have hii : (i : Int) < (n : Int):=by omega
   obtain ⟨b,o,hAL,hb,hcl⟩:=HX.out.resolve_left (by omega)
   have hil : i < l.length:=by have:=HR.out.2; omega
   have c0:=zcq (Ext.refl _) hb hcl hil
   have hmem : l.getD i 0 ∈ l:=d_mem hil
   obtain ⟨k,hk⟩ : ∃ k,k = l.getD i 0:=⟨_,rfl⟩
   rw [← hk] at c0 hmem
   have KO1:=veil (KO.out k)
   cases ho : decide (k ∈ m) with
   | true =>
    rw [ho] at KO1
    obtain rfl : R = true:=by
     rw [HR.out.1,List.any_eq_true]
     exact ⟨k,hmem,ho⟩
    clear hmem ho hk hil hcl hall
    subst hAL
    go_wp2_with (go_at_call 117; refine KO1.out.mono ?_; rintro e w1 ⟨rfl,rfl⟩)
    go_ret
    exact ⟨(i : Int),rfl,by simp,rfl⟩
   | false =>
    rw [ho] at KO1
    have hnext : ∀ j,j < i + 1 → l.getD j 0 ∉ m:=fun j hj => by
     by_cases e : j = i
     ·
      subst e
      rw [← hk]
      exact of_decide_eq_false ho
     ·
      exact hall j (by omega)
    have HN:=veil hnext
    clear hmem ho hk hil hcl hall hnext
    subst hAL
    go_wp2_with (go_at_call 117; refine KO1.out.mono ?_; rintro e w1 ⟨rfl,rfl⟩)
    go_roundw
    case rel => exact ⟨i + 1,by omega,by go_num,HN.out,trivial⟩
    case measure => simp [intOf]; omega
  ·
   obtain rfl : i = n:=by omega
   have hd1 : decide ((i : Int) < (i : Int)) = false:=by simp
   obtain rfl : R = false:=by
    rw [HR.out.1,List.any_eq_false]
    intro k hk
    obtain ⟨j,hj,rfl⟩:=d_idx hk
    have:=hall j (by have:=HR.out.2; omega)
    simpa using this
   clear hall
   go_wp2
   go_ret
   exact ⟨-1,rfl,by decide,rfl⟩
theorem zdr (v u : Value) (l m : List Int) (g : Nat) (w : World) (hF : Ds w v l) (hL : l.length ≤ 1000000000) (hG : Ds w u m) (hg : w.cell? ⟨g,0,none⟩ = some u) (hM : m.length ≤ 1000000000) (hr : riseD m) :
  Calls Tryz.prog 116 #[v,.func (.func 117) #[] #[.pointer (some ⟨g,0,none⟩)]] w fun e w' => e = .returned (.bool (l.any fun d => decide (d ∈ m))) ∧ w' = w:=by
 have KI:=veil (indexf12_calls v u l m g w hF hL hG hg hM hr)
 obtain ⟨R,hR⟩ : ∃ R,R = l.any fun d => decide (d ∈ m):=⟨_,rfl⟩
 rw [← hR] at KI ⊢
 clear hF hL hR hG hg hM hr
 go_enter Tryz.func116,Tryz.ntmps116
 go_wp2_with (go_at_call 165; refine KI.out.mono ?_; rintro e w1 ⟨z,rfl,hz,rfl⟩)
 go_ret
 exact ⟨by first | rfl | rw [hz],rfl⟩
theorem share_calls (v u : Value) (l m : List Int) (w : World) (hF : Ds w v l) (hL : l.length ≤ 1000000000) (hG : Ds w u m) (hM : m.length ≤ 1000000000) (hr : riseD m) :
  Calls Tryz.prog 75 #[v,u] w fun e w' => e = .returned (.bool (!farB l m)) ∧ Ext w w':=by
 have K:=veil (fun g W (hE : Ext w W) hg => zdr v u l m g W (hF.ext hE) hL (hG.ext hE) hg hM hr)
 rw [show (!farB l m) = l.any (fun d => decide (d ∈ m)) by rw [farB_eq,Bool.not_not]]
 obtain ⟨R,hR⟩ : ∃ R,R = l.any fun d => decide (d ∈ m):=⟨_,rfl⟩
 rw [← hR] at K ⊢
 obtain ⟨AL,c,rfl,hc,hx⟩:=hF
 obtain ⟨AM,cm,rfl,hcm,hxm⟩:=hG
 obtain ⟨n,hn⟩ : ∃ n,n = l.length:=⟨_,rfl⟩
 obtain ⟨n2,hn2⟩ : ∃ n,n = m.length:=⟨_,rfl⟩
 rw [← hn,← hn2] at K ⊢
 have h0:=zag w (.cells #[.slice AM n2 cm] 47)
 have hE0:=veil (Ext.alloc w (.cells #[.slice AM n2 cm] 47))
 have H0:=veil (show (w.alloc (.cells #[.slice AM n2 cm] 47)).cell? ⟨w.heap.size,0,none⟩ = some (.slice AM n2 cm) from cell_of_row _ _ 0 _ _ _ h0)
 clear hR hL hM hr hx hc hn hcm hxm hn2 h0
 go_enter Tryz.func75,Tryz.ntmps75
 go_wp2_with (go_at_call 116; refine (K.out _ _ hE0.out H0.out).mono ?_; rintro e w1 ⟨rfl,rfl⟩)
 go_ret
 exact ⟨rfl,hE0.out⟩
theorem mayV_b {s : Sv} (h : boundB s = false) : mayV s = false:=by unfold mayV; rw [h,Bool.and_false]
theorem mayV_e {s : Sv} (h : daysB s.ex = false) : mayV s = false:=by unfold mayV; rw [h]; rfl
theorem mayV_c {s : Sv} (h : daysB s.ec = false) : mayV s = false:=by unfold mayV; rw [h]; simp
theorem mayV_all {s : Sv} (h1 : boundB s = true) (h2 : daysB s.ex = true) (h3 : daysB s.ec = true) : mayV s = farB s.ex s.ec:=by unfold mayV; rw [h1,h2,h3]; simp
theorem may12_calls (v : Value) (s : Sv) (w : World) (hF : Vs12 w v s) (h1 : s.ex.length ≤ 1000000000) (h2 : s.ec.length ≤ 1000000000) :
  Calls Tryz.prog 45 #[v] w fun e w' => e = .returned (.bool (mayV s)) ∧ Ext w w':=by
 obtain ⟨vE,vX,rfl,hE,hX⟩:=hF
 obtain ⟨R,hR⟩ : ∃ R,R = mayV s:=⟨_,rfl⟩
 rw [← hR]
 have KA:=veil (fun W (h : Ext w W) => zcy vE s.ex W (hE.ext h) h1)
 have KB:=veil (fun W (h : Ext w W) => zcy vX s.ec W (hX.ext h) h2)
 have KS:=veil (fun W (h : Ext w W) (hb : daysB s.ec = true) => share_calls vE vX s.ex s.ec W (hE.ext h) h1 (hX.ext h) h2 (rise_of hb))
 obtain ⟨AE,cE,rfl,hcE,-⟩:=hE
 obtain ⟨AX,cX,rfl,hcX,-⟩:=hX
 have hE0:=Ext.alloc w (.cells (svC s (.slice AE s.ex.length cE) (.slice AX s.ec.length cX)) 49)
 have hS0:=SvAt.new w s (.slice AE s.ex.length cE) (.slice AX s.ec.length cX)
 have HR:=veil hR
 clear hR h1 h2
 obtain ⟨wk,fr,tu,ex,ec⟩:=s
 simp only at HR KA KB KS hE0 hS0 hcE hcX ⊢
 obtain ⟨n,hn⟩ : ∃ n,n = ex.length:=⟨_,rfl⟩
 obtain ⟨m,hm⟩ : ∃ m,m = ec.length:=⟨_,rfl⟩
 rw [← hn] at KA KS hcE
 rw [← hm] at KB KS hcX
 rw [← hn,← hm] at hE0 hS0
 simp only [← hn,← hm]
 clear hn hm
 unfold svC at hE0 ⊢
 simp only at hE0 ⊢
 obtain ⟨A,hA⟩ : ∃ A,A = daysB ex:=⟨_,rfl⟩
 obtain ⟨B,hB⟩ : ∃ B,B = daysB ec:=⟨_,rfl⟩
 obtain ⟨F,hFF⟩ : ∃ F,F = farB ex ec:=⟨_,rfl⟩
 rw [← hA] at KA
 rw [← hB] at KB KS
 rw [← hFF] at KS
 have HA:=veil (And.intro hA (And.intro hB hFF))
 clear hA hB hFF
 go_enter Tryz.func45,Tryz.ntmps45
 go_upto_region 1 with (fail)
 unfold SvAt svC at hS0
 simp only at hS0
 obtain ⟨g,hg⟩ : ∃ g,g = w.heap.size:=⟨_,rfl⟩
 rw [← hg] at hS0 ⊢
 generalize w.alloc (.cells #[.int .i64 wk,.int .i64 fr,.int .i64 tu,.slice AE n cE,.slice AX m cX] 49) = w0 at *
 have HS:=veil (show SvAt w0 g ⟨wk,fr,tu,ex,ec⟩ (.slice AE n cE) (.slice AX m cX) from hS0)
 have HE:=veil hE0
 clear hE0 hS0 hg
 have c0:=HS.out.at0
 have c1:=HS.out.at1
 have c2:=HS.out.at2
 have c3:=HS.out.at3
 have c4:=HS.out.at4
 simp only at c0 c1 c2
 by_cases g0 : (0 : Int) ≤ wk
 rotate_left
 ·
  have f0 : decide ((0 : Int) ≤ wk) = false:=decide_eq_false g0
  obtain rfl : R = false:=HR.out.trans (mayV_b (zas fun h => by omega))
  go_wp2_with (fail)
  go_wp2
  go_ret
  exact ⟨rfl,HE.out⟩
 have f0 : decide ((0 : Int) ≤ wk) = true:=decide_eq_true g0
 by_cases g1 : wk ≤ 127
 rotate_left
 ·
  have f1 : decide (wk ≤ 127) = false:=decide_eq_false g1
  obtain rfl : R = false:=HR.out.trans (mayV_b (zas fun h => by omega))
  go_wp2_with (fail)
  go_wp2
  go_ret
  exact ⟨rfl,HE.out⟩
 have f1 : decide (wk ≤ 127) = true:=decide_eq_true g1
 by_cases g2 : (0 : Int) ≤ fr
 rotate_left
 ·
  have f2 : decide ((0 : Int) ≤ fr) = false:=decide_eq_false g2
  obtain rfl : R = false:=HR.out.trans (mayV_b (zas fun h => by omega))
  go_wp2_with (fail)
  go_wp2
  go_ret
  exact ⟨rfl,HE.out⟩
 have f2 : decide ((0 : Int) ≤ fr) = true:=decide_eq_true g2
 by_cases g3 : fr ≤ tu
 rotate_left
 ·
  have f3 : decide (fr ≤ tu) = false:=decide_eq_false g3
  obtain rfl : R = false:=HR.out.trans (mayV_b (zas fun h => by omega))
  go_wp2_with (fail)
  go_wp2
  go_ret
  exact ⟨rfl,HE.out⟩
 have f3 : decide (fr ≤ tu) = true:=decide_eq_true g3
 by_cases g4 : tu ≤ 1048576
 rotate_left
 ·
  have f4 : decide (tu ≤ 1048576) = false:=decide_eq_false g4
  obtain rfl : R = false:=HR.out.trans (mayV_b (zas fun h => by omega))
  go_wp2_with (fail)
  go_wp2
  go_ret
  exact ⟨rfl,HE.out⟩
 have f4 : decide (tu ≤ 1048576) = true:=decide_eq_true g4
 have HB:=veil (boundB_yes (ex:=ex) (ec:=ec) ⟨g0,g1,g2,g3,g4⟩)
 clear g0 g1 g2 g3 g4
 cases A with
 | false =>
  obtain rfl : R = false:=HR.out.trans (mayV_e HA.out.1.symm)
  go_wp2_with (first | (go_at_call 74; with_reducible refine (KA.out _ HE.out).mono ?_; rintro e w1 ⟨rfl,rfl⟩))
  go_ret
  exact ⟨rfl,HE.out⟩
 | true =>
  cases B with
  | false =>
   obtain rfl : R = false:=HR.out.trans (mayV_c HA.out.2.1.symm)
   go_wp2_with (first | (go_at_call 74; with_reducible refine (KA.out _ HE.out).mono ?_; rintro e w1 ⟨rfl,rfl⟩) | (go_at_call 74; with_reducible refine (KB.out _ HE.out).mono ?_; rintro e w1 ⟨rfl,rfl⟩))
   go_ret
   exact ⟨rfl,HE.out⟩
  | true =>
   obtain rfl : R = F:=HR.out.trans ((mayV_all HB.out HA.out.1.symm HA.out.2.1.symm).trans HA.out.2.2.symm)
   cases R with
   | false =>
    go_wp2_with (first | (go_at_call 74; with_reducible refine (KA.out _ HE.out).mono ?_; rintro e w1 ⟨rfl,rfl⟩) | (go_at_call 74; with_reducible refine (KB.out _ HE.out).mono ?_; rintro e w1 ⟨rfl,rfl⟩) | (go_at_call 75; refine (KS.out _ HE.out (by trivial)).mono ?_; rintro e w1 ⟨rfl,hE1⟩))
    go_ret
    exact ⟨rfl,HE.out.trans hE1⟩
   | true =>
    go_wp2_with (first | (go_at_call 74; with_reducible refine (KA.out _ HE.out).mono ?_; rintro e w1 ⟨rfl,rfl⟩) | (go_at_call 74; with_reducible refine (KB.out _ HE.out).mono ?_; rintro e w1 ⟨rfl,rfl⟩) | (go_at_call 75; refine (KS.out _ HE.out (by trivial)).mono ?_; rintro e w1 ⟨rfl,hE1⟩))
    go_ret
    exact ⟨rfl,HE.out.trans hE1⟩
def weekV (s : Sv) (d : Int) : Bool:=!decide (d ∈ s.ec) && decide (s.fr ≤ d ∧ d < s.to ∧ s.wk / 2 ^ (d % 7).toNat % 2 = 1)
theorem runsV_w (s : Sv) (d : Int) : runsV s d = (decide (d ∈ s.ex) || weekV s d):=rfl
theorem weekV_no {s : Sv} {d : Int} (h : ¬ (s.fr ≤ d ∧ d < s.to ∧ s.wk / 2 ^ (d % 7).toNat % 2 = 1)) : weekV s d = false:=by unfold weekV; rw [decide_eq_false h,Bool.and_false]
theorem weekV_yes {s : Sv} {d : Int} (h : s.fr ≤ d ∧ d < s.to ∧ s.wk / 2 ^ (d % 7).toNat % 2 = 1) : weekV s d = !decide (d ∈ s.ec):=by unfold weekV; rw [decide_eq_true h,Bool.and_true]
theorem and_bit : ∀ n : Fin 128,bits BinOp.and IntKind.i64 (n.val : Int) 1 = (n.val : Int) % 2:=by decide +kernel
theorem week_bit {wk : Int} {K : Nat} (h0 : 0 ≤ wk) (h1 : wk ≤ 127) : bits BinOp.and IntKind.i64 (wk / 2 ^ K) 1 = wk / 2 ^ K % 2:=by
 have a:=zan wk h0 K
 have b:=zca wk h0 K
 have:=and_bit ⟨(wk / 2 ^ K).toNat,by omega⟩
 simpa [Int.toNat_of_nonneg a] using this
theorem runsByWeek_calls (v : Value) (s : Sv) (d : Int) (w : World) (hF : Vs12 w v s) (hM : mayV s = true) :
  Calls Tryz.prog 119 #[v,.int .i64 d] w fun e w' => e = .returned (.bool (weekV s d)) ∧ Ext w w':=by
 obtain ⟨h1,h2,-,m1,m2,m3,m4,m5⟩:=zby hM
 obtain ⟨vE,vX,rfl,hE,hX⟩:=hF
 obtain ⟨R,hR⟩ : ∃ R,R = weekV s d:=⟨_,rfl⟩
 rw [← hR]
 have KB:=veil (fun W (h : Ext w W) => zcn vX s.ec d W (hX.ext h) (by have:=zbt h2; omega) (rise_of h2))
 obtain ⟨AE,cE,rfl,-,-⟩:=hE
 obtain ⟨AX,cX,rfl,-,-⟩:=hX
 have hE0:=Ext.alloc w (.cells (svC s (.slice AE s.ex.length cE) (.slice AX s.ec.length cX)) 49)
 have hS0:=SvAt.new w s (.slice AE s.ex.length cE) (.slice AX s.ec.length cX)
 have HR:=veil hR
 have HM:=veil (And.intro m1 (And.intro m2 (And.intro m3 (And.intro m4 m5))))
 clear hR hM h1 h2 m1 m2 m3 m4 m5
 obtain ⟨wk,fr,tu,ex,ec⟩:=s
 simp only at HR HM KB hE0 hS0 ⊢
 obtain ⟨n,hn⟩ : ∃ n,n = ex.length:=⟨_,rfl⟩
 obtain ⟨m,hm⟩ : ∃ m,m = ec.length:=⟨_,rfl⟩
 rw [← hm] at KB
 rw [← hn,← hm] at hE0 hS0
 simp only [← hn,← hm]
 clear hn hm
 unfold svC at hE0 ⊢
 simp only at hE0 ⊢
 obtain ⟨J,hJ⟩ : ∃ J,J = decide (d ∈ ec):=⟨_,rfl⟩
 rw [← hJ] at KB
 have HJ:=veil hJ
 clear hJ
 go_enter Tryz.func119,Tryz.ntmps119
 go_upto_region 1 with (fail)
 unfold SvAt svC at hS0
 simp only at hS0
 obtain ⟨g,hg⟩ : ∃ g,g = w.heap.size:=⟨_,rfl⟩
 rw [← hg] at hS0 ⊢
 generalize w.alloc (.cells #[.int .i64 wk,.int .i64 fr,.int .i64 tu,.slice AE n cE,.slice AX m cX] 49) = w0 at *
 have HS:=veil (show SvAt w0 g ⟨wk,fr,tu,ex,ec⟩ (.slice AE n cE) (.slice AX m cX) from hS0)
 have HE:=veil hE0
 clear hE0 hS0 hg
 have c0:=HS.out.at0
 have c1:=HS.out.at1
 have c2:=HS.out.at2
 have c4:=HS.out.at4
 simp only at c0 c1 c2
 by_cases g0 : fr ≤ d
 rotate_left
 ·
  have f0 : decide (fr ≤ d) = false:=decide_eq_false g0
  obtain rfl : R = false:=HR.out.trans (weekV_no fun h => g0 h.1)
  go_wp2
  go_ret
  exact ⟨rfl,HE.out⟩
 have f0 : decide (fr ≤ d) = true:=decide_eq_true g0
 by_cases g1 : d < tu
 rotate_left
 ·
  have f1 : decide (d < tu) = false:=decide_eq_false g1
  obtain rfl : R = false:=HR.out.trans (weekV_no fun h => g1 h.2.1)
  go_wp2
  go_ret
  exact ⟨rfl,HE.out⟩
 have f1 : decide (d < tu) = true:=decide_eq_true g1
 obtain ⟨K,hK⟩ : ∃ K : Nat,K = (d % 7).toNat:=⟨_,rfl⟩
 have hd0 : 0 ≤ d:=by have:=HM.out.2.2.1; omega
 have hr : d.tmod 7 = (K : Int):=by rw [Int.tmod_eq_emod_of_nonneg hd0,hK]; omega
 have hK7 : (K : Int) < 7:=by omega
 have HG:=veil (And.intro g0 (And.intro g1 (And.intro hK hd0)))
 clear g0 g1 hK hd0
 have HB:=veil (week_bit (K:=K) HM.out.1 HM.out.2.1)
 by_cases g2 : bits BinOp.and IntKind.i64 (wk / 2 ^ K) 1 = 1
 rotate_left
 ·
  have f2 : (bits BinOp.and IntKind.i64 (wk / 2 ^ K) 1 == 1) = false:=by simpa using g2
  obtain rfl : R = false:=HR.out.trans (weekV_no fun h => g2 (by rw [HB.out]; simp only [← HG.out.2.2.1] at h; exact h.2.2))
  clear g2
  go_wp2
  go_ret
  exact ⟨rfl,HE.out⟩
 have f2 : (bits BinOp.and IntKind.i64 (wk / 2 ^ K) 1 == 1) = true:=by simpa using g2
 obtain rfl : R = !J:=HR.out.trans ((weekV_yes ⟨HG.out.1,HG.out.2.1,by show wk / 2 ^ (d % 7).toNat % 2 = 1; rw [← HG.out.2.2.1,← HB.out]; exact g2⟩).trans (by rw [HJ.out]))
 clear g2
 go_wp2_with (go_at_call 118; with_reducible refine (KB.out _ HE.out).mono ?_; rintro e w1 ⟨rfl,rfl⟩)
 go_ret
 exact ⟨rfl,HE.out⟩
theorem on12_calls (m : Int) (w : World) (_ : -9223372036854775808 ≤ m) (_ : m ≤ 9223372036854775807) :
  Calls Tryz.prog 76 #[.int .i64 m] w fun e w' => ∃ x y ev,e = .returned (.tuple #[.int .i64 x,.int .i64 y,ev]) ∧ Ext w w' ∧ OnP m x y ev:=by
 by_cases g0 : m < 0
 ·
  have f0 : decide (m < 0) = true:=decide_eq_true g0
  go_enter Tryz.func76,Tryz.ntmps76
  go_wp2
  refine bodyPost_ret (results_tmp3 rfl _ _ _) rfl ⟨0,0,_,rfl,Ext.refl _,.inl ⟨.inl g0,rfl,rfl,rfl⟩⟩
 have f0 : decide (m < 0) = false:=decide_eq_false g0
 by_cases g1 : 1073741824 < m
 ·
  have f1 : decide (1073741824 < m) = true:=decide_eq_true g1
  go_enter Tryz.func76,Tryz.ntmps76
  go_wp2
  refine bodyPost_ret (results_tmp3 rfl _ _ _) rfl ⟨0,0,_,rfl,Ext.refl _,.inl ⟨.inr g1,rfl,rfl,rfl⟩⟩
 have f1 : decide (1073741824 < m) = false:=decide_eq_false g1
 obtain ⟨x,hx⟩ : ∃ x,x = m / 1440:=⟨_,rfl⟩
 obtain ⟨y,hy⟩ : ∃ y,y = m % 1440:=⟨_,rfl⟩
 have h1 : m.tdiv 1440 = x:=by rw [Int.tdiv_eq_ediv_of_nonneg (by omega),hx]
 have h2 : m.tmod 1440 = y:=by rw [Int.tmod_eq_emod_of_nonneg (by omega),hy]
 have hx0 : 0 ≤ x:=by omega
 have hx1 : x ≤ 1073741824:=by omega
 have HV:=veil (And.intro g0 (And.intro g1 (And.intro hx hy)))
 clear hx hy g0 g1
 go_enter Tryz.func76,Tryz.ntmps76
 go_wp2
 refine bodyPost_ret (results_tmp3 rfl _ _ _) rfl ⟨x,y,_,rfl,Ext.refl _,.inr ⟨by have:=HV.out.1; omega,by have:=HV.out.2.1; omega,HV.out.2.2.1,HV.out.2.2.2,rfl⟩⟩
theorem mayV_100 {s : Sv} (h : mayV s = true) : s.ex.length ≤ 1000000000 ∧ s.ec.length ≤ 1000000000:=by
 obtain ⟨h1,h2,-⟩:=zby h
 have:=zbt h1
 have:=zbt h2
 omega
theorem runs12_calls (v : Value) (s : Sv) (d : Int) (w : World) (hF : Vs12 w v s) (h1 : s.ex.length ≤ 1000000000) (h2 : s.ec.length ≤ 1000000000) :
  Calls Tryz.prog 77 #[v,.int .i64 d] w fun e w' => e = .returned (.bool (mayV s && runsV s d)) ∧ Ext w w':=by
 have KM:=veil (fun W (h : Ext w W) => may12_calls v s W (hF.ext h) h1 h2)
 have KW:=veil (fun W (h : Ext w W) (hM : mayV s = true) => runsByWeek_calls v s d W (hF.ext h) hM)
 obtain ⟨vE,vX,rfl,hE,hX⟩:=hF
 have KA:=veil (fun W (h : Ext w W) (hM : mayV s = true) => zcn vE s.ex d W (hE.ext h) h1 (rise_of (zby hM).1))
 obtain ⟨AE,cE,rfl,-,-⟩:=hE
 obtain ⟨AX,cX,rfl,-,-⟩:=hX
 rw [runsV_w]
 clear h1 h2
 obtain ⟨n,hn⟩ : ∃ n,n = s.ex.length:=⟨_,rfl⟩
 obtain ⟨m,hm⟩ : ∃ n,n = s.ec.length:=⟨_,rfl⟩
 simp only [← hn,← hm] at KM KW KA ⊢
 clear hn hm
 have hE0:=Ext.alloc w (.cells (svC s (.slice AE n cE) (.slice AX m cX)) 49)
 have hS0:=SvAt.new w s (.slice AE n cE) (.slice AX m cX)
 obtain ⟨M,hM⟩ : ∃ M,M = mayV s:=⟨_,rfl⟩
 obtain ⟨I,hI⟩ : ∃ I,I = decide (d ∈ s.ex):=⟨_,rfl⟩
 obtain ⟨J,hJ⟩ : ∃ J,J = weekV s d:=⟨_,rfl⟩
 rw [← hM,← hI,← hJ]
 rw [← hM] at KM
 rw [← hM,← hI] at KA
 rw [← hM,← hJ] at KW
 clear hM hI hJ
 go_enter Tryz.func77,Tryz.ntmps77
 go_upto_region 1 with (fail)
 obtain ⟨g,hg⟩ : ∃ g,g = w.heap.size:=⟨_,rfl⟩
 rw [← hg] at hS0 ⊢
 generalize w.alloc (.cells (svC s (.slice AE n cE) (.slice AX m cX)) 49) = w0 at *
 have HS:=veil hS0
 have HE:=veil hE0
 clear hE0 hS0 hg
 cases M with
 | false =>
  go_wp2_with (first
   | ((with_reducible refine zaa 5 ?_); refine wpList_load_row rfl 49 _ rfl g rfl 49 (svC s (.slice AE n cE) (.slice AX m cX)) (0,0) _ HS.out Tryz.underlying49 rfl (iSv s _ _) ?_)
   | (go_at_call 45; with_reducible refine (KM.out _ HE.out).mono ?_; rintro e w1 ⟨rfl,hE1⟩))
  go_ret
  exact ⟨rfl,HE.out.trans hE1⟩
 | true =>
  cases I with
  | true =>
   go_wp2_with (first
    | ((with_reducible refine zaa 5 ?_); refine wpList_load_row rfl 49 _ rfl g rfl 49 (svC s (.slice AE n cE) (.slice AX m cX)) (0,0) _ HS.out Tryz.underlying49 rfl (iSv s _ _) ?_)
    | (go_at_call 45; with_reducible refine (KM.out _ HE.out).mono ?_; rintro e w1 ⟨rfl,hE1⟩; have HE1:=veil (HE.out.trans hE1); have HS1 : Hid (SvAt w1 g s (.slice AE n cE) (.slice AX m cX)):=veil (HS.out.ext hE1); have c3:=HS1.out.at3; clear hE1)
    | (go_at_call 118; with_reducible refine (KA.out _ HE1.out (by trivial)).mono ?_; rintro e w2 ⟨rfl,rfl⟩)
    | ((with_reducible refine zaa 13 ?_); refine zaf rfl 49 _ rfl g rfl 49 (svC s (.slice AE n cE) (.slice AX m cX)) (0,0) _ HS1.out Tryz.underlying49 rfl (iSv _ _ _) ?_)
    | (go_at_call 119; with_reducible refine (KW.out _ HE1.out (by trivial)).mono ?_; rintro e w3 ⟨rfl,hE3⟩))
   go_ret
   exact ⟨rfl,HE1.out⟩
  | false =>
   go_wp2_with (first
    | ((with_reducible refine zaa 5 ?_); refine wpList_load_row rfl 49 _ rfl g rfl 49 (svC s (.slice AE n cE) (.slice AX m cX)) (0,0) _ HS.out Tryz.underlying49 rfl (iSv s _ _) ?_)
    | (go_at_call 45; with_reducible refine (KM.out _ HE.out).mono ?_; rintro e w1 ⟨rfl,hE1⟩; have HE1:=veil (HE.out.trans hE1); have HS1 : Hid (SvAt w1 g s (.slice AE n cE) (.slice AX m cX)):=veil (HS.out.ext hE1); have c3:=HS1.out.at3; clear hE1)
    | (go_at_call 118; with_reducible refine (KA.out _ HE1.out (by trivial)).mono ?_; rintro e w2 ⟨rfl,rfl⟩)
    | ((with_reducible refine zaa 13 ?_); refine zaf rfl 49 _ rfl g rfl 49 (svC s (.slice AE n cE) (.slice AX m cX)) (0,0) _ HS1.out Tryz.underlying49 rfl (iSv _ _ _) ?_)
    | (go_at_call 119; with_reducible refine (KW.out _ HE1.out (by trivial)).mono ?_; rintro e w3 ⟨rfl,hE3⟩))
   go_ret
   exact ⟨rfl,HE1.out.trans hE3⟩
theorem wpl_midG14 {P : Program} {ops : Array Oper} {rest : List Oper} {op : Oper} {a : Act} {w : World} {Q : Exit → Act → World → Prop} (hgd : Region.wanted op (yielded ops a.tmps) = true) (ty : TypeId) (x : Operand) (ho : op.op = .load ty x)
  (b o : Nat) (hx : a.eval x = .pointer (some ⟨b,o,none⟩)) (cs : List Value) (d : TypeDesc) (hc : w.rangeAt b o cs)
  (hu : P.underlying ty = some d) (hd : d.isRow = true) (hi : (P.info? ty).map (·.size) = some cs.length)
  (h : wpList P ops Q rest (a.put op.dst (.agg cs.toArray)) w) : wpList P ops Q (op :: rest) a w :=
 wpList_step fun K hK => by
  rw [if_pos hgd]
  exact wp_load_mid ty x ho b o hx cs d hc hu hd hi (hK _ _ h)
theorem pwA_one {w : World} {x : Pw} (h1 : Ds w x.2.1 x.1.sv.ex) (h2 : Ds w x.2.2 x.1.sv.ec) : (pwC x).toArray.all (·.oneCell') = true:=by
 obtain ⟨A,c,e,_,_⟩:=h1
 obtain ⟨A',c',e',_,_⟩:=h2
 unfold pwC
 rw [e,e']
 simp [Value.oneCell']
theorem iPwA (x : Pw) : (Tryz.prog.info? 51).map (·.size) = some (pwC x).toArray.size:=iPw x
theorem hzPw (W : World) : (Instr.alloc 51 true (.tuple #[])).run Tryz.prog W = .ok (ptrTo W.heap.size) (W.alloc (.cells #[.int .i64 0,.int .i64 0,.int .i64 0,.int .i64 0,.int .i64 0,.slice none 0 0,.slice none 0 0] 51)):=by simp [Instr.alloc,go_sem]
def PwAt (w : World) (g : Nat) (x : Pw) : Prop:=w.heap[g]? = some (.cells (pwC x).toArray 51 (0,0))
theorem PwAt.ext {w w' : World} {g : Nat} {x : Pw} (h : PwAt w g x) (k : Ext w w') : PwAt w' g x:=k.block h
theorem PwAt.at0 {w : World} {g : Nat} {x : Pw} (h : PwAt w g x) : w.cell? ⟨g,0,none⟩ = some (.int .i64 x.1.id):=cell_of_row w g 0 _ _ _ h
theorem PwAt.at1 {w : World} {g : Nat} {x : Pw} (h : PwAt w g x) : w.cell? ⟨g,1,none⟩ = some (.int .i64 x.1.mi):=cell_of_row w g 1 _ _ _ h
theorem PwAt.sv {w : World} {g : Nat} {x : Pw} (h : PwAt w g x) : w.rangeAt g 2 (pwS x):=by
 have hr : w.rangeAt g 0 (pwC x):=fun j v hj => by
  rw [Nat.zero_add,cell_of_row w g j _ _ _ h]
  simpa using hj
 exact pwS_range hr
theorem PwAt.new (w : World) (x : Pw) : PwAt (w.alloc (.cells (pwC x).toArray 51)) w.heap.size x:=zag w _
def mayBeB (x : Pd) : Bool:=(decide (1 ≤ x.mi) && decide (x.mi ≤ 1048576)) && mayV x.sv
theorem mayBe_calls (x : Pw) (w : World) (h1 : Ds w x.2.1 x.1.sv.ex) (h2 : Ds w x.2.2 x.1.sv.ec) (hs : smallP x.1) :
  Calls Tryz.prog 23 #[.agg (pwC x).toArray] w fun e w' => e = .returned (.bool (mayBeB x.1)) ∧ Ext w w':=by
 have hgb:=PwAt.new w x
 have hEW:=Ext.alloc w (.cells (pwC x).toArray 51)
 have KM:=veil (fun W (h : Ext w W) => may12_calls (.agg (pwS x).toArray) x.1.sv W ⟨_,_,rfl,h1.ext h,h2.ext h⟩ (by have:=hs.1; omega) (by have:=hs.2; omega))
 unfold mayBeB
 obtain ⟨M,hM⟩ : ∃ M,M = mayV x.1.sv:=⟨_,rfl⟩
 obtain ⟨mi,hmi⟩ : ∃ m,m = x.1.mi:=⟨_,rfl⟩
 rw [← hM] at KM
 rw [← hM,← hmi]
 obtain ⟨R,hR⟩ : ∃ R,R = ((decide (1 ≤ mi) && decide (mi ≤ 1048576)) && M):=⟨_,rfl⟩
 rw [← hR]
 have HR:=veil hR
 have HMI:=veil hmi
 obtain ⟨y,hy⟩ : ∃ y,y = (pwC x).toArray:=⟨_,rfl⟩
 have HG0:=veil (show (w.alloc (.cells y 51)).heap[w.heap.size]? = some (.cells y 51 (0,0)) from zag w _)
 rw [← hy] at hEW ⊢
 have HYY:=veil hy
 clear hM hmi h1 h2 hs hgb hy hR
 go_enter Tryz.func23,Tryz.ntmps23
 go_upto_region 1 with (fail)
 obtain ⟨g,hg⟩ : ∃ g,g = w.heap.size:=⟨_,rfl⟩
 rw [← hg] at HG0 ⊢
 have HE:=veil hEW
 clear hEW
 generalize w.alloc (.cells y 51) = w0 at *
 have HP : Hid (PwAt w0 g x):=veil (by have h:=HG0.out; rw [HYY.out] at h; exact h)
 have c1:=HP.out.at1
 rw [← HMI.out] at c1
 have HS:=veil HP.out.sv
 clear hg HG0 HYY
 by_cases g0 : 1 ≤ mi
 rotate_left
 ·
  have f0 : decide (1 ≤ mi) = false:=decide_eq_false g0
  obtain rfl : R = false:=by rw [HR.out,f0]; rfl
  clear g0
  go_wp2
  go_ret
  exact ⟨rfl,HE.out⟩
 have f0 : decide (1 ≤ mi) = true:=decide_eq_true g0
 by_cases g1 : mi ≤ 1048576
 rotate_left
 ·
  have f1 : decide (mi ≤ 1048576) = false:=decide_eq_false g1
  obtain rfl : R = false:=by rw [HR.out,f0,f1]; rfl
  clear g0 g1
  go_wp2
  go_ret
  exact ⟨rfl,HE.out⟩
 have f1 : decide (mi ≤ 1048576) = true:=decide_eq_true g1
 obtain rfl : R = M:=by rw [HR.out,f0,f1]; rfl
 clear g0 g1
 go_wp2_with (first
  | ((with_reducible refine zaa 13 ?_); refine wpl_midG14 rfl 49 _ rfl g 2 rfl (pwS x) _ HS.out Tryz.underlying49 rfl (iPwS x) ?_)
  | (go_at_call 45; refine (KM.out _ HE.out).mono ?_; rintro e w1 ⟨rfl,hE1⟩))
 go_ret
 exact ⟨rfl,HE.out.trans hE1⟩
theorem zcz (z a : Int) (w : World) : Calls Tryz.prog 25 #[.int .i64 z,.int .i64 a] w fun e w' => e = .returned (.bool (placeB z a)) ∧ w' = w:=by
 obtain ⟨R,hR⟩ : ∃ R,R = placeB z a:=⟨_,rfl⟩
 rw [← hR]
 have hn : ∀ h : ¬ (0 ≤ z ∧ z ≤ 7 ∧ 0 ≤ a ∧ a ≤ 1073741824),R = false:=fun h => hR.trans (decide_eq_false h)
 have hy : ∀ h : (0 ≤ z ∧ z ≤ 7 ∧ 0 ≤ a ∧ a ≤ 1073741824),R = true:=fun h => hR.trans (decide_eq_true h)
 have HN:=veil (And.intro hn hy)
 clear hR hn hy
 by_cases g0 : 0 ≤ z
 rotate_left
 ·
  have d0 : decide (0 ≤ z) = false:=decide_eq_false g0
  obtain rfl : R = false:=HN.out.1 (by omega)
  go_enter Tryz.func25,Tryz.ntmps25
  go_wp2
  go_ret
  exact ⟨rfl,rfl⟩
 have d0 : decide (0 ≤ z) = true:=decide_eq_true g0
 by_cases g1 : z < 8
 rotate_left
 ·
  have d1 : decide (z < 8) = false:=decide_eq_false g1
  obtain rfl : R = false:=HN.out.1 (by omega)
  go_enter Tryz.func25,Tryz.ntmps25
  go_wp2
  go_ret
  exact ⟨rfl,rfl⟩
 have d1 : decide (z < 8) = true:=decide_eq_true g1
 by_cases g2 : 0 ≤ a
 rotate_left
 ·
  have d2 : decide (0 ≤ a) = false:=decide_eq_false g2
  obtain rfl : R = false:=HN.out.1 (by omega)
  go_enter Tryz.func25,Tryz.ntmps25
  go_wp2
  go_ret
  exact ⟨rfl,rfl⟩
 have d2 : decide (0 ≤ a) = true:=decide_eq_true g2
 have d3 : decide (a ≤ 1073741824) = R:=by
  by_cases g3 : a ≤ 1073741824
  ·
   rw [decide_eq_true g3,HN.out.2 (by omega)]
  ·
   rw [decide_eq_false g3,HN.out.1 (by omega)]
 clear g0 g1 g2
 go_enter Tryz.func25,Tryz.ntmps25
 go_wp2
 go_ret
 exact ⟨rfl,rfl⟩
def prevId (l : List Pd) (i : Nat) : Int:=if i = 0 then 0 else (l.getD (i - 1) noPd).id
theorem prevId_succ (l : List Pd) (i : Nat) : prevId l (i + 1) = (l.getD i noPd).id:=by
 unfold prevId
 rw [if_neg (Nat.succ_ne_zero i),Nat.add_sub_cancel]
theorem okP_ids {l : List Pd} {n : Nat} (h : ∀ j,j < n → okP l j) : ∀ j,j < n → (j : Int) + 1 ≤ (l.getD j noPd).id:=by
 intro j
 induction j with
 | zero => intro hj; have:=(h 0 hj).1; omega
 | succ j ih =>
  intro hj
  have h1:=ih (by omega)
  have h2:=(h (j + 1) hj).2.2.1 (by omega)
  rw [Nat.add_sub_cancel] at h2
  omega
theorem okP_16 {l : List Pd} {n : Nat} (h : ∀ j,j < n → okP l j) : n ≤ 16:=by
 rcases Nat.eq_zero_or_pos n with e | e
 ·
  omega
 ·
  have h1:=okP_ids h (n - 1) (by omega)
  have h2:=(h (n - 1) (by omega)).2.1
  omega
theorem okP_mk {l : List Pd} {i : Nat} {x : Pd} (hx : l.getD i noPd = x) (h : ∀ j,j < i → okP l j) (h1 : prevId l i < x.id) (h2 : x.id ≤ 16) (h3 : mayBeB x = true) : okP l i:=by
 unfold mayBeB at h3
 simp only [Bool.and_eq_true,decide_eq_true_eq] at h3
 unfold okP
 rw [hx]
 refine ⟨?_,h2,fun h0 => ?_,h3.1.1,h3.1.2,h3.2⟩
 ·
  unfold prevId at h1
  split at h1
  ·
   omega
  ·
   have:=(h (i - 1) (by omega)).1
   omega
 ·
  unfold prevId at h1
  rwa [if_neg (by omega)] at h1
theorem okP_prev {l : List Pd} {i : Nat} {x : Pd} (hx : l.getD i noPd = x) (h : okP l i) : prevId l i < x.id:=by
 unfold okP at h
 rw [hx] at h
 unfold prevId
 split
 ·
  omega
 ·
  exact h.2.2.1 (by omega)
theorem okP_be {l : List Pd} {i : Nat} {x : Pd} (hx : l.getD i noPd = x) (h : okP l i) : mayBeB x = true:=by
 unfold okP at h
 rw [hx] at h
 unfold mayBeB
 rw [decide_eq_true h.2.2.2.1,decide_eq_true h.2.2.2.2.1,h.2.2.2.2.2]
 rfl
theorem zck (v : Value) (l : List Pw) (w : World) (hF : Ps14 w v l) (hL : fewP (pds l) = true) : Calls Tryz.prog 10 #[v] w fun e w' => e = .returned (.bool (mayP (pds l))) ∧ Ext w w':=by
 obtain ⟨⟨AL,c,rfl,hc,hx⟩,hD⟩:=hF
 obtain ⟨R,hR⟩ : ∃ R,R = mayP (pds l):=⟨_,rfl⟩
 rw [← hR]
 have h60:=fewP_60 hL
 rw [zbm] at h60
 obtain ⟨n,hn⟩ : ∃ n,n = l.length:=⟨_,rfl⟩
 rw [← hn] at hx hc h60 ⊢
 have HX:=veil (And.intro hx hD)
 have HR:=veil (And.intro hR (And.intro hn (And.intro (hn.trans (zbm l).symm) hL)))
 clear hR hx hn hL hD
 go_enter Tryz.func10,Tryz.ntmps10
 go_wp2
 go_loopw [3,8] (fun u v wr => ∃ i : Nat,i ≤ n ∧ v = .int .i64 (i : Int) ∧ u = .int .i64 (prevId (pds l) i) ∧ (∀ j,j < i → okP (pds l) j) ∧ Ext w wr)
  (fun _ v _ => n - (intOf v).toNat)
 case atStart => exact ⟨0,by omega,rfl,rfl,fun j hj => by omega,Ext.refl _⟩
 case round =>
  obtain ⟨i,hi,rfl,rfl,hall,hE⟩:=hrel
  by_cases hlt : i < n
  ·
   have hd1 : decide ((i : Int) < (n : Int)) = true:=by simp; omega
   have hii : (i : Int) < (n : Int):=by omega
   obtain ⟨b,o,hAL,hb,hcl⟩:=HX.out.1.resolve_left (by omega)
   have hil : i < l.length:=by have:=HR.out.2.1; omega
   have hrg:=zah hE hb (hcl i _ (zch hil))
   have hdd:=HX.out.2 _ (pw_mem hil)
   have hs:=pds_at l i
   have hfew:=fewP_at HR.out.2.2.2 (i:=i) (by have:=HR.out.2.2.1; omega)
   rw [hs] at hfew
   obtain ⟨x,hxx⟩ : ∃ x,x = l.getD i noPw:=⟨_,rfl⟩
   rw [← hxx] at hrg hdd hs hfew
   have KM:=veil (fun W (h : Ext wr W) => mayBe_calls x W (hdd.1.ext (hE.trans h)) (hdd.2.ext (hE.trans h)) hfew)
   obtain ⟨M,hM⟩ : ∃ M,M = mayBeB x.1:=⟨_,rfl⟩
   obtain ⟨id,hid⟩ : ∃ z,z = x.1.id:=⟨_,rfl⟩
   obtain ⟨p,hp⟩ : ∃ z,z = prevId (pds l) i:=⟨_,rfl⟩
   rw [← hM] at KM
   rw [← hp]
   have hno : ∀ h : ¬ okP (pds l) i,R = false:=fun h => HR.out.1.trans (mayP_no (by have:=HR.out.2.2.1; omega) h)
   have HV:=veil (And.intro hno (And.intro hs (And.intro hM (And.intro hid (And.intro hp (And.intro hall hE))))))
   have HG:=veil hrg
   subst hAL
   clear hrg hxx hs hM hp hall hno hE hb hcl hil hfew
   obtain ⟨y,hy⟩ : ∃ y,y = (pwC x).toArray:=⟨_,rfl⟩
   have hy1 : y.all (·.oneCell') = true:=by rw [hy]; exact pwA_one hdd.1 hdd.2
   have hy7 : 7 = y.size:=by rw [hy]; rfl
   have iy : (Tryz.prog.info? 51).map (·.size) = some y.size:=by rw [hy]; exact iPwA x
   have HGy:=veil (show wr.rangeAt b (o + i * 7) y.toList by rw [hy]; exact HG.out)
   have hy0 : ∀ (W : World) (g : Nat),W.heap[g]? = some (.cells y 51 (0,0)) → W.cell? ⟨g,0,none⟩ = some (.int .i64 id):=fun W g h => by
    rw [hid]
    rw [hy] at h
    exact PwAt.at0 (x:=x) h
   rw [← hy] at KM
   have HY:=veil (And.intro hy1 (And.intro iy (And.intro hy7 hy0)))
   clear hy hy1 iy HG hy7 hy0 hdd hid
   go_upto_region 5 with (first
    | ((with_reducible refine zaa 11 ?_); refine wpList_load_mid rfl 51 _ rfl b _ rfl y.toList _ HGy.out Tryz.underlying51 rfl HY.out.2.1 ?_)
    | ((with_reducible refine zaa 5 ?_); refine zcr _ _ rfl rfl rfl rfl rfl rfl hzPw (fun _ => rfl) (fun _ => rfl) HY.out.2.1 HY.out.2.2.1 HY.out.1 ?_; intro gf W hgf hW hEW))
   have c0:=HY.out.2.2.2 _ _ hW
   have HGB:=veil hW
   have HEW:=veil hEW
   clear hW hEW HGy hgf
   by_cases a0 : id ≤ p
   ·
    have da0 : decide (id ≤ p) = true:=decide_eq_true a0
    obtain rfl : R = false:=HV.out.1 fun h => by
     have h1:=okP_prev HV.out.2.1 h
     have:=HV.out.2.2.2.1; have:=HV.out.2.2.2.2.1; omega
    clear a0
    go_wp2
    go_ret
    exact ⟨rfl,HV.out.2.2.2.2.2.2.trans HEW.out⟩
   have da0 : decide (id ≤ p) = false:=decide_eq_false a0
   by_cases a1 : (16 : Int) < id
   ·
    have da1 : decide ((16 : Int) < id) = true:=decide_eq_true a1
    obtain rfl : R = false:=HV.out.1 fun h => by
     unfold okP at h; rw [HV.out.2.1] at h
     have:=h.2.1; have:=HV.out.2.2.2.1; omega
    clear a0 a1
    go_wp2
    go_ret
    exact ⟨rfl,HV.out.2.2.2.2.2.2.trans HEW.out⟩
   have da1 : decide ((16 : Int) < id) = false:=decide_eq_false a1
   cases M with
   | false =>
    obtain rfl : R = false:=HV.out.1 fun h => by
     have h1:=okP_be HV.out.2.1 h
     rw [← HV.out.2.2.1] at h1; cases h1
    clear a0 a1
    go_wp2_with (first
     | ((with_reducible refine zaa 22 ?_); refine zaf rfl 51 _ rfl gf rfl 51 y (0,0) _ HGB.out Tryz.underlying51 rfl HY.out.2.1 ?_)
     | (go_at_call 23; refine (KM.out _ HEW.out).mono ?_; rintro e w1 ⟨rfl,hE1⟩))
    go_ret
    exact ⟨rfl,HV.out.2.2.2.2.2.2.trans (HEW.out.trans hE1)⟩
   | true =>
    have HO:=veil (okP_mk HV.out.2.1 HV.out.2.2.2.2.2.1 (by have:=HV.out.2.2.2.1; have:=HV.out.2.2.2.2.1; omega) (by have:=HV.out.2.2.2.1; omega) HV.out.2.2.1.symm)
    clear a0 a1
    go_upto_region 7 with (first
     | ((with_reducible refine zaa 22 ?_); refine zaf rfl 51 _ rfl gf rfl 51 y (0,0) _ HGB.out Tryz.underlying51 rfl HY.out.2.1 ?_)
     | (go_at_call 23; refine (KM.out _ HEW.out).mono ?_; rintro e w1 ⟨rfl,hE1⟩))
    have HGB1:=veil (hE1.block HGB.out)
    have c1:=HY.out.2.2.2 _ _ HGB1.out
    have HE1:=veil (HEW.out.trans hE1)
    clear hE1 c0
    go_wp2
    go_roundw
    case rel =>
     refine ⟨i + 1,by omega,by go_num,by rw [prevId_succ,HV.out.2.1,← HV.out.2.2.2.1],fun j hj => ?_,HV.out.2.2.2.2.2.2.trans HE1.out⟩
     by_cases e : j = i
     ·
      subst e; exact HO.out
     ·
      exact HV.out.2.2.2.2.2.1 j (by omega)
    case measure => simp [intOf]; omega
  ·
   obtain rfl : i = n:=by omega
   have hd1 : decide ((i : Int) < (i : Int)) = false:=by simp
   obtain rfl : R = true:=by
    have hall' : ∀ j,j < (pds l).length → okP (pds l) j:=fun j hj => hall j (by have:=HR.out.2.2.1; omega)
    exact HR.out.1.trans ((mayP_len hall').trans (decide_eq_true (by have:=okP_16 hall'; omega)))
   clear hall
   go_wp2
   go_ret
   exact ⟨rfl,hE⟩
theorem zay (n l m : Int) (w : World) : Calls Tryz.prog 46 #[.int .i64 n,.int .i64 l,.int .i64 m] w fun e w' => e = .returned (.bool (decide (l ≤ n) && decide (n ≤ m))) ∧ w' = w:=by
 by_cases g0 : l ≤ n
 ·
  have d0 : decide (l ≤ n) = true:=decide_eq_true g0
  by_cases g1 : n ≤ m
  ·
   have d1 : decide (n ≤ m) = true:=decide_eq_true g1
   rw [show (decide (l ≤ n) && decide (n ≤ m)) = true by rw [d0,d1]; rfl]
   go_enter Tryz.func46,Tryz.ntmps46
   go_wp2
   go_ret
   exact ⟨rfl,rfl⟩
  ·
   have d1 : decide (n ≤ m) = false:=decide_eq_false g1
   rw [show (decide (l ≤ n) && decide (n ≤ m)) = false by rw [d0,d1]; rfl]
   go_enter Tryz.func46,Tryz.ntmps46
   go_wp2
   go_ret
   exact ⟨rfl,rfl⟩
 ·
  have d0 : decide (l ≤ n) = false:=decide_eq_false g0
  rw [show (decide (l ≤ n) && decide (n ≤ m)) = false by rw [d0]; rfl]
  go_enter Tryz.func46,Tryz.ntmps46
  go_wp2
  go_ret
  exact ⟨rfl,rfl⟩
theorem mayT_and (t : Tk) : mayT t = (((((decide (1 ≤ t.s) && decide (t.s ≤ 2147483647)) && (decide (1 ≤ t.p) && decide (t.p ≤ 16))) && (decide (1 ≤ t.z) && decide (t.z ≤ 255))) && (decide (0 ≤ t.f) && decide (t.f ≤ 1073741824))) && (decide (1 ≤ t.k) && decide (t.k ≤ 2147483647))):=by
 unfold mayT
 simp only [Bool.decide_and,Bool.and_assoc]
theorem may9_calls (t : Tk) (w : World) : Calls Tryz.prog 24 #[tkV t] w fun e w' => e = .returned (.bool (mayT t)) ∧ Ext w w':=by
 rw [mayT_and]
 obtain ⟨s,p,z,f,k⟩:=t
 unfold tkV tkC
 have K1:=fun W => zay s 1 2147483647 W
 have K2:=fun W => zay p 1 16 W
 have K3:=fun W => zay z 1 255 W
 have K4:=fun W => zay f 0 1073741824 W
 have K5:=fun W => zay k 1 2147483647 W
 simp only []
 generalize (decide (1 ≤ s) && decide (s ≤ 2147483647)) = b1 at *
 generalize (decide (1 ≤ p) && decide (p ≤ 16)) = b2 at *
 generalize (decide (1 ≤ z) && decide (z ≤ 255)) = b3 at *
 generalize (decide (0 ≤ f) && decide (f ≤ 1073741824)) = b4 at *
 generalize (decide (1 ≤ k) && decide (k ≤ 2147483647)) = b5 at *
 have H:=veil (And.intro K1 (And.intro K2 (And.intro K3 (And.intro K4 K5))))
 have HE:=veil (Ext.alloc w (.cells #[.int .i64 s,.int .i64 p,.int .i64 z,.int .i64 f,.int .i64 k] 24))
 clear K1 K2 K3 K4 K5
 cases b1 with
 | false =>
  simp only [Bool.false_and]
  go_enter Tryz.func24,Tryz.ntmps24
  go_wp2_with (go_at_call 46; refine (H.out.1 _).mono ?_; rintro e w1 ⟨rfl,rfl⟩)
  go_ret
  exact ⟨rfl,HE.out⟩
 | true =>
  cases b2 with
  | false =>
   simp only [Bool.and_false,Bool.false_and]
   go_enter Tryz.func24,Tryz.ntmps24
   go_wp2_with (go_at_call 46; first
    | (with_reducible refine (H.out.1 _).mono ?_; rintro e w1 ⟨rfl,rfl⟩)
    | (with_reducible refine (H.out.2.1 _).mono ?_; rintro e w1 ⟨rfl,rfl⟩))
   go_ret
   exact ⟨rfl,HE.out⟩
  | true =>
   cases b3 with
   | false =>
    simp only [Bool.and_false,Bool.false_and]
    go_enter Tryz.func24,Tryz.ntmps24
    go_wp2_with (go_at_call 46; first
     | (with_reducible refine (H.out.1 _).mono ?_; rintro e w1 ⟨rfl,rfl⟩)
     | (with_reducible refine (H.out.2.1 _).mono ?_; rintro e w1 ⟨rfl,rfl⟩)
     | (with_reducible refine (H.out.2.2.1 _).mono ?_; rintro e w1 ⟨rfl,rfl⟩))
    go_ret
    exact ⟨rfl,HE.out⟩
   | true =>
    cases b4 with
    | false =>
     simp only [Bool.and_false,Bool.false_and]
     go_enter Tryz.func24,Tryz.ntmps24
     go_wp2_with (go_at_call 46; first
      | (with_reducible refine (H.out.1 _).mono ?_; rintro e w1 ⟨rfl,rfl⟩)
      | (with_reducible refine (H.out.2.1 _).mono ?_; rintro e w1 ⟨rfl,rfl⟩)
      | (with_reducible refine (H.out.2.2.1 _).mono ?_; rintro e w1 ⟨rfl,rfl⟩)
      | (with_reducible refine (H.out.2.2.2.1 _).mono ?_; rintro e w1 ⟨rfl,rfl⟩))
     go_ret
     exact ⟨rfl,HE.out⟩
    | true =>
     simp only [Bool.true_and]
     go_enter Tryz.func24,Tryz.ntmps24
     go_wp2_with (go_at_call 46; first
      | (with_reducible refine (H.out.1 _).mono ?_; rintro e w1 ⟨rfl,rfl⟩)
      | (with_reducible refine (H.out.2.1 _).mono ?_; rintro e w1 ⟨rfl,rfl⟩)
      | (with_reducible refine (H.out.2.2.1 _).mono ?_; rintro e w1 ⟨rfl,rfl⟩)
      | (with_reducible refine (H.out.2.2.2.1 _).mono ?_; rintro e w1 ⟨rfl,rfl⟩)
      | (with_reducible refine (H.out.2.2.2.2 _).mono ?_; rintro e w1 ⟨rfl,rfl⟩))
     go_ret
     exact ⟨rfl,HE.out⟩
end Go.Proofs.YtbfkecfcolcclaaGreatDoor
