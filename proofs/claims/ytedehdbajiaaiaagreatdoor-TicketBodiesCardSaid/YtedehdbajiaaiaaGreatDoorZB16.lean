/-
  Of Mul64 MulMath Q11 Made3 ArgB ArgT FrameN KM TF TG TH TI KN.
-/
import Derived.Lib.SmallJoins
import Derived.ChangeSlices
import Derived.Carry
import Derived.BigFrame
import Derived.ProofKit
import Derived.Deep.Strs
import Derived.Test.YtedehdbajiaaiaaGreatDoorRows
import Derived.WalkKit
import Derived.Laws.IdiomArrays
import Derived.Test.YtedehdbajiaaiaaGreatDoorZB4
import Derived.Test.YtedehdbajiaaiaaGreatDoorZB1
import Derived.Test.YtedehdbajiaaiaaGreatDoorZB14
import Derived.Test.YtedehdbajiaaiaaGreatDoorZB10
import Derived.Test.YtedehdbajiaaiaaGreatDoorZB7
import Derived.Test.YtedehdbajiaaiaaGreatDoorZB2
import Derived.Test.YtedehdbajiaaiaaGreatDoorZB3
set_option maxRecDepth 1000000
set_option maxHeartbeats 20000000
namespace Go.Proofs.YtedehdbajiaaiaaGreatDoor
open Go.RowKit
open Go.Value renaming int → vI
open Go.IntKind renaming u64 → vU
open Go.Act renaming put → aP
open List renaming setIfInBounds_toArray → lA, set_cons_zero → lZ, set_cons_succ → lS
theorem ret_u2 {a b c d : Int} (h : a = b) (h2 : c = d) : Ending.returned (.tuple #[vI vU a,vI vU c]) = .returned (.tuple #[vI vU b,vI vU d]):=by rw [h,h2]
theorem mul64 (x y : Int) (hx : 0 ≤ x) (hx2 : x ≤ 18446744073709551615) (hy : 0 ≤ y) (hy2 : y ≤ 18446744073709551615) (w : World) :
  Calls Tryz.prog 165 #[vI vU x,vI vU y] w fun e w' => e = .returned (.tuple #[vI vU (x * y / 18446744073709551616),vI vU (x * y % 18446744073709551616)]) ∧ w' = w:=by
 have key:=mul64_arith x y hx (by omega) hy (by omega)
 have m1:=and_low32 x hx (by omega)
 have m2:=and_low32 y hy (by omega)
 have K:=veil key
 have M1:=veil m1
 have M2:=veil m2
 clear key m1 m2
 go_enter Tryz.func165,Tryz.ntmps165
 go_wp2
 go_ret2
 refine ⟨ret_u2 ?_ ?_,rfl⟩
 ·
  simp only [M1.out,M2.out,IntKind.wrap_u64]
  rw [and_low32 _ (by omega) (by omega)]
  exact K.out
 ·
  exact IntKind.wrap_u64 _
theorem ma_bound {x y : Int} (hx : 0 ≤ x) (hx2 : x ≤ 18446744073709551615) (hy : 0 ≤ y) (hy2 : y ≤ 18446744073709551615) : 0 ≤ x * y ∧ x * y ≤ 340282366920938463426481119284349108225:=by
 refine ⟨Int.mul_nonneg hx hy,?_⟩
 have:=Int.mul_le_mul hx2 hy2 hy (by omega : (0 : Int) ≤ 18446744073709551615)
 omega
theorem mulAdd_calls (x y u v : Int) (hx : 0 ≤ x) (hx2 : x ≤ 18446744073709551615) (hy : 0 ≤ y) (hy2 : y ≤ 18446744073709551615) (hu : 0 ≤ u) (hu2 : u ≤ 18446744073709551615) (hv : 0 ≤ v) (hv2 : v ≤ 18446744073709551615) (w : World) :
  Calls Tryz.prog 157 #[vI vU x,vI vU y,vI vU u,vI vU v] w fun e w' => e = .returned (.tuple #[vI vU ((x * y + u + v) % 18446744073709551616),vI vU ((x * y + u + v) / 18446744073709551616)]) ∧ w' = w:=by
 obtain ⟨p0,p1⟩:=ma_bound hx hx2 hy hy2
 obtain ⟨P,hP⟩ : ∃ P,P = x * y:=⟨_,rfl⟩
 rw [← hP] at p0 p1 ⊢
 obtain ⟨L,hL⟩ : ∃ L,L = P % 18446744073709551616:=⟨_,rfl⟩
 obtain ⟨Hh,hH⟩ : ∃ Hh,Hh = P / 18446744073709551616:=⟨_,rfl⟩
 obtain ⟨L1,hL1⟩ : ∃ L1,L1 = (L + u + 0) % 18446744073709551616:=⟨_,rfl⟩
 obtain ⟨c1,hc1⟩ : ∃ c1,c1 = (L + u + 0) / 18446744073709551616:=⟨_,rfl⟩
 obtain ⟨L2,hL2⟩ : ∃ L2,L2 = (L1 + v + 0) % 18446744073709551616:=⟨_,rfl⟩
 obtain ⟨c2,hc2⟩ : ∃ c2,c2 = (L1 + v + 0) / 18446744073709551616:=⟨_,rfl⟩
 have h29a:=fun W => add64 L u 0 (by omega) hu (by omega) (by omega) W
 have h29b:=fun W => add64 L1 v 0 (by omega) hv (by omega) (by omega) W
 rw [← hL1,← hc1] at h29a
 rw [← hL2,← hc2] at h29b
 have b1 : 0 ≤ Hh:=by omega
 have b2 : 0 ≤ c1:=by omega
 have b3 : 0 ≤ c2:=by omega
 have b4 : Hh + c1 ≤ 18446744073709551615:=by omega
 have b5 : Hh + c1 + c2 ≤ 18446744073709551615:=by omega
 have e1 : (P + u + v) % 18446744073709551616 = L2:=by omega
 have e2 : (P + u + v) / 18446744073709551616 = Hh + c1 + c2:=by omega
 have hM:=fun W => mul64 x y hx hx2 hy hy2 W
 rw [← hP,← hL,← hH] at hM
 have HM:=veil hM
 have E:=veil (And.intro e1 e2)
 clear hM e1 e2 hP hL hH hL1 hc1 hL2 hc2 p0 p1 hx hx2 hy hy2 hu hu2 hv hv2
 go_enter Tryz.func157,Tryz.ntmps157
 go_wp2_with (go_at_call 165; refine (HM.out _).mono ?_; rintro e w' ⟨rfl,rfl⟩)
 go_ret2
 rw [E.out.1,E.out.2]
 exact ⟨rfl,rfl⟩
end Go.Proofs.YtedehdbajiaaiaaGreatDoor
namespace Go.Proofs.YtedehdbajiaaiaaGreatDoor
def PP (B X Y i : Nat) : Nat:=X % B ^ i * Y
def TT (B X Y i j : Nat) : Nat:=PP B X Y i % B ^ (i + j) + dg B X i * (B ^ i * (Y % B ^ j))
def CC (B X Y i j : Nat) : Nat:=TT B X Y i j / B ^ (i + j)
def UU (B X Y i j m : Nat) : Nat:=if m < i + j then dg B (TT B X Y i j) m else dg B (PP B X Y i) m
theorem UU_start {B : Nat} (X Y i m : Nat) : UU B X Y i 0 m = dg B (PP B X Y i) m:=by
 unfold UU
 split
 ·
  rename_i h
  unfold TT
  simp only [Nat.pow_zero,Nat.mod_one,Nat.mul_zero,Nat.add_zero] at *
  exact zdi _ i m h
 ·
  rfl
theorem CC_start {B : Nat} (hB : 0 < B) (X Y i : Nat) : CC B X Y i 0 = 0:=by
 unfold CC TT
 simp only [Nat.pow_zero,Nat.mod_one,Nat.mul_zero,Nat.add_zero]
 exact Nat.div_eq_of_lt (Nat.mod_lt _ (Nat.pow_pos hB))
theorem TT_lt {B : Nat} (hB : 0 < B) (X Y i j : Nat) : TT B X Y i j < B ^ (i + j) * B:=by
 have hQ : 0 < B ^ (i + j):=Nat.pow_pos hB
 have h1:=Nat.mod_lt (PP B X Y i) hQ
 have h2 : B ^ i * (Y % B ^ j) ≤ B ^ (i + j):=by
  rw [Nat.pow_add]
  exact Nat.mul_le_mul_left _ (Nat.le_of_lt (Nat.mod_lt _ (Nat.pow_pos hB)))
 have h3 : dg B X i * (B ^ i * (Y % B ^ j)) ≤ (B - 1) * B ^ (i + j):=Nat.mul_le_mul (by have:=dg_lt hB X i; omega) h2
 unfold TT
 have h4 : B ^ (i + j) * B = B ^ (i + j) + (B - 1) * B ^ (i + j):=by
  obtain ⟨b,rfl⟩ : ∃ b,B = b + 1:=⟨B - 1,by omega⟩
  rw [Nat.add_sub_cancel,Nat.mul_add,Nat.mul_one,Nat.mul_comm]
  omega
 omega
theorem CC_lt {B : Nat} (hB : 0 < B) (X Y i j : Nat) : CC B X Y i j < B:=by
 unfold CC
 rw [Nat.div_lt_iff_lt_mul (Nat.pow_pos hB),Nat.mul_comm]
 exact TT_lt hB X Y i j
theorem UU_lt {B : Nat} (hB : 0 < B) (X Y i j m : Nat) : UU B X Y i j m < B:=by
 unfold UU
 split <;> exact dg_lt hB _ _
theorem TT_step {B : Nat} (X Y i j : Nat) :
  TT B X Y i (j + 1) = TT B X Y i j % B ^ (i + j) + B ^ (i + j) * (dg B X i * dg B Y j + dg B (PP B X Y i) (i + j) + CC B X Y i j):=by
 have h1 : TT B X Y i (j + 1) = TT B X Y i j + B ^ (i + j) * (dg B (PP B X Y i) (i + j) + dg B X i * dg B Y j):=by
  unfold TT
  rw [show i + (j + 1) = (i + j) + 1 by omega,zcw B (PP B X Y i) (i + j),zcw B Y j,Nat.mul_add (B ^ i),← Nat.mul_assoc (B ^ i),← Nat.pow_add,Nat.mul_add (dg B X i),Nat.mul_add (B ^ (i + j)),
   show dg B X i * (B ^ (i + j) * dg B Y j) = B ^ (i + j) * (dg B X i * dg B Y j) by rw [Nat.mul_left_comm]]
  omega
 have h2 : B ^ (i + j) * CC B X Y i j + TT B X Y i j % B ^ (i + j) = TT B X Y i j:=Nat.div_add_mod _ _
 rw [h1,Nat.mul_add,Nat.mul_add,Nat.mul_add]
 omega
theorem UU_step {B : Nat} (hB : 0 < B) (X Y i j : Nat) : UU B X Y i (j + 1) (i + j) = (dg B X i * dg B Y j + UU B X Y i j (i + j) + CC B X Y i j) % B:=by
 have hu : UU B X Y i j (i + j) = dg B (PP B X Y i) (i + j):=by unfold UU; rw [if_neg (by omega)]
 rw [hu]
 unfold UU
 rw [if_pos (by omega),dg,TT_step,Nat.add_mul_div_left _ _ (Nat.pow_pos hB),Nat.div_eq_of_lt (Nat.mod_lt _ (Nat.pow_pos hB)),Nat.zero_add]
theorem CC_step {B : Nat} (hB : 0 < B) (X Y i j : Nat) : CC B X Y i (j + 1) = (dg B X i * dg B Y j + UU B X Y i j (i + j) + CC B X Y i j) / B:=by
 have hu : UU B X Y i j (i + j) = dg B (PP B X Y i) (i + j):=by unfold UU; rw [if_neg (by omega)]
 rw [hu]
 show TT B X Y i (j + 1) / B ^ (i + (j + 1)) = _
 rw [show i + (j + 1) = (i + j) + 1 by omega,Nat.pow_succ,← Nat.div_div_eq_div_mul,TT_step,Nat.add_mul_div_left _ _ (Nat.pow_pos hB),Nat.div_eq_of_lt (Nat.mod_lt _ (Nat.pow_pos hB)),Nat.zero_add]
theorem UU_other {B : Nat} (X Y i j m : Nat) (hm : m ≠ i + j) : UU B X Y i (j + 1) m = UU B X Y i j m:=by
 unfold UU
 by_cases h : m < i + j
 ·
  rw [if_pos (by omega),if_pos h,← zdi _ (i + j) m h,TT_step,Nat.add_mul_mod_self_left,Nat.mod_mod,zdi _ (i + j) m h]
 ·
  rw [if_neg (by omega),if_neg h]
theorem PP_lt {B : Nat} (hB : 0 < B) (X Y i n : Nat) (hY : Y < B ^ n) : PP B X Y i < B ^ (i + n):=by
 have h1 : X % B ^ i < B ^ i:=Nat.mod_lt _ (Nat.pow_pos hB)
 unfold PP
 rw [Nat.pow_add]
 exact Nat.mul_lt_mul_of_lt_of_le h1 (Nat.le_of_lt hY) (by omega)
theorem PP_step {B : Nat} (hB : 0 < B) (X Y i n : Nat) (hY : Y < B ^ n) : PP B X Y (i + 1) = TT B X Y i n:=by
 unfold TT
 rw [Nat.mod_eq_of_lt (PP_lt hB X Y i n hY),Nat.mod_eq_of_lt hY]
 unfold PP
 rw [zcw,Nat.add_mul,Nat.mul_comm (B ^ i) (dg B X i),Nat.mul_assoc]
theorem PP_row {B : Nat} (hB : 0 < B) (X Y i n m : Nat) (hY : Y < B ^ n) : dg B (PP B X Y (i + 1)) m = if m = i + n then CC B X Y i n else UU B X Y i n m:=by
 rw [PP_step hB X Y i n hY]
 by_cases h : m = i + n
 ·
  subst h
  rw [if_pos rfl]
  show CC B X Y i n % B = _
  exact Nat.mod_eq_of_lt (CC_lt hB X Y i n)
 ·
  rw [if_neg h]
  unfold UU
  by_cases h2 : m < i + n
  ·
   rw [if_pos h2]
  ·
   rw [if_neg h2]
   have hle : B ^ (i + n) * B ≤ B ^ m:=by rw [← Nat.pow_succ]; exact Nat.pow_le_pow_right hB (by omega)
   have h3:=TT_lt hB X Y i n
   have h4:=PP_lt hB X Y i n hY
   have h5 : B ^ (i + n) ≤ B ^ (i + n) * B:=Nat.le_mul_of_pos_right _ hB
   unfold dg
   rw [Nat.div_eq_of_lt (by omega),Nat.div_eq_of_lt (by omega)]
theorem PP_zero (B X Y : Nat) : PP B X Y 0 = 0:=by simp [PP,Nat.mod_one]
theorem PP_end {B : Nat} (X Y n : Nat) (hX : X < B ^ n) : PP B X Y n = X * Y:=by unfold PP; rw [Nat.mod_eq_of_lt hX]
theorem dg_zero (B i : Nat) : dg B 0 i = 0:=by simp [dg]
end Go.Proofs.YtedehdbajiaaiaaGreatDoor
namespace Go.Proofs.YtedehdbajiaaiaaGreatDoor
open Go.RowKit
open Go.Value renaming int → vI
open Go.IntKind renaming u64 → vU
open Go.Act renaming put → aP
open List renaming setIfInBounds_toArray → lA, set_cons_zero → lZ, set_cons_succ → lS
def ptB (X Y j : Nat) : Value:=if j < 32 then bsv X j else bsv Y (j - 32)
theorem from_own {w : World} {base e n g c : Nat} {f : Nat → Value} (o : Own w base e (.slice (some ⟨g,0,none⟩) n c) n f) : From w (some ⟨g,0,none⟩) n f:=by
 by_cases h : n = 0
 ·
  exact .inl h
 ·
  obtain ⟨g',c',e,_,_,hp⟩:=o.pre (by omega)
  injection e with e1 _ _
  injection e1 with e2
  injection e2 with e3
  subst e3
  exact .inr ⟨_,rfl,fun j hj => by rw [Addr.add_mid,Nat.zero_add]; exact hp.cell hj⟩
section
variable {P : Program} {ops : Array Oper} {Q : Exit → Act → World → Prop} {md : Region.Mode}
theorem all_cons {p : Nat → Prop} {i : Nat} {rs : List Nat} (h : p i) (k : ∀ j ∈ rs,p j) : ∀ j ∈ i :: rs,p j:=fun j hj => by
 rcases List.mem_cons.1 hj with rfl | hj
 ·
  exact h
 ·
  exact k j hj
section
variable {i : Nat} {o : Oper} {d : Option Tmp} {K : Act → World → Prop} {a : Act} {W : World}
end
/-! ### a piece of the text's order,whatever has come up -/
end
def Lit (A : Nat → Nat → Act) (T : Nat → World → Prop) : Exit → Act → World → Prop:=fun e a W => ∃ g p,e = .normal ∧ a = A g p ∧ T p W
section
variable {P : Program} {Q : Exit → Act → World → Prop} {A : Nat → Nat → Act} {T : Nat → World → Prop}
section
variable {P : Program} {Q : Exit → Act → World → Prop}
end
end
section
variable {P : Program} {Q : Exit → Act → World → Prop} {l : List Oper} {m g : Nat} {A : Act} {w W0 : World} {ty t : TypeId} {zs cells : Array Value} {d de : Tmp} {y : Operand}
end
end Go.Proofs.YtedehdbajiaaiaaGreatDoor
namespace Go.Proofs.YtedehdbajiaaiaaGreatDoor
open Go.ChangeShapes Go.WideShapes Go.RowKit
open Go.Value renaming int → vI
open Go.IntKind renaming u64 → vU
open Go.Act renaming put → aP
open List renaming setIfInBounds_toArray → lA, set_cons_zero → lZ, set_cons_succ → lS
theorem ownT : ownKnob Tryz.prog.godebug = none:=by kernel_rfl
theorem laidOutT : laidOutB Tryz.prog = true:=by kernel_rfl
theorem cellsI1 : Tryz.prog.cellsOf 3 = 1:=by kernel_rfl
end Go.Proofs.YtedehdbajiaaiaaGreatDoor
namespace Go.Proofs.YtedehdbajiaaiaaGreatDoor
open Go.ChangeShapes Go.WideShapes Go.RowKit
open Go.Value renaming int → vI
open Go.IntKind renaming u64 → vU
open Go.Act renaming put → aP
open List renaming setIfInBounds_toArray → lA, set_cons_zero → lZ, set_cons_succ → lS
theorem array5 {cs : Array Value} (h : cs.size = 5) : ∃ c0 c1 c2 c3 c4,cs = #[c0,c1,c2,c3,c4]:=by
 obtain ⟨l⟩:=cs
 match l,h with
 | [c0,c1,c2,c3,c4],_ => exact ⟨c0,c1,c2,c3,c4,rfl⟩
theorem underT : ∃ f0 f1 f2 f3 f4 : Field,Tryz.prog.underlying 23 = some (.struct #[f0,f1,f2,f3,f4]) ∧ (f0.offset = 0 ∧ f1.offset = 1 ∧ f2.offset = 2 ∧ f3.offset = 3 ∧ f4.offset = 4) ∧ f0.type = 3 ∧ f1.type = 3 ∧ f2.type = 3 ∧ f3.type = 3 ∧ f4.type = 3:=⟨_,_,_,_,_,Tryz.underlying23,⟨rfl,rfl,rfl,rfl,rfl⟩,rfl,rfl,rfl,rfl,rfl⟩
theorem cellsK5 : Tryz.prog.cellsOf 23 = 5:=by kernel_rfl
theorem open_tk {H : Type} {enc : TypeId × Value → H} {W : World} {base : Nat} {v : Value} {d : DataW H} {p : List MemPlace} (hv : Value.okWide Tryz.prog W .any base 23 v) (h : DataW.Trod enc Tryz.prog W 0 (fun _ => true) true 23 v d p) : ∃ t : Tk,v = tkV t:=by
 obtain ⟨f0,f1,f2,f3,f4,hu,⟨o0,o1,o2,o3,o4⟩,t0,t1,t2,t3,t4⟩:=underT
 obtain ⟨cs,rfl,hsz⟩:=okWide_struct hu hv
 rw [cellsK5] at hsz
 obtain ⟨c0,c1,c2,c3,c4,rfl⟩:=array5 hsz
 obtain ⟨fuel,hf⟩:=h
 obtain ⟨xs,n,_,hx,hl,hlen,hf⟩:=DataW.trod_struct hu hf
 have each : ∀ (i : Nat) (f : Field) (c : Value),(#[f0,f1,f2,f3,f4] : Array Field)[i]? = some f → f.type = 3 → (((Value.agg #[c0,c1,c2,c3,c4]).cells.toList.drop f.offset).take 1) = [c] → ∃ z,c = .int .i64 z:=by
  intro i f c hi ht hc
  have h1:=hf i f hi
  rw [ht,cellsI1,hc] at h1
  cases hy : xs[i]? with
  | none => exact absurd (List.getElem?_eq_none_iff.1 hy) (Nat.not_le.2 (by rw [hlen]; exact (Array.getElem?_eq_some_iff.1 hi).1))
  | some y =>
   rw [hy] at h1
   obtain ⟨z,h2,_⟩:=DataW.trod_int Tryz.underlying3 (by simpa using h1)
   simp only [List.cons.injEq,and_true] at h2
   exact ⟨z,h2⟩
 obtain ⟨z0,rfl⟩:=each 0 f0 c0 rfl t0 (by rw [o0]; rfl)
 obtain ⟨z1,rfl⟩:=each 1 f1 c1 rfl t1 (by rw [o1]; rfl)
 obtain ⟨z2,rfl⟩:=each 2 f2 c2 rfl t2 (by rw [o2]; rfl)
 obtain ⟨z3,rfl⟩:=each 3 f3 c3 rfl t3 (by rw [o3]; rfl)
 obtain ⟨z4,rfl⟩:=each 4 f4 c4 rfl t4 (by rw [o4]; rfl)
 exact ⟨⟨z0,z1,z2,z3,z4⟩,rfl⟩
end Go.Proofs.YtedehdbajiaaiaaGreatDoor
namespace Go.Proofs.YtedehdbajiaaiaaGreatDoor
open Go.ChangeShapes Go.WideShapes Go.ChangeAt Go.RowKit
open Go.Value renaming int → vI
open Go.IntKind renaming u64 → vU
open Go.Act renaming put → aP
open List renaming setIfInBounds_toArray → lA, set_cons_zero → lZ, set_cons_succ → lS
theorem cellsWord : Tryz.prog.cellsOf 24 = 1:=by kernel_rfl
theorem cellsNum : Tryz.prog.cellsOf 26 = 4:=by kernel_rfl
def numD {H : Type} (X : Nat) : DataW H:=.agg [.lit (.int .u64 (wd X 0)),.lit (.int .u64 (wd X 1)),.lit (.int .u64 (wd X 2)),.lit (.int .u64 (wd X 3))]
theorem wf_u64 {x : Int} (h : (Lit.int .u64 x).wf = true) : 0 ≤ x ∧ x < 18446744073709551616:=by
 simp only [Lit.wf,Bool.and_eq_true,decide_eq_true_eq] at h
 have e1 : IntKind.u64.min = 0:=rfl
 have e2 : IntKind.u64.max = 18446744073709551615:=rfl
 omega
section
variable {H : Type} {enc : TypeId × Value → H}
theorem open_num {W : World} {base : Nat} {v : Value} {d : DataW H} {p : List MemPlace} (hv : Value.okWide Tryz.prog W .any base 26 v) (h : DataW.Trod enc Tryz.prog W 0 (fun _ => true) true 26 v d p) :
  ∃ X,X < top ∧ v = .agg #[vI vU (wd X 0),vI vU (wd X 1),vI vU (wd X 2),vI vU (wd X 3)] ∧ d = numD X ∧ p = []:=by
 obtain ⟨cs,rfl,hsz,_⟩ : ∃ cs,v = .agg cs ∧ cs.size = Tryz.prog.cellsOf 26 ∧ Row.okWide Tryz.prog W .any base 26 cs:=by
  simpa [Value.okWide,Tryz.underlying26] using hv
 rw [cellsNum] at hsz
 obtain ⟨c0,c1,c2,c3,rfl⟩:=Joins.array4 hsz
 obtain ⟨fuel,hf⟩:=h
 obtain ⟨y0,y1,y2,y3,m,hx,hy0,hy1,hy2,hy3⟩:=trod_array4 Tryz.underlying26 cellsWord hf
 obtain ⟨x0,e0,rfl,w0⟩:=DataW.trod_int Tryz.underlying24 hy0
 obtain ⟨x1,e1,rfl,w1⟩:=DataW.trod_int Tryz.underlying24 hy1
 obtain ⟨x2,e2,rfl,w2⟩:=DataW.trod_int Tryz.underlying24 hy2
 obtain ⟨x3,e3,rfl,w3⟩:=DataW.trod_int Tryz.underlying24 hy3
 simp at e0 e1 e2 e3
 subst e0 e1 e2 e3
 simp only [Prod.mk.injEq] at hx
 obtain ⟨rfl,rfl⟩:=hx
 obtain ⟨a0,b0⟩:=wf_u64 w0
 obtain ⟨a1,b1⟩:=wf_u64 w1
 obtain ⟨a2,b2⟩:=wf_u64 w2
 obtain ⟨a3,b3⟩:=wf_u64 w3
 obtain ⟨g0,g1,g2,g3⟩:=wd_ofWords a0 b0 a1 b1 a2 b2 a3 b3
 refine ⟨ofWords x0 x1 x2 x3,ofWords_lt b0 b1 b2 b3,?_,?_,rfl⟩
 ·
  rw [g0,g1,g2,g3]
 ·
  unfold numD
  rw [g0,g1,g2,g3]
end
end Go.Proofs.YtedehdbajiaaiaaGreatDoor
namespace Go.Proofs.YtedehdbajiaaiaaGreatDoor
open Go.RowKit
open Go.Value renaming int → vI
open Go.IntKind renaming u64 → vU
open Go.Act renaming put → aP
open List renaming setIfInBounds_toArray → lA, set_cons_zero → lZ, set_cons_succ → lS
theorem zdz (n l m : Int) (w : World) : Calls Tryz.prog 28 #[.int .i64 n,.int .i64 l,.int .i64 m] w fun e w' => e = .returned (.bool (decide (l ≤ n) && decide (n ≤ m))) ∧ w' = w:=by
 by_cases g0 : l ≤ n
 ·
  have d0 : decide (l ≤ n) = true:=decide_eq_true g0
  by_cases g1 : n ≤ m
  ·
   have d1 : decide (n ≤ m) = true:=decide_eq_true g1
   rw [show (decide (l ≤ n) && decide (n ≤ m)) = true by rw [d0,d1]; rfl]
   go_enter Tryz.func28,Tryz.ntmps28
   go_wp2
   go_ret
   exact ⟨rfl,rfl⟩
  ·
   have d1 : decide (n ≤ m) = false:=decide_eq_false g1
   rw [show (decide (l ≤ n) && decide (n ≤ m)) = false by rw [d0,d1]; rfl]
   go_enter Tryz.func28,Tryz.ntmps28
   go_wp2
   go_ret
   exact ⟨rfl,rfl⟩
 ·
  have d0 : decide (l ≤ n) = false:=decide_eq_false g0
  rw [show (decide (l ≤ n) && decide (n ≤ m)) = false by rw [d0]; rfl]
  go_enter Tryz.func28,Tryz.ntmps28
  go_wp2
  go_ret
  exact ⟨rfl,rfl⟩
theorem mayT_and (t : Tk) : mayT t = (((((decide (1 ≤ t.s) && decide (t.s ≤ 2147483647)) && (decide (1 ≤ t.p) && decide (t.p ≤ 16))) && (decide (1 ≤ t.z) && decide (t.z ≤ 255))) && (decide (0 ≤ t.f) && decide (t.f ≤ 1073741824))) && (decide (1 ≤ t.k) && decide (t.k ≤ 2147483647))):=by
 unfold mayT
 simp only [Bool.decide_and,Bool.and_assoc]
theorem may9_calls (t : Tk) (w : World) : Calls Tryz.prog 10 #[tkV t] w fun e w' => e = .returned (.bool (mayT t)) ∧ Ext w w':=by
 rw [mayT_and]
 obtain ⟨s,p,z,f,k⟩:=t
 unfold tkV tkC
 have K1:=fun W => zdz s 1 2147483647 W
 have K2:=fun W => zdz p 1 16 W
 have K3:=fun W => zdz z 1 255 W
 have K4:=fun W => zdz f 0 1073741824 W
 have K5:=fun W => zdz k 1 2147483647 W
 simp only []
 generalize (decide (1 ≤ s) && decide (s ≤ 2147483647)) = b1 at *
 generalize (decide (1 ≤ p) && decide (p ≤ 16)) = b2 at *
 generalize (decide (1 ≤ z) && decide (z ≤ 255)) = b3 at *
 generalize (decide (0 ≤ f) && decide (f ≤ 1073741824)) = b4 at *
 generalize (decide (1 ≤ k) && decide (k ≤ 2147483647)) = b5 at *
 have H:=veil (And.intro K1 (And.intro K2 (And.intro K3 (And.intro K4 K5))))
 have HE:=veil (Ext.alloc w (.cells #[.int .i64 s,.int .i64 p,.int .i64 z,.int .i64 f,.int .i64 k] 23))
 clear K1 K2 K3 K4 K5
 cases b1 with
 | false =>
  simp only [Bool.false_and]
  go_enter Tryz.func10,Tryz.ntmps10
  go_wp2_with (go_at_call 28; refine (H.out.1 _).mono ?_; rintro e w1 ⟨rfl,rfl⟩)
  go_ret
  exact ⟨rfl,HE.out⟩
 | true =>
  cases b2 with
  | false =>
   simp only [Bool.and_false,Bool.false_and]
   go_enter Tryz.func10,Tryz.ntmps10
   go_wp2_with (go_at_call 28; first
    | (with_reducible refine (H.out.1 _).mono ?_; rintro e w1 ⟨rfl,rfl⟩)
    | (with_reducible refine (H.out.2.1 _).mono ?_; rintro e w1 ⟨rfl,rfl⟩))
   go_ret
   exact ⟨rfl,HE.out⟩
  | true =>
   cases b3 with
   | false =>
    simp only [Bool.and_false,Bool.false_and]
    go_enter Tryz.func10,Tryz.ntmps10
    go_wp2_with (go_at_call 28; first
     | (with_reducible refine (H.out.1 _).mono ?_; rintro e w1 ⟨rfl,rfl⟩)
     | (with_reducible refine (H.out.2.1 _).mono ?_; rintro e w1 ⟨rfl,rfl⟩)
     | (with_reducible refine (H.out.2.2.1 _).mono ?_; rintro e w1 ⟨rfl,rfl⟩))
    go_ret
    exact ⟨rfl,HE.out⟩
   | true =>
    cases b4 with
    | false =>
     simp only [Bool.and_false,Bool.false_and]
     go_enter Tryz.func10,Tryz.ntmps10
     go_wp2_with (go_at_call 28; first
      | (with_reducible refine (H.out.1 _).mono ?_; rintro e w1 ⟨rfl,rfl⟩)
      | (with_reducible refine (H.out.2.1 _).mono ?_; rintro e w1 ⟨rfl,rfl⟩)
      | (with_reducible refine (H.out.2.2.1 _).mono ?_; rintro e w1 ⟨rfl,rfl⟩)
      | (with_reducible refine (H.out.2.2.2.1 _).mono ?_; rintro e w1 ⟨rfl,rfl⟩))
     go_ret
     exact ⟨rfl,HE.out⟩
    | true =>
     simp only [Bool.true_and]
     go_enter Tryz.func10,Tryz.ntmps10
     go_wp2_with (go_at_call 28; first
      | (with_reducible refine (H.out.1 _).mono ?_; rintro e w1 ⟨rfl,rfl⟩)
      | (with_reducible refine (H.out.2.1 _).mono ?_; rintro e w1 ⟨rfl,rfl⟩)
      | (with_reducible refine (H.out.2.2.1 _).mono ?_; rintro e w1 ⟨rfl,rfl⟩)
      | (with_reducible refine (H.out.2.2.2.1 _).mono ?_; rintro e w1 ⟨rfl,rfl⟩)
      | (with_reducible refine (H.out.2.2.2.2 _).mono ?_; rintro e w1 ⟨rfl,rfl⟩))
     go_ret
     exact ⟨rfl,HE.out⟩
theorem rng_fd {w : World} {b o : Nat} {x y : Value} (h0 : w.cell? ⟨b,o,none⟩ = some x) (h1 : w.cell? ⟨b,o + 1,none⟩ = some y) : w.rangeAt b o [x,y]:=fun j v hv => by
 match j,hv with
 | 0,hv => rw [Nat.add_zero,h0]; simpa using hv
 | 1,hv => rw [h1]; simpa using hv
theorem infoF2 : (Tryz.prog.info? 88).map (·.size) = some 2:=by kernel_rfl
theorem hzF (W : World) : (Instr.alloc 88 true (.tuple #[])).run Tryz.prog W = .ok (ptrTo W.heap.size) (W.alloc (.cells #[.int .i64 0,.slice none 0 0] 88)):=by simp [Instr.alloc,go_sem]
theorem zke {w : World} {g : Nat} {x y : Value} (h : w.heap[g]? = some (.cells #[x,y] 88 (0,0))) : w.cell? ⟨g,0,none⟩ = some x ∧ w.cell? ⟨g,1,none⟩ = some y:=⟨by rw [cell_of_row w g 0 _ _ _ h]; rfl,by rw [cell_of_row w g 1 _ _ _ h]; rfl⟩
theorem one_fd {T : Int} {A : Option Addr} {L c : Nat} : (#[.int .i64 T,.slice A L c] : Array Value).all (·.oneCell') = true:=by simp [Value.oneCell']
theorem encF_take_len (fs : List Fd) {i : Nat} (hi : i < fs.length) : (encF (fs.take (i + 1))).length = (encF (fs.take i)).length + (3 + (bsF fs i).length):=by
 rw [encF_take fs hi,List.length_append,zid]
theorem sizeOf_calls (v : Value) (fs : List Fd) (w : World) (hF : Fl w v fs) (hM : mayFs fs = true) :
  Calls Tryz.prog 110 #[v] w fun e w' => e = .returned (.int .i64 ((encF fs).length : Nat)) ∧ Ext w w':=by
 obtain ⟨hB,AL,c,rfl,hc,hx⟩:=hF
 obtain ⟨n,hn⟩ : ∃ n,n = fs.length:=⟨_,rfl⟩
 rw [← hn] at hx hc ⊢
 have HR:=veil (And.intro hn (And.intro hM hB))
 have HX:=veil hx
 have hnL : n ≤ 64:=by rw [hn]; exact zjv hM
 clear hx hB hn hM
 go_enter Tryz.func110,Tryz.ntmps110
 go_wp2
 go_loopw [3,8] (fun s v wr => ∃ i : Nat,i ≤ n ∧ s = .int .i64 ((encF (fs.take i)).length : Nat) ∧ v = .int .i64 (i : Int) ∧ Ext w wr)
  (fun _ v _ => n - (intOf v).toNat)
 case atStart => exact ⟨0,by omega,rfl,rfl,Ext.refl _⟩
 case round =>
  obtain ⟨i,hi,rfl,rfl,hE⟩:=hrel
  by_cases hlt : i < n
  ·
   have hd1 : decide ((i : Int) < (n : Int)) = true:=by simp; omega
   have hii : (i : Int) < (n : Int):=by omega
   have hok:=mayFs_ok HR.out.2.1 (by have:=HR.out.1; omega : i < fs.length)
   have hst:=encF_take_len fs (by have:=HR.out.1; omega : i < fs.length)
   have hle:=zfe HR.out.2.1 i
   obtain ⟨b,o,hAL,hb,hcl⟩:=HX.out.resolve_left (by omega)
   obtain ⟨h1,A,c',h2,h3,h4⟩:=hcl i hlt
   have c0:=(hE.cell hb).trans h1
   have c1:=(hE.cell hb).trans h2
   obtain ⟨S,hS⟩ : ∃ S,S = (encF (fs.take i)).length:=⟨_,rfl⟩
   rw [← hS] at hst hle ⊢
   have hs : (S : Int) ≤ 4194432:=by omega
   have hL1:=hok.2.2.1
   have HS:=veil hst
   clear hcl h1 h2 hok hst hle h3 h4 hS
   generalize tgF fs i = T at *
   obtain ⟨L,hL⟩ : ∃ L,L = (bsF fs i).length:=⟨_,rfl⟩
   rw [← hL] at c1 hL1
   have HL:=veil hL
   clear hL
   have HRG:=veil (rng_fd c0 c1)
   clear c0 c1
   have hL2 : (L : Int) ≤ 65535:=by omega
   subst hAL
   go_upto_region 5 with (first
    | ((with_reducible refine zar 11 ?_); refine wpList_load_mid rfl 88 _ rfl b _ rfl _ _ HRG.out Tryz.underlying88 rfl infoF2 ?_)
    | ((with_reducible refine zar 5 ?_); refine zjm _ _ rfl rfl rfl rfl rfl rfl hzF (fun _ => rfl) (fun _ => rfl) infoF2 rfl one_fd ?_; intro g W hg hW hEW))
   have hEE:=hE.trans hEW
   obtain ⟨d0,d1⟩:=zke hW
   clear hW hEW hE
   go_wp2
   go_roundw
   case rel => exact ⟨i + 1,by omega,by rw [HS.out,← HL.out]; simp,by go_num,hEE⟩
   case measure => simp [intOf]; omega
  ·
   obtain rfl : i = n:=by omega
   have e : encF (fs.take i) = encF fs:=by rw [HR.out.1,List.take_length]
   rw [e]
   go_wp2
   go_ret
   exact ⟨rfl,hE⟩
def szB (bs : List Nat) : Nat:=if bs.length < 3 then 3 else 3 + (256 * bs.getD 1 0 + bs.getD 2 0)
theorem sizeFirst_calls (A : Option Addr) (m c : Nat) (bs : List Nat) (hm : m = bs.length) (w : World) (hS : Bs w A bs) :
  Calls Tryz.prog 127 #[.slice A m c] w fun e w' => e = .returned (.int .i64 (szB bs : Nat)) ∧ Ext w w':=by
 have HS:=veil (And.intro hm hS)
 by_cases h3 : m < 3
 ·
  have hd : decide ((m : Int) < 3) = true:=by simp; omega
  have hs : szB bs = 3:=if_pos (by omega)
  have HZ:=veil hs
  rw [HZ.out]
  clear hm hS hs
  go_enter Tryz.func127,Tryz.ntmps127
  go_wp2
  go_ret
  exact ⟨rfl,Ext.refl _⟩
 ·
  have hd : decide ((m : Int) < 3) = false:=by simp; omega
  obtain ⟨b,o,hA,hbl,c1⟩:=hS.cell (j:=1) (by omega)
  obtain ⟨b',o',hA',_,c2⟩:=hS.cell (j:=2) (by omega)
  obtain ⟨e1,e2⟩ : b' = b ∧ o' = o:=by rw [hA] at hA'; injection hA' with h; injection h with h1 h2; exact ⟨h1.symm,h2.symm⟩
  subst e1 e2
  have l1:=hS.1.getD 1
  have l2:=hS.1.getD 2
  obtain ⟨X,hX⟩ : ∃ X,X = bs.getD 1 0:=⟨_,rfl⟩
  obtain ⟨Y,hY⟩ : ∃ Y,Y = bs.getD 2 0:=⟨_,rfl⟩
  rw [← hX] at c1 l1
  rw [← hY] at c2 l2
  have hs : szB bs = 3 + (256 * X + Y):=by unfold szB; rw [if_neg (by omega),hX,hY]
  have HZ:=veil hs
  rw [HZ.out]
  have k1 : (X : Int) ≤ 255:=by omega
  have k2 : (Y : Int) ≤ 255:=by omega
  have i1 : (1 : Int) < (m : Int):=by omega
  have i2 : (2 : Int) < (m : Int):=by omega
  clear hm hS hs hX hY l1 l2 hA' h3
  subst hA
  go_enter Tryz.func127,Tryz.ntmps127
  go_wp2
  go_quiet (fail)
  go_wp2
  go_ret
  refine ⟨?_,Ext.drewK _ _⟩
  show Ending.returned (.int .i64 (3 + (X : Int) * 256 + (Y : Int))) = _
  rw [show 3 + (X : Int) * 256 + (Y : Int) = ((3 + (256 * X + Y) : Nat) : Int) by omega]
theorem zft (v : Value) (fs : List Fd) (w : World) (hF : Fl w v fs) (hL : fs.length ≤ 1000000000) :
  Calls Tryz.prog 109 #[v] w fun e w' => e = .returned (.bool (mayFs fs)) ∧ Ext w w':=by
 obtain ⟨hB,AL,c,rfl,hc,hx⟩:=hF
 obtain ⟨R,hR⟩ : ∃ R,R = mayFs fs:=⟨_,rfl⟩
 rw [← hR]
 obtain ⟨n,hn⟩ : ∃ n,n = fs.length:=⟨_,rfl⟩
 rw [← hn] at hx hc ⊢
 have HR:=veil (And.intro hR (And.intro hn hL))
 have HX:=veil hx
 have hnL : n ≤ 1000000000:=by omega
 clear hR hx hB hn hL
 by_cases h64 : (64 : Int) < (n : Int)
 ·
  have hd : decide ((64 : Int) < (n : Int)) = true:=decide_eq_true h64
  have e : R = false:=by
   rw [HR.out.1]
   exact decide_eq_false fun hh => by have:=hh.1; have:=HR.out.2.1; omega
  subst e
  go_enter Tryz.func109,Tryz.ntmps109
  go_wp2
  go_ret
  exact ⟨rfl,Ext.refl _⟩
 ·
  have hd : decide ((64 : Int) < (n : Int)) = false:=decide_eq_false h64
  have hn64 : n ≤ 64:=by omega
  clear hnL h64
  go_enter Tryz.func109,Tryz.ntmps109
  go_wp2
  go_loopw [3,11] (fun s v wr => ∃ (i : Nat) (P : Int),i ≤ n ∧ s = .int .i64 P ∧ v = .int .i64 (i : Int) ∧ (∀ j,j < i → okF fs j) ∧ 0 ≤ P ∧ P ≤ 255 ∧ (i = 0 ∧ P = 0 ∨ 0 < i ∧ P = tgF fs (i - 1)) ∧ Ext w wr)
   (fun _ v _ => n - (intOf v).toNat)
  case atStart => exact ⟨0,0,by omega,rfl,rfl,fun j hj => by omega,by omega,by omega,.inl ⟨rfl,rfl⟩,Ext.refl _⟩
  case round =>
   obtain ⟨i,P,hi,rfl,rfl,hall,hP0,hP1,hP,hE⟩:=hrel
   by_cases hlt : i < n
   ·
    have hd1 : decide ((i : Int) < (n : Int)) = true:=by simp; omega
    have hii : (i : Int) < (n : Int):=by omega
    obtain ⟨b,o,hAL,hb,hcl⟩:=HX.out.resolve_left (by omega)
    obtain ⟨h1,A,c',h2,_,_⟩:=hcl i hlt
    have c0:=(hE.cell hb).trans h1
    have c1:=(hE.cell hb).trans h2
    obtain ⟨T,hT⟩ : ∃ T,T = tgF fs i:=⟨_,rfl⟩
    obtain ⟨L,hL⟩ : ∃ L,L = (bsF fs i).length:=⟨_,rfl⟩
    rw [← hT] at c0
    rw [← hL] at c1
    have HT:=veil (And.intro hT (And.intro hL hP))
    have HALL:=veil hall
    have hfalse : ∀ h : ¬ okF fs i,R = false:=fun h => HR.out.1.trans (mayFs_false (by have:=HR.out.2.1; omega) h)
    have HF:=veil hfalse
    have HRG:=veil (rng_fd c0 c1)
    clear h1 h2 hT hL hall hfalse hP c0 c1 hcl
    subst hAL
    go_upto_region 7 with (first
     | ((with_reducible refine zar 14 ?_); refine wpList_load_mid rfl 88 _ rfl b _ rfl _ _ HRG.out Tryz.underlying88 rfl infoF2 ?_)
     | ((with_reducible refine zar 5 ?_); refine zjm _ _ rfl rfl rfl rfl rfl rfl hzF (fun _ => rfl) (fun _ => rfl) infoF2 rfl one_fd ?_; intro g W hg hW hEW))
    have hEE:=hE.trans hEW
    obtain ⟨d0,d1⟩:=zke hW
    clear hW hEW hE
    by_cases g1 : T ≤ P
    ·
     have e : R = false:=HF.out fun h => by
      have h4:=h.2.2.2
      have h1:=h.1
      rw [← HT.out.1] at h1 h4
      rcases HT.out.2.2 with ⟨_,h0⟩ | ⟨h0,h5⟩
      ·
       omega
      ·
       have:=h4 h0; omega
     subst e
     have hd2 : decide (T ≤ P) = true:=decide_eq_true g1
     go_wp2
     go_ret
     exact ⟨rfl,hEE⟩
    ·
     have hd2 : decide (T ≤ P) = false:=decide_eq_false g1
     by_cases g2 : 255 < T
     ·
      have e : R = false:=HF.out fun h => by have:=h.2.1; rw [← HT.out.1] at this; omega
      subst e
      have hd3 : decide (255 < T) = true:=decide_eq_true g2
      go_wp2
      go_ret
      exact ⟨rfl,hEE⟩
     ·
      have hd3 : decide (255 < T) = false:=decide_eq_false g2
      by_cases g3 : (65535 : Int) < (L : Int)
      ·
       have e : R = false:=HF.out fun h => by have:=h.2.2.1; rw [← HT.out.2.1] at this; omega
       subst e
       have hd4 : decide ((65535 : Int) < (L : Int)) = true:=decide_eq_true g3
       go_wp2
       go_ret
       exact ⟨rfl,hEE⟩
      ·
       have hd4 : decide ((65535 : Int) < (L : Int)) = false:=decide_eq_false g3
       go_wp2
       go_roundw
       case rel =>
        refine ⟨i + 1,T,by omega,rfl,by go_num,fun j hj => ?_,by omega,by omega,.inr ⟨by omega,HT.out.1⟩,hEE⟩
        by_cases e : j = i
        ·
         subst e
         refine ⟨by rw [← HT.out.1]; omega,by rw [← HT.out.1]; omega,by rw [← HT.out.2.1]; omega,fun h0 => ?_⟩
         rw [← HT.out.1]
         rcases HT.out.2.2 with ⟨h5,_⟩ | ⟨_,h5⟩ <;> omega
        ·
         exact HALL.out j (by omega)
       case measure => simp [intOf]; omega
   ·
    obtain rfl : i = n:=by omega
    have e : R = true:=by
     rw [HR.out.1,mayFs_len (by rw [← HR.out.2.1]; exact hall),← HR.out.2.1]
     exact decide_eq_true hn64
    subst e
    clear hall
    go_wp2
    go_ret
    exact ⟨rfl,hE⟩
theorem clone8_calls (A : Option Addr) (m c : Nat) (bs : List Nat) (hm : m = bs.length) (hle : m ≤ 1000000000) (w : World) (hS : Bs w A bs) :
  Calls Tryz.prog 128 #[.slice A m c] w fun e w' => ∃ A' c',e = .returned (.slice A' m c') ∧ Ext w w' ∧ m ≤ c' ∧ Bs w' A' bs ∧ Fresh w A' bs:=by
 have HS:=veil (And.intro hm hS)
 rcases A with _ | ad
 ·
  have h0 : m = 0:=by
   rcases hS.2 with h | ⟨_,_,h,_⟩
   ·
    omega
   ·
    cases h
  subst h0
  clear hm hS
  have ke : (binOp .eql 29 (.slice none 0 c) (.slice none 0 0)).run Tryz.prog w = .ok (.bool true) w:=by kernel_rfl
  go_enter Tryz.func128,Tryz.ntmps128
  go_wp2
  go_ret
  exact ⟨none,0,rfl,Ext.refl _,Nat.le_refl _,⟨HS.out.2.1,.inl HS.out.1.symm⟩,.inl HS.out.1.symm⟩
 ·
  have ke : (binOp .eql 29 (.slice (some ad) m c) (.slice none 0 0)).run Tryz.prog w = .ok (.bool false) w:=by kernel_rfl
  clear hm hS
  go_enter Tryz.func128,Tryz.ntmps128
  go_wp2_with ((with_reducible refine zar 7 ?_); refine wpl_append0 rfl rfl rfl rfl (zaz w _) (HS.out.2.ext (Ext.alloc w _)) HS.out.1 hle ?_; intro A' c' w2 hE2 hc' hB' hF')
  go_ret
  exact ⟨A',c',rfl,(Ext.alloc w _).trans hE2,hc',hB',hF'.imp id fun h b o e => Nat.le_trans (Below.size (Ext.alloc w _)) (h b o e)⟩
theorem infoTG : (Tryz.prog.info? 5).map (fun i => (i.zero,i.size,i.bytes)) = some (some (.int .u8 0),1,1):=by kernel_rfl
theorem put_no (v : Value) (fs : List Fd) (w : World) (hF : Fl w v fs) (hL : fs.length ≤ 1000000000) (hM : mayFs fs = false) :
  Calls Tryz.prog 57 #[v] w fun e w' => e = .returned (.tuple #[.slice none 0 0,.iface 35 (.int .i64 1)]) ∧ Ext w w':=by
 have KM:=veil (zft v fs w hF hL)
 rw [hM] at KM
 clear hF hL hM
 go_enter Tryz.func57,Tryz.ntmps57
 go_wp2_with (go_at_call 109; refine KM.out.mono ?_; rintro e w1 ⟨rfl,hE1⟩)
 go_ret2
 exact ⟨rfl,hE1⟩
theorem put_yes (v : Value) (fs : List Fd) (w : World) (hF : Fl w v fs) (hM : mayFs fs = true) :
  Calls Tryz.prog 57 #[v] w fun e w' => ∃ A c,e = .returned (.tuple #[.slice A (encF fs).length c,.nilIface]) ∧ (encF fs).length ≤ c ∧ Bs w' A (encF fs) ∧ Ext w w':=by
 have h64:=zjv hM
 have KM:=veil (zft v fs w hF (by omega))
 rw [hM] at KM
 have HF:=veil hF
 obtain ⟨hB,AL,c,rfl,hc,hx⟩:=hF
 obtain ⟨n,hn⟩ : ∃ n,n = fs.length:=⟨_,rfl⟩
 rw [← hn] at hx hc KM HF ⊢
 have HR:=veil (And.intro hn (And.intro hM hB))
 have HX:=veil hx
 have hnL : n ≤ 64:=by omega
 clear hx hB hn hM h64
 go_enter Tryz.func57,Tryz.ntmps57
 go_upto_region 3 with (go_at_call 109; refine KM.out.mono ?_; rintro e w1 ⟨rfl,hE1⟩)
 have KS:=veil (sizeOf_calls _ fs w1 (HF.out.ext hE1) HR.out.2.1)
 have HE1:=veil hE1
 have hle:=zfe HR.out.2.1 fs.length
 rw [List.take_length] at hle
 obtain ⟨S,hS⟩ : ∃ S,S = (encF fs).length:=⟨_,rfl⟩
 rw [← hS] at KS hle
 obtain ⟨i8,hi8,hz0,hz1,hz2⟩:=info_parts infoTG
 have HI:=veil (And.intro hi8 (And.intro hz0 (And.intro hz1 hz2)))
 clear hE1 KM hi8 hz0 hz1 hz2 hS
 go_upto_region 4 with (first
  | (go_at_call 110; refine KS.out.mono ?_; rintro e w2 ⟨rfl,hE2⟩)
  | ((with_reducible refine zar 14 ?_); refine wpList_make_own _ rfl _ _ 29 rfl w.heap.size 5 i8 (.int .u8 0) 1 Tryz.underlying29 HI.out.1 HI.out.2.1 HI.out.2.2.1 .i64 .i64 _ S rfl rfl rfl (by rw [HI.out.2.2.2]; omega) (by unfold maxLen; omega) (Below.size (HE1.out.trans hE2)) ?_; intro w3 hO3 hG3))
 have hE3 : Ext w w3:=(HE1.out.trans hE2).grown hG3 (Below.size (HE1.out.trans hE2)) fun k hk => by cases hk
 have hO : OwnB w3 w.heap.size (.slice (some ⟨w2.heap.size,0,none⟩) 0 S) []:=⟨(fun _ h => by cases h),hO3⟩
 clear hO3 hG3 hE2
 go_wp2
 go_loopw [4,17] (fun s v wr => ∃ i : Nat,i ≤ n ∧ OwnB wr w.heap.size s (encF (fs.take i)) ∧ v = .int .i64 (i : Int) ∧ Ext w wr)
  (fun _ v _ => n - (intOf v).toNat)
 case atStart => exact ⟨0,by omega,hO,rfl,hE3⟩
 case round =>
  obtain ⟨i,hi,hO,rfl,hE⟩:=hrel
  by_cases hlt : i < n
  ·
   have hd1 : decide ((i : Int) < (n : Int)) = true:=by simp; omega
   have hii : (i : Int) < (n : Int):=by omega
   have hok:=mayFs_ok HR.out.2.1 (by have:=HR.out.1; omega : i < fs.length)
   have hst:=encF_take fs (by have:=HR.out.1; omega : i < fs.length)
   have hle:=zfe HR.out.2.1 i
   obtain ⟨b,o,hAL,hb,hcl⟩:=HX.out.resolve_left (by omega)
   obtain ⟨h1,A,c',h2,h3,h4⟩:=hcl i hlt
   have c0:=(hE.cell hb).trans h1
   have c1:=(hE.cell hb).trans h2
   have hBS:=h4
   have hT1:=hok.1
   have hT2:=hok.2.1
   have hL1:=hok.2.2.1
   have HS:=veil (And.intro hst (And.intro hle hO))
   clear hcl h1 h2 hok hst hle h4 hO
   generalize tgF fs i = T at *
   generalize bsF fs i = D0 at *
   obtain ⟨L,hL⟩ : ∃ L,L = D0.length:=⟨_,rfl⟩
   rw [← hL] at c1 hL1 h3
   have HD:=veil (And.intro hL hBS)
   have HRG:=veil (rng_fd c0 c1)
   clear c0 c1 hL hBS
   have hL2 : (L : Int) ≤ 65535:=by omega
   subst hAL
   go_upto_region 7 with (first
    | ((with_reducible refine zar 20 ?_); refine wpList_load_mid rfl 88 _ rfl b _ rfl _ _ HRG.out Tryz.underlying88 rfl infoF2 ?_)
    | ((with_reducible refine zar 6 ?_); refine zjm _ _ rfl rfl rfl rfl rfl rfl hzF (fun _ => rfl) (fun _ => rfl) infoF2 rfl one_fd ?_; intro g W hg hW hEW))
   have hEE:=hE.trans hEW
   have HW:=veil (And.intro hW (And.intro hEE hEW))
   obtain ⟨d0,d1⟩:=zke hW
   clear hW hEW hE hEE
   go_upto_region 9 with ((with_reducible refine zar 34 ?_); refine zas _ rfl _ _ 29 rfl w.heap.size 5 i8 (.int .u8 0) 1 Tryz.underlying29 HI.out.1 HI.out.2.1 HI.out.2.2.1 HI.out.2.2.2 rfl _ _ _ rfl (HS.out.2.2.ext (HW.out.2.2.trans (Ext.alloc W _))).2 (some ⟨W.heap.size,0,none⟩) 3 3 rfl _ (hdr3 (zaz W _) hT1 hT2 hL1 HD.out.1).from (fun _ => rfl) (by unfold maxLen; have:=HS.out.2.1; omega) (by have:=HS.out.2.1; omega) (Nat.le_trans (Below.size HW.out.2.1) (Below.size (Ext.alloc W _))) ?_; intro v6 w6 hO6 hG6 _)
   have hEa:=HW.out.2.1.trans (Ext.alloc W (.cells #[.int .u8 T,.int .u8 ((L : Int) / 256),.int .u8 ((L : Int) % 256)] 5))
   have hE6 : Ext w w6:=hEa.grown hG6 (Below.size hEa) fun k hk => (HS.out.2.2.2.lt hk).1
   have hgl : g < (W.alloc (.cells #[.int .u8 T,.int .u8 ((L : Int) / 256),.int .u8 ((L : Int) % 256)] 5)).heap.size:=Nat.lt_of_lt_of_le (Array.getElem?_eq_some_iff.1 HW.out.1).1 (Below.size (Ext.alloc W _))
   have hg6 : w6.heap[g]? = some (.cells #[.int .i64 T,.slice A L c'] 88 (0,0)):=(hG6.block g hgl fun hk => by have:=(HS.out.2.2.2.lt hk.symm).2; omega).trans ((Ext.alloc W _).block HW.out.1)
   have hO7 : OwnB w6 w.heap.size v6 (encF (fs.take i) ++ hdr (T,D0)):=OwnB.append hO6 HS.out.2.2.1 (hdr_byt _) rfl rfl
   obtain ⟨e0,e1⟩:=zke hg6
   have hl3 : (encF (fs.take i) ++ hdr (T,D0)).length ≤ 4194435:=by rw [List.length_append]; have:=HS.out.2.1; show _ + 3 ≤ _; omega
   have H7:=veil (And.intro hO7 (And.intro hE6 (And.intro hg6 hl3)))
   have hfr:=(HD.out.2.ext hE6).from
   rw [← HD.out.1] at hfr
   have HFR:=veil hfr
   clear hO6 hG6 hEa hgl hg6 hO7 d0 d1 hl3 hfr hE6
   go_wp2_with ((with_reducible refine zar 38 ?_); refine zas _ rfl _ _ 29 rfl w.heap.size 5 i8 (.int .u8 0) 1 Tryz.underlying29 HI.out.1 HI.out.2.1 HI.out.2.2.1 HI.out.2.2.2 rfl _ _ _ rfl H7.out.1.2 A L c' rfl _ HFR.out (fun _ => rfl) (by unfold maxLen; have:=H7.out.2.2.2; omega) (by have:=H7.out.2.2.2; omega) (Below.size H7.out.2.1) ?_; intro v8 w8 hO8 hG8 _)
   have hE8 : Ext w w8:=H7.out.2.1.grown hG8 (Below.size H7.out.2.1) fun k hk => (H7.out.1.2.lt hk).1
   have hO9 : OwnB w8 w.heap.size v8 (encF (fs.take i) ++ hdr (T,D0) ++ D0):=OwnB.append hO8 H7.out.1.1 HD.out.2.1 rfl HD.out.1
   rw [List.append_assoc] at hO9
   clear hO8 hG8
   go_roundw
   case rel => exact ⟨i + 1,by omega,by rw [HS.out.1]; exact hO9,by go_num,hE8⟩
   case measure => simp [intOf]; omega
  ·
   obtain rfl : i = n:=by omega
   have e : encF (fs.take i) = encF fs:=by rw [HR.out.1,List.take_length]
   rw [e] at hO
   obtain ⟨A,c2,rfl,hc2,hB2⟩:=hO.bs
   clear hO
   go_wp2
   go_ret2
   exact ⟨A,c2,rfl,hc2,hB2,hE⟩
theorem szB_long {D : List Nat} (h0 : 0 < D.length) (h : D.length < szB D) : parse D = none:=by
 unfold szB at h
 by_cases h3 : D.length < 3
 ·
  exact parse_two h3 h0
 ·
  rw [if_neg h3] at h
  have:=parse_long (bs:=D) (a:=0) (n:=256 * D.getD 1 0 + D.getD 2 0) (by omega) rfl (by omega)
  rwa [List.drop_zero] at this
theorem szB_3 {D : List Nat} (h : szB D ≤ D.length) : 3 ≤ D.length:=by
 unfold szB at h
 by_cases h3 : D.length < 3
 ·
  rw [if_pos h3] at h; omega
 ·
  omega
theorem szB_ge (D : List Nat) : 3 ≤ szB D:=by unfold szB; split <;> omega
theorem szB_step {D : List Nat} {N : Nat} (hN : szB D = 3 + N) (h3 : 3 ≤ D.length) (h : 3 + N ≤ D.length) :
  parse D = (parse (D.drop (3 + N))).map ((((D.getD 0 0 : Nat) : Int),(D.drop 3).take N) :: ·):=by
 unfold szB at hN
 rw [if_neg (by omega)] at hN
 have:=parse_more (bs:=D) (a:=0) (n:=N) (by omega) (by show N = 256 * D.getD 1 0 + D.getD 2 0; omega) (by omega)
 rwa [List.drop_zero,Nat.zero_add] at this
theorem get_of_false {bs D : List Nat} {fs : List Fd} (h : parse bs = (parse D).map (fs ++ ·)) (hl : 64 < fs.length) : getFs bs = none:=by
 rw [zgf,h]
 cases parse D with
 | none => rfl
 | some x =>
  have hm : mayFs (fs ++ x) = false:=decide_eq_false fun hh => by have:=hh.1; rw [List.length_append] at this; omega
  simp [hm]
def lenV : Value → Nat
 | .slice _ n _ => n
 | _ => 0
theorem run_slice_lowv {P : Program} {o : Oper} {a : Act} {t : TypeId} {x z : Operand} {v v' vz : Value} {W : World} (ho : o.op = .slice t x (some z) none none) (hx : a.eval x = v) (hz : a.eval z = vz)
  (h : (Instr.sliceAt t v (some vz) none none).run P W = .ok v' W) : (execOp a.eval o).run P W = .ok (.value v') W:=by
 unfold execOp
 simp only [ho,hx,hz,Option.map_some,Option.map_none,Sem.run_bind,h,Result.andThen_ok,Sem.run_pure]
theorem cut_from8 (A : Option Addr) (r c m : Nat) (hm : m ≤ r) (w : World) {y : Int} (hy : y = (m : Int)) : (Instr.sliceAt 29 (.slice A r c) (some (.int .i64 y)) none none).run Tryz.prog w = .ok (.slice (cutA A m c) (r - m) (c - m)) w:=by
 subst hy
 exact cut_from A r c m hm w
theorem bs_drop {w : World} {A : Option Addr} {D : List Nat} {c : Nat} (h : Bs w A D) (m : Nat) (hm : m ≤ D.length) (hc : D.length ≤ c) : Bs w (cutA A m c) (D.drop m):=by
 have:=h.cut m (n:=D.length - m) (by omega) hc
 rwa [List.take_of_length_le (by rw [List.length_drop]; omega)] at this
theorem zef {P : Program} {Q : Exit → Act → World → Prop} {l : List Oper} {n k i d : Nat} {r : Sched} {a : Act} {w : World} {xs : List Operand} {ts : Array TypeId} {args : List Value} {R : Value → World → Prop} (o : Oper) (ho : l[i]? = some o) (hg : o.guard = none) (hd : o.dst = some d)
  (hop : o.op = .call { callee:=.value (.func k),args:=xs.toArray,argTypes:=ts }) (hx : xs.map a.eval = args)
  (he : ∀ W,(callFunc k args.toArray).run P W = .ok (.enter k args.toArray) W) (hc : ∀ W,Ext w W → Calls P k args.toArray W fun e W' => ∃ v,e = .returned v ∧ Ext W W' ∧ R v W')
  (h : ∀ v W,Ext w W → R v W → wpSched P l Q n r (a.put (some d) v) W) : wpSched P l Q n ((false,[i]) :: r) a w:=by
 refine zik o ho hg fun W hW => ?_
 have h1 : execOp a.eval o = callFunc k (#[] ++ xs.toArray.map a.eval ++ #[]):=by
  cases o
  subst hop
  rfl
 have h2 : (execOp a.eval o).run P W = .ok (.enter k args.toArray) W:=by
  rw [h1,List.map_toArray,hx]
  simpa using he W
 unfold Oper.wp
 rw [h2,Oper.upon_enter]
 refine (hc W hW).mono ?_
 rintro e W' ⟨v,rfl,hE,hR⟩
 show (i < n → Ext W W') ∧ _
 rw [hd]
 exact ⟨fun _ => hE,h v W' (hW.trans hE) hR⟩
theorem zfv {P : Program} {f : FuncId} {fn : Func} {c : Code} (hf : P.funcs[f]? = some fn) (hname : (fn.name == "runtime.NumGoroutine") = false) (hb : fn.body = some c) (args : Array Value) (w : World) :
  (callFunc f args).run P w = .ok (.enter f args) w:=by
 have hn : ¬ fn.name = "runtime.NumGoroutine":=by simpa using hname
 simp [callFunc,go_sem,hf,hb,hn]
theorem get8_calls (A : Option Addr) (m c : Nat) (bs : List Nat) (hm : m = bs.length) (hmc : m ≤ c) (hle : m ≤ 100000000) (w : World) (hS : Bs w A bs) :
  Calls Tryz.prog 81 #[.slice A m c] w fun e w' => ∃ x ev,e = .returned (.tuple #[x,ev]) ∧ Ext w w' ∧ GetA w' bs x ev:=by
 have HS:=veil (And.intro hm (And.intro hmc (And.intro hS hle)))
 clear hS hm hmc hle
 go_enter Tryz.func81,Tryz.ntmps81
 go_wp2
 go_loopw [0,4] (fun s v wr => ∃ (A : Option Addr) (m c : Nat) (D : List Nat) (fs : List Fd),s = .slice A m c ∧ m = D.length ∧ m ≤ c ∧ m ≤ 100000000 ∧ Bs w A D ∧ OwnFs wr w.heap.size v fs ∧ fs.length ≤ 65 ∧ parse bs = (parse D).map (fs ++ ·) ∧ Ext w wr)
  (fun s _ _ => lenV s)
 case atStart => exact ⟨A,m,c,bs,[],rfl,HS.out.1,HS.out.2.1,HS.out.2.2.2,HS.out.2.2.1,OwnFs.nil _ _,by simp,by simp,Ext.refl _⟩
 case round =>
  obtain ⟨A,m,c,D,fs,rfl,hm,hmc,hle,hB,hO,hfl,hpar,hE⟩:=hrel
  have HO:=veil (And.intro hO (And.intro hfl hpar))
  have HB:=veil (And.intro hm (And.intro hB hmc))
  obtain ⟨AL,cl,hv,hcl,_⟩:=hO.fl.2
  obtain ⟨k,hk⟩ : ∃ k,k = fs.length:=⟨_,rfl⟩
  rw [← hk] at hv hcl hfl
  have HK:=veil hk
  clear hO hpar hm hB hk
  have KM:=veil (zft _ fs wr HO.out.1.fl (by have:=HK.out; omega))
  subst hv
  by_cases hlt : 0 < m
  ·
   have hd1 : decide ((0 : Int) < (m : Int)) = true:=by simp; omega
   have hd1' : decide (0 < m) = true:=by simp; omega
   by_cases hk : (k : Int) ≤ 64
   ·
    have hd2 : decide ((k : Int) ≤ 64) = true:=decide_eq_true hk
    have KZ:=veil (sizeFirst_calls A m c D HB.out.1 wr (HB.out.2.1.ext hE))
    have HZ3:=szB_ge D
    obtain ⟨N,hN⟩ : ∃ N,szB D = 3 + N:=⟨szB D - 3,by omega⟩
    rw [hN] at KZ
    have HN:=veil hN
    clear HZ3 hN
    go_upto_region 4 with (go_at_call 127; refine KZ.out.mono ?_; rintro e w1 ⟨rfl,hE1⟩)
    have HE1:=veil (hE.trans hE1)
    have hO1:=HO.out.1.keep hE1
    have HO1:=veil hO1
    clear hO1 KM hE1 KZ
    by_cases h4 : m < 3 + N
    ·
     have hd3 : decide ((m : Int) < 3 + (N : Int)) = true:=by simp; omega
     have hn : getFs bs = none:=by
      rw [zgf,HO.out.2.2,szB_long (by have:=HB.out.1; omega) (by have:=HB.out.1; rw [HN.out]; omega)]
      rfl
     go_wp2
     go_ret2
     exact ⟨_,_,rfl,HE1.out,.inl ⟨hn,⟨none,0,rfl⟩,rfl⟩⟩
    ·
     have hd3 : decide ((m : Int) < 3 + (N : Int)) = false:=by simp; omega
     have h3m : 3 ≤ m:=by have:=HB.out.1; have:=szB_3 (D:=D) (by rw [HN.out]; omega); omega
     have hst:=szB_step HN.out (by have:=HB.out.1; omega : 3 ≤ D.length) (by have:=HB.out.1; omega)
     have hbt:=HB.out.2.1.ext HE1.out
     obtain ⟨b,o,hA,hbl,c0⟩:=hbt.cell (j:=0) (by have:=HB.out.1; omega)
     rw [Nat.add_zero] at c0
     have l0:=HB.out.2.1.1.getD 0
     obtain ⟨T,hT⟩ : ∃ T,T = D.getD 0 0:=⟨_,rfl⟩
     rw [← hT] at c0 l0 hst
     have k0 : (T : Int) ≤ 255:=by omega
     have i0 : (0 : Int) < (m : Int):=by omega
     have HST:=veil (And.intro hst hbt)
     have hbd:=bs_drop (c:=c) HB.out.2.1 (3 + N) (by have:=HB.out.1; omega) (by have:=HB.out.1; omega)
     have HBD:=veil hbd
     clear hst hbt hT l0 hbd
     subst hA
     go_upto_region 6 with (fail)
     refine zeu 11 [(true,[0,1,2,3,4,5,6,7]),(false,[8]),(true,[9]),(false,[10]),(false,[11]),(false,[12])] (by kernel_rfl) (by kernel_rfl) fun Q' hQ' => ?_
     refine' zcv (A:=_) _ rfl (by kernel_rfl) ?h1 ?h2
     case h1 =>
      intro D' hD hN'
      have d0:=hD.cell c0
      simp only [pickI,consO,List.getElem?_cons_zero,List.getElem?_cons_succ]
      iterate 7 (go_big_quiet_step (fail))
      go_big_quiet_want
      refine zdv (.slice (cutA (some ⟨b,o,none⟩) 3 c) N (c - 3)) (fun x => run_slice_v rfl rfl rfl rfl (cut_mid _ _ _ 3 N (by omega) _ rfl (by omega))) ?_
      simp only [aP,lA,lZ,lS]
      go_big_quiet_on
      exact zcy
     have hl : N = ((D.drop 3).take N).length:=by rw [List.length_take,List.length_drop]; have:=HB.out.1; omega
     have hBc:=HST.out.2.cut 3 (n:=N) (c:=c) (by have:=HB.out.1; omega) (by have:=HB.out.1; omega)
     have HC:=veil (And.intro hl hBc)
     clear hl hBc
     refine zef (R:=fun v W => ∃ A' c',v = .slice A' N c' ∧ N ≤ c' ∧ Bs W A' ((D.drop 3).take N) ∧ Fresh w1 A' ((D.drop 3).take N)) _ rfl rfl rfl rfl rfl (zfv Tryz.func128 rfl rfl _) (fun W hW => (clone8_calls _ N (c - 3) ((D.drop 3).take N) HC.out.1 (by omega) W (HC.out.2.ext hW)).mono fun e W' ⟨A',c',he,hE',hc',hB',hF'⟩ => ⟨_,he,hE',A',c',rfl,hc',hB',hF'.imp id fun h b o e => Nat.le_trans (Below.size hW) (h b o e)⟩) ?_
     rintro _ W2 hE2 ⟨A',c',rfl,hc',hB',hF'⟩
     simp only [aP,lA,lZ,lS]
     refine' zcv (A:=_) _ rfl (by kernel_rfl) ?k1 ?k2
     case k1 =>
      intro D' hD hN'
      simp only [pickI,consO,List.getElem?_cons_zero,List.getElem?_cons_succ]
      repeat (go_big_quiet_step (fail))
      exact zcy
     refine zhs (vs:=[(0,.agg #[.int .i64 (T : Int),.slice A' N c'])]) (C:=#[.int .i64 (T : Int),.slice A' N c']) (e:=88) _ rfl rfl rfl rfl rfl (fun W => by simp [Instr.buildSlice,go_sem]) ?_
     intro g2 W3 hg2 hgb2 hE3
     simp only [aP,lA,lZ,lS]
     have hEW3:=hE2.trans hE3
     have hown3:=HO1.out.keep hEW3
     have hoff : Off A' ((D.drop 3).take N) (Value.ownBlock (.slice AL k cl)):=hF'.off fun k hk => (HO1.out.lt hk).2
     have hBn:=hB'.ext hE3
     have hbase:=Nat.le_trans (Below.size HE1.out) (Below.size hEW3)
     have hNl:=HC.out.1
     have hfl9 : fs.length ≤ 1000000000:=by have:=HK.out; omega
     rw [hNl] at hgb2 hc'
     refine sched_append_fd (f:=((T : Int),(D.drop 3).take N)) (al:=(A',c')) _ rfl rfl rfl rfl rfl rfl (by decide) hown3 hgb2 hc' hBn hoff hfl9 hbase ?_
     intro v' W4 W5 hE4 hO5 hG5
     simp only [aP,lA,lZ,lS]
     have hE5 : Ext w W5:=(HE1.out.trans (hEW3.trans hE4)).grown hG5 (Below.size (HE1.out.trans (hEW3.trans hE4))) fun k hk => (HO1.out.lt hk).1
     have HO5:=veil (And.intro hO5 hE5)
     clear hown3 hoff hBn hbase hNl hgb2 hc' hO5 hE5 hG5
     refine sched_assign v' _ rfl rfl rfl rfl rfl ?_
     intro W6 hE6
     simp only [aP,lA,lZ,lS]
     refine zdu hQ' fun W7 hE7 => ?_
     have hle3 : 3 + N ≤ m:=by omega
     go_wp2_with ((with_reducible refine zar 35 ?_); refine wpl_val (.slice (cutA (some ⟨b,o,none⟩) (3 + N) c) (m - (3 + N)) (c - (3 + N))) rfl (run_slice_lowv rfl rfl rfl (cut_from8 _ _ _ (3 + N) hle3 _ (by omega))) ?_)
     go_roundw
     case rel =>
      refine ⟨_,m - (3 + N),c - (3 + N),D.drop (3 + N),fs ++ [((T : Int),(D.drop 3).take N)],rfl,by rw [List.length_drop,← HB.out.1],by omega,by omega,HBD.out,(HO5.out.1.keep hE6).keep hE7,?_,?_,HO5.out.2.trans (hE6.trans hE7)⟩
      ·
       rw [List.length_append,List.length_singleton]; have:=HK.out; omega
      ·
       rw [HO.out.2.2,HST.out.1]
       cases parse (D.drop (3 + N)) with
       | none => rfl
       | some x => simp
     case measure => simp [lenV]; omega
   ·
    have hd2 : decide ((k : Int) ≤ 64) = false:=decide_eq_false hk
    have hmay : mayFs fs = false:=decide_eq_false fun hh => by have:=hh.1; have:=HK.out; omega
    rw [hmay] at KM
    have HE:=veil hE
    clear hE hmay
    go_wp2_with (go_at_call 109; refine KM.out.mono ?_; rintro e w2 ⟨rfl,hE2⟩)
    go_ret2
    exact ⟨_,_,rfl,HE.out.trans hE2,.inl ⟨get_of_false HO.out.2.2 (by have:=HK.out; omega),⟨none,0,rfl⟩,rfl⟩⟩
  ·
   have hd1 : decide ((0 : Int) < (m : Int)) = false:=by simp; omega
   have hd1' : decide (0 < m) = false:=by simp; omega
   have hp : parse bs = some fs:=by
    rw [HO.out.2.2,List.length_eq_zero_iff.1 (show D.length = 0 by have:=HB.out.1; omega),parse_nil]
    simp
   have HP:=veil (And.intro hE (And.intro hp HO.out.1.fl))
   cases hmay : mayFs fs with
   | false =>
    rw [hmay] at KM
    have hn : getFs bs = none:=by
     rw [zgf,hp]
     simp [hmay]
    have HN:=veil hn
    clear hE hmay hp hn
    go_wp2_with (go_at_call 109; refine KM.out.mono ?_; rintro e w2 ⟨rfl,hE2⟩)
    go_ret2
    exact ⟨_,_,rfl,HP.out.1.trans hE2,.inl ⟨HN.out,⟨none,0,rfl⟩,rfl⟩⟩
   | true =>
    rw [hmay] at KM
    have hn : getFs bs = some fs:=by
     rw [zgf,hp]
     simp [hmay]
    have HN:=veil hn
    clear hE hmay hp hn
    go_wp2_with (go_at_call 109; refine KM.out.mono ?_; rintro e w2 ⟨rfl,hE2⟩)
    go_ret2
    exact ⟨_,_,rfl,HP.out.1.trans hE2,.inr ⟨fs,HN.out,rfl,HP.out.2.2.ext hE2⟩⟩
theorem or_u64 {V Y : Nat} (hV : V < 72057594037927936) (hY : Y < 256) : bits .or .u64 (IntKind.u64.wrap ((V : Int) * 256)) (Y : Int) = ((256 * V + Y : Nat) : Int):=by
 rw [IntKind.wrap_u64,show (V : Int) * 256 % 18446744073709551616 = ((V * 256 : Nat) : Int) by omega,u64_or_nat _ _ (by omega) (by omega),nat_join 8 _ _ (by omega) (by omega),Nat.mul_comm]
theorem valB_lt8 {bs : List Nat} (h : Byt bs) : ∀ i,i ≤ bs.length → valB (bs.take i) < 256 ^ i
 | 0,_ => by simp [valB]
 | i + 1,hi => by
  have h1:=valB_lt8 h i (by omega)
  have h2:=h.getD i
  rw [zfg (by omega),Nat.pow_succ]
  omega
theorem valB_ge {bs : List Nat} : ∀ i,i < bs.length → bs.getD 0 0 * 256 ^ i ≤ valB (bs.take (i + 1))
 | 0,hi => by
  rw [zfg hi]
  omega
 | i + 1,hi => by
  have h1:=valB_ge (bs:=bs) i (by omega)
  rw [zfg hi,Nat.pow_succ,← Nat.mul_assoc]
  omega
theorem ofB_big {bs : List Nat} (h : Byt bs) (hl : 8 = bs.length) (hv : (9223372036854775807 : Int) < (valB bs : Nat)) : ofB bs = -1:=by
 unfold ofB
 rw [if_neg]
 rintro ⟨_,h0⟩
 have h1:=valB_lt h h0 7 (by omega)
 rw [List.take_of_length_le (by omega)] at h1
 have : (128 : Nat) * 256 ^ 7 = 9223372036854775808:=by decide
 omega
theorem ofB_small {bs : List Nat} (hl : 8 = bs.length) (hv : ¬ (9223372036854775807 : Int) < (valB bs : Nat)) : ofB bs = (valB bs : Nat):=by
 unfold ofB
 rw [if_pos]
 refine ⟨hl.symm,?_⟩
 have h1:=valB_ge (bs:=bs) 7 (by omega)
 rw [List.take_of_length_le (by omega)] at h1
 have : (256 : Nat) ^ 7 = 72057594037927936:=by decide
 omega
def nbv (U j : Nat) : Value:=.int .u8 ((U / 256 ^ (7 - j) % 256 : Nat) : Int)
theorem num_step {U k j : Nat} (hk : k < 8) (hj : j = 7 - k) : ∀ i,i < 8 → (if i = j then nbv U j else if 8 ≤ i + k then nbv U i else .int .u8 0) = (if 8 ≤ i + (k + 1) then nbv U i else .int .u8 0):=by
 intro i hi
 by_cases h : i = j
 ·
  rw [if_pos h,if_pos (by omega),h]
 ·
  rw [if_neg h]
  by_cases h2 : 8 ≤ i + k
  ·
   rw [if_pos h2,if_pos (by omega)]
  ·
   rw [if_neg h2,if_neg (by omega)]
theorem num_bs {w : World} {g : Nat} {n : Int} {U : Nat} (hU : U = (n % 18446744073709551616).toNat) (h : w.rowIs g 5 8 (nbv U)) : Bs w (some ⟨g,0,none⟩) (numB n):=by
 refine ⟨numB_byt n,.inr ⟨g,0,rfl,h.lt,fun j hj => ?_⟩⟩
 rw [zcr] at hj
 rw [Nat.zero_add,h.cell hj,hU]
 unfold nbv
 rw [List.getD_eq_getElem?_getD]
 simp [numB,hj]
theorem row_fill {w : World} {z : Value} {n b t : Nat} (hb : b = w.heap.size) : (w.alloc (.cells (madeCells #[z] n) t)).rowIs b t n (fun _ => z):=by
 subst hb
 exact World.rowIs_made w z n t
theorem num8_calls (n : Int) (w : World) (_h0 : -9223372036854775808 ≤ n) (_h1 : n ≤ 9223372036854775807) :
  Calls Tryz.prog 24 #[.int .i64 n] w fun e w' => ∃ A c,e = .returned (.slice A 8 c) ∧ 8 ≤ c ∧ Bs w' A (numB n) ∧ Ext w w':=by
 obtain ⟨U,hU⟩ : ∃ U,U = (n % 18446744073709551616).toNat:=⟨_,rfl⟩
 have hw : IntKind.u64.wrap n = (U : Int):=by
  rw [hU]
  show n % 18446744073709551616 = _
  omega
 have HU:=veil hU
 clear hU _h0 _h1
 obtain ⟨i0,hi,hz0,hz1,hz2⟩:=info_parts infoTG
 have hmk : ∀ W : World,(Instr.makeSlice 29 (.int .i64 8) (.int .i64 8)).run Tryz.prog W = .ok (.slice (some ⟨W.heap.size,0,none⟩) 8 8) (W.alloc (.cells (madeCells #[.int .u8 0] 8) 5)) :=
  fun W => run_make_row 29 5 i0 (.int .u8 0) Tryz.underlying29 hi hz0 hz1 rfl .i64 .i64 8 (by rw [hz2]; omega) (by omega) W
 clear hi hz0 hz1 hz2
 go_enter Tryz.func24,Tryz.ntmps24
 go_wp2
 go_loopw [4,5] (fun v i wr => ∃ k : Nat,k ≤ 8 ∧ v = .int .u64 ((U / 256 ^ k : Nat) : Int) ∧ i = .int .i64 (7 - (k : Int)) ∧ wr.rowIs w.heap.size 5 8 (fun j => if 8 ≤ j + k then nbv U j else .int .u8 0) ∧ Ext w wr)
  (fun _ i _ => (intOf i + 1).toNat)
 case atStart => exact ⟨0,by omega,by simp,rfl,(row_fill (w:=w) (z:=.int .u8 0) rfl).congr (fun i hi => by rw [if_neg (by omega)]),Ext.alloc w _⟩
 case round =>
  obtain ⟨k,hk,rfl,rfl,hR,hE⟩:=hrel
  by_cases hlt : k < 8
  ·
   obtain ⟨j,hj⟩ : ∃ j,j = 7 - k:=⟨_,rfl⟩
   have hji : (7 : Int) - (k : Int) = (j : Int):=by omega
   have hjn : (j : Int) < (8 : Int):=by omega
   have c2:=hR.cell (i:=j) (by omega)
   have f2:=hR.frozen j
   have hs : U / 256 ^ (k + 1) = U / 256 ^ k / 256:=by rw [Nat.pow_succ,← Nat.div_div_eq_div_mul]
   have hb : nbv U j = .int .u8 (((U / 256 ^ k % 256 : Nat) : Nat) : Int):=by unfold nbv; rw [show 7 - j = k by omega]
   generalize U / 256 ^ k = q at *
   have HJ:=veil (And.intro hj (And.intro hs hb))
   clear hj hs hb
   rw [hji]
   go_wp2
   go_roundw
   case rel =>
    refine ⟨k + 1,by omega,by rw [HJ.out.2.1]; simp,by go_num,?_,?_⟩
    ·
     have h2:=HJ.out.2.2
     rw [show ((q % 256 : Nat) : Int) = (q : Int) % 256 by omega] at h2
     rw [← h2]
     exact (hR.set j (nbv U j)).congr (num_step hlt HJ.out.1)
    ·
     exact zat hE (Nat.le_refl _) _
   case measure => simp [intOf]
  ·
   obtain rfl : k = 8:=by omega
   go_wp2
   go_ret
   exact ⟨_,8,rfl,by omega,num_bs HU.out (hR.congr fun i hi => by rw [if_pos (by omega)]),hE⟩
theorem of8_calls (A : Option Addr) (m c : Nat) (bs : List Nat) (hm : m = bs.length) (hmc : m ≤ c) (w : World) (hS : Bs w A bs) :
  Calls Tryz.prog 82 #[.slice A m c] w fun e w' => ∃ x ev,e = .returned (.tuple #[x,ev]) ∧ Ext w w' ∧ OfA bs x ev:=by
 have HS:=veil (And.intro hS hm)
 by_cases h8 : m = 8
 ·
  subst h8
  clear hS hm
  go_enter Tryz.func82,Tryz.ntmps82
  go_wp2
  go_loopw [4,13] (fun v u wr => ∃ i : Nat,i ≤ 8 ∧ u = .int .i64 (i : Int) ∧ v = .int .u64 ((valB (bs.take i) : Nat) : Int) ∧ Ext w wr)
   (fun _ v _ => 8 - (intOf v).toNat)
  case atStart => exact ⟨0,by omega,rfl,rfl,Ext.refl _⟩
  case round =>
   obtain ⟨i,hi,rfl,rfl,hE⟩:=hrel
   by_cases hlt : i < 8
   ·
    have hii : (i : Int) < 8:=by omega
    obtain ⟨b2,o2,hA,_,c1⟩:=(HS.out.1.ext hE).cell (j:=i) (by have:=HS.out.2; omega)
    have l1:=HS.out.1.1.getD i
    obtain ⟨V,hV⟩ : ∃ V,V = valB (bs.take i):=⟨_,rfl⟩
    obtain ⟨Y,hY⟩ : ∃ Y,Y = bs.getD i 0:=⟨_,rfl⟩
    rw [← hY] at c1 l1
    rw [← hV]
    have k1 : (Y : Int) ≤ 255:=by omega
    have HVY:=veil (And.intro hV hY)
    have hv:=valB_lt8 HS.out.1.1 i (by have:=HS.out.2; omega)
    have h7 : 256 ^ i ≤ 256 ^ 7:=Nat.pow_le_pow_right (by decide) (by omega)
    have e7 : (256 : Nat) ^ 7 = 72057594037927936:=by decide
    have hor:=or_u64 (V:=V) (Y:=Y) (by omega) l1
    have HOR:=veil hor
    clear hV hY l1 hv h7 e7 hor
    subst hA
    go_wp2
    go_roundw
    case rel =>
     refine ⟨i + 1,by omega,by go_num,?_,hE⟩
     rw [zfg (by have:=HS.out.2; omega),← HVY.out.1,← HVY.out.2,HOR.out]
    case measure => simp [intOf]; omega
   ·
    obtain rfl : i = 8:=by omega
    have e : bs.take 8 = bs:=List.take_of_length_le (by have:=HS.out.2; omega)
    rw [e]
    obtain ⟨V,hV⟩ : ∃ V,V = valB bs:=⟨_,rfl⟩
    rw [← hV]
    have HV:=veil hV
    clear hV e
    by_cases g : (9223372036854775807 : Int) < (V : Int)
    ·
     have hd : decide ((9223372036854775807 : Int) < (V : Int)) = true:=decide_eq_true g
     have HR:=veil (ofB_big HS.out.1.1 HS.out.2 (by rw [← HV.out]; exact g))
     clear g
     go_wp2
     go_ret2
     exact ⟨_,_,rfl,hE,.inl ⟨by rw [HR.out]; decide,rfl,rfl⟩⟩
    ·
     have hd : decide ((9223372036854775807 : Int) < (V : Int)) = false:=decide_eq_false g
     have HR:=veil (ofB_small (bs:=bs) HS.out.2 (by rw [← HV.out]; exact g))
     have hle : (V : Int) ≤ 9223372036854775807:=by omega
     clear g
     go_wp2
     go_ret2
     exact ⟨_,_,rfl,hE,.inr ⟨by rw [HR.out]; omega,by rw [HR.out,← HV.out]; rfl,rfl⟩⟩
 ·
  have h8' : ¬ ((m : Int) = 8):=by omega
  have hr : ofB bs = -1:=by
   unfold ofB
   rw [if_neg]
   intro h
   omega
  have HR:=veil hr
  clear hS hm hr
  go_enter Tryz.func82,Tryz.ntmps82
  go_wp2
  go_ret2
  exact ⟨_,_,rfl,Ext.refl _,.inl ⟨by rw [HR.out]; decide,rfl,rfl⟩⟩
theorem code8 : Code8 where
 may:=zft
 put v fs w hF hL:=by
  cases hM : mayFs fs with
  | false => exact (put_no v fs w hF hL hM).mono fun e w' ⟨he,hE⟩ => ⟨_,_,he,hE,.inl ⟨hM,⟨none,0,rfl⟩,rfl⟩⟩
  | true => exact (put_yes v fs w hF hM).mono fun e w' ⟨A,c,he,hc,hB,hE⟩ => ⟨_,_,he,hE,.inr ⟨hM,rfl,A,c,rfl,hc,hB⟩⟩
 get A m c bs w hm hmc hle hS:=get8_calls A m c bs hm hmc hle w hS
 number n w h0 h1:=num8_calls n w h0 h1
 of A m c bs w hm hmc hS:=of8_calls A m c bs hm hmc w hS
def tagFs : Int → List (List Nat) → List Fd
 | _,[] => []
 | t,x :: r => (t,x) :: tagFs (t + 1) r
theorem zeb : ∀ (t : Int) (l : List (List Nat)),(tagFs t l).length = l.length
 | _,[] => rfl
 | t,_ :: r => by
  show (tagFs (t + 1) r).length + 1 = r.length + 1
  rw [zeb (t + 1) r]
theorem tagFs_get : ∀ (t : Int) (l : List (List Nat)) (i : Nat),i < l.length → tgF (tagFs t l) i = t + i ∧ bsF (tagFs t l) i = l.getD i []
 | _,[],_,h => by simp at h
 | t,n :: r,0,_ => ⟨by show t = t + ((0 : Nat) : Int); omega,rfl⟩
 | t,n :: r,i + 1,h => by
  obtain ⟨h1,h2⟩:=tagFs_get (t + 1) r i (by simpa using h)
  refine ⟨?_,h2⟩
  show tgF (tagFs (t + 1) r) i = _
  rw [h1]
  omega
theorem tagFs_num : ∀ (t : Int) (l : List Int),tagFs t (l.map numB) = numFs t l
 | _,[] => rfl
 | t,n :: r => by
  show (t,numB n) :: tagFs (t + 1) (r.map numB) = (t,numB n) :: numFs (t + 1) r
  rw [tagFs_num (t + 1) r]
theorem tagFs_byt : ∀ {t : Int} {l : List (List Nat)},(∀ x ∈ l,Byt x) → BytF (tagFs t l)
 | _,[],_ => fun f hf => by cases hf
 | t,x :: r,h => fun f hf => by
  rcases List.mem_cons.1 hf with rfl | hf
  ·
   exact h _ List.mem_cons_self
  ·
   exact tagFs_byt (t:=t + 1) (fun y hy => h y (List.mem_cons_of_mem _ hy)) f hf
def Vs (w : World) (v : Value) (l : List (List Nat)) : Prop:=(∀ x ∈ l,Byt x) ∧ ∃ AL c,v = .slice AL l.length c ∧ l.length ≤ c ∧ (l.length = 0 ∨ ∃ b o,AL = some ⟨b,o,none⟩ ∧ b < w.heap.size ∧
 ∀ i,i < l.length → ∃ A c',w.cell? ⟨b,o + i,none⟩ = some (.slice A (l.getD i []).length c') ∧ (l.getD i []).length ≤ c' ∧ Bs w A (l.getD i []))
theorem Vs.ext {w w' : World} {v : Value} {l : List (List Nat)} (h : Vs w v l) (k : Ext w w') : Vs w' v l:=by
 obtain ⟨hB,AL,c,e,hc,h⟩:=h
 refine ⟨hB,AL,c,e,hc,h.imp id ?_⟩
 rintro ⟨b,o,e,hb,hx⟩
 refine ⟨b,o,e,Nat.lt_of_lt_of_le hb k.size,fun i hi => ?_⟩
 obtain ⟨A,c',h2,h3,h4⟩:=hx i hi
 exact ⟨A,c',(k.cell hb).trans h2,h3,h4.ext k⟩
theorem hmk_fd (n : Nat) (hn : n ≤ 1000000) (W : World) : (Instr.makeSlice 86 (.int .i64 (n : Int)) (.int .i64 (n : Int))).run Tryz.prog W = .ok (.slice (some ⟨W.heap.size,0,none⟩) n n) (W.alloc (.cells (madeCells #[.int .i64 0,.slice none 0 0] (n * 2)) 88)):=by
 obtain ⟨i,hi,hz,hsz,hby⟩:=info_parts2 infoF16
 have h:=run_make (P:=Tryz.prog) W 86 88 i _ Tryz.underlying86 hi hz .i64 .i64 (n : Int) (n : Int) (by omega) (Int.le_refl _) (by rw [hby]; omega) (by omega)
 simp only [Int.toNat_natCast,hsz,Value.cells] at h
 exact h
theorem pre_new (w : World) (C : Array Value) (t m : Nat) (hm : m = C.size) : Pre (w.alloc (.cells C t)) w.heap.size t m (fun j => C.getD j undef) :=
 ⟨C,zaz w _,fun i hi => by
  have : i < C.size:=by omega
  simp [Array.getD,this]⟩
theorem Pre.there {w : World} {g t n : Nat} {f : Nat → Value} (p : Pre w g t n f) {i : Nat} (hi : i + 2 ≤ n) : w.there g i 2:=fun j hj => ⟨by rw [p.cell (show i + j < n by omega)]; rfl,p.frozen _⟩
theorem Pre.two {w : World} {g t n : Nat} {f : Nat → Value} (p : Pre w g t n f) (i : Nat) (x y : Value) : Pre (w.setCells g i [x,y]) g t n (fun j => if j = i + 1 then y else if j = i then x else f j):=(p.set i x).set (i + 1) y
def Laid (w : World) (l : List (List Nat)) (f : Nat → Value) (i : Nat) : Prop:=∀ j,j < i → f (j * 2) = .int .i64 ((j : Int) + 1) ∧ ∃ A c,f (j * 2 + 1) = .slice A (l.getD j []).length c ∧ (l.getD j []).length ≤ c ∧ Bs w A (l.getD j [])
theorem Laid.step {w : World} {l : List (List Nat)} {f : Nat → Value} {i c : Nat} {A : Option Addr} (h : Laid w l f i) (hc : (l.getD i []).length ≤ c) (hB : Bs w A (l.getD i [])) :
  Laid w l (fun j => if j = i * 2 + 1 then .slice A (l.getD i []).length c else if j = i * 2 then .int .i64 ((i : Int) + 1) else f j) (i + 1):=fun j hj => by
 by_cases e : j = i
 ·
  subst e
  exact ⟨by simp only; rw [if_neg (by omega),if_pos trivial],A,c,by simp only; rw [if_pos trivial],hc,hB⟩
 ·
  obtain ⟨h1,h2⟩:=h j (by omega)
  refine ⟨?_,?_⟩
  ·
   simp only
   rw [if_neg (by omega),if_neg (by omega)]
   exact h1
  ·
   simp only
   rw [if_neg (by omega),if_neg (by omega)]
   exact h2
theorem Laid.fl {w w' : World} {l : List (List Nat)} {f : Nat → Value} {g n : Nat} (h : Laid w l f n) (hn : n = l.length) (hE : Ext w w') (hl : ∀ x ∈ l,Byt x) (hp : Pre w' g 88 (n * 2) f) : Fl w' (.slice (some ⟨g,0,none⟩) n n) (tagFs 1 l):=by
 subst hn
 refine ⟨tagFs_byt hl,some ⟨g,0,none⟩,l.length,by rw [zeb],by rw [zeb]; exact Nat.le_refl _,.inr ⟨g,0,rfl,hp.lt,fun i hi => ?_⟩⟩
 rw [zeb] at hi
 obtain ⟨h1,A,c,h2,h3,h4⟩:=h i hi
 obtain ⟨e1,e2⟩:=tagFs_get 1 l i hi
 rw [e1,e2]
 refine ⟨?_,A,c,?_,h3,h4.ext hE⟩
 ·
  rw [Nat.zero_add,hp.cell (by omega),h1,show (i : Int) + 1 = 1 + (i : Int) by omega]
 ·
  rw [Nat.zero_add,hp.cell (by omega),h2]
theorem zhb (v : Value) (l : List (List Nat)) (hL : l.length ≤ 64) (w : World) (hV : Vs w v l) :
  Calls Tryz.prog 23 #[v] w fun e w' => ∃ x ev,e = .returned (.tuple #[x,ev]) ∧ Ext w w' ∧ PutA w' (tagFs 1 l) x ev:=by
 obtain ⟨hB,AL,c,rfl,hc,hx⟩:=hV
 obtain ⟨n,hn⟩ : ∃ n,n = l.length:=⟨_,rfl⟩
 rw [← hn] at hx hc hL ⊢
 have HX:=veil (And.intro hx (And.intro hn hB))
 have hmk:=hmk_fd n (by omega)
 have hp0:=pre_new w (madeCells #[.int .i64 0,.slice none 0 0] (n * 2)) 88 (n * 2) (size_madeCells _ _).symm
 have hE0:=Ext.alloc w (.cells (madeCells #[.int .i64 0,.slice none 0 0] (n * 2)) 88)
 have H0:=veil (And.intro hp0 hE0)
 clear hx hn hB hp0 hE0
 go_enter Tryz.func23,Tryz.ntmps23
 go_upto_region 2 with (fail)
 obtain ⟨g,hg⟩ : ∃ g,g = w.heap.size:=⟨_,rfl⟩
 generalize w.alloc (.cells (madeCells #[.int .i64 0,.slice none 0 0] (n * 2)) 88) = w1 at *
 rw [← hg] at H0 ⊢
 have HG:=veil (show w.heap.size ≤ g by omega)
 clear hg hmk
 go_wp2
 go_loopw [5,6,12] (fun _ _ v wr => ∃ i : Nat,i ≤ n ∧ v = .int .i64 (i : Int) ∧ (∃ f,Pre wr g 88 (n * 2) f ∧ Laid w l f i) ∧ Ext w wr)
  (fun _ _ v _ => n - (intOf v).toNat)
 case atStart => exact ⟨0,by omega,rfl,⟨_,H0.out.1,fun j hj => by omega⟩,H0.out.2⟩
 case round =>
  obtain ⟨i,hi,rfl,⟨f,hp,hl⟩,hE⟩:=hrel
  by_cases hlt : i < n
  ·
   have hd1 : decide ((i : Int) < (n : Int)) = true:=by simp; omega
   have hii : (i : Int) < (n : Int):=by omega
   obtain ⟨b,o,hA,hb,hcl⟩:=HX.out.1.resolve_left (by omega)
   obtain ⟨A,c',h1,h2,h3⟩:=hcl i (by have:=HX.out.2.1; omega)
   have c0:=(hE.cell hb).trans h1
   have HS:=veil (And.intro (Laid.step hl h2 h3) (And.intro hp hE))
   have hth:=hp.there (i:=i * 2) (by omega)
   have HT:=veil hth
   generalize (l.getD i []).length = L at *
   subst hA
   clear h1 h2 h3 hl hp hth hcl hE
   go_wp2_with ((with_reducible refine zbb ?_); refine wpList_store_mid rfl 88 _ _ rfl g (i * 2) _ rfl rfl HT.out infoF2 one_fd ?_)
   go_roundw
   case rel => exact ⟨i + 1,by omega,by go_num,⟨_,HS.out.2.1.two (i * 2) _ _,HS.out.1⟩,zat (zat HS.out.2.2 HG.out _) HG.out _⟩
   case measure => simp [intOf]; omega
  ·
   obtain rfl : i = n:=by omega
   have hd1 : decide ((i : Int) < (i : Int)) = false:=by simp
   have KP:=veil (code8.put _ _ wr (Laid.fl hl HX.out.2.1 hE HX.out.2.2 hp) (by rw [zeb]; have:=HX.out.2.1; omega))
   have HE:=veil hE
   clear hl hp hE
   go_wp2_with (go_at_call 57; refine KP.out.mono ?_; rintro e w2 ⟨x,ev,rfl,hE2,hA⟩)
   go_ret2
   exact ⟨_,_,rfl,HE.out.trans hE2,hA⟩
end Go.Proofs.YtedehdbajiaaiaaGreatDoor
