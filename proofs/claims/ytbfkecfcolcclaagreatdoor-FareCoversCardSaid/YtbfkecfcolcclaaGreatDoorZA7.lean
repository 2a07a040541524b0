/-
  Of Pk FMath FBase Bit Mul64 MulMath KA L3 QCode LUp5 KV KP SSumA M1 MDef N1 N2 NK PS S4 Re.
-/
import Derived.Test.YtbfkecfcolcclaaGreatDoorRows
import Derived.WalkKit
import Derived.WalkSpells
import Derived.WalkLawsBesides
import Derived.Deep.LoopGhost
import Derived.Deep.RegionWith
import Derived.Deep.RegionHeld3
import Derived.Deep.QuietTactic
import Derived.BigQuiet
import Derived.Deep.MidRow
import Derived.BigRegion
import Derived.Lib.SmallJoins
import Derived.Great.BuildSlice
import Derived.Deep.Cut
import Derived.Deep.CutRange
import Derived.IntWalk
import Derived.StillTailTactics
import Derived.Deep.CutBlock
import Derived.Deep.Matrix
import Derived.Laws.BytesString
import Derived.Carry
import Derived.BigFrame
import Derived.Laws.OwnMore
import Derived.Deep.AppendLies
import Derived.Test.YtbfkecfcolcclaaGreatDoorZA5
import Derived.Test.YtbfkecfcolcclaaGreatDoorZA3
import Derived.Test.YtbfkecfcolcclaaGreatDoorZA1
import Derived.Test.YtbfkecfcolcclaaGreatDoorZA2
import Derived.Test.YtbfkecfcolcclaaGreatDoorZA4
set_option maxRecDepth 1000000
set_option maxHeartbeats 20000000
namespace Go.Proofs.YtbfkecfcolcclaaGreatDoor
open Go.RowKit
open Go.Value renaming int → vI
open Go.IntKind renaming u64 → vU
open Go.Act renaming put → aP
open List renaming setIfInBounds_toArray → lA, set_cons_zero → lZ, set_cons_succ → lS
def pfind (l : List Pw) (p : Int) : Option Pw:=l.find? fun x => decide (x.1.id = p)
theorem pfind_prod (l : List Pw) (p : Int) : prodP (pds l) p = (pfind l p).map (·.1):=by
 unfold prodP pds pfind
 rw [List.find?_map]
 rfl
theorem pfind_no {l : List Pw} {p : Int} (h : ∀ j,j < l.length → (l.getD j noPw).1.id ≠ p) : pfind l p = none:=List.find?_eq_none.2 fun x hx => by
 obtain ⟨i,hi,rfl⟩:=List.mem_iff_getElem.1 hx
 have:=h i hi
 rw [List.getD_eq_getElem?_getD,List.getElem?_eq_getElem hi] at this
 simpa using this
theorem pfind_is {l : List Pw} {p : Int} : ∀ {i : Nat},i < l.length → (l.getD i noPw).1.id = p → (∀ j,j < i → (l.getD j noPw).1.id ≠ p) → pfind l p = some (l.getD i noPw):=by
 induction l with
 | nil => intro i h; simp at h
 | cons x r ih =>
  intro i h1 h2 h3
  unfold pfind
  cases i with
  | zero =>
   have : x.1.id = p:=h2
   rw [List.find?_cons_of_pos (by simpa using this)]
   rfl
  | succ i =>
   have h0 : x.1.id ≠ p:=h3 0 (by omega)
   rw [List.find?_cons_of_neg (by simpa using h0)]
   exact ih (i:=i) (by simpa using h1) (by simpa using h2) fun j hj => by have:=h3 (j + 1) (by omega); simpa using this
theorem pfind_mem {l : List Pw} {p : Int} {x : Pw} (h : pfind l p = some x) : x ∈ l:=List.mem_of_find?_eq_some h
def pwO (o : Option Pw) : Array Value:=(pwC (o.getD noPw)).toArray
def zPw : Array Value:=#[.int .i64 0,.int .i64 0,.int .i64 0,.int .i64 0,.int .i64 0,.slice none 0 0,.slice none 0 0]
theorem iZPw : (Tryz.prog.info? 51).map (·.size) = some zPw.size:=by show _ = some 7; kernel_rfl
theorem zPw_one : zPw.all (·.oneCell') = true:=by simp [zPw,Value.oneCell']
theorem find14_calls (v : Value) (l : List Pw) (p : Int) (w : World) (hF : Ps14 w v l) (hL : l.length ≤ 1000000000) :
  Calls Tryz.prog 47 #[v,.int .i64 p] w fun e w' => e = .returned (.tuple #[.agg (pwO (pfind l p)),.bool (pfind l p).isSome]) ∧ Ext w w':=by
 obtain ⟨⟨AL,c,rfl,hc,hx⟩,hD⟩:=hF
 obtain ⟨R,hR⟩ : ∃ R,R = pfind l p:=⟨_,rfl⟩
 rw [← hR]
 obtain ⟨n,hn⟩ : ∃ n,n = l.length:=⟨_,rfl⟩
 rw [← hn] at hx hc hL ⊢
 have HX:=veil (And.intro hx hD)
 have HR:=veil (And.intro hR hn)
 clear hR hx hn hD
 go_enter Tryz.func47,Tryz.ntmps47
 go_upto_region 1 with (fail)
 obtain ⟨g,hg⟩ : ∃ g,g = w.heap.size:=⟨_,rfl⟩
 obtain ⟨w0,hw0⟩ : ∃ W,W = w.alloc (.cells zPw 51):=⟨_,rfl⟩
 have h0:=zag w (.cells zPw 51)
 have hE0:=Ext.alloc w (.cells zPw 51)
 rw [← hw0] at hE0
 rw [← hw0,← hg] at h0
 have H0:=veil (And.intro hE0 (And.intro h0 (show w.heap.size ≤ g by omega)))
 unfold zPw at hw0
 rw [← hw0,← hg]
 clear hw0 hg h0 hE0
 go_wp2
 go_loopw [10] (fun v wr => ∃ i : Nat,i ≤ n ∧ v = .int .i64 (i : Int) ∧ (∀ j,j < i → (l.getD j noPw).1.id ≠ p) ∧ Ext w0 wr)
  (fun v _ => n - (intOf v).toNat)
 case atStart => exact ⟨0,by omega,rfl,fun j hj => by omega,Ext.refl _⟩
 case round =>
  obtain ⟨i,hi,rfl,hall,hE⟩:=hrel
  by_cases hlt : i < n
  ·
   have hd1 : decide ((i : Int) < (n : Int)) = true:=by simp; omega
   have hii : (i : Int) < (n : Int):=by omega
   obtain ⟨b,o,hAL,hb,hcl⟩:=HX.out.1.resolve_left (by omega)
   have hil : i < l.length:=by have:=HR.out.2; omega
   have hrg:=zah (H0.out.1.trans hE) hb (hcl i _ (zch hil))
   have hdd:=HX.out.2 _ (pw_mem hil)
   obtain ⟨x,hxx⟩ : ∃ x,x = l.getD i noPw:=⟨_,rfl⟩
   rw [← hxx] at hrg hdd
   obtain ⟨id,hid⟩ : ∃ z,z = x.1.id:=⟨_,rfl⟩
   have hyes : id = p → R = some x:=fun h => by
    rw [HR.out.1,hxx]
    exact pfind_is hil (by rw [← hxx,← hid]; exact h) hall
   have HV:=veil (And.intro hyes (And.intro hxx (And.intro hid (And.intro hall hE))))
   have HG:=veil hrg
   subst hAL
   clear hrg hxx hall hyes hE hb hcl hil
   obtain ⟨y,hy⟩ : ∃ y,y = (pwC x).toArray:=⟨_,rfl⟩
   have hy1 : y.all (·.oneCell') = true:=by rw [hy]; exact pwA_one hdd.1 hdd.2
   have hy7 : 7 = y.size:=by rw [hy]; rfl
   have iy : (Tryz.prog.info? 51).map (·.size) = some y.size:=by rw [hy]; exact iPwA x
   have HGy:=veil (show wr.rangeAt b (o + i * 7) y.toList by rw [hy]; exact HG.out)
   have hy0 : ∀ (W : World) (g : Nat),W.heap[g]? = some (.cells y 51 (0,0)) → W.cell? ⟨g,0,none⟩ = some (.int .i64 id):=fun W g h => by
    rw [hid]
    rw [hy] at h
    exact PwAt.at0 (x:=x) h
   have hyO : y = pwO (some x):=hy
   have HY:=veil (And.intro hy1 (And.intro iy (And.intro hy7 (And.intro hy0 hyO))))
   clear hy hy1 iy HG hy7 hy0 hdd hid hyO
   go_upto_region 4 with (first
    | ((with_reducible refine zaa 13 ?_); refine wpList_load_mid rfl 51 _ rfl b _ rfl y.toList _ HGy.out Tryz.underlying51 rfl HY.out.2.1 ?_)
    | ((with_reducible refine zaa 7 ?_); refine zcr _ _ rfl rfl rfl rfl rfl rfl hzPw (fun _ => rfl) (fun _ => rfl) HY.out.2.1 HY.out.2.2.1 HY.out.1 ?_; intro gf W hgf hW hEW))
   have c0:=HY.out.2.2.2.1 _ _ hW
   have HGB:=veil hW
   have HEW:=veil (And.intro hEW ((HV.out.2.2.2.2.trans hEW).block H0.out.2.1))
   clear hW hEW HGy hgf
   by_cases a0 : id = p
   ·
    have f0 : (id == p) = true:=by simp [a0]
    obtain rfl : R = some x:=HV.out.1 a0
    have HA:=veil a0
    clear a0
    go_wp2_with (first
     | ((with_reducible refine zaa 18 ?_); refine wpList_load_row rfl 51 _ rfl gf rfl 51 y (0,0) _ HGB.out Tryz.underlying51 rfl HY.out.2.1 ?_)
     | ((with_reducible refine zbf ?_); refine wpList_store_row rfl 51 _ _ rfl g y rfl rfl 51 _ HEW.out.2 HY.out.2.1 HY.out.2.2.1 HY.out.1 ?_))
    refine bodyPost_ret (zcf rfl _ _ g 51 y (0,0) _ rfl (setRow_heap W g _ y 51 (0,0) HEW.out.2) Tryz.underlying51 rfl HY.out.2.1) rfl ⟨by rw [← HY.out.2.2.2.2]; rfl,zbb (H0.out.1.trans (HV.out.2.2.2.2.trans HEW.out.1)) H0.out.2.2 _⟩
   ·
    have f0 : (id == p) = false:=by simp [a0]
    have HA:=veil a0
    clear a0
    go_wp2
    go_roundw
    case rel =>
     refine ⟨i + 1,by omega,by go_num,fun j hj => ?_,HV.out.2.2.2.2.trans HEW.out.1⟩
     by_cases e : j = i
     ·
      subst e; rw [← HV.out.2.1,← HV.out.2.2.1]; exact HA.out
     ·
      exact HV.out.2.2.2.1 j (by omega)
    case measure => simp [intOf]; omega
  ·
   obtain rfl : i = n:=by omega
   have hd1 : decide ((i : Int) < (i : Int)) = false:=by simp
   obtain rfl : R = none:=HR.out.1.trans (pfind_no fun j hj => hall j (by have:=HR.out.2; omega))
   have HE:=veil (And.intro (H0.out.1.trans hE) (hE.block H0.out.2.1))
   clear hall hE
   go_wp2_with ((with_reducible refine zbf ?_); refine wpList_store_row rfl 51 _ _ rfl g zPw rfl rfl 51 _ HE.out.2 iZPw rfl zPw_one ?_)
   refine bodyPost_ret (zcf rfl _ _ g 51 zPw (0,0) _ rfl (setRow_heap wr g _ zPw 51 (0,0) HE.out.2) Tryz.underlying51 rfl iZPw) rfl ⟨rfl,zbb HE.out.1 H0.out.2.2 _⟩
def timeB (x : Pd) (f a : Int) : Bool:=(decide (f ≤ a) && decide (a < f + x.mi)) && runsV x.sv (a / 1440)
theorem isInTime_calls (x : Pw) (f a : Int) (w : World) (h1 : Ds w x.2.1 x.1.sv.ex) (h2 : Ds w x.2.2 x.1.sv.ec) (hm0 : 1 ≤ x.1.mi) (hm1 : x.1.mi ≤ 1048576) (hM : mayV x.1.sv = true) (hf0 : 0 ≤ f) (hf1 : f ≤ 1073741824) (ha0 : 0 ≤ a) (ha1 : a ≤ 1073741824) :
  Calls Tryz.prog 48 #[.agg (pwC x).toArray,.int .i64 f,.int .i64 a] w fun e w' => e = .returned (.bool (timeB x.1 f a)) ∧ Ext w w':=by
 have hEW:=Ext.alloc w (.cells (pwC x).toArray 51)
 have KO:=veil (fun W => on12_calls a W (by omega) (by omega))
 have KR:=veil (fun W (h : Ext w W) => runs12_calls (.agg (pwS x).toArray) x.1.sv (a / 1440) W ⟨_,_,rfl,h1.ext h,h2.ext h⟩ (mayV_100 hM).1 (mayV_100 hM).2)
 rw [hM,Bool.true_and] at KR
 unfold timeB
 obtain ⟨M,hMM⟩ : ∃ M,M = runsV x.1.sv (a / 1440):=⟨_,rfl⟩
 obtain ⟨mi,hmi⟩ : ∃ m,m = x.1.mi:=⟨_,rfl⟩
 obtain ⟨D,hD⟩ : ∃ D,D = a / 1440:=⟨_,rfl⟩
 rw [← hMM,← hD] at KR
 rw [← hMM,← hmi]
 obtain ⟨R,hR⟩ : ∃ R,R = ((decide (f ≤ a) && decide (a < f + mi)) && M):=⟨_,rfl⟩
 rw [← hR]
 have HR:=veil hR
 rw [← hmi] at hm0 hm1
 have HMI:=veil (And.intro hmi hD)
 obtain ⟨y,hy⟩ : ∃ y,y = (pwC x).toArray:=⟨_,rfl⟩
 have HG0:=veil (show (w.alloc (.cells y 51)).heap[w.heap.size]? = some (.cells y 51 (0,0)) from zag w _)
 rw [← hy] at hEW ⊢
 have HYY:=veil hy
 have HB:=veil (And.intro ha0 ha1)
 clear hMM hmi h1 h2 hM hD hy ha0 ha1 hR
 go_enter Tryz.func48,Tryz.ntmps48
 go_upto_region 1 with (fail)
 obtain ⟨g,hg⟩ : ∃ g,g = w.heap.size:=⟨_,rfl⟩
 rw [← hg] at HG0 ⊢
 have HE:=veil hEW
 clear hEW
 generalize w.alloc (.cells y 51) = w0 at *
 have HP : Hid (PwAt w0 g x):=veil (by have h:=HG0.out; rw [HYY.out] at h; exact h)
 clear hg HG0 HYY
 go_upto_region 2 with (go_at_call 76; refine (KO.out _).mono ?_; rintro e w1 ⟨x1,y1,ev,rfl,hE1,hA1⟩)
 obtain ⟨-,-,hx1,-,rfl⟩:=hA1.resolve_left (by have:=HB.out; omega)
 obtain rfl : x1 = D:=hx1.trans HMI.out.2.symm
 have HE1:=veil (HE.out.trans hE1)
 have HP1 : Hid (PwAt w1 g x):=veil (HP.out.ext hE1)
 have c1:=HP1.out.at1
 rw [← HMI.out.1] at c1
 have HS:=veil HP1.out.sv
 clear hE1 hx1 hA1 HE HP KO
 have e1:=eqNil14
 by_cases g0 : f ≤ a
 rotate_left
 ·
  have f0 : decide (f ≤ a) = false:=decide_eq_false g0
  obtain rfl : R = false:=by rw [HR.out,f0]; rfl
  clear g0
  go_wp2
  go_ret
  exact ⟨rfl,HE1.out⟩
 have f0 : decide (f ≤ a) = true:=decide_eq_true g0
 by_cases g1 : a < f + mi
 rotate_left
 ·
  have f1 : decide (a < f + mi) = false:=decide_eq_false g1
  obtain rfl : R = false:=by rw [HR.out,f0,f1]; rfl
  clear g0 g1
  go_wp2
  go_ret
  exact ⟨rfl,HE1.out⟩
 have f1 : decide (a < f + mi) = true:=decide_eq_true g1
 obtain rfl : R = M:=by rw [HR.out,f0,f1]; rfl
 clear g0 g1
 go_wp2_with (first
  | ((with_reducible refine zaa 33 ?_); refine wpl_midG14 rfl 49 _ rfl g 2 rfl (pwS x) _ HS.out Tryz.underlying49 rfl (iPwS x) ?_)
  | (go_at_call 77; refine (KR.out _ HE1.out).mono ?_; rintro e w2 ⟨rfl,hE2⟩))
 go_ret
 exact ⟨rfl,HE1.out.trans hE2⟩
theorem and_bit8 : ∀ n : Fin 256,bits BinOp.and IntKind.i64 (n.val : Int) 1 = (n.val : Int) % 2:=by decide +kernel
theorem zone_bit {z : Int} {K : Nat} (h0 : 0 ≤ z) (h1 : z ≤ 255) : bits BinOp.and IntKind.i64 (z / 2 ^ K) 1 = z / 2 ^ K % 2:=by
 have a:=zan z h0 K
 have b:=zca z h0 K
 have:=and_bit8 ⟨(z / 2 ^ K).toNat,by omega⟩
 simpa [Int.toNat_of_nonneg a] using this
theorem timeB_no {x : Pd} {f a : Int} (h : timeB x f a = false) : a < f ∨ f + x.mi ≤ a ∨ runsV x.sv (a / 1440) = false:=by
 unfold timeB at h
 by_cases h1 : a < f
 ·
  exact .inl h1
 ·
  by_cases h2 : f + x.mi ≤ a
  ·
   exact .inr (.inl h2)
  ·
   rw [decide_eq_true (show f ≤ a by omega),decide_eq_true (show a < f + x.mi by omega),Bool.and_self,Bool.true_and] at h
   exact .inr (.inr h)
theorem timeB_yes {x : Pd} {f a : Int} (h : timeB x f a = true) : ¬ a < f ∧ ¬ f + x.mi ≤ a ∧ runsV x.sv (a / 1440) = true:=by
 unfold timeB at h
 simp only [Bool.and_eq_true,decide_eq_true_eq] at h
 exact ⟨by omega,by omega,h.2⟩
theorem rest14_calls (v : Value) (l : List Pw) (t : Tk) (z a : Int) (w : World) (hF : Ps14 w v l) (hM : mayP (pds l) = true) (hT : mayT t = true) (hP : placeB z a = true) :
  Calls Tryz.prog 26 #[v,tkV t,.int .i64 z,.int .i64 a] w fun e w' => e = .returned (.int .i64 (whyV (pds l) t z a)) ∧ Ext w w':=by
 have h16:=mayP_16 hM
 rw [zbm] at h16
 have KF:=veil (fun W (h : Ext w W) => find14_calls v l t.p W (hF.ext h) (by omega))
 have hT1:=mayT_is hT
 have hP1:=placeB_is hP
 have hpr:=pfind_prod l t.p
 have hin : ∀ x,pfind l t.p = some x → Ds w x.2.1 x.1.sv.ex ∧ Ds w x.2.2 x.1.sv.ec ∧ (1 ≤ x.1.mi ∧ x.1.mi ≤ 1048576 ∧ mayV x.1.sv = true):=fun x hx => by
  have hd:=hF.2 x (pfind_mem hx)
  obtain ⟨i,hi,he⟩:=prodP_in (l:=pds l) (p:=t.p) (x:=x.1) (by rw [hpr,hx]; rfl)
  have hok:=mayP_ok hM hi
  unfold okP at hok
  rw [he] at hok
  exact ⟨hd.1,hd.2,hok.2.2.2⟩
 obtain ⟨⟨AL,c,rfl,-,-⟩,-⟩:=hF
 obtain ⟨n,hn⟩ : ∃ n,n = l.length:=⟨_,rfl⟩
 rw [← hn] at KF ⊢
 clear hn h16
 obtain ⟨R,hR⟩ : ∃ R,R = whyV (pds l) t z a:=⟨_,rfl⟩
 rw [← hR]
 obtain ⟨o,ho⟩ : ∃ o,o = pfind l t.p:=⟨_,rfl⟩
 rw [← ho] at KF hpr hin
 obtain ⟨Z,hZ⟩ : ∃ Z : Nat,(Z : Int) = z:=⟨z.toNat,by omega⟩
 subst hZ
 have hZ7 : Z ≤ 7:=by omega
 have hZb:=zone_bit (z:=t.z) (K:=Z) (by omega) (by omega)
 have hZt : ((Z : Int)).toNat = Z:=by simp
 have HR:=veil (And.intro hR (And.intro hpr (And.intro hin (And.intro hT1 (And.intro hP1 (And.intro hZb hZt))))))
 have hE0:=Ext.alloc w (.cells (tkC t) 24)
 have hS0:=TkAt.new w t
 clear hR hpr hin hT1 hP1 hM hT hP ho hZb hZt
 unfold tkV
 go_enter Tryz.func26,Tryz.ntmps26
 go_upto_region 1 with (fail)
 obtain ⟨g,hg⟩ : ∃ g,g = w.heap.size:=⟨_,rfl⟩
 rw [← hg] at hS0 ⊢
 generalize w.alloc (.cells (tkC t) 24) = w0 at *
 have HS:=veil hS0
 have HE:=veil hE0
 have c1:=hS0.at1
 clear hE0 hS0 hg
 obtain ⟨y,hy⟩ : ∃ y,y = pwO o:=⟨_,rfl⟩
 have hy1 : y.all (·.oneCell') = true:=by
  rw [hy]
  cases o with
  | none => simp [pwO,pwC,noPw,Value.oneCell']
  | some x => exact pwA_one (HR.out.2.2.1 x rfl).1 (HR.out.2.2.1 x rfl).2.1
 have hy7 : 7 = y.size:=by rw [hy]; rfl
 have iy : (Tryz.prog.info? 51).map (·.size) = some y.size:=by rw [hy]; exact iPwA _
 rw [← hy] at KF
 have HY:=veil (And.intro hy1 (And.intro iy (And.intro hy7 hy)))
 clear hy hy1 iy hy7
 go_upto_region 2 with (first
  | (go_at_call 47; refine (KF.out _ HE.out).mono ?_; rintro e w1 ⟨rfl,hE1⟩)
  | ((with_reducible refine zaa 9 ?_); refine zcr _ _ rfl rfl rfl rfl rfl rfl hzPw (fun _ => rfl) (fun _ => rfl) HY.out.2.1 HY.out.2.2.1 HY.out.1 ?_; intro gf W hgf hW hEW))
 have HGB:=veil hW
 have HE2:=veil (HE.out.trans (hE1.trans hEW))
 have HS2 : Hid (TkAt W g t):=veil (HS.out.ext (hE1.trans hEW))
 clear hW hEW hE1 hgf HE HS KF c1
 cases o with
 | none =>
  obtain rfl : R = 7:=HR.out.1.trans (whyV_none HR.out.2.1)
  simp only [Option.isSome]
  go_wp2
  go_ret
  exact ⟨rfl,HE2.out⟩
 | some x =>
  have hwx : R = whyX x.1 t (Z : Int) a:=HR.out.1.trans (whyV_some HR.out.2.1)
  obtain ⟨hd1,hd2,hm0,hm1,hmv⟩:=HR.out.2.2.1 x rfl
  have KI:=veil (fun W (h : Ext w W) => isInTime_calls x t.f a W (hd1.ext h) (hd2.ext h) hm0 hm1 hmv (by have:=HR.out.2.2.2.1; omega) (by have:=HR.out.2.2.2.1; omega) (by have:=HR.out.2.2.2.2.1; omega) (by have:=HR.out.2.2.2.2.1; omega))
  obtain ⟨B,hB⟩ : ∃ B,B = timeB x.1 t.f a:=⟨_,rfl⟩
  rw [← hB] at KI
  have hyx : (pwC x).toArray = y:=HY.out.2.2.2.symm
  rw [hyx] at KI
  have HW:=veil (And.intro hwx hB)
  have c2:=HS2.out.at2
  have c3:=HS2.out.at3
  have tz0 : 0 ≤ t.z:=by have:=HR.out.2.2.2.1; omega
  have tz1 : t.z ≤ 255:=by have:=HR.out.2.2.2.1; omega
  obtain ⟨tz,htz⟩ : ∃ q,q = t.z:=⟨_,rfl⟩
  obtain ⟨tf,htf⟩ : ∃ q,q = t.f:=⟨_,rfl⟩
  rw [← htz] at c2 tz0 tz1
  rw [← htf] at c3 KI
  have HTZ:=veil (And.intro htz htf)
  clear hwx hd1 hd2 hm0 hm1 hmv hB hyx htz htf
  simp only [Option.isSome]
  by_cases g5 : bits BinOp.and IntKind.i64 (tz / 2 ^ Z) 1 = 0
  ·
   have f5 : (bits BinOp.and IntKind.i64 (tz / 2 ^ Z) 1 == 0) = true:=by simpa using g5
   obtain rfl : R = 5:=HW.out.1.trans (whyX_zone (by rw [HR.out.2.2.2.2.2.2,← HR.out.2.2.2.2.2.1,← HTZ.out.1]; exact g5))
   clear g5
   go_wp2
   go_ret
   exact ⟨rfl,HE2.out⟩
  have f5 : (bits BinOp.and IntKind.i64 (tz / 2 ^ Z) 1 == 0) = false:=by simpa using g5
  have hnz : ¬ t.z / 2 ^ ((Z : Int)).toNat % 2 = 0:=by rw [HR.out.2.2.2.2.2.2,← HR.out.2.2.2.2.2.1,← HTZ.out.1]; exact g5
  have HNZ:=veil hnz
  clear g5 hnz
  cases B with
  | false =>
   obtain rfl : R = 6:=HW.out.1.trans (zcs HNZ.out (timeB_no HW.out.2.symm))
   go_wp2_with (first
    | ((with_reducible refine zaa 29 ?_); refine wpList_load_row rfl 51 _ rfl gf rfl 51 y (0,0) _ HGB.out Tryz.underlying51 rfl HY.out.2.1 ?_)
    | (go_at_call 48; refine (KI.out _ HE2.out).mono ?_; rintro e w3 ⟨rfl,hE3⟩))
   go_ret
   exact ⟨rfl,HE2.out.trans hE3⟩
  | true =>
   obtain rfl : R = 1:=HW.out.1.trans (whyX_ok HNZ.out (timeB_yes HW.out.2.symm).1 (timeB_yes HW.out.2.symm).2.1 (timeB_yes HW.out.2.symm).2.2)
   go_wp2_with (first
    | ((with_reducible refine zaa 29 ?_); refine wpList_load_row rfl 51 _ rfl gf rfl 51 y (0,0) _ HGB.out Tryz.underlying51 rfl HY.out.2.1 ?_)
    | (go_at_call 48; refine (KI.out _ HE2.out).mono ?_; rintro e w3 ⟨rfl,hE3⟩))
   go_ret
   exact ⟨rfl,HE2.out.trans hE3⟩
theorem covers14_calls (v : Value) (l : List Pw) (t : Tk) (z a : Int) (w : World) (hF : Ps14 w v l) (hL : fewP (pds l) = true) :
  Calls Tryz.prog 11 #[v,tkV t,.int .i64 z,.int .i64 a] w fun e w' => e = .returned (.bool (coversV (pds l) t z a)) ∧ Ext w w':=by
 obtain ⟨R,hR⟩ : ∃ R,R = coversV (pds l) t z a:=⟨_,rfl⟩
 rw [← hR]
 unfold coversV at hR
 have KL:=veil (fun W (h : Ext w W) => zck v l W (hF.ext h) hL)
 have KW:=veil (fun W (h : Ext w W) (hM : mayP (pds l) = true) (hT : mayT t = true) (hP : placeB z a = true) => rest14_calls v l t z a W (hF.ext h) hM hT hP)
 have KM:=veil (fun W => may9_calls t W)
 have KP:=veil (fun W => zcz z a W)
 obtain ⟨⟨AL,c,rfl,-,-⟩,-⟩:=hF
 obtain ⟨n,hn⟩ : ∃ n,n = l.length:=⟨_,rfl⟩
 rw [← hn] at KW KL ⊢
 clear hn hL
 obtain ⟨N,hN⟩ : ∃ N,N = mayP (pds l):=⟨_,rfl⟩
 obtain ⟨M,hM⟩ : ∃ M,M = mayT t:=⟨_,rfl⟩
 obtain ⟨P,hP⟩ : ∃ P,P = placeB z a:=⟨_,rfl⟩
 obtain ⟨y,hy⟩ : ∃ y,y = whyV (pds l) t z a:=⟨_,rfl⟩
 rw [← hN,← hM,← hP,← hy] at hR
 rw [← hN,← hM,← hP,← hy] at KW
 rw [← hN] at KL
 rw [← hM] at KM
 rw [← hP] at KP
 have HR:=veil hR
 have hE0:=Ext.alloc w (.cells (tkC t) 24)
 have hS0:=TkAt.new w t
 clear hN hM hP hy hR
 unfold tkV at *
 go_enter Tryz.func11,Tryz.ntmps11
 go_upto_region 1 with (fail)
 obtain ⟨g,hg⟩ : ∃ g,g = w.heap.size:=⟨_,rfl⟩
 rw [← hg] at hS0 ⊢
 generalize w.alloc (.cells (tkC t) 24) = w0 at *
 have HS:=veil hS0
 have HE:=veil hE0
 clear hE0 hS0 hg
 cases N with
 | false =>
  obtain rfl : R = false:=HR.out
  go_wp2_with (go_at_call 10; with_reducible refine (KL.out _ HE.out).mono ?_; rintro e w1 ⟨rfl,hE1⟩)
  go_ret
  exact ⟨rfl,HE.out.trans hE1⟩
 | true =>
  cases M with
  | false =>
   obtain rfl : R = false:=HR.out
   go_wp2_with (first
    | (go_at_call 10; with_reducible refine (KL.out _ HE.out).mono ?_; rintro e w1 ⟨rfl,hE1⟩; have HE1:=veil (HE.out.trans hE1); have HS1 : Hid (TkAt w1 g t):=veil (HS.out.ext hE1); clear hE1)
    | ((with_reducible refine zaa 12 ?_); refine zaf rfl 24 _ rfl g rfl 24 (tkC t) (0,0) _ HS1.out Tryz.underlying24 rfl (iTk t) ?_)
    | (go_at_call 24; with_reducible refine (KM.out _).mono ?_; rintro e w2 ⟨rfl,hE2⟩))
   go_ret
   exact ⟨rfl,HE1.out.trans hE2⟩
  | true =>
   cases P with
   | false =>
    obtain rfl : R = false:=HR.out
    go_wp2_with (first
     | (go_at_call 10; with_reducible refine (KL.out _ HE.out).mono ?_; rintro e w1 ⟨rfl,hE1⟩; have HE1:=veil (HE.out.trans hE1); have HS1 : Hid (TkAt w1 g t):=veil (HS.out.ext hE1); clear hE1)
     | ((with_reducible refine zaa 12 ?_); refine zaf rfl 24 _ rfl g rfl 24 (tkC t) (0,0) _ HS1.out Tryz.underlying24 rfl (iTk t) ?_)
     | (go_at_call 24; with_reducible refine (KM.out _).mono ?_; rintro e w2 ⟨rfl,hE2⟩; have HE2:=veil (HE1.out.trans hE2); clear hE2)
     | (go_at_call 25; with_reducible refine (KP.out _).mono ?_; rintro e w3 ⟨rfl,rfl⟩))
    go_ret
    exact ⟨rfl,HE2.out⟩
   | true =>
    have HRr:=veil (show R = decide (y = 1) from HR.out)
    by_cases g0 : y = 1
    ·
     have f0 : (y == 1) = true:=by simp [g0]
     obtain rfl : R = true:=HRr.out.trans (decide_eq_true g0)
     clear g0
     go_wp2_with (first
      | (go_at_call 10; with_reducible refine (KL.out _ HE.out).mono ?_; rintro e w1 ⟨rfl,hE1⟩; have HE1:=veil (HE.out.trans hE1); have HS1 : Hid (TkAt w1 g t):=veil (HS.out.ext hE1); clear hE1)
      | ((with_reducible refine zaa 12 ?_); refine zaf rfl 24 _ rfl g rfl 24 (tkC t) (0,0) _ HS1.out Tryz.underlying24 rfl (iTk t) ?_)
      | (go_at_call 24; with_reducible refine (KM.out _).mono ?_; rintro e w2 ⟨rfl,hE2⟩; have HE2:=veil (HE1.out.trans hE2); have HS2 : Hid (TkAt w2 g t):=veil (HS1.out.ext hE2); clear hE2)
      | (go_at_call 25; with_reducible refine (KP.out _).mono ?_; rintro e w3 ⟨rfl,rfl⟩)
      | ((with_reducible refine zaa 22 ?_); refine zaf rfl 24 _ rfl g rfl 24 (tkC t) (0,0) _ HS2.out Tryz.underlying24 rfl (iTk t) ?_)
      | (go_at_call 26; with_reducible refine (KW.out _ HE2.out (by trivial) (by trivial) (by trivial)).mono ?_; rintro e w4 ⟨rfl,hE4⟩))
     go_ret
     exact ⟨rfl,HE2.out.trans hE4⟩
    ·
     have f0 : (y == 1) = false:=by simp [g0]
     obtain rfl : R = false:=HRr.out.trans (decide_eq_false g0)
     clear g0
     go_wp2_with (first
      | (go_at_call 10; with_reducible refine (KL.out _ HE.out).mono ?_; rintro e w1 ⟨rfl,hE1⟩; have HE1:=veil (HE.out.trans hE1); have HS1 : Hid (TkAt w1 g t):=veil (HS.out.ext hE1); clear hE1)
      | ((with_reducible refine zaa 12 ?_); refine zaf rfl 24 _ rfl g rfl 24 (tkC t) (0,0) _ HS1.out Tryz.underlying24 rfl (iTk t) ?_)
      | (go_at_call 24; with_reducible refine (KM.out _).mono ?_; rintro e w2 ⟨rfl,hE2⟩; have HE2:=veil (HE1.out.trans hE2); have HS2 : Hid (TkAt w2 g t):=veil (HS1.out.ext hE2); clear hE2)
      | (go_at_call 25; with_reducible refine (KP.out _).mono ?_; rintro e w3 ⟨rfl,rfl⟩)
      | ((with_reducible refine zaa 22 ?_); refine zaf rfl 24 _ rfl g rfl 24 (tkC t) (0,0) _ HS2.out Tryz.underlying24 rfl (iTk t) ?_)
      | (go_at_call 26; with_reducible refine (KW.out _ HE2.out (by trivial) (by trivial) (by trivial)).mono ?_; rintro e w4 ⟨rfl,hE4⟩))
     go_ret
     exact ⟨rfl,HE2.out.trans hE4⟩
end Go.Proofs.YtbfkecfcolcclaaGreatDoor
namespace Go.Proofs.YtbfkecfcolcclaaGreatDoor
def top8 : Nat:=w64 ^ 8
theorem zdj : top8 = top * top:=by unfold top8 top; rw [← Nat.pow_add]
theorem zdi : w64 = 18446744073709551616:=rfl
theorem div_succ' (B n i : Nat) : n / B ^ (i + 1) = n / B ^ i / B:=by rw [Nat.pow_succ,Nat.div_div_eq_div_mul]
theorem setw {B : Nat} (hB : 0 < B) (Z k n v : Nat) (hk : k < n) (hZ : Z < B ^ n) (hv : v < B) :
  ∃ Z',Z' < B ^ n ∧ (∀ m,dg B Z' m = if m = k then v else dg B Z m) ∧ Z' + B ^ k * dg B Z k = Z + B ^ k * v:=by
 have hP : 0 < B ^ k:=Nat.pow_pos hB
 have e1 : B ^ k * (Z / B ^ k) + Z % B ^ k = Z:=Nat.div_add_mod _ _
 have e2 : B * (Z / B ^ k / B) + Z / B ^ k % B = Z / B ^ k:=Nat.div_add_mod _ _
 have hr:=Nat.mod_lt Z hP
 have hq : Z / B ^ k / B < B ^ (n - (k + 1)):=by
  rw [← div_succ',Nat.div_lt_iff_lt_mul (Nat.pow_pos hB),← Nat.pow_add,show n - (k + 1) + (k + 1) = n by omega]; exact hZ
 have hn : B ^ n = B ^ k * (B * B ^ (n - (k + 1))):=by
  rw [← Nat.mul_assoc,← Nat.pow_succ,← Nat.pow_add]; congr 1; omega
 have hd : dg B Z k = Z / B ^ k % B:=rfl
 have hdm : ∀ j,dg B Z (k + 1 + j) = Z / B ^ k / B / B ^ j % B:=by
  intro j; unfold dg; rw [Nat.pow_add,← Nat.div_div_eq_div_mul,div_succ']
 have hlo : ∀ j,j < k → dg B Z j = dg B (Z % B ^ k) j:=fun j hj => (zcb Z k j hj).symm
 rw [hd,hn]
 clear hd hn hZ
 generalize Z / B ^ k / B = q at *
 generalize Z / B ^ k % B = d at *
 generalize Z / B ^ k = a at *
 generalize Z % B ^ k = r at *
 have hz : r + B ^ k * (v + B * q) = r + B ^ k * v + B ^ k * (B * q):=by rw [Nat.mul_add,Nat.add_assoc]
 refine ⟨r + B ^ k * (v + B * q),?_,?_,?_⟩
 ·
  have : v + B * q + 1 ≤ B * B ^ (n - (k + 1)):=by
   have : B * (q + 1) ≤ B * B ^ (n - (k + 1)):=Nat.mul_le_mul_left _ hq
   rw [Nat.mul_add] at this; omega
  have:=Nat.mul_le_mul_left (B ^ k) this
  rw [Nat.mul_add] at this; omega
 ·
  have hdiv : (r + B ^ k * (v + B * q)) / B ^ k = v + B * q:=by
   rw [Nat.add_mul_div_left _ _ hP,Nat.div_eq_of_lt hr,Nat.zero_add]
  intro m
  by_cases h : m = k
  ·
   rw [if_pos h,h]
   unfold dg
   rw [hdiv,Nat.add_mul_mod_self_left,Nat.mod_eq_of_lt hv]
  ·
   rw [if_neg h]
   by_cases hlt : m < k
   ·
    rw [← zcb _ k m hlt,Nat.add_mul_mod_self_left,Nat.mod_eq_of_lt hr,hlo m hlt]
   ·
    obtain ⟨j,rfl⟩ : ∃ j,m = k + 1 + j:=⟨m - (k + 1),by omega⟩
    rw [hdm]
    unfold dg
    rw [Nat.pow_add,← Nat.div_div_eq_div_mul,div_succ',hdiv,Nat.add_mul_div_left _ _ hB,Nat.div_eq_of_lt hv,Nat.zero_add]
 ·
  rw [hz,← e1,← e2,Nat.mul_add]
  omega
theorem setwd (Z k : Nat) (v : Int) (hk : k < 8) (hZ : Z < top8) (h0 : 0 ≤ v) (h1 : v ≤ 18446744073709551615) :
  ∃ Z',Z' < top8 ∧ (∀ m,wd Z' m = if m = k then v else wd Z m) ∧ Z' + w64 ^ k * dg w64 Z k = Z + w64 ^ k * v.toNat:=by
 obtain ⟨Z',a,b,c⟩:=setw zaj Z k 8 v.toNat hk hZ (by unfold w64; omega)
 refine ⟨Z',a,fun m => ?_,c⟩
 unfold wd
 rw [b m]
 split
 ·
  omega
 ·
  rfl
theorem col_step {B Z Z' Z0 t m c c' x i j M : Nat} (hM : m = dg B M j) (e : Z + c * B ^ (i + j) = Z0 + t * (M % B ^ j) * B ^ i)
  (hx : x + B * c' = t * m + c + dg B Z (i + j)) (hZ : Z' + B ^ (i + j) * dg B Z (i + j) = Z + B ^ (i + j) * x) :
  Z' + c' * B ^ (i + (j + 1)) = Z0 + t * (M % B ^ (j + 1)) * B ^ i:=by
 rw [zar,← hM,← Nat.add_assoc i j 1,Nat.pow_succ B (i + j)]
 have h1 : t * (M % B ^ j + B ^ j * m) * B ^ i = t * (M % B ^ j) * B ^ i + B ^ (i + j) * (t * m):=by
  rw [Nat.mul_add,Nat.add_mul,Nat.pow_add]
  congr 1
  rw [Nat.mul_left_comm t,Nat.mul_comm (B ^ i),Nat.mul_comm (B ^ j * B ^ i),Nat.mul_comm (B ^ j),Nat.mul_assoc]
 have h2:=congrArg (fun z => B ^ (i + j) * z) hx
 simp only [Nat.mul_add] at h2
 rw [h1]
 have h3 : c' * (B ^ (i + j) * B) = B ^ (i + j) * (B * c'):=by rw [Nat.mul_comm c',Nat.mul_assoc]
 rw [h3]
 rw [Nat.mul_comm c] at e
 generalize B ^ (i + j) * (B * c') = p1 at *
 generalize B ^ (i + j) * (t * m) = p2 at *
 generalize B ^ (i + j) * c = p3 at *
 generalize B ^ (i + j) * dg B Z (i + j) = p4 at *
 generalize B ^ (i + j) * x = p5 at *
 omega
theorem low_dvd {B Z : Nat} {k : Nat} (h : Z % B ^ k = 0) : Z = B ^ k * (Z / B ^ k):=by
 have:=Nat.div_add_mod Z (B ^ k); omega
theorem row_done {B X M Z Z1 Z2 T t c o o' x k : Nat} (hlow : Z % B ^ k = 0) (hT : T < B ^ k) (ht : t < B) (hM : M < B ^ 4) (e : Z + o * B ^ (k + 4) = X + T * M)
  (ht0 : (dg B Z k + t * dg B M 0) % B = 0) (h1 : Z1 + c * B ^ (k + 4) = Z + t * (M % B ^ 4) * B ^ k) (hx : x + B * o' = dg B Z1 (k + 4) + c + o)
  (h2 : Z2 + B ^ (k + 4) * dg B Z1 (k + 4) = Z1 + B ^ (k + 4) * x) :
  Z2 % B ^ (k + 1) = 0 ∧ T + B ^ k * t < B ^ (k + 1) ∧ Z2 + o' * B ^ (k + 1 + 4) = X + (T + B ^ k * t) * M:=by
 have hz:=low_dvd hlow
 rw [Nat.mod_eq_of_lt hM] at h1
 have hp5 : B ^ (k + 1 + 4) = B ^ (k + 4) * B:=by rw [← Nat.pow_succ,show k + 1 + 4 = k + 4 + 1 by omega]
 have hq : B ^ (k + 4) = B ^ (k + 1) * B ^ 3:=by rw [← Nat.pow_add,show k + 1 + 3 = k + 4 by omega]
 have f : Z2 + o' * B ^ (k + 1 + 4) = Z + t * M * B ^ k + o * B ^ (k + 4):=by
  have h3:=congrArg (fun z => B ^ (k + 4) * z) hx
  simp only [Nat.mul_add] at h3
  rw [hp5,Nat.mul_comm o',Nat.mul_assoc (B ^ (k + 4)),Nat.mul_comm o]
  rw [Nat.mul_comm c] at h1
  generalize B ^ (k + 4) * dg B Z1 (k + 4) = p1 at *
  generalize B ^ (k + 4) * x = p2 at *
  generalize B ^ (k + 4) * c = p3 at *
  generalize B ^ (k + 4) * o = p4 at *
  generalize B ^ (k + 4) * (B * o') = p5 at *
  omega
 refine ⟨?_,?_,?_⟩
 ·
  have g : (Z2 + o' * B ^ (k + 1 + 4)) % B ^ (k + 1) = Z2 % B ^ (k + 1):=by
   rw [hp5,hq,Nat.mul_comm o',Nat.mul_assoc,Nat.mul_assoc,Nat.add_mul_mod_self_left]
  rw [← g,f,hq,Nat.mul_comm o,Nat.mul_assoc (B ^ (k + 1)),Nat.add_mul_mod_self_left]
  have hd : (Z / B ^ k + t * M) % B = 0:=by
   have : dg B Z k = Z / B ^ k % B:=rfl
   rw [this] at ht0
   have h0 : dg B M 0 = M % B:=by unfold dg; rw [Nat.pow_zero,Nat.div_one]
   rw [h0,Nat.mod_add_mod,Nat.add_mod,Nat.mul_mod,Nat.mod_mod,← Nat.mul_mod,← Nat.add_mod] at ht0
   exact ht0
  rw [hz,Nat.mul_comm (t * M),← Nat.mul_add,Nat.pow_succ,Nat.mul_mod_mul_left,hd,Nat.mul_zero]
 ·
  rw [Nat.pow_succ]
  have : B ^ k * (t + 1) ≤ B ^ k * B:=Nat.mul_le_mul_left _ ht
  rw [Nat.mul_add] at this; omega
 ·
  rw [f,Nat.add_mul,Nat.mul_right_comm t M,Nat.mul_comm (B ^ k) t]
  generalize t * B ^ k * M = p3 at *
  generalize o * B ^ (k + 4) = p1 at *
  generalize T * M = p2 at *
  omega
theorem times_zero {d n m : Int} (h : (18446744073709551616 : Int) ∣ m * n - 1) :
  (d + (-d % 18446744073709551616 * n) % 18446744073709551616 * m) % 18446744073709551616 = 0:=by
 have e1:=Int.emod_add_mul_ediv (-d) 18446744073709551616
 have e2:=Int.emod_add_mul_ediv (-d % 18446744073709551616 * n) 18446744073709551616
 generalize -d % 18446744073709551616 * n / 18446744073709551616 = q2 at *
 generalize -d % 18446744073709551616 * n % 18446744073709551616 = t at *
 generalize -d / 18446744073709551616 = q1 at *
 generalize -d % 18446744073709551616 = s at *
 obtain ⟨c,hc⟩:=h
 apply Int.emod_eq_zero_of_dvd
 refine ⟨-d * c - q1 * n * m - q2 * m,?_⟩
 have et : t = s * n - 18446744073709551616 * q2:=by omega
 have es : s = -d - 18446744073709551616 * q1:=by omega
 have hmn : m * n = 18446744073709551616 * c + 1:=by omega
 rw [et,es]
 have : (-d - 18446744073709551616 * q1) * n * m = (-d - 18446744073709551616 * q1) * (m * n):=by rw [Int.mul_assoc,Int.mul_comm n]
 simp only [Int.sub_mul,Int.mul_sub,Int.neg_mul,Int.mul_assoc] at *
 rw [Int.mul_comm n m,hmn]
 simp only [Int.mul_add,Int.mul_one]
 have e3 : d * (18446744073709551616 * c) = 18446744073709551616 * (d * c):=by rw [Int.mul_left_comm]
 rw [e3]
 have e4 : q1 * (18446744073709551616 * c) = 18446744073709551616 * (q1 * c):=by rw [Int.mul_left_comm]
 rw [e4]
 omega
/-! ### Newton's steps -/
theorem newton {D E m x : Int} (h : D ∣ m * x - 1) (hE : E ∣ D * D) (hW : E ∣ 18446744073709551616) :
  E ∣ m * (x * ((2 - m * x % 18446744073709551616) % 18446744073709551616) % 18446744073709551616) - 1:=by
 obtain ⟨a,ha⟩:=h
 have e1:=Int.emod_add_mul_ediv (m * x) 18446744073709551616
 have e2:=Int.emod_add_mul_ediv (2 - m * x % 18446744073709551616) 18446744073709551616
 have e3:=Int.emod_add_mul_ediv (x * ((2 - m * x % 18446744073709551616) % 18446744073709551616)) 18446744073709551616
 generalize x * ((2 - m * x % 18446744073709551616) % 18446744073709551616) / 18446744073709551616 = q3 at *
 generalize x * ((2 - m * x % 18446744073709551616) % 18446744073709551616) % 18446744073709551616 = t3 at *
 generalize (2 - m * x % 18446744073709551616) / 18446744073709551616 = q2 at *
 generalize (2 - m * x % 18446744073709551616) % 18446744073709551616 = t2 at *
 generalize m * x / 18446744073709551616 = q1 at *
 generalize m * x % 18446744073709551616 = t1 at *
 -- m x = 1 + D a; t2 = 2 - m x + W (q1 - q2); t3 = x t2 - W q3
 have h3 : t3 = x * t2 - 18446744073709551616 * q3:=by omega
 have h2 : t2 = 2 - m * x + 18446744073709551616 * (q1 - q2):=by omega
 have hk : m * t3 - 1 = -(D * D) * (a * a) + 18446744073709551616 * (m * x * (q1 - q2) - m * q3):=by
  rw [h3,h2]
  have hx : m * x = 1 + D * a:=by omega
  rw [Int.mul_sub,← Int.mul_assoc,Int.mul_add,hx,Int.mul_left_comm m,Int.mul_left_comm (1 + D * a) 18446744073709551616]
  have : (1 + D * a) * (2 - (1 + D * a)) = 1 - D * D * (a * a):=by
   rw [show (2 : Int) - (1 + D * a) = 1 - D * a by omega,Int.mul_sub,Int.mul_one,Int.add_mul,Int.one_mul]
   have : D * a * (D * a) = D * D * (a * a):=by rw [Int.mul_assoc,Int.mul_left_comm a,Int.mul_assoc]
   omega
  rw [this,Int.neg_mul,Int.mul_sub]
  omega
 rw [hk]
 exact Int.dvd_add (Int.dvd_trans (Int.dvd_neg.2 hE) (Int.dvd_mul_right _ _)) (Int.dvd_trans hW (Int.dvd_mul_right _ _))
def dv (k : Nat) : Int:=match k with | 0 => 8 | 1 => 64 | 2 => 4096 | 3 => 16777216 | 4 => 281474976710656 | _ => 18446744073709551616
theorem dv_start {m : Int} (h : m % 2 = 1) : dv 0 ∣ m * m - 1:=by
 show (8 : Int) ∣ m * m - 1
 obtain ⟨a,b,ha,hb⟩ : ∃ a b : Int,m = 8 * a + b ∧ (b = 1 ∨ b = 3 ∨ b = 5 ∨ b = 7):=⟨m / 8,m % 8,by omega,by omega⟩
 have : m * m = 8 * (a * (8 * a) + 2 * (a * b)) + b * b:=by
  rw [ha,Int.add_mul,Int.mul_add,Int.mul_add,Int.mul_assoc,Int.mul_assoc,Int.mul_comm b,Int.mul_assoc 8 a b]
  omega
 rw [this]
 rcases hb with rfl | rfl | rfl | rfl <;> omega
theorem dv_step {m x : Int} {k : Nat} (hk : k < 5) (h : dv k ∣ m * x - 1) :
  dv (k + 1) ∣ m * (x * ((2 - m * x % 18446744073709551616) % 18446744073709551616) % 18446744073709551616) - 1:=by
 refine newton h ?_ ?_
 ·
  match k,hk with
  | 0,_ => decide
  | 1,_ => decide
  | 2,_ => decide
  | 3,_ => decide
  | 4,_ => decide
 ·
  match k,hk with
  | 0,_ => decide
  | 1,_ => decide
  | 2,_ => decide
  | 3,_ => decide
  | 4,_ => decide
/-! ### modulo an odd number,2^256 can be taken away -/
theorem top_two : top = 2 ^ 256:=by decide
theorem cop_top {M : Nat} (h : M % 2 = 1) : Nat.Coprime top M:=by
 rw [top_two]
 apply Nat.Coprime.pow_left
 unfold Nat.Coprime
 rw [Nat.gcd_rec,h]; rfl
theorem cut_top {M A B : Nat} (hM : M % 2 = 1) (h : A * top % M = B * top % M) : A % M = B % M:=by
 have hc : Nat.Coprime M top:=(cop_top hM).symm
 have key : ∀ {a b : Nat},a ≤ b → a * top % M = b * top % M → a % M = b % M:=by
  intro a b hab h
  have h1 : M ∣ (b - a) * top:=by
   rw [Nat.sub_mul]
   exact Nat.dvd_of_mod_eq_zero (Nat.sub_mod_eq_zero_of_mod_eq h.symm)
  have h2 : M ∣ b - a:=Nat.Coprime.dvd_of_dvd_mul_right hc h1
  obtain ⟨c,hc2⟩:=h2
  rw [show b = a + M * c by omega,Nat.add_mul_mod_self_left]
 rcases Nat.le_total A B with hab | hab
 ·
  exact key hab h
 ·
  exact (key hab h.symm).symm
theorem shr_sum {X M Z T o : Nat} (hX : X < top8) (hT : T < top) (hM0 : 0 < M) (hlow : Z % top = 0) (e : Z + o * top8 = X + T * M) :
  (Z / top + o * top) * top = X + T * M ∧ Z / top + o * top < top + M ∧ (X < M * top → Z / top + o * top < 2 * M):=by
 have hp:=zbd
 have hz : top * (Z / top) + Z % top = Z:=Nat.div_add_mod _ _
 rw [zdj] at *
 have e2 : (Z / top + o * top) * top = X + T * M:=by
  rw [Nat.add_mul,Nat.mul_assoc,Nat.mul_comm (Z / top)]; omega
 have hTM : T * M < top * M:=Nat.mul_lt_mul_of_pos_right hT hM0
 refine ⟨e2,?_,fun h => ?_⟩
 ·
  apply Nat.lt_of_mul_lt_mul_right (a:=top)
  rw [e2,Nat.add_mul,Nat.mul_comm M]; omega
 ·
  apply Nat.lt_of_mul_lt_mul_right (a:=top)
  rw [e2,Nat.mul_assoc 2,Nat.mul_comm M] at *
  omega
end Go.Proofs.YtbfkecfcolcclaaGreatDoor
namespace Go.Proofs.YtbfkecfcolcclaaGreatDoor
open Go.RowKit
open Go.Value renaming int → vI
open Go.IntKind renaming u64 → vU
open Go.Act renaming put → aP
open List renaming setIfInBounds_toArray → lA, set_cons_zero → lZ, set_cons_succ → lS
def fdf (M : Nat) (N : Int) (Q : Nat) : Nat → Value:=fun j => if j < 4 then .int .u64 (wd M j) else if j = 4 then .int .u64 N else .int .u64 (wd Q (j - 5))
def Fb (w : World) (b M : Nat) (N : Int) (Q : Nat) : Prop:=w.rowIs b 188 9 (fdf M N Q)
structure Fok (M : Nat) (N : Int) (Q : Nat) : Prop where
 m2 : 2 < M
 odd : M % 2 = 1
 mt : M < top
 n0 : 0 ≤ N
 n1 : N ≤ 18446744073709551615
 inv : (18446744073709551616 : Int) ∣ wd M 0 * N - 1
 q : Q = top8 % M
theorem Fok.qm {M : Nat} {N : Int} {Q : Nat} (h : Fok M N Q) : Q < M:=by rw [h.q]; exact Nat.mod_lt _ (by have:=h.m2; omega)
section
variable {w w' : World} {b M Q B : Nat} {N : Int}
theorem Fb.lt (h : Fb w b M N Q) : b < w.heap.size:=World.rowIs.lt h
theorem Fb.below (h : Fb w b M N Q) (hb : Below B w w') (hlt : b < B) : Fb w' b M N Q:=zab h hb hlt
theorem Fb.call (h : Fb w b M N Q) (hb : Below w.heap.size w w') : Fb w' b M N Q:=zab h hb h.lt
theorem Fb.drew (h : Fb w b M N Q) : Fb w.drew b M N Q:=h
theorem Fb.alloc (h : Fb w b M N Q) (o : Obj) : Fb (w.alloc o) b M N Q:=World.rowIs.alloc h o
theorem Fb.far {b' i : Nat} (h : Fb w b M N Q) (hne : b ≠ b') (v : Value) : Fb (w.setCell ⟨b',i,none⟩ v) b M N Q:=zak h hne v
theorem Fb.mod (h : Fb w b M N Q) : w.cell? ⟨b,0,none⟩ = some (vI vU (wd M 0)) ∧ w.cell? ⟨b,1,none⟩ = some (vI vU (wd M 1)) ∧ w.cell? ⟨b,2,none⟩ = some (vI vU (wd M 2)) ∧ w.cell? ⟨b,3,none⟩ = some (vI vU (wd M 3)) :=
 ⟨World.rowIs.cell h (by omega),World.rowIs.cell h (by omega),World.rowIs.cell h (by omega),World.rowIs.cell h (by omega)⟩
theorem Fb.inv (h : Fb w b M N Q) : w.cell? ⟨b,4,none⟩ = some (vI vU N):=World.rowIs.cell h (by omega)
theorem Fb.sq (h : Fb w b M N Q) : w.cell? ⟨b,5,none⟩ = some (vI vU (wd Q 0)) ∧ w.cell? ⟨b,6,none⟩ = some (vI vU (wd Q 1)) ∧ w.cell? ⟨b,7,none⟩ = some (vI vU (wd Q 2)) ∧ w.cell? ⟨b,8,none⟩ = some (vI vU (wd Q 3)) :=
 ⟨World.rowIs.cell h (by omega),World.rowIs.cell h (by omega),World.rowIs.cell h (by omega),World.rowIs.cell h (by omega)⟩
end
theorem wide_num (X : Nat) (h : X < top) : wd X 4 = 0 ∧ wd X 5 = 0 ∧ wd X 6 = 0 ∧ wd X 7 = 0:=by
 have e : ∀ i,4 ≤ i → wd X i = 0:=by
  intro i hi
  unfold wd dg
  rw [Nat.div_eq_of_lt (Nat.lt_of_lt_of_le h (Nat.pow_le_pow_right zaj hi))]; rfl
 exact ⟨e 4 (by omega),e 5 (by omega),e 6 (by omega),e 7 (by omega)⟩
theorem wide_calls (X : Nat) (hX : X < top) (w : World) :
  Calls Tryz.prog 206 #[.agg #[vI vU (wd X 0),vI vU (wd X 1),vI vU (wd X 2),vI vU (wd X 3)]] w fun e w' => e = .returned (.agg #[vI vU (wd X 0),vI vU (wd X 1),vI vU (wd X 2),vI vU (wd X 3),vI vU (wd X 4),vI vU (wd X 5),vI vU (wd X 6),vI vU (wd X 7)]) ∧ Below w.heap.size w w':=by
 obtain ⟨e4,e5,e6,e7⟩:=wide_num X hX
 rw [e4,e5,e6,e7]
 have hA0 : ((w.alloc (.cells #[vI vU (wd X 0),vI vU (wd X 1),vI vU (wd X 2),vI vU (wd X 3)] 58)).alloc (.cells #[vI vU 0,vI vU 0,vI vU 0,vI vU 0,vI vU 0,vI vU 0,vI vU 0,vI vU 0] 196)).rowIs w.heap.size 58 4 (fun j => .int .u64 (wd X j)):=(zac (n:=4) (by simp) rfl (arr4 fun j => .int .u64 (wd X j))).alloc _
 have hR0 : ((w.alloc (.cells #[vI vU (wd X 0),vI vU (wd X 1),vI vU (wd X 2),vI vU (wd X 3)] 58)).alloc (.cells #[vI vU 0,vI vU 0,vI vU 0,vI vU 0,vI vU 0,vI vU 0,vI vU 0,vI vU 0] 196)).rowIs (w.heap.size + 1) 196 8 (fun _ => .int .u64 0):=zac (n:=8) (by simp) rfl (arr8 fun _ => .int .u64 0)
 obtain ⟨c0,c1,c2,c3⟩:=zad hA0
 obtain ⟨f0,f1,f2,f3,f4,f5,f6,f7⟩:=row_f8 hR0
 obtain ⟨d0,d1,d2,d3,d4,d5,d6,d7⟩:=row_c8 hR0
 clear e4 e5 e6 e7
 go_enter Tryz.func206,Tryz.ntmps206
 go_wp2
 exact bodyPost_ret (results_cell_row rfl _ _ (w.heap.size + 1) 196 #[vI vU (wd X 0),vI vU (wd X 1),vI vU (wd X 2),vI vU (wd X 3),vI vU 0,vI vU 0,vI vU 0,vI vU 0] (0,0) _ rfl (blk8 (zac (n:=8) (f:=fun j => if j < 4 then Value.int .u64 (wd X j) else .int .u64 0) (by simp) rfl (arr8 fun j => if j < 4 then Value.int .u64 (wd X j) else .int .u64 0))) Tryz.underlying196 rfl (by kernel_rfl)) rfl ⟨rfl,((Below.refl _ _).alloc (by simp) _).alloc (by simp) _⟩
theorem inverse_calls (m : Int) (h0 : 0 ≤ m) (h1 : m ≤ 18446744073709551615) (hodd : m % 2 = 1) (w : World) :
  Calls Tryz.prog 181 #[vI vU m] w fun e w' => ∃ n : Int,0 ≤ n ∧ n ≤ 18446744073709551615 ∧ (18446744073709551616 : Int) ∣ m * n - 1 ∧ e = .returned (.int .u64 n) ∧ w' = w:=by
 have hS:=veil (dv_start hodd)
 clear hodd
 go_enter Tryz.func181,Tryz.ntmps181
 go_wp2
 go_loopw [3,5] (fun x i wr => ∃ (k : Nat) (n : Int),k ≤ 5 ∧ i = .int .i64 (k : Int) ∧ x = .int .u64 n ∧ 0 ≤ n ∧ n ≤ 18446744073709551615 ∧ Hid (dv k ∣ m * n - 1) ∧ wr = w)
  (fun _ i _ => 5 - (intOf i).toNat)
 case atStart => exact ⟨0,m,by omega,rfl,rfl,h0,h1,hS,rfl⟩
 case round =>
  obtain ⟨k,n,hk,rfl,rfl,n0,n1,hD,rfl⟩:=hrel
  by_cases hlt : k < 5
  ·
   have hn:=veil (dv_step hlt hD.out)
   obtain ⟨y,hy⟩ : ∃ y,y = n * ((2 - m * n % 18446744073709551616) % 18446744073709551616) % 18446744073709551616:=⟨_,rfl⟩
   rw [← hy] at hn
   have y0 : 0 ≤ y:=by omega
   have y1 : y ≤ 18446744073709551615:=by omega
   have hY:=veil hy
   clear hy
   go_wp2
   go_roundw
   case rel => exact ⟨k + 1,y,by omega,by go_num,by simp only [IntKind.wrap_u64]; rw [hY.out],y0,y1,hn,trivial⟩
   case measure => simp [intOf]; omega
  ·
   obtain rfl : k = 5:=by omega
   go_wp2
   go_ret
   exact ⟨n,n0,n1,hD.out,rfl,rfl⟩
theorem Fb.range {w : World} {b M : Nat} {N : Int} {Q : Nat} (h : Fb w b M N Q) : w.rangeAt b 0 [.int .u64 (wd M 0),.int .u64 (wd M 1),.int .u64 (wd M 2),.int .u64 (wd M 3)]:=fun j v hv => by
 obtain ⟨c0,c1,c2,c3⟩:=h.mod
 match j,hv with
 | 0,rfl => exact c0
 | 1,rfl => exact c1
 | 2,rfl => exact c2
 | 3,rfl => exact c3
 | _ + 4,hv => simp at hv
theorem zbs {W : World} {b M : Nat} {N : Int} {Q : Nat} (h : Fb W b M N Q) : (Instr.loadAt 58 (.pointer (some ⟨b,0,none⟩))).run Tryz.prog W = .ok (.agg #[vI vU (wd M 0),vI vU (wd M 1),vI vU (wd M 2),vI vU (wd M 3)]) W:=run_loadAt_mid W b 0 58 _ _ h.range Tryz.underlying58 rfl (by kernel_rfl)
def bit (X n : Nat) : Bool:=X / 2 ^ n % 2 == 1
theorem w64_two : w64 = 2 ^ 64:=by decide
theorem bit_dg (a n r m : Nat) (hr : r < m) : a / (2 ^ m) ^ n % 2 ^ m / 2 ^ r % 2 = a / 2 ^ (m * n + r) % 2:=by
 have h:=zcb (B:=2) (a / (2 ^ m) ^ n) m r hr
 unfold dg at h
 rw [h,← Nat.pow_mul,Nat.div_div_eq_div_mul,← Nat.pow_add]
theorem bit_word (X n : Nat) : (bits BinOp.and IntKind.u64 (wd X (n / 64) / 2 ^ (n % 64)) 1 == 1) = bit X n:=by
 have e : wd X (n / 64) / 2 ^ (n % 64) = ((dg w64 X (n / 64) / 2 ^ (n % 64) : Nat) : Int):=by
  unfold wd
  rw [Int.natCast_ediv]
  simp
 have hlt : dg w64 X (n / 64) / 2 ^ (n % 64) < 18446744073709551616:=Nat.lt_of_le_of_lt (Nat.div_le_self _ _) (dg_lt zaj X _)
 rw [e,show (1 : Int) = ((1 : Nat) : Int) from rfl,u64_and_nat _ _ hlt (by omega),Nat.and_one_is_mod]
 have h:=bit_dg X (n / 64) (n % 64) 64 (Nat.mod_lt _ (by omega))
 rw [Nat.div_add_mod] at h
 unfold bit dg
 rw [w64_two,h]
 rw [Bool.eq_iff_iff]
 simp only [beq_iff_eq]
 omega
theorem bit_in (X n : Nat) (hn : n < 256) (w : World) :
  Calls Tryz.prog 146 #[.agg #[vI vU (wd X 0),vI vU (wd X 1),vI vU (wd X 2),vI vU (wd X 3)],.int .i64 (n : Int)] w fun e w' => e = .returned (.bool (bit X n)) ∧ Below w.heap.size w w':=by
 have hq : n / 64 < 4:=by omega
 have h0 : ¬ (n : Int) < 0:=by omega
 have h1 : ¬ (256 : Int) ≤ (n : Int):=by omega
 have hR : (w.alloc (.cells #[vI vU (wd X 0),vI vU (wd X 1),vI vU (wd X 2),vI vU (wd X 3)] 58)).rowIs w.heap.size 58 4 (fun j => .int .u64 (wd X j)):=zac (n:=4) (by simp) rfl (arr4 fun j => .int .u64 (wd X j))
 have c1:=hR.cell hq
 have l1:=wd_lo X (n / 64)
 have u1:=wd_le X (n / 64)
 clear hR
 go_enter Tryz.func146,Tryz.ntmps146
 go_wp2
 go_ret
 rw [← bit_word]
 exact ⟨rfl,(Below.refl _ _).alloc (Nat.le_refl _) _⟩
theorem ret_u2 {a b c d : Int} (h : a = b) (h2 : c = d) : Ending.returned (.tuple #[vI vU a,vI vU c]) = .returned (.tuple #[vI vU b,vI vU d]):=by rw [h,h2]
theorem mul64 (x y : Int) (hx : 0 ≤ x) (hx2 : x ≤ 18446744073709551615) (hy : 0 ≤ y) (hy2 : y ≤ 18446744073709551615) (w : World) :
  Calls Tryz.prog 205 #[vI vU x,vI vU y] w fun e w' => e = .returned (.tuple #[vI vU (x * y / 18446744073709551616),vI vU (x * y % 18446744073709551616)]) ∧ w' = w:=by
 have key:=mul64_arith x y hx (by omega) hy (by omega)
 have m1:=and_low32 x hx (by omega)
 have m2:=and_low32 y hy (by omega)
 have K:=veil key
 have M1:=veil m1
 have M2:=veil m2
 clear key m1 m2
 go_enter Tryz.func205,Tryz.ntmps205
 go_wp2
 go_ret2
 refine ⟨ret_u2 ?_ ?_,rfl⟩
 ·
  simp only [M1.out,M2.out,IntKind.wrap_u64]
  rw [and_low32 _ (by omega) (by omega)]
  exact K.out
 ·
  exact IntKind.wrap_u64 _
theorem ma_bound {x y : Int} (hx : 0 ≤ x) (hx2 : x ≤ 18446744073709551615) (hy : 0 ≤ y) (hy2 : y ≤ 18446744073709551615) : 0 ≤ x * y ∧ x * y ≤ 340282366920938463426481119284349108225:=by
 refine ⟨Int.mul_nonneg hx hy,?_⟩
 have:=Int.mul_le_mul hx2 hy2 hy (by omega : (0 : Int) ≤ 18446744073709551615)
 omega
theorem mulAdd_calls (x y u v : Int) (hx : 0 ≤ x) (hx2 : x ≤ 18446744073709551615) (hy : 0 ≤ y) (hy2 : y ≤ 18446744073709551615) (hu : 0 ≤ u) (hu2 : u ≤ 18446744073709551615) (hv : 0 ≤ v) (hv2 : v ≤ 18446744073709551615) (w : World) :
  Calls Tryz.prog 191 #[vI vU x,vI vU y,vI vU u,vI vU v] w fun e w' => e = .returned (.tuple #[vI vU ((x * y + u + v) % 18446744073709551616),vI vU ((x * y + u + v) / 18446744073709551616)]) ∧ w' = w:=by
 obtain ⟨p0,p1⟩:=ma_bound hx hx2 hy hy2
 obtain ⟨P,hP⟩ : ∃ P,P = x * y:=⟨_,rfl⟩
 rw [← hP] at p0 p1 ⊢
 obtain ⟨L,hL⟩ : ∃ L,L = P % 18446744073709551616:=⟨_,rfl⟩
 obtain ⟨Hh,hH⟩ : ∃ Hh,Hh = P / 18446744073709551616:=⟨_,rfl⟩
 obtain ⟨L1,hL1⟩ : ∃ L1,L1 = (L + u + 0) % 18446744073709551616:=⟨_,rfl⟩
 obtain ⟨c1,hc1⟩ : ∃ c1,c1 = (L + u + 0) / 18446744073709551616:=⟨_,rfl⟩
 obtain ⟨L2,hL2⟩ : ∃ L2,L2 = (L1 + v + 0) % 18446744073709551616:=⟨_,rfl⟩
 obtain ⟨c2,hc2⟩ : ∃ c2,c2 = (L1 + v + 0) / 18446744073709551616:=⟨_,rfl⟩
 have h29a:=fun W => add64 L u 0 (by omega) hu (by omega) (by omega) W
 have h29b:=fun W => add64 L1 v 0 (by omega) hv (by omega) (by omega) W
 rw [← hL1,← hc1] at h29a
 rw [← hL2,← hc2] at h29b
 have b1 : 0 ≤ Hh:=by omega
 have b2 : 0 ≤ c1:=by omega
 have b3 : 0 ≤ c2:=by omega
 have b4 : Hh + c1 ≤ 18446744073709551615:=by omega
 have b5 : Hh + c1 + c2 ≤ 18446744073709551615:=by omega
 have e1 : (P + u + v) % 18446744073709551616 = L2:=by omega
 have e2 : (P + u + v) / 18446744073709551616 = Hh + c1 + c2:=by omega
 have hM:=fun W => mul64 x y hx hx2 hy hy2 W
 rw [← hP,← hL,← hH] at hM
 have HM:=veil hM
 have E:=veil (And.intro e1 e2)
 clear hM e1 e2 hP hL hH hL1 hc1 hL2 hc2 p0 p1 hx hx2 hy hy2 hu hu2 hv hv2
 go_enter Tryz.func191,Tryz.ntmps191
 go_wp2_with (go_at_call 205; refine (HM.out _).mono ?_; rintro e w' ⟨rfl,rfl⟩)
 go_ret2
 rw [E.out.1,E.out.2]
 exact ⟨rfl,rfl⟩
end Go.Proofs.YtbfkecfcolcclaaGreatDoor
namespace Go.Proofs.YtbfkecfcolcclaaGreatDoor
def PP (B X Y i : Nat) : Nat:=X % B ^ i * Y
def TT (B X Y i j : Nat) : Nat:=PP B X Y i % B ^ (i + j) + dg B X i * (B ^ i * (Y % B ^ j))
def CC (B X Y i j : Nat) : Nat:=TT B X Y i j / B ^ (i + j)
def UU (B X Y i j m : Nat) : Nat:=if m < i + j then dg B (TT B X Y i j) m else dg B (PP B X Y i) m
theorem UU_start {B : Nat} (X Y i m : Nat) : UU B X Y i 0 m = dg B (PP B X Y i) m:=by
 unfold UU
 split
 ·
  rename_i h
  unfold TT
  simp only [Nat.pow_zero,Nat.mod_one,Nat.mul_zero,Nat.add_zero] at *
  exact zcb _ i m h
 ·
  rfl
theorem CC_start {B : Nat} (hB : 0 < B) (X Y i : Nat) : CC B X Y i 0 = 0:=by
 unfold CC TT
 simp only [Nat.pow_zero,Nat.mod_one,Nat.mul_zero,Nat.add_zero]
 exact Nat.div_eq_of_lt (Nat.mod_lt _ (Nat.pow_pos hB))
theorem TT_lt {B : Nat} (hB : 0 < B) (X Y i j : Nat) : TT B X Y i j < B ^ (i + j) * B:=by
 have hQ : 0 < B ^ (i + j):=Nat.pow_pos hB
 have h1:=Nat.mod_lt (PP B X Y i) hQ
 have h2 : B ^ i * (Y % B ^ j) ≤ B ^ (i + j):=by
  rw [Nat.pow_add]
  exact Nat.mul_le_mul_left _ (Nat.le_of_lt (Nat.mod_lt _ (Nat.pow_pos hB)))
 have h3 : dg B X i * (B ^ i * (Y % B ^ j)) ≤ (B - 1) * B ^ (i + j):=Nat.mul_le_mul (by have:=dg_lt hB X i; omega) h2
 unfold TT
 have h4 : B ^ (i + j) * B = B ^ (i + j) + (B - 1) * B ^ (i + j):=by
  obtain ⟨b,rfl⟩ : ∃ b,B = b + 1:=⟨B - 1,by omega⟩
  rw [Nat.add_sub_cancel,Nat.mul_add,Nat.mul_one,Nat.mul_comm]
  omega
 omega
theorem CC_lt {B : Nat} (hB : 0 < B) (X Y i j : Nat) : CC B X Y i j < B:=by
 unfold CC
 rw [Nat.div_lt_iff_lt_mul (Nat.pow_pos hB),Nat.mul_comm]
 exact TT_lt hB X Y i j
theorem UU_lt {B : Nat} (hB : 0 < B) (X Y i j m : Nat) : UU B X Y i j m < B:=by
 unfold UU
 split <;> exact dg_lt hB _ _
theorem TT_step {B : Nat} (X Y i j : Nat) :
  TT B X Y i (j + 1) = TT B X Y i j % B ^ (i + j) + B ^ (i + j) * (dg B X i * dg B Y j + dg B (PP B X Y i) (i + j) + CC B X Y i j):=by
 have h1 : TT B X Y i (j + 1) = TT B X Y i j + B ^ (i + j) * (dg B (PP B X Y i) (i + j) + dg B X i * dg B Y j):=by
  unfold TT
  rw [show i + (j + 1) = (i + j) + 1 by omega,zar B (PP B X Y i) (i + j),zar B Y j,Nat.mul_add (B ^ i),← Nat.mul_assoc (B ^ i),← Nat.pow_add,Nat.mul_add (dg B X i),Nat.mul_add (B ^ (i + j)),
   show dg B X i * (B ^ (i + j) * dg B Y j) = B ^ (i + j) * (dg B X i * dg B Y j) by rw [Nat.mul_left_comm]]
  omega
 have h2 : B ^ (i + j) * CC B X Y i j + TT B X Y i j % B ^ (i + j) = TT B X Y i j:=Nat.div_add_mod _ _
 rw [h1,Nat.mul_add,Nat.mul_add,Nat.mul_add]
 omega
theorem UU_step {B : Nat} (hB : 0 < B) (X Y i j : Nat) : UU B X Y i (j + 1) (i + j) = (dg B X i * dg B Y j + UU B X Y i j (i + j) + CC B X Y i j) % B:=by
 have hu : UU B X Y i j (i + j) = dg B (PP B X Y i) (i + j):=by unfold UU; rw [if_neg (by omega)]
 rw [hu]
 unfold UU
 rw [if_pos (by omega),dg,TT_step,Nat.add_mul_div_left _ _ (Nat.pow_pos hB),Nat.div_eq_of_lt (Nat.mod_lt _ (Nat.pow_pos hB)),Nat.zero_add]
theorem CC_step {B : Nat} (hB : 0 < B) (X Y i j : Nat) : CC B X Y i (j + 1) = (dg B X i * dg B Y j + UU B X Y i j (i + j) + CC B X Y i j) / B:=by
 have hu : UU B X Y i j (i + j) = dg B (PP B X Y i) (i + j):=by unfold UU; rw [if_neg (by omega)]
 rw [hu]
 show TT B X Y i (j + 1) / B ^ (i + (j + 1)) = _
 rw [show i + (j + 1) = (i + j) + 1 by omega,Nat.pow_succ,← Nat.div_div_eq_div_mul,TT_step,Nat.add_mul_div_left _ _ (Nat.pow_pos hB),Nat.div_eq_of_lt (Nat.mod_lt _ (Nat.pow_pos hB)),Nat.zero_add]
theorem UU_other {B : Nat} (X Y i j m : Nat) (hm : m ≠ i + j) : UU B X Y i (j + 1) m = UU B X Y i j m:=by
 unfold UU
 by_cases h : m < i + j
 ·
  rw [if_pos (by omega),if_pos h,← zcb _ (i + j) m h,TT_step,Nat.add_mul_mod_self_left,Nat.mod_mod,zcb _ (i + j) m h]
 ·
  rw [if_neg (by omega),if_neg h]
theorem PP_lt {B : Nat} (hB : 0 < B) (X Y i n : Nat) (hY : Y < B ^ n) : PP B X Y i < B ^ (i + n):=by
 have h1 : X % B ^ i < B ^ i:=Nat.mod_lt _ (Nat.pow_pos hB)
 unfold PP
 rw [Nat.pow_add]
 exact Nat.mul_lt_mul_of_lt_of_le h1 (Nat.le_of_lt hY) (by omega)
theorem PP_step {B : Nat} (hB : 0 < B) (X Y i n : Nat) (hY : Y < B ^ n) : PP B X Y (i + 1) = TT B X Y i n:=by
 unfold TT
 rw [Nat.mod_eq_of_lt (PP_lt hB X Y i n hY),Nat.mod_eq_of_lt hY]
 unfold PP
 rw [zar,Nat.add_mul,Nat.mul_comm (B ^ i) (dg B X i),Nat.mul_assoc]
theorem PP_row {B : Nat} (hB : 0 < B) (X Y i n m : Nat) (hY : Y < B ^ n) : dg B (PP B X Y (i + 1)) m = if m = i + n then CC B X Y i n else UU B X Y i n m:=by
 rw [PP_step hB X Y i n hY]
 by_cases h : m = i + n
 ·
  subst h
  rw [if_pos rfl]
  show CC B X Y i n % B = _
  exact Nat.mod_eq_of_lt (CC_lt hB X Y i n)
 ·
  rw [if_neg h]
  unfold UU
  by_cases h2 : m < i + n
  ·
   rw [if_pos h2]
  ·
   rw [if_neg h2]
   have hle : B ^ (i + n) * B ≤ B ^ m:=by rw [← Nat.pow_succ]; exact Nat.pow_le_pow_right hB (by omega)
   have h3:=TT_lt hB X Y i n
   have h4:=PP_lt hB X Y i n hY
   have h5 : B ^ (i + n) ≤ B ^ (i + n) * B:=Nat.le_mul_of_pos_right _ hB
   unfold dg
   rw [Nat.div_eq_of_lt (by omega),Nat.div_eq_of_lt (by omega)]
theorem PP_zero (B X Y : Nat) : PP B X Y 0 = 0:=by simp [PP,Nat.mod_one]
theorem PP_end {B : Nat} (X Y n : Nat) (hX : X < B ^ n) : PP B X Y n = X * Y:=by unfold PP; rw [Nat.mod_eq_of_lt hX]
theorem dg_zero (B i : Nat) : dg B 0 i = 0:=by simp [dg]
end Go.Proofs.YtbfkecfcolcclaaGreatDoor
namespace Go.Proofs.YtbfkecfcolcclaaGreatDoor
open Go.RowKit
open Go.Value renaming int → vI
open Go.IntKind renaming u64 → vU
open Go.Act renaming put → aP
open List renaming setIfInBounds_toArray → lA, set_cons_zero → lZ, set_cons_succ → lS
def Tk.ok (t : Tk) : Prop:=∀ n ∈ t.list,(Lit.int .i64 n).wf = true
/-! ### what the laws ask of the landed package -/
theorem Up.range {w : World} {D : World → Prop} (h : Up w D) {b off : Nat} {L : List Value} (hb : b < w.heap.size) (hr : w.rangeAt b off L) (x : Gw D) : x.val.rangeAt b off L:=zah (h.grown _ x.property) hb hr
structure Code (I : World → Prop) : Prop where
 keep : ∀ w w',I w → Below w.heap.size w w' → I w'
 on : ∀ X Y f,X < top → Y < top → ∀ w,I w → Calls Tryz.prog 89 #[.agg #[vI vU (wd X 0),vI vU (wd X 1),vI vU (wd X 2),vI vU (wd X 3),vI vU (wd Y 0),vI vU (wd Y 1),vI vU (wd Y 2),vI vU (wd Y 3),.bool (f)]] w fun e w' => e = .returned (.bool (onB X Y f)) ∧ Below w.heap.size w w'
 addNo : ∀ X Y f X' Y' f',X < top → Y < top → X' < top → Y' < top → (onB X Y f = false ∨ onB X' Y' f' = false) → ∀ w,I w → Calls Tryz.prog 153 #[.agg #[vI vU (wd X 0),vI vU (wd X 1),vI vU (wd X 2),vI vU (wd X 3),vI vU (wd Y 0),vI vU (wd Y 1),vI vU (wd Y 2),vI vU (wd Y 3),.bool (f)],.agg #[vI vU (wd (X') 0),vI vU (wd (X') 1),vI vU (wd (X') 2),vI vU (wd (X') 3),vI vU (wd (Y') 0),vI vU (wd (Y') 1),vI vU (wd (Y') 2),vI vU (wd (Y') 3),.bool (f')]] w fun e w' => e = .returned (.tuple #[.agg #[vI vU 0,vI vU 0,vI vU 0,vI vU 0,vI vU 0,vI vU 0,vI vU 0,vI vU 0,.bool false],.iface 38 (.int .i64 1)]) ∧ Below w.heap.size w w'
 add : ∀ q r : Pt.Q,∀ w,I w → Calls Tryz.prog 153 #[.agg #[vI vU (wd (Pt.pX q.1) 0),vI vU (wd (Pt.pX q.1) 1),vI vU (wd (Pt.pX q.1) 2),vI vU (wd (Pt.pX q.1) 3),vI vU (wd (Pt.pY q.1) 0),vI vU (wd (Pt.pY q.1) 1),vI vU (wd (Pt.pY q.1) 2),vI vU (wd (Pt.pY q.1) 3),.bool (Pt.pFar q.1)],.agg #[vI vU (wd (Pt.pX r.1) 0),vI vU (wd (Pt.pX r.1) 1),vI vU (wd (Pt.pX r.1) 2),vI vU (wd (Pt.pX r.1) 3),vI vU (wd (Pt.pY r.1) 0),vI vU (wd (Pt.pY r.1) 1),vI vU (wd (Pt.pY r.1) 2),vI vU (wd (Pt.pY r.1) 3),.bool (Pt.pFar r.1)]] w fun e w' => e = .returned (.tuple #[.agg #[vI vU (wd (Pt.pX (Pt.grp.op q r).1) 0),vI vU (wd (Pt.pX (Pt.grp.op q r).1) 1),vI vU (wd (Pt.pX (Pt.grp.op q r).1) 2),vI vU (wd (Pt.pX (Pt.grp.op q r).1) 3),vI vU (wd (Pt.pY (Pt.grp.op q r).1) 0),vI vU (wd (Pt.pY (Pt.grp.op q r).1) 1),vI vU (wd (Pt.pY (Pt.grp.op q r).1) 2),vI vU (wd (Pt.pY (Pt.grp.op q r).1) 3),.bool (Pt.pFar (Pt.grp.op q r).1)],.nilIface]) ∧ Below w.heap.size w w'
 mulNo : ∀ K X Y f,K < top → X < top → Y < top → onB X Y f = false → ∀ w,I w → Calls Tryz.prog 151 #[.agg #[vI vU (wd K 0),vI vU (wd K 1),vI vU (wd K 2),vI vU (wd K 3)],.agg #[vI vU (wd X 0),vI vU (wd X 1),vI vU (wd X 2),vI vU (wd X 3),vI vU (wd Y 0),vI vU (wd Y 1),vI vU (wd Y 2),vI vU (wd Y 3),.bool (f)]] w fun e w' => e = .returned (.tuple #[.agg #[vI vU 0,vI vU 0,vI vU 0,vI vU 0,vI vU 0,vI vU 0,vI vU 0,vI vU 0,.bool false],.iface 38 (.int .i64 1)]) ∧ Below w.heap.size w w'
 mul : ∀ K,K < top → ∀ q : Pt.Q,∀ w,I w → Calls Tryz.prog 151 #[.agg #[vI vU (wd K 0),vI vU (wd K 1),vI vU (wd K 2),vI vU (wd K 3)],.agg #[vI vU (wd (Pt.pX q.1) 0),vI vU (wd (Pt.pX q.1) 1),vI vU (wd (Pt.pX q.1) 2),vI vU (wd (Pt.pX q.1) 3),vI vU (wd (Pt.pY q.1) 0),vI vU (wd (Pt.pY q.1) 1),vI vU (wd (Pt.pY q.1) 2),vI vU (wd (Pt.pY q.1) 3),.bool (Pt.pFar q.1)]] w fun e w' => e = .returned (.tuple #[.agg #[vI vU (wd (Pt.pX (Pt.grp.mul K q).1) 0),vI vU (wd (Pt.pX (Pt.grp.mul K q).1) 1),vI vU (wd (Pt.pX (Pt.grp.mul K q).1) 2),vI vU (wd (Pt.pX (Pt.grp.mul K q).1) 3),vI vU (wd (Pt.pY (Pt.grp.mul K q).1) 0),vI vU (wd (Pt.pY (Pt.grp.mul K q).1) 1),vI vU (wd (Pt.pY (Pt.grp.mul K q).1) 2),vI vU (wd (Pt.pY (Pt.grp.mul K q).1) 3),.bool (Pt.pFar (Pt.grp.mul K q).1)],.nilIface]) ∧ Below w.heap.size w w'
 base : ∀ w,I w → Calls Tryz.prog 152 #[] w fun e w' => e = .returned (.agg #[vI vU (wd (Pt.gx) 0),vI vU (wd (Pt.gx) 1),vI vU (wd (Pt.gx) 2),vI vU (wd (Pt.gx) 3),vI vU (wd (Pt.gy) 0),vI vU (wd (Pt.gy) 1),vI vU (wd (Pt.gy) 2),vI vU (wd (Pt.gy) 3),.bool (false)]) ∧ Below w.heap.size w w'
 pp : ∀ w,I w → Calls Tryz.prog 174 #[] w fun e w' => e = .returned (.agg #[vI vU (wd (Pt.pp) 0),vI vU (wd (Pt.pp) 1),vI vU (wd (Pt.pp) 2),vI vU (wd (Pt.pp) 3)]) ∧ Below w.heap.size w w'
 nn : ∀ w,I w → Calls Tryz.prog 144 #[] w fun e w' => e = .returned (.agg #[vI vU (wd (Pt.nn) 0),vI vU (wd (Pt.nn) 1),vI vU (wd (Pt.nn) 2),vI vU (wd (Pt.nn) 3)]) ∧ Below w.heap.size w w'
theorem Code.drew {I : World → Prop} (C : Code I) {w : World} (h : I w) : I w.drew:=C.keep _ _ h (Below.refl _ _).drew
theorem Code.alloc {I : World → Prop} (C : Code I) {w : World} (h : I w) (o : Obj) : I (w.alloc o):=C.keep _ _ h ((Below.refl _ _).alloc (Nat.le_refl _) _)
theorem on_base : onB Pt.gx Pt.gy false = true:=by decide +kernel
theorem neNil2 (w : World) : (binOp .neq 32 (.iface 38 (.int .i64 2)) .nilIface).run Tryz.prog w = .ok (.bool true) w:=by kernel_rfl
theorem neNilN (w : World) : (binOp .neq 32 .nilIface .nilIface).run Tryz.prog w = .ok (.bool false) w:=by kernel_rfl
theorem get8_nil (w : World) : Calls Tryz.prog 90 #[.slice none 0 0] w fun e w' => e = .returned (.tuple #[.slice none 0 0,.nilIface]) ∧ Ext w w':=by
 have KM : Hid (∀ W : World,Calls Tryz.prog 140 #[.slice none 0 0] W fun e w' => e = .returned (.bool true) ∧ Ext W w'):=veil (fun W => may8_calls _ [] W (Fl.nil W) (by decide))
 go_enter Tryz.func90,Tryz.ntmps90
 go_wp2
 go_loopw [0,4] (fun s v wr => s = .slice none 0 0 ∧ v = .slice none 0 0 ∧ Ext w wr) (fun _ _ _ => 0)
 case atStart => exact ⟨rfl,rfl,Ext.refl _⟩
 case round =>
  obtain ⟨rfl,rfl,hE⟩:=hrel
  have HE:=veil hE
  clear hE
  go_wp2_with (go_at_call 140; refine (KM.out _).mono ?_; rintro e w1 ⟨rfl,hE1⟩)
  go_ret2
  exact ⟨rfl,HE.out.trans hE1⟩
theorem tget_nil (w : World) : Calls Tryz.prog 62 #[.slice none 0 0,.int .i64 2] w fun e w' => e = .returned (.tuple #[.slice none 0 0,.iface 38 (.int .i64 2)]) ∧ Ext w w':=by
 have KG:=veil (fun W => get8_nil W)
 have k3:=neNilN
 go_enter Tryz.func62,Tryz.ntmps62
 go_wp2_with (go_at_call 90; refine (KG.out _).mono ?_; rintro e w1 ⟨rfl,hE1⟩)
 go_ret2
 exact ⟨rfl,hE1⟩
theorem open_nil_calls (w : World) : Calls Tryz.prog 32 #[.slice none 0 0] w fun e w' => e = .returned (.tuple #[.agg (tkC ⟨0,0,0,0,0⟩),.agg (gc 0 0),.iface 38 (.int .i64 2)]) ∧ Ext w w':=by
 have KG:=veil (fun W => tget_nil W)
 have k2:=neNil2
 go_enter Tryz.func32,Tryz.ntmps32
 go_upto_region 1 with (fail)
 obtain ⟨g2,hg2⟩ : ∃ g,g = w.heap.size:=⟨_,rfl⟩
 obtain ⟨g3,hg3⟩ : ∃ g,g = w.heap.size + 1:=⟨_,rfl⟩
 obtain ⟨w0,hw0⟩ : ∃ W,W = (w.alloc (.cells TZ 24)).alloc (.cells Z8 69):=⟨_,rfl⟩
 have h2:=(zct w (.cells TZ 24) (.cells Z8 69)).1
 have h3:=(zct w (.cells TZ 24) (.cells Z8 69)).2
 have hE0:=two_ext w (.cells TZ 24) (.cells Z8 69)
 rw [← hw0,← hg2] at h2
 rw [← hw0,← hg3] at h3
 rw [← hw0] at hE0
 have H0:=veil (And.intro hE0 (And.intro h2 (And.intro h3 (And.intro (show w.heap.size ≤ g2 by omega) (show g2 < g3 by omega)))))
 unfold TZ Z8 at hw0
 rw [← hw0,← hg3,← hg2]
 clear hw0 hg3 hg2 hE0 h2 h3
 go_upto_region 2 with (go_at_call 62; refine (KG.out _).mono ?_; rintro e w1 ⟨rfl,hE1⟩)
 have H1:=veil (And.intro (H0.out.1.trans hE1) (And.intro (hE1.block H0.out.2.1) (And.intro (hE1.block H0.out.2.2.1) H0.out.2.2.2)))
 clear hE1 H0 KG
 go_wp2_with (first
  | ((with_reducible refine zbf ?_); refine wpList_store_row rfl 24 _ _ rfl g2 TZ rfl rfl 24 _ H1.out.2.1 iTZ rfl tz_one ?_)
  | ((with_reducible refine zbf ?_); refine wpList_store_row rfl 69 _ _ rfl g3 Z8 rfl rfl 69 _ (two_far TZ H1.out.2.2.1 H1.out.2.2.2.2) iZ8 rfl z8_one ?_))
 have hF:=two_rows (T:=TZ) (G:=Z8) H1.out.1 H1.out.2.1 H1.out.2.2.1 ⟨H1.out.2.2.2.1,H1.out.2.2.2.2⟩
 refine bodyPost_ret (results_two rfl _ _ g2 g3 24 69 TZ Z8 (0,0) (0,0) _ _ rfl hF.2.1 Tryz.underlying24 rfl iTZ rfl hF.2.2 Tryz.underlying69 rfl iZ8) rfl ⟨by rw [z8_gc]; rfl,hF.1⟩
def textsOk (fs : List Fd) (many : Nat) : Prop:=fs.length = many ∧ ∀ i,i < many → tgF fs i = (i : Int) + 1
instance (fs : List Fd) (many : Nat) : Decidable (textsOk fs many):=by unfold textsOk; exact inferInstance
section
variable {w wr w' : World} {gR gT gH gK N : Nat} {tx : Nat → Value} {st st' : Nat → Value}
end
def hst (s : St) : Nat → Value:=fun j => .int .u32 (s.at j : Nat)
def upTo (y : Nat → Nat) (n j : Nat) : Nat:=if j < n then y j else 0
def kb (y : Nat → Nat) (n : Nat) : Nat → Nat:=if n > 64 then upTo (fun j => dByte (shaSt y n) j) 32 else upTo y n
def kx (k : Nat → Nat) (x : Nat) (j : Nat) : Value:=.int .u8 ((k j ^^^ x : Nat) : Int)
def macIn (y : Nat → Nat) (n : Nat) (t : Nat → Nat) : Nat → Nat:=cat (fun j => kb y n j ^^^ 54) 64 t
def macOut (y : Nat → Nat) (n : Nat) (t : Nat → Nat) (m : Nat) : Nat → Nat:=cat (fun j => kb y n j ^^^ 92) 64 (fun j => dByte (shaSt (macIn y n t) (64 + m)) j)
/-! ### steps of a region that draws its order -/
def nb (k : Nat → Nat) (n : Nat) (t : Nat → Nat) (m : Nat) : Nat → Nat:=fun j => dByte (shaSt (macOut k n t m) 96) j
section
variable {P : Program} {o : Oper} {a : Act} {w : World}
end
def mayB (X : Nat) : Bool:=decide (X ≠ 0) && decide (X < Pt.nn)
structure KV where
 k : Nat → Nat
 v : Nat → Nat
def tx (v : Nat → Nat) (b : Nat) (t : Nat → Nat) : Nat → Nat:=cat v 32 (cat (fun _ => b) 1 t)
def KV.step (s : KV) : KV:=⟨s.k,nb s.k 32 s.v 32⟩
def KV.mix (s : KV) (b : Nat) (t : Nat → Nat) (m : Nat) : KV:=KV.step ⟨nb s.k 32 (tx s.v b t) (33 + m),s.v⟩
def none0 : Nat → Nat:=fun _ => 0
def KV.next (s : KV) : KV:=s.step.mix 0 none0 0
def be (X j : Nat) : Nat:=dg 256 X (31 - j)
def two (D M : Nat) : Nat → Nat:=cat (be D) 32 (be M)
end Go.Proofs.YtbfkecfcolcclaaGreatDoor
namespace Go.Proofs.YtbfkecfcolcclaaGreatDoor.Pt
abbrev Ne:=Fin nn
section
variable {n : Nat} [NeZero n]
def gi (x : Fin n) : Fin n:=pf x (n - 2)
end
section
variable (n : Nat) [NeZero n]
def iG (a : Nat) : Nat:=(gi (F a : Fin n)).val
end
/-! ### multiples -/
/-! ### signatures -/
def rOf (k : Nat) : Nat:=pX (grp.mul k base).1 % nn
def sOf (d e k : Nat) : Nat:=iG nn k * ((e % nn + rOf k * d % nn) % nn) % nn
end Go.Proofs.YtbfkecfcolcclaaGreatDoor.Pt
namespace Go.Proofs.YtbfkecfcolcclaaGreatDoor
open Go.RowKit
open Go.Value renaming int → vI
open Go.IntKind renaming u64 → vU
open Go.Act renaming put → aP
open List renaming setIfInBounds_toArray → lA, set_cons_zero → lZ, set_cons_succ → lS
def pick (D E : Nat) : List Nat → Option (Nat × Nat)
 | [] => none
 | k :: l => if (mayB (Pt.rOf k) && mayB (Pt.sOf D E k)) = true then some (Pt.rOf k,Pt.sOf D E k) else pick D E l
def prevS (l : List Rv) (i : Nat) : Int:=if i = 0 then 0 else rvS l (i - 1)
theorem prevS_ge {l : List Rv} {i : Nat} (h : ∀ j,j < i → okR l j) : 0 ≤ prevS l i:=by
 unfold prevS
 by_cases h0 : i = 0
 ·
  rw [if_pos h0]; omega
 ·
  rw [if_neg h0]
  have:=(h (i - 1) (by omega)).1
  omega
theorem okR11_of {l : List Rv} {i : Nat} (h : ∀ j,j < i → okR l j) (h1 : prevS l i < rvS l i) (h2 : rvS l i ≤ 2147483647) (h3 : 0 ≤ rvF l i) (h4 : rvF l i ≤ 1073741824) : okR l i:=by
 have:=prevS_ge h
 refine ⟨by omega,h2,h3,h4,fun h0 => ?_⟩
 unfold prevS at h1
 rwa [if_neg (by omega)] at h1
theorem okR_prev {l : List Rv} {i : Nat} (h : okR l i) : prevS l i < rvS l i:=by
 unfold prevS
 by_cases h0 : i = 0
 ·
  rw [if_pos h0]; have:=h.1; omega
 ·
  rw [if_neg h0]; exact h.2.2.2.2 (by omega)
theorem may11_calls (v : Value) (l : List Rv) (w : World) (hF : Rs w v l) (hL : l.length ≤ 1000000000) :
  Calls Tryz.prog 27 #[v] w fun e w' => e = .returned (.bool (mayRs l)) ∧ Ext w w':=by
 obtain ⟨AL,c,rfl,hc,hx⟩:=hF
 obtain ⟨R,hR⟩ : ∃ R,R = mayRs l:=⟨_,rfl⟩
 rw [← hR]
 obtain ⟨n,hn⟩ : ∃ n,n = l.length:=⟨_,rfl⟩
 rw [← hn] at hx hc ⊢
 have HR:=veil (And.intro hR (And.intro hn hL))
 have HX:=veil hx
 have hnL : n ≤ 1000000000:=by omega
 clear hR hx hn hL
 go_enter Tryz.func27,Tryz.ntmps27
 by_cases hbig : 200 < n
 ·
  have hd0 : decide (200 < (n : Int)) = true:=by simp; omega
  have e : R = false:=by
   rw [HR.out.1]
   unfold mayRs
   exact decide_eq_false fun h => by have:=h.1; rw [← HR.out.2.1] at this; omega
  subst e
  clear hbig
  go_wp2
  go_ret
  exact ⟨rfl,Ext.refl _⟩
 ·
  have hd0 : decide (200 < (n : Int)) = false:=by simp; omega
  have HB:=veil hbig
  clear hbig
  go_wp2
  go_loopw [3,11] (fun u v wr => ∃ i : Nat,i ≤ n ∧ v = .int .i64 (i : Int) ∧ u = .int .i64 (prevS l i) ∧ (∀ j,j < i → okR l j) ∧ Ext w wr)
   (fun _ v _ => n - (intOf v).toNat)
  case atStart => exact ⟨0,by omega,rfl,rfl,fun j hj => by omega,Ext.refl _⟩
  case round =>
   obtain ⟨i,hi,rfl,rfl,hall,hE⟩:=hrel
   by_cases hlt : i < n
   ·
    have hd1 : decide ((i : Int) < (n : Int)) = true:=by simp; omega
    have hii : (i : Int) < (n : Int):=by omega
    obtain ⟨b,o,hAL,hb,hcl⟩:=HX.out.resolve_left (by omega)
    have hil : i < l.length:=by have:=HR.out.2.1; omega
    have HRG:=veil (zah hE hb (hcl i _ (rv_get hil)))
    have hfalse : ∀ h : ¬ okR l i,R = false:=fun h => HR.out.1.trans (mayRs_false hil h)
    have hnext : prevS l (i + 1) = rvS l i:=rfl
    have hs : (l.getD i (0,0)).1 = rvS l i:=rfl
    have hf : (l.getD i (0,0)).2 = rvF l i:=rfl
    have HK:=veil (And.intro hall (And.intro hfalse (And.intro hE hnext)))
    generalize l.getD i (0,0) = k at *
    clear hall hfalse hE hnext hil hb hcl
    subst hAL
    go_upto_region 7 with (first
     | ((with_reducible refine zaa 14 ?_); refine wpList_load_mid rfl 65 _ rfl b _ rfl (rvC k) _ HRG.out Tryz.underlying65 rfl (iRv k) ?_)
     | ((with_reducible refine zaa 5 ?_); refine zcr _ _ rfl rfl rfl rfl rfl rfl hzRv (fun _ => rfl) (fun _ => rfl) (iRvA k) (rvA_size k) (rvA_one k) ?_; intro gk W hg hW hEW))
    have c0:=rv_s (rv_blk hW)
    have c1:=rv_f (rv_blk hW)
    simp only [Nat.zero_add] at c1
    rw [hs] at c0
    rw [hf] at c1
    have HE:=veil (HK.out.2.2.1.trans hEW)
    obtain ⟨p,hp⟩ : ∃ p,p = prevS l i:=⟨_,rfl⟩
    rw [← hp]
    obtain ⟨ks,hks⟩ : ∃ z,z = rvS l i:=⟨_,rfl⟩
    obtain ⟨kf,hkf⟩ : ∃ z,z = rvF l i:=⟨_,rfl⟩
    rw [← hks] at c0
    rw [← hkf] at c1
    have HV:=veil (And.intro hks (And.intro hkf hp))
    clear hW hEW hs hf hks hkf hp HRG
    by_cases g0 : ks ≤ p
    ·
     have hd2 : decide (ks ≤ p) = true:=decide_eq_true g0
     have e : R = false:=HK.out.2.1 fun h => by have h1:=okR_prev h; rw [← HV.out.1,← HV.out.2.2] at h1; omega
     subst e
     clear g0
     go_wp2
     go_ret
     exact ⟨rfl,HE.out⟩
    ·
     have hd2 : decide (ks ≤ p) = false:=decide_eq_false g0
     by_cases g1 : 2147483647 < ks
     ·
      have hd3 : decide (2147483647 < ks) = true:=decide_eq_true g1
      have e : R = false:=HK.out.2.1 fun h => by have h1:=h.2.1; rw [← HV.out.1] at h1; omega
      subst e
      clear g0 g1
      go_wp2
      go_ret
      exact ⟨rfl,HE.out⟩
     ·
      have hd3 : decide (2147483647 < ks) = false:=decide_eq_false g1
      by_cases g2 : kf < 0
      ·
       have hd4 : decide (kf < 0) = true:=decide_eq_true g2
       have e : R = false:=HK.out.2.1 fun h => by have h1:=h.2.2.1; rw [← HV.out.2.1] at h1; omega
       subst e
       clear g0 g1 g2
       go_wp2
       go_ret
       exact ⟨rfl,HE.out⟩
      ·
       have hd4 : decide (kf < 0) = false:=decide_eq_false g2
       by_cases g3 : 1073741824 < kf
       ·
        have hd5 : decide (1073741824 < kf) = true:=decide_eq_true g3
        have e : R = false:=HK.out.2.1 fun h => by have h1:=h.2.2.2.1; rw [← HV.out.2.1] at h1; omega
        subst e
        clear g0 g1 g2 g3
        go_wp2
        go_ret
        exact ⟨rfl,HE.out⟩
       ·
        have hd5 : decide (1073741824 < kf) = false:=decide_eq_false g3
        have HOK:=veil (show okR l i from okR11_of HK.out.1 (by rw [← HV.out.1,← HV.out.2.2]; omega) (by rw [← HV.out.1]; omega) (by rw [← HV.out.2.1]; omega) (by rw [← HV.out.2.1]; omega))
        clear g0 g1 g2 g3
        go_wp2
        go_roundw
        case rel =>
         refine ⟨i + 1,by omega,by go_num,by rw [HK.out.2.2.2,← HV.out.1],fun j hj => ?_,HE.out⟩
         by_cases e : j = i
         ·
          subst e; exact HOK.out
         ·
          exact HK.out.1 j (by omega)
        case measure => simp [intOf]; omega
   ·
    obtain rfl : i = n:=by omega
    have hd1 : decide ((i : Int) < (i : Int)) = false:=by simp
    have e : R = true:=by
     rw [HR.out.1,mayRs_len (by rw [← HR.out.2.1]; exact hall),← HR.out.2.1]
     exact decide_eq_true (by have:=HB.out; omega)
    subst e
    clear hall
    go_wp2
    go_ret
    exact ⟨rfl,hE⟩
/-! ### Is -/
def tells (s t : Int) (r : Rv) : Bool:=decide (r.1 = s) && decide (r.2 ≤ t)
end Go.Proofs.YtbfkecfcolcclaaGreatDoor
