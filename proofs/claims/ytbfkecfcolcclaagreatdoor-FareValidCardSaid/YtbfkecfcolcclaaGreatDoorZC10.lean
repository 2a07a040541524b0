/-
  Of Svp Svq Pj KM Pk Half IsH La KN QCode LUp5 KO KV.
-/
import Derived.Test.YtbfkecfcolcclaaGreatDoorRows
import Derived.WalkKit
import Derived.WalkSpells
import Derived.WalkLawsBesides
import Derived.Deep.LoopGhost
import Derived.Deep.RegionWith
import Derived.Deep.QuietTactic
import Derived.BigQuiet
import Derived.Test.YtbfkecfcolcclaaGreatDoorZC8
import Derived.Test.YtbfkecfcolcclaaGreatDoorZC6
import Derived.Test.YtbfkecfcolcclaaGreatDoorZC4
import Derived.Test.YtbfkecfcolcclaaGreatDoorZC1
import Derived.Test.YtbfkecfcolcclaaGreatDoorZC3
import Derived.Test.YtbfkecfcolcclaaGreatDoorZC5
import Derived.Test.YtbfkecfcolcclaaGreatDoorZC7
set_option maxRecDepth 1000000
set_option maxHeartbeats 20000000
namespace Go.Proofs.YtbfkecfcolcclaaGreatDoor
open Go.RowKit
open Go.Value renaming int → vI
open Go.IntKind renaming u64 → vU
open Go.Act renaming put → aP
open List renaming setIfInBounds_toArray → lA, set_cons_zero → lZ, set_cons_succ → lS
def weekV (s : Sv) (d : Int) : Bool:=!decide (d ∈ s.ec) && decide (s.fr ≤ d ∧ d < s.to ∧ s.wk / 2 ^ (d % 7).toNat % 2 = 1)
theorem runsV_w (s : Sv) (d : Int) : runsV s d = (decide (d ∈ s.ex) || weekV s d):=rfl
theorem weekV_no {s : Sv} {d : Int} (h : ¬ (s.fr ≤ d ∧ d < s.to ∧ s.wk / 2 ^ (d % 7).toNat % 2 = 1)) : weekV s d = false:=by unfold weekV; rw [decide_eq_false h,Bool.and_false]
theorem weekV_yes {s : Sv} {d : Int} (h : s.fr ≤ d ∧ d < s.to ∧ s.wk / 2 ^ (d % 7).toNat % 2 = 1) : weekV s d = !decide (d ∈ s.ec):=by unfold weekV; rw [decide_eq_true h,Bool.and_true]
theorem and_bit : ∀ n : Fin 128,bits BinOp.and IntKind.i64 (n.val : Int) 1 = (n.val : Int) % 2:=by decide +kernel
theorem week_bit {wk : Int} {K : Nat} (h0 : 0 ≤ wk) (h1 : wk ≤ 127) : bits BinOp.and IntKind.i64 (wk / 2 ^ K) 1 = wk / 2 ^ K % 2:=by
 have a:=zdt wk h0 K
 have b:=half_le wk h0 K
 have:=and_bit ⟨(wk / 2 ^ K).toNat,by omega⟩
 simpa [Int.toNat_of_nonneg a] using this
theorem runsByWeek_calls (v : Value) (s : Sv) (d : Int) (w : World) (hF : Vs12 w v s) (hM : mayV s = true) :
  Calls Tryz.prog 119 #[v,.int .i64 d] w fun e w' => e = .returned (.bool (weekV s d)) ∧ Ext w w':=by
 obtain ⟨h1,h2,-,m1,m2,m3,m4,m5⟩:=zgh hM
 obtain ⟨vE,vX,rfl,hE,hX⟩:=hF
 obtain ⟨R,hR⟩ : ∃ R,R = weekV s d:=⟨_,rfl⟩
 rw [← hR]
 have KB:=veil (fun W (h : Ext w W) => zfb vX s.ec d W (hX.ext h) (by have:=daysB_100 h2; omega) (rise_of h2))
 obtain ⟨AE,cE,rfl,-,-⟩:=hE
 obtain ⟨AX,cX,rfl,-,-⟩:=hX
 have hE0:=Ext.alloc w (.cells (svC s (.slice AE s.ex.length cE) (.slice AX s.ec.length cX)) 49)
 have hS0:=SvAt.new w s (.slice AE s.ex.length cE) (.slice AX s.ec.length cX)
 have HR:=veil hR
 have HM:=veil (And.intro m1 (And.intro m2 (And.intro m3 (And.intro m4 m5))))
 clear hR hM h1 h2 m1 m2 m3 m4 m5
 obtain ⟨wk,fr,tu,ex,ec⟩:=s
 simp only at HR HM KB hE0 hS0 ⊢
 obtain ⟨n,hn⟩ : ∃ n,n = ex.length:=⟨_,rfl⟩
 obtain ⟨m,hm⟩ : ∃ m,m = ec.length:=⟨_,rfl⟩
 rw [← hm] at KB
 rw [← hn,← hm] at hE0 hS0
 simp only [← hn,← hm]
 clear hn hm
 unfold svC at hE0 ⊢
 simp only at hE0 ⊢
 obtain ⟨J,hJ⟩ : ∃ J,J = decide (d ∈ ec):=⟨_,rfl⟩
 rw [← hJ] at KB
 have HJ:=veil hJ
 clear hJ
 go_enter Tryz.func119,Tryz.ntmps119
 go_upto_region 1 with (fail)
 unfold SvAt svC at hS0
 simp only at hS0
 obtain ⟨g,hg⟩ : ∃ g,g = w.heap.size:=⟨_,rfl⟩
 rw [← hg] at hS0 ⊢
 generalize w.alloc (.cells #[.int .i64 wk,.int .i64 fr,.int .i64 tu,.slice AE n cE,.slice AX m cX] 49) = w0 at *
 have HS:=veil (show SvAt w0 g ⟨wk,fr,tu,ex,ec⟩ (.slice AE n cE) (.slice AX m cX) from hS0)
 have HE:=veil hE0
 clear hE0 hS0 hg
 have c0:=HS.out.at0
 have c1:=HS.out.at1
 have c2:=HS.out.at2
 have c4:=HS.out.at4
 simp only at c0 c1 c2
 by_cases g0 : fr ≤ d
 rotate_left
 ·
  have f0 : decide (fr ≤ d) = false:=decide_eq_false g0
  obtain rfl : R = false:=HR.out.trans (weekV_no fun h => g0 h.1)
  go_wp2
  go_ret
  exact ⟨rfl,HE.out⟩
 have f0 : decide (fr ≤ d) = true:=decide_eq_true g0
 by_cases g1 : d < tu
 rotate_left
 ·
  have f1 : decide (d < tu) = false:=decide_eq_false g1
  obtain rfl : R = false:=HR.out.trans (weekV_no fun h => g1 h.2.1)
  go_wp2
  go_ret
  exact ⟨rfl,HE.out⟩
 have f1 : decide (d < tu) = true:=decide_eq_true g1
 obtain ⟨K,hK⟩ : ∃ K : Nat,K = (d % 7).toNat:=⟨_,rfl⟩
 have hd0 : 0 ≤ d:=by have:=HM.out.2.2.1; omega
 have hr : d.tmod 7 = (K : Int):=by rw [Int.tmod_eq_emod_of_nonneg hd0,hK]; omega
 have hK7 : (K : Int) < 7:=by omega
 have HG:=veil (And.intro g0 (And.intro g1 (And.intro hK hd0)))
 clear g0 g1 hK hd0
 have HB:=veil (week_bit (K:=K) HM.out.1 HM.out.2.1)
 by_cases g2 : bits BinOp.and IntKind.i64 (wk / 2 ^ K) 1 = 1
 rotate_left
 ·
  have f2 : (bits BinOp.and IntKind.i64 (wk / 2 ^ K) 1 == 1) = false:=by simpa using g2
  obtain rfl : R = false:=HR.out.trans (weekV_no fun h => g2 (by rw [HB.out]; simp only [← HG.out.2.2.1] at h; exact h.2.2))
  clear g2
  go_wp2
  go_ret
  exact ⟨rfl,HE.out⟩
 have f2 : (bits BinOp.and IntKind.i64 (wk / 2 ^ K) 1 == 1) = true:=by simpa using g2
 obtain rfl : R = !J:=HR.out.trans ((weekV_yes ⟨HG.out.1,HG.out.2.1,by show wk / 2 ^ (d % 7).toNat % 2 = 1; rw [← HG.out.2.2.1,← HB.out]; exact g2⟩).trans (by rw [HJ.out]))
 clear g2
 go_wp2_with (go_at_call 118; with_reducible refine (KB.out _ HE.out).mono ?_; rintro e w1 ⟨rfl,rfl⟩)
 go_ret
 exact ⟨rfl,HE.out⟩
theorem on12_calls (m : Int) (w : World) (_ : -9223372036854775808 ≤ m) (_ : m ≤ 9223372036854775807) :
  Calls Tryz.prog 76 #[.int .i64 m] w fun e w' => ∃ x y ev,e = .returned (.tuple #[.int .i64 x,.int .i64 y,ev]) ∧ Ext w w' ∧ OnP m x y ev:=by
 by_cases g0 : m < 0
 ·
  have f0 : decide (m < 0) = true:=decide_eq_true g0
  go_enter Tryz.func76,Tryz.ntmps76
  go_wp2
  refine bodyPost_ret (results_tmp3 rfl _ _ _) rfl ⟨0,0,_,rfl,Ext.refl _,.inl ⟨.inl g0,rfl,rfl,rfl⟩⟩
 have f0 : decide (m < 0) = false:=decide_eq_false g0
 by_cases g1 : 1073741824 < m
 ·
  have f1 : decide (1073741824 < m) = true:=decide_eq_true g1
  go_enter Tryz.func76,Tryz.ntmps76
  go_wp2
  refine bodyPost_ret (results_tmp3 rfl _ _ _) rfl ⟨0,0,_,rfl,Ext.refl _,.inl ⟨.inr g1,rfl,rfl,rfl⟩⟩
 have f1 : decide (1073741824 < m) = false:=decide_eq_false g1
 obtain ⟨x,hx⟩ : ∃ x,x = m / 1440:=⟨_,rfl⟩
 obtain ⟨y,hy⟩ : ∃ y,y = m % 1440:=⟨_,rfl⟩
 have h1 : m.tdiv 1440 = x:=by rw [Int.tdiv_eq_ediv_of_nonneg (by omega),hx]
 have h2 : m.tmod 1440 = y:=by rw [Int.tmod_eq_emod_of_nonneg (by omega),hy]
 have hx0 : 0 ≤ x:=by omega
 have hx1 : x ≤ 1073741824:=by omega
 have HV:=veil (And.intro g0 (And.intro g1 (And.intro hx hy)))
 clear hx hy g0 g1
 go_enter Tryz.func76,Tryz.ntmps76
 go_wp2
 refine bodyPost_ret (results_tmp3 rfl _ _ _) rfl ⟨x,y,_,rfl,Ext.refl _,.inr ⟨by have:=HV.out.1; omega,by have:=HV.out.2.1; omega,HV.out.2.2.1,HV.out.2.2.2,rfl⟩⟩
theorem mayV_100 {s : Sv} (h : mayV s = true) : s.ex.length ≤ 1000000000 ∧ s.ec.length ≤ 1000000000:=by
 obtain ⟨h1,h2,-⟩:=zgh h
 have:=daysB_100 h1
 have:=daysB_100 h2
 omega
theorem runs12_calls (v : Value) (s : Sv) (d : Int) (w : World) (hF : Vs12 w v s) (h1 : s.ex.length ≤ 1000000000) (h2 : s.ec.length ≤ 1000000000) :
  Calls Tryz.prog 77 #[v,.int .i64 d] w fun e w' => e = .returned (.bool (mayV s && runsV s d)) ∧ Ext w w':=by
 have KM:=veil (fun W (h : Ext w W) => may12_calls v s W (hF.ext h) h1 h2)
 have KW:=veil (fun W (h : Ext w W) (hM : mayV s = true) => runsByWeek_calls v s d W (hF.ext h) hM)
 obtain ⟨vE,vX,rfl,hE,hX⟩:=hF
 have KA:=veil (fun W (h : Ext w W) (hM : mayV s = true) => zfb vE s.ex d W (hE.ext h) h1 (rise_of (zgh hM).1))
 obtain ⟨AE,cE,rfl,-,-⟩:=hE
 obtain ⟨AX,cX,rfl,-,-⟩:=hX
 rw [runsV_w]
 clear h1 h2
 obtain ⟨n,hn⟩ : ∃ n,n = s.ex.length:=⟨_,rfl⟩
 obtain ⟨m,hm⟩ : ∃ n,n = s.ec.length:=⟨_,rfl⟩
 simp only [← hn,← hm] at KM KW KA ⊢
 clear hn hm
 have hE0:=Ext.alloc w (.cells (svC s (.slice AE n cE) (.slice AX m cX)) 49)
 have hS0:=SvAt.new w s (.slice AE n cE) (.slice AX m cX)
 obtain ⟨M,hM⟩ : ∃ M,M = mayV s:=⟨_,rfl⟩
 obtain ⟨I,hI⟩ : ∃ I,I = decide (d ∈ s.ex):=⟨_,rfl⟩
 obtain ⟨J,hJ⟩ : ∃ J,J = weekV s d:=⟨_,rfl⟩
 rw [← hM,← hI,← hJ]
 rw [← hM] at KM
 rw [← hM,← hI] at KA
 rw [← hM,← hJ] at KW
 clear hM hI hJ
 go_enter Tryz.func77,Tryz.ntmps77
 go_upto_region 1 with (fail)
 obtain ⟨g,hg⟩ : ∃ g,g = w.heap.size:=⟨_,rfl⟩
 rw [← hg] at hS0 ⊢
 generalize w.alloc (.cells (svC s (.slice AE n cE) (.slice AX m cX)) 49) = w0 at *
 have HS:=veil hS0
 have HE:=veil hE0
 clear hE0 hS0 hg
 cases M with
 | false =>
  go_wp2_with (first
   | ((with_reducible refine zaa 5 ?_); refine wpList_load_row rfl 49 _ rfl g rfl 49 (svC s (.slice AE n cE) (.slice AX m cX)) (0,0) _ HS.out Tryz.underlying49 rfl (iSv s _ _) ?_)
   | (go_at_call 45; with_reducible refine (KM.out _ HE.out).mono ?_; rintro e w1 ⟨rfl,hE1⟩))
  go_ret
  exact ⟨rfl,HE.out.trans hE1⟩
 | true =>
  cases I with
  | true =>
   go_wp2_with (first
    | ((with_reducible refine zaa 5 ?_); refine wpList_load_row rfl 49 _ rfl g rfl 49 (svC s (.slice AE n cE) (.slice AX m cX)) (0,0) _ HS.out Tryz.underlying49 rfl (iSv s _ _) ?_)
    | (go_at_call 45; with_reducible refine (KM.out _ HE.out).mono ?_; rintro e w1 ⟨rfl,hE1⟩; have HE1:=veil (HE.out.trans hE1); have HS1 : Hid (SvAt w1 g s (.slice AE n cE) (.slice AX m cX)):=veil (HS.out.ext hE1); have c3:=HS1.out.at3; clear hE1)
    | (go_at_call 118; with_reducible refine (KA.out _ HE1.out (by trivial)).mono ?_; rintro e w2 ⟨rfl,rfl⟩)
    | ((with_reducible refine zaa 13 ?_); refine zap rfl 49 _ rfl g rfl 49 (svC s (.slice AE n cE) (.slice AX m cX)) (0,0) _ HS1.out Tryz.underlying49 rfl (iSv _ _ _) ?_)
    | (go_at_call 119; with_reducible refine (KW.out _ HE1.out (by trivial)).mono ?_; rintro e w3 ⟨rfl,hE3⟩))
   go_ret
   exact ⟨rfl,HE1.out⟩
  | false =>
   go_wp2_with (first
    | ((with_reducible refine zaa 5 ?_); refine wpList_load_row rfl 49 _ rfl g rfl 49 (svC s (.slice AE n cE) (.slice AX m cX)) (0,0) _ HS.out Tryz.underlying49 rfl (iSv s _ _) ?_)
    | (go_at_call 45; with_reducible refine (KM.out _ HE.out).mono ?_; rintro e w1 ⟨rfl,hE1⟩; have HE1:=veil (HE.out.trans hE1); have HS1 : Hid (SvAt w1 g s (.slice AE n cE) (.slice AX m cX)):=veil (HS.out.ext hE1); have c3:=HS1.out.at3; clear hE1)
    | (go_at_call 118; with_reducible refine (KA.out _ HE1.out (by trivial)).mono ?_; rintro e w2 ⟨rfl,rfl⟩)
    | ((with_reducible refine zaa 13 ?_); refine zap rfl 49 _ rfl g rfl 49 (svC s (.slice AE n cE) (.slice AX m cX)) (0,0) _ HS1.out Tryz.underlying49 rfl (iSv _ _ _) ?_)
    | (go_at_call 119; with_reducible refine (KW.out _ HE1.out (by trivial)).mono ?_; rintro e w3 ⟨rfl,hE3⟩))
   go_ret
   exact ⟨rfl,HE1.out.trans hE3⟩
theorem wpl_midG14 {P : Program} {ops : Array Oper} {rest : List Oper} {op : Oper} {a : Act} {w : World} {Q : Exit → Act → World → Prop} (hgd : Region.wanted op (yielded ops a.tmps) = true) (ty : TypeId) (x : Operand) (ho : op.op = .load ty x)
  (b o : Nat) (hx : a.eval x = .pointer (some ⟨b,o,none⟩)) (cs : List Value) (d : TypeDesc) (hc : w.rangeAt b o cs)
  (hu : P.underlying ty = some d) (hd : d.isRow = true) (hi : (P.info? ty).map (·.size) = some cs.length)
  (h : wpList P ops Q rest (a.put op.dst (.agg cs.toArray)) w) : wpList P ops Q (op :: rest) a w :=
 wpList_step fun K hK => by
  rw [if_pos hgd]
  exact wp_load_mid ty x ho b o hx cs d hc hu hd hi (hK _ _ h)
theorem pwA_one {w : World} {x : Pw} (h1 : Ds w x.2.1 x.1.sv.ex) (h2 : Ds w x.2.2 x.1.sv.ec) : (pwC x).toArray.all (·.oneCell') = true:=by
 obtain ⟨A,c,e,_,_⟩:=h1
 obtain ⟨A',c',e',_,_⟩:=h2
 unfold pwC
 rw [e,e']
 simp [Value.oneCell']
theorem iPwA (x : Pw) : (Tryz.prog.info? 51).map (·.size) = some (pwC x).toArray.size:=iPw x
theorem hzPw (W : World) : (Instr.alloc 51 true (.tuple #[])).run Tryz.prog W = .ok (ptrTo W.heap.size) (W.alloc (.cells #[.int .i64 0,.int .i64 0,.int .i64 0,.int .i64 0,.int .i64 0,.slice none 0 0,.slice none 0 0] 51)):=by simp [Instr.alloc,go_sem]
def PwAt (w : World) (g : Nat) (x : Pw) : Prop:=w.heap[g]? = some (.cells (pwC x).toArray 51 (0,0))
theorem PwAt.ext {w w' : World} {g : Nat} {x : Pw} (h : PwAt w g x) (k : Ext w w') : PwAt w' g x:=k.block h
theorem PwAt.at0 {w : World} {g : Nat} {x : Pw} (h : PwAt w g x) : w.cell? ⟨g,0,none⟩ = some (.int .i64 x.1.id):=cell_of_row w g 0 _ _ _ h
theorem PwAt.at1 {w : World} {g : Nat} {x : Pw} (h : PwAt w g x) : w.cell? ⟨g,1,none⟩ = some (.int .i64 x.1.mi):=cell_of_row w g 1 _ _ _ h
theorem PwAt.sv {w : World} {g : Nat} {x : Pw} (h : PwAt w g x) : w.rangeAt g 2 (pwS x):=by
 have hr : w.rangeAt g 0 (pwC x):=fun j v hj => by
  rw [Nat.zero_add,cell_of_row w g j _ _ _ h]
  simpa using hj
 exact pwS_range hr
theorem PwAt.new (w : World) (x : Pw) : PwAt (w.alloc (.cells (pwC x).toArray 51)) w.heap.size x:=zab w _
def mayBeB (x : Pd) : Bool:=(decide (1 ≤ x.mi) && decide (x.mi ≤ 1048576)) && mayV x.sv
theorem mayBe_calls (x : Pw) (w : World) (h1 : Ds w x.2.1 x.1.sv.ex) (h2 : Ds w x.2.2 x.1.sv.ec) (hs : smallP x.1) :
  Calls Tryz.prog 23 #[.agg (pwC x).toArray] w fun e w' => e = .returned (.bool (mayBeB x.1)) ∧ Ext w w':=by
 have hgb:=PwAt.new w x
 have hEW:=Ext.alloc w (.cells (pwC x).toArray 51)
 have KM:=veil (fun W (h : Ext w W) => may12_calls (.agg (pwS x).toArray) x.1.sv W ⟨_,_,rfl,h1.ext h,h2.ext h⟩ (by have:=hs.1; omega) (by have:=hs.2; omega))
 unfold mayBeB
 obtain ⟨M,hM⟩ : ∃ M,M = mayV x.1.sv:=⟨_,rfl⟩
 obtain ⟨mi,hmi⟩ : ∃ m,m = x.1.mi:=⟨_,rfl⟩
 rw [← hM] at KM
 rw [← hM,← hmi]
 obtain ⟨R,hR⟩ : ∃ R,R = ((decide (1 ≤ mi) && decide (mi ≤ 1048576)) && M):=⟨_,rfl⟩
 rw [← hR]
 have HR:=veil hR
 have HMI:=veil hmi
 obtain ⟨y,hy⟩ : ∃ y,y = (pwC x).toArray:=⟨_,rfl⟩
 have HG0:=veil (show (w.alloc (.cells y 51)).heap[w.heap.size]? = some (.cells y 51 (0,0)) from zab w _)
 rw [← hy] at hEW ⊢
 have HYY:=veil hy
 clear hM hmi h1 h2 hs hgb hy hR
 go_enter Tryz.func23,Tryz.ntmps23
 go_upto_region 1 with (fail)
 obtain ⟨g,hg⟩ : ∃ g,g = w.heap.size:=⟨_,rfl⟩
 rw [← hg] at HG0 ⊢
 have HE:=veil hEW
 clear hEW
 generalize w.alloc (.cells y 51) = w0 at *
 have HP : Hid (PwAt w0 g x):=veil (by have h:=HG0.out; rw [HYY.out] at h; exact h)
 have c1:=HP.out.at1
 rw [← HMI.out] at c1
 have HS:=veil HP.out.sv
 clear hg HG0 HYY
 by_cases g0 : 1 ≤ mi
 rotate_left
 ·
  have f0 : decide (1 ≤ mi) = false:=decide_eq_false g0
  obtain rfl : R = false:=by rw [HR.out,f0]; rfl
  clear g0
  go_wp2
  go_ret
  exact ⟨rfl,HE.out⟩
 have f0 : decide (1 ≤ mi) = true:=decide_eq_true g0
 by_cases g1 : mi ≤ 1048576
 rotate_left
 ·
  have f1 : decide (mi ≤ 1048576) = false:=decide_eq_false g1
  obtain rfl : R = false:=by rw [HR.out,f0,f1]; rfl
  clear g0 g1
  go_wp2
  go_ret
  exact ⟨rfl,HE.out⟩
 have f1 : decide (mi ≤ 1048576) = true:=decide_eq_true g1
 obtain rfl : R = M:=by rw [HR.out,f0,f1]; rfl
 clear g0 g1
 go_wp2_with (first
  | ((with_reducible refine zaa 13 ?_); refine wpl_midG14 rfl 49 _ rfl g 2 rfl (pwS x) _ HS.out Tryz.underlying49 rfl (iPwS x) ?_)
  | (go_at_call 45; refine (KM.out _ HE.out).mono ?_; rintro e w1 ⟨rfl,hE1⟩))
 go_ret
 exact ⟨rfl,HE.out.trans hE1⟩
theorem zdy (z a : Int) (w : World) : Calls Tryz.prog 25 #[.int .i64 z,.int .i64 a] w fun e w' => e = .returned (.bool (placeB z a)) ∧ w' = w:=by
 obtain ⟨R,hR⟩ : ∃ R,R = placeB z a:=⟨_,rfl⟩
 rw [← hR]
 have hn : ∀ h : ¬ (0 ≤ z ∧ z ≤ 7 ∧ 0 ≤ a ∧ a ≤ 1073741824),R = false:=fun h => hR.trans (decide_eq_false h)
 have hy : ∀ h : (0 ≤ z ∧ z ≤ 7 ∧ 0 ≤ a ∧ a ≤ 1073741824),R = true:=fun h => hR.trans (decide_eq_true h)
 have HN:=veil (And.intro hn hy)
 clear hR hn hy
 by_cases g0 : 0 ≤ z
 rotate_left
 ·
  have d0 : decide (0 ≤ z) = false:=decide_eq_false g0
  obtain rfl : R = false:=HN.out.1 (by omega)
  go_enter Tryz.func25,Tryz.ntmps25
  go_wp2
  go_ret
  exact ⟨rfl,rfl⟩
 have d0 : decide (0 ≤ z) = true:=decide_eq_true g0
 by_cases g1 : z < 8
 rotate_left
 ·
  have d1 : decide (z < 8) = false:=decide_eq_false g1
  obtain rfl : R = false:=HN.out.1 (by omega)
  go_enter Tryz.func25,Tryz.ntmps25
  go_wp2
  go_ret
  exact ⟨rfl,rfl⟩
 have d1 : decide (z < 8) = true:=decide_eq_true g1
 by_cases g2 : 0 ≤ a
 rotate_left
 ·
  have d2 : decide (0 ≤ a) = false:=decide_eq_false g2
  obtain rfl : R = false:=HN.out.1 (by omega)
  go_enter Tryz.func25,Tryz.ntmps25
  go_wp2
  go_ret
  exact ⟨rfl,rfl⟩
 have d2 : decide (0 ≤ a) = true:=decide_eq_true g2
 have d3 : decide (a ≤ 1073741824) = R:=by
  by_cases g3 : a ≤ 1073741824
  ·
   rw [decide_eq_true g3,HN.out.2 (by omega)]
  ·
   rw [decide_eq_false g3,HN.out.1 (by omega)]
 clear g0 g1 g2
 go_enter Tryz.func25,Tryz.ntmps25
 go_wp2
 go_ret
 exact ⟨rfl,rfl⟩
def prevId (l : List Pd) (i : Nat) : Int:=if i = 0 then 0 else (l.getD (i - 1) noPd).id
theorem prevId_succ (l : List Pd) (i : Nat) : prevId l (i + 1) = (l.getD i noPd).id:=by
 unfold prevId
 rw [if_neg (Nat.succ_ne_zero i),Nat.add_sub_cancel]
theorem okP_ids {l : List Pd} {n : Nat} (h : ∀ j,j < n → okP l j) : ∀ j,j < n → (j : Int) + 1 ≤ (l.getD j noPd).id:=by
 intro j
 induction j with
 | zero => intro hj; have:=(h 0 hj).1; omega
 | succ j ih =>
  intro hj
  have h1:=ih (by omega)
  have h2:=(h (j + 1) hj).2.2.1 (by omega)
  rw [Nat.add_sub_cancel] at h2
  omega
theorem okP_16 {l : List Pd} {n : Nat} (h : ∀ j,j < n → okP l j) : n ≤ 16:=by
 rcases Nat.eq_zero_or_pos n with e | e
 ·
  omega
 ·
  have h1:=okP_ids h (n - 1) (by omega)
  have h2:=(h (n - 1) (by omega)).2.1
  omega
theorem okP_mk {l : List Pd} {i : Nat} {x : Pd} (hx : l.getD i noPd = x) (h : ∀ j,j < i → okP l j) (h1 : prevId l i < x.id) (h2 : x.id ≤ 16) (h3 : mayBeB x = true) : okP l i:=by
 unfold mayBeB at h3
 simp only [Bool.and_eq_true,decide_eq_true_eq] at h3
 unfold okP
 rw [hx]
 refine ⟨?_,h2,fun h0 => ?_,h3.1.1,h3.1.2,h3.2⟩
 ·
  unfold prevId at h1
  split at h1
  ·
   omega
  ·
   have:=(h (i - 1) (by omega)).1
   omega
 ·
  unfold prevId at h1
  rwa [if_neg (by omega)] at h1
theorem okP_prev {l : List Pd} {i : Nat} {x : Pd} (hx : l.getD i noPd = x) (h : okP l i) : prevId l i < x.id:=by
 unfold okP at h
 rw [hx] at h
 unfold prevId
 split
 ·
  omega
 ·
  exact h.2.2.1 (by omega)
theorem okP_be {l : List Pd} {i : Nat} {x : Pd} (hx : l.getD i noPd = x) (h : okP l i) : mayBeB x = true:=by
 unfold okP at h
 rw [hx] at h
 unfold mayBeB
 rw [decide_eq_true h.2.2.2.1,decide_eq_true h.2.2.2.2.1,h.2.2.2.2.2]
 rfl
theorem zdr (v : Value) (l : List Pw) (w : World) (hF : Ps14 w v l) (hL : fewP (pds l) = true) : Calls Tryz.prog 10 #[v] w fun e w' => e = .returned (.bool (mayP (pds l))) ∧ Ext w w':=by
 obtain ⟨⟨AL,c,rfl,hc,hx⟩,hD⟩:=hF
 obtain ⟨R,hR⟩ : ∃ R,R = mayP (pds l):=⟨_,rfl⟩
 rw [← hR]
 have h60:=fewP_60 hL
 rw [pds_len] at h60
 obtain ⟨n,hn⟩ : ∃ n,n = l.length:=⟨_,rfl⟩
 rw [← hn] at hx hc h60 ⊢
 have HX:=veil (And.intro hx hD)
 have HR:=veil (And.intro hR (And.intro hn (And.intro (hn.trans (pds_len l).symm) hL)))
 clear hR hx hn hL hD
 go_enter Tryz.func10,Tryz.ntmps10
 go_wp2
 go_loopw [3,8] (fun u v wr => ∃ i : Nat,i ≤ n ∧ v = .int .i64 (i : Int) ∧ u = .int .i64 (prevId (pds l) i) ∧ (∀ j,j < i → okP (pds l) j) ∧ Ext w wr)
  (fun _ v _ => n - (intOf v).toNat)
 case atStart => exact ⟨0,by omega,rfl,rfl,fun j hj => by omega,Ext.refl _⟩
 case round =>
  obtain ⟨i,hi,rfl,rfl,hall,hE⟩:=hrel
  by_cases hlt : i < n
  ·
   have hd1 : decide ((i : Int) < (n : Int)) = true:=by simp; omega
   have hii : (i : Int) < (n : Int):=by omega
   obtain ⟨b,o,hAL,hb,hcl⟩:=HX.out.1.resolve_left (by omega)
   have hil : i < l.length:=by have:=HR.out.2.1; omega
   have hrg:=zas hE hb (hcl i _ (pw_get hil))
   have hdd:=HX.out.2 _ (pw_mem hil)
   have hs:=pds_at l i
   have hfew:=fewP_at HR.out.2.2.2 (i:=i) (by have:=HR.out.2.2.1; omega)
   rw [hs] at hfew
   obtain ⟨x,hxx⟩ : ∃ x,x = l.getD i noPw:=⟨_,rfl⟩
   rw [← hxx] at hrg hdd hs hfew
   have KM:=veil (fun W (h : Ext wr W) => mayBe_calls x W (hdd.1.ext (hE.trans h)) (hdd.2.ext (hE.trans h)) hfew)
   obtain ⟨M,hM⟩ : ∃ M,M = mayBeB x.1:=⟨_,rfl⟩
   obtain ⟨id,hid⟩ : ∃ z,z = x.1.id:=⟨_,rfl⟩
   obtain ⟨p,hp⟩ : ∃ z,z = prevId (pds l) i:=⟨_,rfl⟩
   rw [← hM] at KM
   rw [← hp]
   have hno : ∀ h : ¬ okP (pds l) i,R = false:=fun h => HR.out.1.trans (mayP_no (by have:=HR.out.2.2.1; omega) h)
   have HV:=veil (And.intro hno (And.intro hs (And.intro hM (And.intro hid (And.intro hp (And.intro hall hE))))))
   have HG:=veil hrg
   subst hAL
   clear hrg hxx hs hM hp hall hno hE hb hcl hil hfew
   obtain ⟨y,hy⟩ : ∃ y,y = (pwC x).toArray:=⟨_,rfl⟩
   have hy1 : y.all (·.oneCell') = true:=by rw [hy]; exact pwA_one hdd.1 hdd.2
   have hy7 : 7 = y.size:=by rw [hy]; rfl
   have iy : (Tryz.prog.info? 51).map (·.size) = some y.size:=by rw [hy]; exact iPwA x
   have HGy:=veil (show wr.rangeAt b (o + i * 7) y.toList by rw [hy]; exact HG.out)
   have hy0 : ∀ (W : World) (g : Nat),W.heap[g]? = some (.cells y 51 (0,0)) → W.cell? ⟨g,0,none⟩ = some (.int .i64 id):=fun W g h => by
    rw [hid]
    rw [hy] at h
    exact PwAt.at0 (x:=x) h
   rw [← hy] at KM
   have HY:=veil (And.intro hy1 (And.intro iy (And.intro hy7 hy0)))
   clear hy hy1 iy HG hy7 hy0 hdd hid
   go_upto_region 5 with (first
    | ((with_reducible refine zaa 11 ?_); refine wpList_load_mid rfl 51 _ rfl b _ rfl y.toList _ HGy.out Tryz.underlying51 rfl HY.out.2.1 ?_)
    | ((with_reducible refine zaa 5 ?_); refine zbs _ _ rfl rfl rfl rfl rfl rfl hzPw (fun _ => rfl) (fun _ => rfl) HY.out.2.1 HY.out.2.2.1 HY.out.1 ?_; intro gf W hgf hW hEW))
   have c0:=HY.out.2.2.2 _ _ hW
   have HGB:=veil hW
   have HEW:=veil hEW
   clear hW hEW HGy hgf
   by_cases a0 : id ≤ p
   ·
    have da0 : decide (id ≤ p) = true:=decide_eq_true a0
    obtain rfl : R = false:=HV.out.1 fun h => by
     have h1:=okP_prev HV.out.2.1 h
     have:=HV.out.2.2.2.1; have:=HV.out.2.2.2.2.1; omega
    clear a0
    go_wp2
    go_ret
    exact ⟨rfl,HV.out.2.2.2.2.2.2.trans HEW.out⟩
   have da0 : decide (id ≤ p) = false:=decide_eq_false a0
   by_cases a1 : (16 : Int) < id
   ·
    have da1 : decide ((16 : Int) < id) = true:=decide_eq_true a1
    obtain rfl : R = false:=HV.out.1 fun h => by
     unfold okP at h; rw [HV.out.2.1] at h
     have:=h.2.1; have:=HV.out.2.2.2.1; omega
    clear a0 a1
    go_wp2
    go_ret
    exact ⟨rfl,HV.out.2.2.2.2.2.2.trans HEW.out⟩
   have da1 : decide ((16 : Int) < id) = false:=decide_eq_false a1
   cases M with
   | false =>
    obtain rfl : R = false:=HV.out.1 fun h => by
     have h1:=okP_be HV.out.2.1 h
     rw [← HV.out.2.2.1] at h1; cases h1
    clear a0 a1
    go_wp2_with (first
     | ((with_reducible refine zaa 22 ?_); refine zap rfl 51 _ rfl gf rfl 51 y (0,0) _ HGB.out Tryz.underlying51 rfl HY.out.2.1 ?_)
     | (go_at_call 23; refine (KM.out _ HEW.out).mono ?_; rintro e w1 ⟨rfl,hE1⟩))
    go_ret
    exact ⟨rfl,HV.out.2.2.2.2.2.2.trans (HEW.out.trans hE1)⟩
   | true =>
    have HO:=veil (okP_mk HV.out.2.1 HV.out.2.2.2.2.2.1 (by have:=HV.out.2.2.2.1; have:=HV.out.2.2.2.2.1; omega) (by have:=HV.out.2.2.2.1; omega) HV.out.2.2.1.symm)
    clear a0 a1
    go_upto_region 7 with (first
     | ((with_reducible refine zaa 22 ?_); refine zap rfl 51 _ rfl gf rfl 51 y (0,0) _ HGB.out Tryz.underlying51 rfl HY.out.2.1 ?_)
     | (go_at_call 23; refine (KM.out _ HEW.out).mono ?_; rintro e w1 ⟨rfl,hE1⟩))
    have HGB1:=veil (hE1.block HGB.out)
    have c1:=HY.out.2.2.2 _ _ HGB1.out
    have HE1:=veil (HEW.out.trans hE1)
    clear hE1 c0
    go_wp2
    go_roundw
    case rel =>
     refine ⟨i + 1,by omega,by go_num,by rw [prevId_succ,HV.out.2.1,← HV.out.2.2.2.1],fun j hj => ?_,HV.out.2.2.2.2.2.2.trans HE1.out⟩
     by_cases e : j = i
     ·
      subst e; exact HO.out
     ·
      exact HV.out.2.2.2.2.2.1 j (by omega)
    case measure => simp [intOf]; omega
  ·
   obtain rfl : i = n:=by omega
   have hd1 : decide ((i : Int) < (i : Int)) = false:=by simp
   obtain rfl : R = true:=by
    have hall' : ∀ j,j < (pds l).length → okP (pds l) j:=fun j hj => hall j (by have:=HR.out.2.2.1; omega)
    exact HR.out.1.trans ((mayP_len hall').trans (decide_eq_true (by have:=okP_16 hall'; omega)))
   clear hall
   go_wp2
   go_ret
   exact ⟨rfl,hE⟩
theorem zbt (n l m : Int) (w : World) : Calls Tryz.prog 46 #[.int .i64 n,.int .i64 l,.int .i64 m] w fun e w' => e = .returned (.bool (decide (l ≤ n) && decide (n ≤ m))) ∧ w' = w:=by
 by_cases g0 : l ≤ n
 ·
  have d0 : decide (l ≤ n) = true:=decide_eq_true g0
  by_cases g1 : n ≤ m
  ·
   have d1 : decide (n ≤ m) = true:=decide_eq_true g1
   rw [show (decide (l ≤ n) && decide (n ≤ m)) = true by rw [d0,d1]; rfl]
   go_enter Tryz.func46,Tryz.ntmps46
   go_wp2
   go_ret
   exact ⟨rfl,rfl⟩
  ·
   have d1 : decide (n ≤ m) = false:=decide_eq_false g1
   rw [show (decide (l ≤ n) && decide (n ≤ m)) = false by rw [d0,d1]; rfl]
   go_enter Tryz.func46,Tryz.ntmps46
   go_wp2
   go_ret
   exact ⟨rfl,rfl⟩
 ·
  have d0 : decide (l ≤ n) = false:=decide_eq_false g0
  rw [show (decide (l ≤ n) && decide (n ≤ m)) = false by rw [d0]; rfl]
  go_enter Tryz.func46,Tryz.ntmps46
  go_wp2
  go_ret
  exact ⟨rfl,rfl⟩
theorem mayT_and (t : Tk) : mayT t = (((((decide (1 ≤ t.s) && decide (t.s ≤ 2147483647)) && (decide (1 ≤ t.p) && decide (t.p ≤ 16))) && (decide (1 ≤ t.z) && decide (t.z ≤ 255))) && (decide (0 ≤ t.f) && decide (t.f ≤ 1073741824))) && (decide (1 ≤ t.k) && decide (t.k ≤ 2147483647))):=by
 unfold mayT
 simp only [Bool.decide_and,Bool.and_assoc]
theorem zgi (t : Tk) (w : World) : Calls Tryz.prog 24 #[tkV t] w fun e w' => e = .returned (.bool (mayT t)) ∧ Ext w w':=by
 rw [mayT_and]
 obtain ⟨s,p,z,f,k⟩:=t
 unfold tkV tkC
 have K1:=fun W => zbt s 1 2147483647 W
 have K2:=fun W => zbt p 1 16 W
 have K3:=fun W => zbt z 1 255 W
 have K4:=fun W => zbt f 0 1073741824 W
 have K5:=fun W => zbt k 1 2147483647 W
 simp only []
 generalize (decide (1 ≤ s) && decide (s ≤ 2147483647)) = b1 at *
 generalize (decide (1 ≤ p) && decide (p ≤ 16)) = b2 at *
 generalize (decide (1 ≤ z) && decide (z ≤ 255)) = b3 at *
 generalize (decide (0 ≤ f) && decide (f ≤ 1073741824)) = b4 at *
 generalize (decide (1 ≤ k) && decide (k ≤ 2147483647)) = b5 at *
 have H:=veil (And.intro K1 (And.intro K2 (And.intro K3 (And.intro K4 K5))))
 have HE:=veil (Ext.alloc w (.cells #[.int .i64 s,.int .i64 p,.int .i64 z,.int .i64 f,.int .i64 k] 24))
 clear K1 K2 K3 K4 K5
 cases b1 with
 | false =>
  simp only [Bool.false_and]
  go_enter Tryz.func24,Tryz.ntmps24
  go_wp2_with (go_at_call 46; refine (H.out.1 _).mono ?_; rintro e w1 ⟨rfl,rfl⟩)
  go_ret
  exact ⟨rfl,HE.out⟩
 | true =>
  cases b2 with
  | false =>
   simp only [Bool.and_false,Bool.false_and]
   go_enter Tryz.func24,Tryz.ntmps24
   go_wp2_with (go_at_call 46; first
    | (with_reducible refine (H.out.1 _).mono ?_; rintro e w1 ⟨rfl,rfl⟩)
    | (with_reducible refine (H.out.2.1 _).mono ?_; rintro e w1 ⟨rfl,rfl⟩))
   go_ret
   exact ⟨rfl,HE.out⟩
  | true =>
   cases b3 with
   | false =>
    simp only [Bool.and_false,Bool.false_and]
    go_enter Tryz.func24,Tryz.ntmps24
    go_wp2_with (go_at_call 46; first
     | (with_reducible refine (H.out.1 _).mono ?_; rintro e w1 ⟨rfl,rfl⟩)
     | (with_reducible refine (H.out.2.1 _).mono ?_; rintro e w1 ⟨rfl,rfl⟩)
     | (with_reducible refine (H.out.2.2.1 _).mono ?_; rintro e w1 ⟨rfl,rfl⟩))
    go_ret
    exact ⟨rfl,HE.out⟩
   | true =>
    cases b4 with
    | false =>
     simp only [Bool.and_false,Bool.false_and]
     go_enter Tryz.func24,Tryz.ntmps24
     go_wp2_with (go_at_call 46; first
      | (with_reducible refine (H.out.1 _).mono ?_; rintro e w1 ⟨rfl,rfl⟩)
      | (with_reducible refine (H.out.2.1 _).mono ?_; rintro e w1 ⟨rfl,rfl⟩)
      | (with_reducible refine (H.out.2.2.1 _).mono ?_; rintro e w1 ⟨rfl,rfl⟩)
      | (with_reducible refine (H.out.2.2.2.1 _).mono ?_; rintro e w1 ⟨rfl,rfl⟩))
     go_ret
     exact ⟨rfl,HE.out⟩
    | true =>
     simp only [Bool.true_and]
     go_enter Tryz.func24,Tryz.ntmps24
     go_wp2_with (go_at_call 46; first
      | (with_reducible refine (H.out.1 _).mono ?_; rintro e w1 ⟨rfl,rfl⟩)
      | (with_reducible refine (H.out.2.1 _).mono ?_; rintro e w1 ⟨rfl,rfl⟩)
      | (with_reducible refine (H.out.2.2.1 _).mono ?_; rintro e w1 ⟨rfl,rfl⟩)
      | (with_reducible refine (H.out.2.2.2.1 _).mono ?_; rintro e w1 ⟨rfl,rfl⟩)
      | (with_reducible refine (H.out.2.2.2.2 _).mono ?_; rintro e w1 ⟨rfl,rfl⟩))
     go_ret
     exact ⟨rfl,HE.out⟩
def pfind (l : List Pw) (p : Int) : Option Pw:=l.find? fun x => decide (x.1.id = p)
theorem pfind_prod (l : List Pw) (p : Int) : prodP (pds l) p = (pfind l p).map (·.1):=by
 unfold prodP pds pfind
 rw [List.find?_map]
 rfl
theorem pfind_no {l : List Pw} {p : Int} (h : ∀ j,j < l.length → (l.getD j noPw).1.id ≠ p) : pfind l p = none:=List.find?_eq_none.2 fun x hx => by
 obtain ⟨i,hi,rfl⟩:=List.mem_iff_getElem.1 hx
 have:=h i hi
 rw [List.getD_eq_getElem?_getD,List.getElem?_eq_getElem hi] at this
 simpa using this
theorem pfind_is {l : List Pw} {p : Int} : ∀ {i : Nat},i < l.length → (l.getD i noPw).1.id = p → (∀ j,j < i → (l.getD j noPw).1.id ≠ p) → pfind l p = some (l.getD i noPw):=by
 induction l with
 | nil => intro i h; simp at h
 | cons x r ih =>
  intro i h1 h2 h3
  unfold pfind
  cases i with
  | zero =>
   have : x.1.id = p:=h2
   rw [List.find?_cons_of_pos (by simpa using this)]
   rfl
  | succ i =>
   have h0 : x.1.id ≠ p:=h3 0 (by omega)
   rw [List.find?_cons_of_neg (by simpa using h0)]
   exact ih (i:=i) (by simpa using h1) (by simpa using h2) fun j hj => by have:=h3 (j + 1) (by omega); simpa using this
theorem pfind_mem {l : List Pw} {p : Int} {x : Pw} (h : pfind l p = some x) : x ∈ l:=List.mem_of_find?_eq_some h
def pwO (o : Option Pw) : Array Value:=(pwC (o.getD noPw)).toArray
def zPw : Array Value:=#[.int .i64 0,.int .i64 0,.int .i64 0,.int .i64 0,.int .i64 0,.slice none 0 0,.slice none 0 0]
theorem iZPw : (Tryz.prog.info? 51).map (·.size) = some zPw.size:=by show _ = some 7; kernel_rfl
theorem zPw_one : zPw.all (·.oneCell') = true:=by simp [zPw,Value.oneCell']
theorem find14_calls (v : Value) (l : List Pw) (p : Int) (w : World) (hF : Ps14 w v l) (hL : l.length ≤ 1000000000) :
  Calls Tryz.prog 47 #[v,.int .i64 p] w fun e w' => e = .returned (.tuple #[.agg (pwO (pfind l p)),.bool (pfind l p).isSome]) ∧ Ext w w':=by
 obtain ⟨⟨AL,c,rfl,hc,hx⟩,hD⟩:=hF
 obtain ⟨R,hR⟩ : ∃ R,R = pfind l p:=⟨_,rfl⟩
 rw [← hR]
 obtain ⟨n,hn⟩ : ∃ n,n = l.length:=⟨_,rfl⟩
 rw [← hn] at hx hc hL ⊢
 have HX:=veil (And.intro hx hD)
 have HR:=veil (And.intro hR hn)
 clear hR hx hn hD
 go_enter Tryz.func47,Tryz.ntmps47
 go_upto_region 1 with (fail)
 obtain ⟨g,hg⟩ : ∃ g,g = w.heap.size:=⟨_,rfl⟩
 obtain ⟨w0,hw0⟩ : ∃ W,W = w.alloc (.cells zPw 51):=⟨_,rfl⟩
 have h0:=zab w (.cells zPw 51)
 have hE0:=Ext.alloc w (.cells zPw 51)
 rw [← hw0] at hE0
 rw [← hw0,← hg] at h0
 have H0:=veil (And.intro hE0 (And.intro h0 (show w.heap.size ≤ g by omega)))
 unfold zPw at hw0
 rw [← hw0,← hg]
 clear hw0 hg h0 hE0
 go_wp2
 go_loopw [10] (fun v wr => ∃ i : Nat,i ≤ n ∧ v = .int .i64 (i : Int) ∧ (∀ j,j < i → (l.getD j noPw).1.id ≠ p) ∧ Ext w0 wr)
  (fun v _ => n - (intOf v).toNat)
 case atStart => exact ⟨0,by omega,rfl,fun j hj => by omega,Ext.refl _⟩
 case round =>
  obtain ⟨i,hi,rfl,hall,hE⟩:=hrel
  by_cases hlt : i < n
  ·
   have hd1 : decide ((i : Int) < (n : Int)) = true:=by simp; omega
   have hii : (i : Int) < (n : Int):=by omega
   obtain ⟨b,o,hAL,hb,hcl⟩:=HX.out.1.resolve_left (by omega)
   have hil : i < l.length:=by have:=HR.out.2; omega
   have hrg:=zas (H0.out.1.trans hE) hb (hcl i _ (pw_get hil))
   have hdd:=HX.out.2 _ (pw_mem hil)
   obtain ⟨x,hxx⟩ : ∃ x,x = l.getD i noPw:=⟨_,rfl⟩
   rw [← hxx] at hrg hdd
   obtain ⟨id,hid⟩ : ∃ z,z = x.1.id:=⟨_,rfl⟩
   have hyes : id = p → R = some x:=fun h => by
    rw [HR.out.1,hxx]
    exact pfind_is hil (by rw [← hxx,← hid]; exact h) hall
   have HV:=veil (And.intro hyes (And.intro hxx (And.intro hid (And.intro hall hE))))
   have HG:=veil hrg
   subst hAL
   clear hrg hxx hall hyes hE hb hcl hil
   obtain ⟨y,hy⟩ : ∃ y,y = (pwC x).toArray:=⟨_,rfl⟩
   have hy1 : y.all (·.oneCell') = true:=by rw [hy]; exact pwA_one hdd.1 hdd.2
   have hy7 : 7 = y.size:=by rw [hy]; rfl
   have iy : (Tryz.prog.info? 51).map (·.size) = some y.size:=by rw [hy]; exact iPwA x
   have HGy:=veil (show wr.rangeAt b (o + i * 7) y.toList by rw [hy]; exact HG.out)
   have hy0 : ∀ (W : World) (g : Nat),W.heap[g]? = some (.cells y 51 (0,0)) → W.cell? ⟨g,0,none⟩ = some (.int .i64 id):=fun W g h => by
    rw [hid]
    rw [hy] at h
    exact PwAt.at0 (x:=x) h
   have hyO : y = pwO (some x):=hy
   have HY:=veil (And.intro hy1 (And.intro iy (And.intro hy7 (And.intro hy0 hyO))))
   clear hy hy1 iy HG hy7 hy0 hdd hid hyO
   go_upto_region 4 with (first
    | ((with_reducible refine zaa 13 ?_); refine wpList_load_mid rfl 51 _ rfl b _ rfl y.toList _ HGy.out Tryz.underlying51 rfl HY.out.2.1 ?_)
    | ((with_reducible refine zaa 7 ?_); refine zbs _ _ rfl rfl rfl rfl rfl rfl hzPw (fun _ => rfl) (fun _ => rfl) HY.out.2.1 HY.out.2.2.1 HY.out.1 ?_; intro gf W hgf hW hEW))
   have c0:=HY.out.2.2.2.1 _ _ hW
   have HGB:=veil hW
   have HEW:=veil (And.intro hEW ((HV.out.2.2.2.2.trans hEW).block H0.out.2.1))
   clear hW hEW HGy hgf
   by_cases a0 : id = p
   ·
    have f0 : (id == p) = true:=by simp [a0]
    obtain rfl : R = some x:=HV.out.1 a0
    have HA:=veil a0
    clear a0
    go_wp2_with (first
     | ((with_reducible refine zaa 18 ?_); refine wpList_load_row rfl 51 _ rfl gf rfl 51 y (0,0) _ HGB.out Tryz.underlying51 rfl HY.out.2.1 ?_)
     | ((with_reducible refine zae ?_); refine wpList_store_row rfl 51 _ _ rfl g y rfl rfl 51 _ HEW.out.2 HY.out.2.1 HY.out.2.2.1 HY.out.1 ?_))
    refine bodyPost_ret (zai rfl _ _ g 51 y (0,0) _ rfl (setRow_heap W g _ y 51 (0,0) HEW.out.2) Tryz.underlying51 rfl HY.out.2.1) rfl ⟨by rw [← HY.out.2.2.2.2]; rfl,zah (H0.out.1.trans (HV.out.2.2.2.2.trans HEW.out.1)) H0.out.2.2 _⟩
   ·
    have f0 : (id == p) = false:=by simp [a0]
    have HA:=veil a0
    clear a0
    go_wp2
    go_roundw
    case rel =>
     refine ⟨i + 1,by omega,by go_num,fun j hj => ?_,HV.out.2.2.2.2.trans HEW.out.1⟩
     by_cases e : j = i
     ·
      subst e; rw [← HV.out.2.1,← HV.out.2.2.1]; exact HA.out
     ·
      exact HV.out.2.2.2.1 j (by omega)
    case measure => simp [intOf]; omega
  ·
   obtain rfl : i = n:=by omega
   have hd1 : decide ((i : Int) < (i : Int)) = false:=by simp
   obtain rfl : R = none:=HR.out.1.trans (pfind_no fun j hj => hall j (by have:=HR.out.2; omega))
   have HE:=veil (And.intro (H0.out.1.trans hE) (hE.block H0.out.2.1))
   clear hall hE
   go_wp2_with ((with_reducible refine zae ?_); refine wpList_store_row rfl 51 _ _ rfl g zPw rfl rfl 51 _ HE.out.2 iZPw rfl zPw_one ?_)
   refine bodyPost_ret (zai rfl _ _ g 51 zPw (0,0) _ rfl (setRow_heap wr g _ zPw 51 (0,0) HE.out.2) Tryz.underlying51 rfl iZPw) rfl ⟨rfl,zah HE.out.1 H0.out.2.2 _⟩
def timeB (x : Pd) (f a : Int) : Bool:=(decide (f ≤ a) && decide (a < f + x.mi)) && runsV x.sv (a / 1440)
theorem isInTime_calls (x : Pw) (f a : Int) (w : World) (h1 : Ds w x.2.1 x.1.sv.ex) (h2 : Ds w x.2.2 x.1.sv.ec) (hm0 : 1 ≤ x.1.mi) (hm1 : x.1.mi ≤ 1048576) (hM : mayV x.1.sv = true) (hf0 : 0 ≤ f) (hf1 : f ≤ 1073741824) (ha0 : 0 ≤ a) (ha1 : a ≤ 1073741824) :
  Calls Tryz.prog 48 #[.agg (pwC x).toArray,.int .i64 f,.int .i64 a] w fun e w' => e = .returned (.bool (timeB x.1 f a)) ∧ Ext w w':=by
 have hEW:=Ext.alloc w (.cells (pwC x).toArray 51)
 have KO:=veil (fun W => on12_calls a W (by omega) (by omega))
 have KR:=veil (fun W (h : Ext w W) => runs12_calls (.agg (pwS x).toArray) x.1.sv (a / 1440) W ⟨_,_,rfl,h1.ext h,h2.ext h⟩ (mayV_100 hM).1 (mayV_100 hM).2)
 rw [hM,Bool.true_and] at KR
 unfold timeB
 obtain ⟨M,hMM⟩ : ∃ M,M = runsV x.1.sv (a / 1440):=⟨_,rfl⟩
 obtain ⟨mi,hmi⟩ : ∃ m,m = x.1.mi:=⟨_,rfl⟩
 obtain ⟨D,hD⟩ : ∃ D,D = a / 1440:=⟨_,rfl⟩
 rw [← hMM,← hD] at KR
 rw [← hMM,← hmi]
 obtain ⟨R,hR⟩ : ∃ R,R = ((decide (f ≤ a) && decide (a < f + mi)) && M):=⟨_,rfl⟩
 rw [← hR]
 have HR:=veil hR
 rw [← hmi] at hm0 hm1
 have HMI:=veil (And.intro hmi hD)
 obtain ⟨y,hy⟩ : ∃ y,y = (pwC x).toArray:=⟨_,rfl⟩
 have HG0:=veil (show (w.alloc (.cells y 51)).heap[w.heap.size]? = some (.cells y 51 (0,0)) from zab w _)
 rw [← hy] at hEW ⊢
 have HYY:=veil hy
 have HB:=veil (And.intro ha0 ha1)
 clear hMM hmi h1 h2 hM hD hy ha0 ha1 hR
 go_enter Tryz.func48,Tryz.ntmps48
 go_upto_region 1 with (fail)
 obtain ⟨g,hg⟩ : ∃ g,g = w.heap.size:=⟨_,rfl⟩
 rw [← hg] at HG0 ⊢
 have HE:=veil hEW
 clear hEW
 generalize w.alloc (.cells y 51) = w0 at *
 have HP : Hid (PwAt w0 g x):=veil (by have h:=HG0.out; rw [HYY.out] at h; exact h)
 clear hg HG0 HYY
 go_upto_region 2 with (go_at_call 76; refine (KO.out _).mono ?_; rintro e w1 ⟨x1,y1,ev,rfl,hE1,hA1⟩)
 obtain ⟨-,-,hx1,-,rfl⟩:=hA1.resolve_left (by have:=HB.out; omega)
 obtain rfl : x1 = D:=hx1.trans HMI.out.2.symm
 have HE1:=veil (HE.out.trans hE1)
 have HP1 : Hid (PwAt w1 g x):=veil (HP.out.ext hE1)
 have c1:=HP1.out.at1
 rw [← HMI.out.1] at c1
 have HS:=veil HP1.out.sv
 clear hE1 hx1 hA1 HE HP KO
 have e1:=eqNil14
 by_cases g0 : f ≤ a
 rotate_left
 ·
  have f0 : decide (f ≤ a) = false:=decide_eq_false g0
  obtain rfl : R = false:=by rw [HR.out,f0]; rfl
  clear g0
  go_wp2
  go_ret
  exact ⟨rfl,HE1.out⟩
 have f0 : decide (f ≤ a) = true:=decide_eq_true g0
 by_cases g1 : a < f + mi
 rotate_left
 ·
  have f1 : decide (a < f + mi) = false:=decide_eq_false g1
  obtain rfl : R = false:=by rw [HR.out,f0,f1]; rfl
  clear g0 g1
  go_wp2
  go_ret
  exact ⟨rfl,HE1.out⟩
 have f1 : decide (a < f + mi) = true:=decide_eq_true g1
 obtain rfl : R = M:=by rw [HR.out,f0,f1]; rfl
 clear g0 g1
 go_wp2_with (first
  | ((with_reducible refine zaa 33 ?_); refine wpl_midG14 rfl 49 _ rfl g 2 rfl (pwS x) _ HS.out Tryz.underlying49 rfl (iPwS x) ?_)
  | (go_at_call 77; refine (KR.out _ HE1.out).mono ?_; rintro e w2 ⟨rfl,hE2⟩))
 go_ret
 exact ⟨rfl,HE1.out.trans hE2⟩
theorem and_bit8 : ∀ n : Fin 256,bits BinOp.and IntKind.i64 (n.val : Int) 1 = (n.val : Int) % 2:=by decide +kernel
theorem zone_bit {z : Int} {K : Nat} (h0 : 0 ≤ z) (h1 : z ≤ 255) : bits BinOp.and IntKind.i64 (z / 2 ^ K) 1 = z / 2 ^ K % 2:=by
 have a:=zdt z h0 K
 have b:=half_le z h0 K
 have:=and_bit8 ⟨(z / 2 ^ K).toNat,by omega⟩
 simpa [Int.toNat_of_nonneg a] using this
theorem timeB_no {x : Pd} {f a : Int} (h : timeB x f a = false) : a < f ∨ f + x.mi ≤ a ∨ runsV x.sv (a / 1440) = false:=by
 unfold timeB at h
 by_cases h1 : a < f
 ·
  exact .inl h1
 ·
  by_cases h2 : f + x.mi ≤ a
  ·
   exact .inr (.inl h2)
  ·
   rw [decide_eq_true (show f ≤ a by omega),decide_eq_true (show a < f + x.mi by omega),Bool.and_self,Bool.true_and] at h
   exact .inr (.inr h)
theorem timeB_yes {x : Pd} {f a : Int} (h : timeB x f a = true) : ¬ a < f ∧ ¬ f + x.mi ≤ a ∧ runsV x.sv (a / 1440) = true:=by
 unfold timeB at h
 simp only [Bool.and_eq_true,decide_eq_true_eq] at h
 exact ⟨by omega,by omega,h.2⟩
theorem zgv (v : Value) (l : List Pw) (t : Tk) (z a : Int) (w : World) (hF : Ps14 w v l) (hM : mayP (pds l) = true) (hT : mayT t = true) (hP : placeB z a = true) :
  Calls Tryz.prog 26 #[v,tkV t,.int .i64 z,.int .i64 a] w fun e w' => e = .returned (.int .i64 (whyV (pds l) t z a)) ∧ Ext w w':=by
 have h16:=mayP_16 hM
 rw [pds_len] at h16
 have KF:=veil (fun W (h : Ext w W) => find14_calls v l t.p W (hF.ext h) (by omega))
 have hT1:=mayT_is hT
 have hP1:=placeB_is hP
 have hpr:=pfind_prod l t.p
 have hin : ∀ x,pfind l t.p = some x → Ds w x.2.1 x.1.sv.ex ∧ Ds w x.2.2 x.1.sv.ec ∧ (1 ≤ x.1.mi ∧ x.1.mi ≤ 1048576 ∧ mayV x.1.sv = true):=fun x hx => by
  have hd:=hF.2 x (pfind_mem hx)
  obtain ⟨i,hi,he⟩:=prodP_in (l:=pds l) (p:=t.p) (x:=x.1) (by rw [hpr,hx]; rfl)
  have hok:=mayP_ok hM hi
  unfold okP at hok
  rw [he] at hok
  exact ⟨hd.1,hd.2,hok.2.2.2⟩
 obtain ⟨⟨AL,c,rfl,-,-⟩,-⟩:=hF
 obtain ⟨n,hn⟩ : ∃ n,n = l.length:=⟨_,rfl⟩
 rw [← hn] at KF ⊢
 clear hn h16
 obtain ⟨R,hR⟩ : ∃ R,R = whyV (pds l) t z a:=⟨_,rfl⟩
 rw [← hR]
 obtain ⟨o,ho⟩ : ∃ o,o = pfind l t.p:=⟨_,rfl⟩
 rw [← ho] at KF hpr hin
 obtain ⟨Z,hZ⟩ : ∃ Z : Nat,(Z : Int) = z:=⟨z.toNat,by omega⟩
 subst hZ
 have hZ7 : Z ≤ 7:=by omega
 have hZb:=zone_bit (z:=t.z) (K:=Z) (by omega) (by omega)
 have hZt : ((Z : Int)).toNat = Z:=by simp
 have HR:=veil (And.intro hR (And.intro hpr (And.intro hin (And.intro hT1 (And.intro hP1 (And.intro hZb hZt))))))
 have hE0:=Ext.alloc w (.cells (tkC t) 24)
 have hS0:=TkAt.new w t
 clear hR hpr hin hT1 hP1 hM hT hP ho hZb hZt
 unfold tkV
 go_enter Tryz.func26,Tryz.ntmps26
 go_upto_region 1 with (fail)
 obtain ⟨g,hg⟩ : ∃ g,g = w.heap.size:=⟨_,rfl⟩
 rw [← hg] at hS0 ⊢
 generalize w.alloc (.cells (tkC t) 24) = w0 at *
 have HS:=veil hS0
 have HE:=veil hE0
 have c1:=hS0.at1
 clear hE0 hS0 hg
 obtain ⟨y,hy⟩ : ∃ y,y = pwO o:=⟨_,rfl⟩
 have hy1 : y.all (·.oneCell') = true:=by
  rw [hy]
  cases o with
  | none => simp [pwO,pwC,noPw,Value.oneCell']
  | some x => exact pwA_one (HR.out.2.2.1 x rfl).1 (HR.out.2.2.1 x rfl).2.1
 have hy7 : 7 = y.size:=by rw [hy]; rfl
 have iy : (Tryz.prog.info? 51).map (·.size) = some y.size:=by rw [hy]; exact iPwA _
 rw [← hy] at KF
 have HY:=veil (And.intro hy1 (And.intro iy (And.intro hy7 hy)))
 clear hy hy1 iy hy7
 go_upto_region 2 with (first
  | (go_at_call 47; refine (KF.out _ HE.out).mono ?_; rintro e w1 ⟨rfl,hE1⟩)
  | ((with_reducible refine zaa 9 ?_); refine zbs _ _ rfl rfl rfl rfl rfl rfl hzPw (fun _ => rfl) (fun _ => rfl) HY.out.2.1 HY.out.2.2.1 HY.out.1 ?_; intro gf W hgf hW hEW))
 have HGB:=veil hW
 have HE2:=veil (HE.out.trans (hE1.trans hEW))
 have HS2 : Hid (TkAt W g t):=veil (HS.out.ext (hE1.trans hEW))
 clear hW hEW hE1 hgf HE HS KF c1
 cases o with
 | none =>
  obtain rfl : R = 7:=HR.out.1.trans (whyV_none HR.out.2.1)
  simp only [Option.isSome]
  go_wp2
  go_ret
  exact ⟨rfl,HE2.out⟩
 | some x =>
  have hwx : R = whyX x.1 t (Z : Int) a:=HR.out.1.trans (whyV_some HR.out.2.1)
  obtain ⟨hd1,hd2,hm0,hm1,hmv⟩:=HR.out.2.2.1 x rfl
  have KI:=veil (fun W (h : Ext w W) => isInTime_calls x t.f a W (hd1.ext h) (hd2.ext h) hm0 hm1 hmv (by have:=HR.out.2.2.2.1; omega) (by have:=HR.out.2.2.2.1; omega) (by have:=HR.out.2.2.2.2.1; omega) (by have:=HR.out.2.2.2.2.1; omega))
  obtain ⟨B,hB⟩ : ∃ B,B = timeB x.1 t.f a:=⟨_,rfl⟩
  rw [← hB] at KI
  have hyx : (pwC x).toArray = y:=HY.out.2.2.2.symm
  rw [hyx] at KI
  have HW:=veil (And.intro hwx hB)
  have c2:=HS2.out.at2
  have c3:=HS2.out.at3
  have tz0 : 0 ≤ t.z:=by have:=HR.out.2.2.2.1; omega
  have tz1 : t.z ≤ 255:=by have:=HR.out.2.2.2.1; omega
  obtain ⟨tz,htz⟩ : ∃ q,q = t.z:=⟨_,rfl⟩
  obtain ⟨tf,htf⟩ : ∃ q,q = t.f:=⟨_,rfl⟩
  rw [← htz] at c2 tz0 tz1
  rw [← htf] at c3 KI
  have HTZ:=veil (And.intro htz htf)
  clear hwx hd1 hd2 hm0 hm1 hmv hB hyx htz htf
  simp only [Option.isSome]
  by_cases g5 : bits BinOp.and IntKind.i64 (tz / 2 ^ Z) 1 = 0
  ·
   have f5 : (bits BinOp.and IntKind.i64 (tz / 2 ^ Z) 1 == 0) = true:=by simpa using g5
   obtain rfl : R = 5:=HW.out.1.trans (whyX_zone (by rw [HR.out.2.2.2.2.2.2,← HR.out.2.2.2.2.2.1,← HTZ.out.1]; exact g5))
   clear g5
   go_wp2
   go_ret
   exact ⟨rfl,HE2.out⟩
  have f5 : (bits BinOp.and IntKind.i64 (tz / 2 ^ Z) 1 == 0) = false:=by simpa using g5
  have hnz : ¬ t.z / 2 ^ ((Z : Int)).toNat % 2 = 0:=by rw [HR.out.2.2.2.2.2.2,← HR.out.2.2.2.2.2.1,← HTZ.out.1]; exact g5
  have HNZ:=veil hnz
  clear g5 hnz
  cases B with
  | false =>
   obtain rfl : R = 6:=HW.out.1.trans (whyX_time HNZ.out (timeB_no HW.out.2.symm))
   go_wp2_with (first
    | ((with_reducible refine zaa 29 ?_); refine wpList_load_row rfl 51 _ rfl gf rfl 51 y (0,0) _ HGB.out Tryz.underlying51 rfl HY.out.2.1 ?_)
    | (go_at_call 48; refine (KI.out _ HE2.out).mono ?_; rintro e w3 ⟨rfl,hE3⟩))
   go_ret
   exact ⟨rfl,HE2.out.trans hE3⟩
  | true =>
   obtain rfl : R = 1:=HW.out.1.trans (whyX_ok HNZ.out (timeB_yes HW.out.2.symm).1 (timeB_yes HW.out.2.symm).2.1 (timeB_yes HW.out.2.symm).2.2)
   go_wp2_with (first
    | ((with_reducible refine zaa 29 ?_); refine wpList_load_row rfl 51 _ rfl gf rfl 51 y (0,0) _ HGB.out Tryz.underlying51 rfl HY.out.2.1 ?_)
    | (go_at_call 48; refine (KI.out _ HE2.out).mono ?_; rintro e w3 ⟨rfl,hE3⟩))
   go_ret
   exact ⟨rfl,HE2.out.trans hE3⟩
theorem covers14_calls (v : Value) (l : List Pw) (t : Tk) (z a : Int) (w : World) (hF : Ps14 w v l) (hL : fewP (pds l) = true) :
  Calls Tryz.prog 11 #[v,tkV t,.int .i64 z,.int .i64 a] w fun e w' => e = .returned (.bool (coversV (pds l) t z a)) ∧ Ext w w':=by
 obtain ⟨R,hR⟩ : ∃ R,R = coversV (pds l) t z a:=⟨_,rfl⟩
 rw [← hR]
 unfold coversV at hR
 have KL:=veil (fun W (h : Ext w W) => zdr v l W (hF.ext h) hL)
 have KW:=veil (fun W (h : Ext w W) (hM : mayP (pds l) = true) (hT : mayT t = true) (hP : placeB z a = true) => zgv v l t z a W (hF.ext h) hM hT hP)
 have KM:=veil (fun W => zgi t W)
 have KP:=veil (fun W => zdy z a W)
 obtain ⟨⟨AL,c,rfl,-,-⟩,-⟩:=hF
 obtain ⟨n,hn⟩ : ∃ n,n = l.length:=⟨_,rfl⟩
 rw [← hn] at KW KL ⊢
 clear hn hL
 obtain ⟨N,hN⟩ : ∃ N,N = mayP (pds l):=⟨_,rfl⟩
 obtain ⟨M,hM⟩ : ∃ M,M = mayT t:=⟨_,rfl⟩
 obtain ⟨P,hP⟩ : ∃ P,P = placeB z a:=⟨_,rfl⟩
 obtain ⟨y,hy⟩ : ∃ y,y = whyV (pds l) t z a:=⟨_,rfl⟩
 rw [← hN,← hM,← hP,← hy] at hR
 rw [← hN,← hM,← hP,← hy] at KW
 rw [← hN] at KL
 rw [← hM] at KM
 rw [← hP] at KP
 have HR:=veil hR
 have hE0:=Ext.alloc w (.cells (tkC t) 24)
 have hS0:=TkAt.new w t
 clear hN hM hP hy hR
 unfold tkV at *
 go_enter Tryz.func11,Tryz.ntmps11
 go_upto_region 1 with (fail)
 obtain ⟨g,hg⟩ : ∃ g,g = w.heap.size:=⟨_,rfl⟩
 rw [← hg] at hS0 ⊢
 generalize w.alloc (.cells (tkC t) 24) = w0 at *
 have HS:=veil hS0
 have HE:=veil hE0
 clear hE0 hS0 hg
 cases N with
 | false =>
  obtain rfl : R = false:=HR.out
  go_wp2_with (go_at_call 10; with_reducible refine (KL.out _ HE.out).mono ?_; rintro e w1 ⟨rfl,hE1⟩)
  go_ret
  exact ⟨rfl,HE.out.trans hE1⟩
 | true =>
  cases M with
  | false =>
   obtain rfl : R = false:=HR.out
   go_wp2_with (first
    | (go_at_call 10; with_reducible refine (KL.out _ HE.out).mono ?_; rintro e w1 ⟨rfl,hE1⟩; have HE1:=veil (HE.out.trans hE1); have HS1 : Hid (TkAt w1 g t):=veil (HS.out.ext hE1); clear hE1)
    | ((with_reducible refine zaa 12 ?_); refine zap rfl 24 _ rfl g rfl 24 (tkC t) (0,0) _ HS1.out Tryz.underlying24 rfl (iTk t) ?_)
    | (go_at_call 24; with_reducible refine (KM.out _).mono ?_; rintro e w2 ⟨rfl,hE2⟩))
   go_ret
   exact ⟨rfl,HE1.out.trans hE2⟩
  | true =>
   cases P with
   | false =>
    obtain rfl : R = false:=HR.out
    go_wp2_with (first
     | (go_at_call 10; with_reducible refine (KL.out _ HE.out).mono ?_; rintro e w1 ⟨rfl,hE1⟩; have HE1:=veil (HE.out.trans hE1); have HS1 : Hid (TkAt w1 g t):=veil (HS.out.ext hE1); clear hE1)
     | ((with_reducible refine zaa 12 ?_); refine zap rfl 24 _ rfl g rfl 24 (tkC t) (0,0) _ HS1.out Tryz.underlying24 rfl (iTk t) ?_)
     | (go_at_call 24; with_reducible refine (KM.out _).mono ?_; rintro e w2 ⟨rfl,hE2⟩; have HE2:=veil (HE1.out.trans hE2); clear hE2)
     | (go_at_call 25; with_reducible refine (KP.out _).mono ?_; rintro e w3 ⟨rfl,rfl⟩))
    go_ret
    exact ⟨rfl,HE2.out⟩
   | true =>
    have HRr:=veil (show R = decide (y = 1) from HR.out)
    by_cases g0 : y = 1
    ·
     have f0 : (y == 1) = true:=by simp [g0]
     obtain rfl : R = true:=HRr.out.trans (decide_eq_true g0)
     clear g0
     go_wp2_with (first
      | (go_at_call 10; with_reducible refine (KL.out _ HE.out).mono ?_; rintro e w1 ⟨rfl,hE1⟩; have HE1:=veil (HE.out.trans hE1); have HS1 : Hid (TkAt w1 g t):=veil (HS.out.ext hE1); clear hE1)
      | ((with_reducible refine zaa 12 ?_); refine zap rfl 24 _ rfl g rfl 24 (tkC t) (0,0) _ HS1.out Tryz.underlying24 rfl (iTk t) ?_)
      | (go_at_call 24; with_reducible refine (KM.out _).mono ?_; rintro e w2 ⟨rfl,hE2⟩; have HE2:=veil (HE1.out.trans hE2); have HS2 : Hid (TkAt w2 g t):=veil (HS1.out.ext hE2); clear hE2)
      | (go_at_call 25; with_reducible refine (KP.out _).mono ?_; rintro e w3 ⟨rfl,rfl⟩)
      | ((with_reducible refine zaa 22 ?_); refine zap rfl 24 _ rfl g rfl 24 (tkC t) (0,0) _ HS2.out Tryz.underlying24 rfl (iTk t) ?_)
      | (go_at_call 26; with_reducible refine (KW.out _ HE2.out (by trivial) (by trivial) (by trivial)).mono ?_; rintro e w4 ⟨rfl,hE4⟩))
     go_ret
     exact ⟨rfl,HE2.out.trans hE4⟩
    ·
     have f0 : (y == 1) = false:=by simp [g0]
     obtain rfl : R = false:=HRr.out.trans (decide_eq_false g0)
     clear g0
     go_wp2_with (first
      | (go_at_call 10; with_reducible refine (KL.out _ HE.out).mono ?_; rintro e w1 ⟨rfl,hE1⟩; have HE1:=veil (HE.out.trans hE1); have HS1 : Hid (TkAt w1 g t):=veil (HS.out.ext hE1); clear hE1)
      | ((with_reducible refine zaa 12 ?_); refine zap rfl 24 _ rfl g rfl 24 (tkC t) (0,0) _ HS1.out Tryz.underlying24 rfl (iTk t) ?_)
      | (go_at_call 24; with_reducible refine (KM.out _).mono ?_; rintro e w2 ⟨rfl,hE2⟩; have HE2:=veil (HE1.out.trans hE2); have HS2 : Hid (TkAt w2 g t):=veil (HS1.out.ext hE2); clear hE2)
      | (go_at_call 25; with_reducible refine (KP.out _).mono ?_; rintro e w3 ⟨rfl,rfl⟩)
      | ((with_reducible refine zaa 22 ?_); refine zap rfl 24 _ rfl g rfl 24 (tkC t) (0,0) _ HS2.out Tryz.underlying24 rfl (iTk t) ?_)
      | (go_at_call 26; with_reducible refine (KW.out _ HE2.out (by trivial) (by trivial) (by trivial)).mono ?_; rintro e w4 ⟨rfl,hE4⟩))
     go_ret
     exact ⟨rfl,HE2.out.trans hE4⟩
theorem half_div (X P : Nat) : X / 2 / P = X / P / 2:=by rw [Nat.div_div_eq_div_mul,Nat.div_div_eq_div_mul,Nat.mul_comm]
theorem dg_next (B X i : Nat) : dg B X (i + 1) = X / B ^ i / B % B:=by rw [dg,Nat.pow_succ,Nat.div_div_eq_div_mul]
theorem half_word (X m : Nat) : bits .or .u64 (wd X m / 2) (IntKind.u64.wrap (wd X (m + 1) * 9223372036854775808)) = wd (X / 2) m:=by
 unfold wd
 rw [dg_next,IntKind.wrap_u64]
 show _ = ((X / 2 / w64 ^ m % w64 : Nat) : Int)
 rw [half_div]
 unfold dg
 generalize X / w64 ^ m = q
 unfold w64
 rw [show ((q % 18446744073709551616 : Nat) : Int) / 2 = ((q % 18446744073709551616 / 2 : Nat) : Int) by omega,
  show ((q / 18446744073709551616 % 18446744073709551616 : Nat) : Int) * 9223372036854775808 % 18446744073709551616 = ((q / 18446744073709551616 % 2 * 9223372036854775808 : Nat) : Int) by omega]
 rw [u64_or_nat _ _ (by omega) (by omega),Nat.or_comm,nat_join 63 _ _ (by omega) (by omega)]
 omega
theorem wd_top {X : Nat} (hX : X < top) : wd X 4 = 0:=by
 unfold wd dg
 unfold top at hX
 rw [Nat.div_eq_of_lt hX]; rfl
theorem row_down {X m : Nat} : ∀ i,i < 4 → (if i = m then Value.int .u64 (wd X m) else Value.int .u64 (if m + 1 ≤ i then wd X i else 0)) = Value.int .u64 (if m ≤ i then wd X i else 0):=by
 intro i _
 by_cases h : i = m
 ·
  subst h; simp
 ·
  rw [if_neg h]; by_cases h2 : m ≤ i
  ·
   rw [if_pos h2,if_pos (by omega)]
  ·
   rw [if_neg h2,if_neg (by omega)]
theorem half_calls (X : Nat) (hX : X < top) (w : World) :
  Calls Tryz.prog 147 #[.agg #[vI vU (wd X 0),vI vU (wd X 1),vI vU (wd X 2),vI vU (wd X 3)]] w fun e w' => e = .returned (.agg #[vI vU (wd (X / 2) 0),vI vU (wd (X / 2) 1),vI vU (wd (X / 2) 2),vI vU (wd (X / 2) 3)]) ∧ Below w.heap.size w w':=by
 go_enter Tryz.func147,Tryz.ntmps147
 go_wp2
 go_loopw [4,5] (fun c i wr => ∃ k : Nat,k ≤ 4 ∧ i = .int .i64 ((k : Int) - 1) ∧ c = .int .u64 (wd X k) ∧ wr.rowIs w.heap.size 58 4 (fun j => .int .u64 (wd X j))
   ∧ wr.rowIs (w.heap.size + 1) 58 4 (fun _ => .int .u64 0) ∧ wr.rowIs (w.heap.size + 1 + 1) 58 4 (fun j => .int .u64 (if k ≤ j then wd (X / 2) j else 0)) ∧ Below w.heap.size w wr)
  (fun _ i _ => (intOf i + 1).toNat)
 case atStart => exact ⟨4,by omega,rfl,by rw [wd_top hX],((zaf (n:=4) (by simp) rfl (arr4 fun j => .int .u64 (wd X j))).alloc _).alloc _,(zaf (n:=4) (by simp) rfl (arr4 fun _ => .int .u64 0)).alloc _,(zaf (n:=4) (f:=fun _ => .int .u64 0) (by simp) rfl (arr4 fun _ => .int .u64 0)).congr (fun i hi => by rw [if_neg (by omega)]),(((Below.refl _ _).alloc (by simp) _).alloc (by simp) _).alloc (by simp; omega) _⟩
 case round =>
  obtain ⟨k,hk,hi,rfl,hRX,hRZ,hS,hbel⟩:=hrel
  cases k with
  | zero =>
   subst hi
   obtain ⟨c0,c1,c2,c3⟩:=zag hS
   obtain ⟨d0,d1,d2,d3⟩:=zag hRZ
   obtain ⟨f0,f1,f2,f3⟩:=zay hRZ
   simp only [Nat.zero_le,if_true] at c0 c1 c2 c3
   clear hS hRX
   go_wp2
   refine bodyPost_ret (results_cell_row rfl _ _ (w.heap.size + 1) 58 #[vI vU (wd (X / 2) 0),vI vU (wd (X / 2) 1),vI vU (wd (X / 2) 2),vI vU (wd (X / 2) 3)] (0,0) _ rfl (blk4 (put4 hRZ fun j => .int .u64 (wd (X / 2) j))) Tryz.underlying58 rfl (by kernel_rfl)) rfl ⟨rfl,zan hbel (by omega) _ _ _ _⟩
  | succ m =>
   obtain rfl : _ = Value.int .i64 (m : Int):=hi.trans (by congr 1; omega)
   have hm : m < 4:=by omega
   clear hi
   have c1:=hRX.cell hm
   have c2:=hS.cell hm
   have f2:=hS.frozen m
   have l1:=wd_lo X m
   have u1:=wd_le X m
   have l2:=wd_lo X (m + 1)
   have u2:=wd_le X (m + 1)
   go_wp2
   go_roundw
   case rel =>
    rw [half_word]
    exact ⟨m,by omega,rfl,rfl,zam hRX (by omega) _,zam hRZ (by omega) _,(hS.set m _).congr row_down,zad hbel (by omega) _⟩
   case measure => simp [intOf]
theorem khalf (X Z : Nat) (h : X / 2 = Z) (hX : X < top) (w : World) :
  Calls Tryz.prog 147 #[.agg #[vI vU (wd X 0),vI vU (wd X 1),vI vU (wd X 2),vI vU (wd X 3)]] w fun e w' => e = .returned (.agg #[vI vU (wd Z 0),vI vU (wd Z 1),vI vU (wd Z 2),vI vU (wd Z 3)]) ∧ Below w.heap.size w w':=by
 subst h; exact half_calls X hX w
theorem klen (X : Nat) (m : Int) (h : (bitLen X : Int) = m) (hX : X < top) (w : World) :
  Calls Tryz.prog 186 #[.agg #[vI vU (wd X 0),vI vU (wd X 1),vI vU (wd X 2),vI vU (wd X 3)]] w fun e w' => e = .returned (.int .i64 m) ∧ Below w.heap.size w w':=by
 subst h; exact len_calls X hX w
def checkC (L : Low) (l : List Ky) (bs : List Nat) (at_ : Int) : Tk × Nat:=if mayK l = true then kcheckB L l bs at_ else (⟨0,0,0,0,0⟩,1)
def tagFs : Int → List (List Nat) → List Fd
 | _,[] => []
 | t,x :: r => (t,x) :: tagFs (t + 1) r
theorem zbu : ∀ (t : Int) (l : List (List Nat)),(tagFs t l).length = l.length
 | _,[] => rfl
 | t,_ :: r => by
  show (tagFs (t + 1) r).length + 1 = r.length + 1
  rw [zbu (t + 1) r]
theorem tagFs_get : ∀ (t : Int) (l : List (List Nat)) (i : Nat),i < l.length → tgF (tagFs t l) i = t + i ∧ bsF (tagFs t l) i = l.getD i []
 | _,[],_,h => by simp at h
 | t,n :: r,0,_ => ⟨by show t = t + ((0 : Nat) : Int); omega,rfl⟩
 | t,n :: r,i + 1,h => by
  obtain ⟨h1,h2⟩:=tagFs_get (t + 1) r i (by simpa using h)
  refine ⟨?_,h2⟩
  show tgF (tagFs (t + 1) r) i = _
  rw [h1]
  omega
theorem tagFs_num : ∀ (t : Int) (l : List Int),tagFs t (l.map numB) = numFs t l
 | _,[] => rfl
 | t,n :: r => by
  show (t,numB n) :: tagFs (t + 1) (r.map numB) = (t,numB n) :: numFs (t + 1) r
  rw [tagFs_num (t + 1) r]
theorem tagFs_byt : ∀ {t : Int} {l : List (List Nat)},(∀ x ∈ l,Byt x) → BytF (tagFs t l)
 | _,[],_ => fun f hf => by cases hf
 | t,x :: r,h => fun f hf => by
  rcases List.mem_cons.1 hf with rfl | hf
  ·
   exact h _ List.mem_cons_self
  ·
   exact tagFs_byt (t:=t + 1) (fun y hy => h y (List.mem_cons_of_mem _ hy)) f hf
def Vs (w : World) (v : Value) (l : List (List Nat)) : Prop:=(∀ x ∈ l,Byt x) ∧ ∃ AL c,v = .slice AL l.length c ∧ l.length ≤ c ∧ (l.length = 0 ∨ ∃ b o,AL = some ⟨b,o,none⟩ ∧ b < w.heap.size ∧
 ∀ i,i < l.length → ∃ A c',w.cell? ⟨b,o + i,none⟩ = some (.slice A (l.getD i []).length c') ∧ (l.getD i []).length ≤ c' ∧ Bs w A (l.getD i []))
theorem Vs.ext {w w' : World} {v : Value} {l : List (List Nat)} (h : Vs w v l) (k : Ext w w') : Vs w' v l:=by
 obtain ⟨hB,AL,c,e,hc,h⟩:=h
 refine ⟨hB,AL,c,e,hc,h.imp id ?_⟩
 rintro ⟨b,o,e,hb,hx⟩
 refine ⟨b,o,e,Nat.lt_of_lt_of_le hb k.size,fun i hi => ?_⟩
 obtain ⟨A,c',h2,h3,h4⟩:=hx i hi
 exact ⟨A,c',(k.cell hb).trans h2,h3,h4.ext k⟩
theorem hmk_fd (n : Nat) (hn : n ≤ 1000000) (W : World) : (Instr.makeSlice 131 (.int .i64 (n : Int)) (.int .i64 (n : Int))).run Tryz.prog W = .ok (.slice (some ⟨W.heap.size,0,none⟩) n n) (W.alloc (.cells (madeCells #[.int .i64 0,.slice none 0 0] (n * 2)) 135)):=by
 obtain ⟨i,hi,hz,hsz,hby⟩:=zds infoF16
 have h:=run_make (P:=Tryz.prog) W 131 135 i _ Tryz.underlying131 hi hz .i64 .i64 (n : Int) (n : Int) (by omega) (Int.le_refl _) (by rw [hby]; omega) (by omega)
 simp only [Int.toNat_natCast,hsz,Value.cells] at h
 exact h
theorem pre_new (w : World) (C : Array Value) (t m : Nat) (hm : m = C.size) : Pre (w.alloc (.cells C t)) w.heap.size t m (fun j => C.getD j undef) :=
 ⟨C,zab w _,fun i hi => by
  have : i < C.size:=by omega
  simp [Array.getD,this]⟩
theorem Pre.there {w : World} {g t n : Nat} {f : Nat → Value} (p : Pre w g t n f) {i : Nat} (hi : i + 2 ≤ n) : w.there g i 2:=fun j hj => ⟨by rw [p.cell (show i + j < n by omega)]; rfl,p.frozen _⟩
theorem Pre.two {w : World} {g t n : Nat} {f : Nat → Value} (p : Pre w g t n f) (i : Nat) (x y : Value) : Pre (w.setCells g i [x,y]) g t n (fun j => if j = i + 1 then y else if j = i then x else f j):=(p.set i x).set (i + 1) y
def Laid (w : World) (l : List (List Nat)) (f : Nat → Value) (i : Nat) : Prop:=∀ j,j < i → f (j * 2) = .int .i64 ((j : Int) + 1) ∧ ∃ A c,f (j * 2 + 1) = .slice A (l.getD j []).length c ∧ (l.getD j []).length ≤ c ∧ Bs w A (l.getD j [])
theorem Laid.step {w : World} {l : List (List Nat)} {f : Nat → Value} {i c : Nat} {A : Option Addr} (h : Laid w l f i) (hc : (l.getD i []).length ≤ c) (hB : Bs w A (l.getD i [])) :
  Laid w l (fun j => if j = i * 2 + 1 then .slice A (l.getD i []).length c else if j = i * 2 then .int .i64 ((i : Int) + 1) else f j) (i + 1):=fun j hj => by
 by_cases e : j = i
 ·
  subst e
  exact ⟨by simp only; rw [if_neg (by omega),if_pos trivial],A,c,by simp only; rw [if_pos trivial],hc,hB⟩
 ·
  obtain ⟨h1,h2⟩:=h j (by omega)
  refine ⟨?_,?_⟩
  ·
   simp only
   rw [if_neg (by omega),if_neg (by omega)]
   exact h1
  ·
   simp only
   rw [if_neg (by omega),if_neg (by omega)]
   exact h2
theorem Laid.fl {w w' : World} {l : List (List Nat)} {f : Nat → Value} {g n : Nat} (h : Laid w l f n) (hn : n = l.length) (hE : Ext w w') (hl : ∀ x ∈ l,Byt x) (hp : Pre w' g 135 (n * 2) f) : Fl w' (.slice (some ⟨g,0,none⟩) n n) (tagFs 1 l):=by
 subst hn
 refine ⟨tagFs_byt hl,some ⟨g,0,none⟩,l.length,by rw [zbu],by rw [zbu]; exact Nat.le_refl _,.inr ⟨g,0,rfl,hp.lt,fun i hi => ?_⟩⟩
 rw [zbu] at hi
 obtain ⟨h1,A,c,h2,h3,h4⟩:=h i hi
 obtain ⟨e1,e2⟩:=tagFs_get 1 l i hi
 rw [e1,e2]
 refine ⟨?_,A,c,?_,h3,h4.ext hE⟩
 ·
  rw [Nat.zero_add,hp.cell (by omega),h1,show (i : Int) + 1 = 1 + (i : Int) by omega]
 ·
  rw [Nat.zero_add,hp.cell (by omega),h2]
theorem tput_calls (v : Value) (l : List (List Nat)) (hL : l.length ≤ 64) (w : World) (hV : Vs w v l) :
  Calls Tryz.prog 93 #[v] w fun e w' => ∃ x ev,e = .returned (.tuple #[x,ev]) ∧ Ext w w' ∧ PutA w' (tagFs 1 l) x ev:=by
 obtain ⟨hB,AL,c,rfl,hc,hx⟩:=hV
 obtain ⟨n,hn⟩ : ∃ n,n = l.length:=⟨_,rfl⟩
 rw [← hn] at hx hc hL ⊢
 have HX:=veil (And.intro hx (And.intro hn hB))
 have hmk:=hmk_fd n (by omega)
 have hp0:=pre_new w (madeCells #[.int .i64 0,.slice none 0 0] (n * 2)) 135 (n * 2) (size_madeCells _ _).symm
 have hE0:=Ext.alloc w (.cells (madeCells #[.int .i64 0,.slice none 0 0] (n * 2)) 135)
 have H0:=veil (And.intro hp0 hE0)
 clear hx hn hB hp0 hE0
 go_enter Tryz.func93,Tryz.ntmps93
 go_upto_region 2 with (fail)
 obtain ⟨g,hg⟩ : ∃ g,g = w.heap.size:=⟨_,rfl⟩
 generalize w.alloc (.cells (madeCells #[.int .i64 0,.slice none 0 0] (n * 2)) 135) = w1 at *
 rw [← hg] at H0 ⊢
 have HG:=veil (show w.heap.size ≤ g by omega)
 clear hg hmk
 go_wp2
 go_loopw [5,6,12] (fun _ _ v wr => ∃ i : Nat,i ≤ n ∧ v = .int .i64 (i : Int) ∧ (∃ f,Pre wr g 135 (n * 2) f ∧ Laid w l f i) ∧ Ext w wr)
  (fun _ _ v _ => n - (intOf v).toNat)
 case atStart => exact ⟨0,by omega,rfl,⟨_,H0.out.1,fun j hj => by omega⟩,H0.out.2⟩
 case round =>
  obtain ⟨i,hi,rfl,⟨f,hp,hl⟩,hE⟩:=hrel
  by_cases hlt : i < n
  ·
   have hd1 : decide ((i : Int) < (n : Int)) = true:=by simp; omega
   have hii : (i : Int) < (n : Int):=by omega
   obtain ⟨b,o,hA,hb,hcl⟩:=HX.out.1.resolve_left (by omega)
   obtain ⟨A,c',h1,h2,h3⟩:=hcl i (by have:=HX.out.2.1; omega)
   have c0:=(hE.cell hb).trans h1
   have HS:=veil (And.intro (Laid.step hl h2 h3) (And.intro hp hE))
   have hth:=hp.there (i:=i * 2) (by omega)
   have HT:=veil hth
   generalize (l.getD i []).length = L at *
   subst hA
   clear h1 h2 h3 hl hp hth hcl hE
   go_wp2_with ((with_reducible refine zae ?_); refine wpList_store_mid rfl 135 _ _ rfl g (i * 2) _ rfl rfl HT.out infoF2 one_fd ?_)
   go_roundw
   case rel => exact ⟨i + 1,by omega,by go_num,⟨_,HS.out.2.1.two (i * 2) _ _,HS.out.1⟩,zad (zad HS.out.2.2 HG.out _) HG.out _⟩
   case measure => simp [intOf]; omega
  ·
   obtain rfl : i = n:=by omega
   have hd1 : decide ((i : Int) < (i : Int)) = false:=by simp
   have KP:=veil (code8.put _ _ wr (Laid.fl hl HX.out.2.1 hE HX.out.2.2 hp) (by rw [zbu]; have:=HX.out.2.1; omega))
   have HE:=veil hE
   clear hl hp hE
   go_wp2_with (go_at_call 141; refine KP.out.mono ?_; rintro e w2 ⟨x,ev,rfl,hE2,hA⟩)
   go_ret2
   exact ⟨_,_,rfl,HE.out.trans hE2,hA⟩
structure Code (I : World → Prop) : Prop where
 keep : ∀ w w',I w → Below w.heap.size w w' → I w'
 on : ∀ X Y f,X < top → Y < top → ∀ w,I w → Calls Tryz.prog 89 #[.agg #[vI vU (wd X 0),vI vU (wd X 1),vI vU (wd X 2),vI vU (wd X 3),vI vU (wd Y 0),vI vU (wd Y 1),vI vU (wd Y 2),vI vU (wd Y 3),.bool (f)]] w fun e w' => e = .returned (.bool (onB X Y f)) ∧ Below w.heap.size w w'
 addNo : ∀ X Y f X' Y' f',X < top → Y < top → X' < top → Y' < top → (onB X Y f = false ∨ onB X' Y' f' = false) → ∀ w,I w → Calls Tryz.prog 153 #[.agg #[vI vU (wd X 0),vI vU (wd X 1),vI vU (wd X 2),vI vU (wd X 3),vI vU (wd Y 0),vI vU (wd Y 1),vI vU (wd Y 2),vI vU (wd Y 3),.bool (f)],.agg #[vI vU (wd (X') 0),vI vU (wd (X') 1),vI vU (wd (X') 2),vI vU (wd (X') 3),vI vU (wd (Y') 0),vI vU (wd (Y') 1),vI vU (wd (Y') 2),vI vU (wd (Y') 3),.bool (f')]] w fun e w' => e = .returned (.tuple #[.agg #[vI vU 0,vI vU 0,vI vU 0,vI vU 0,vI vU 0,vI vU 0,vI vU 0,vI vU 0,.bool false],.iface 38 (.int .i64 1)]) ∧ Below w.heap.size w w'
 add : ∀ q r : Pt.Q,∀ w,I w → Calls Tryz.prog 153 #[.agg #[vI vU (wd (Pt.pX q.1) 0),vI vU (wd (Pt.pX q.1) 1),vI vU (wd (Pt.pX q.1) 2),vI vU (wd (Pt.pX q.1) 3),vI vU (wd (Pt.pY q.1) 0),vI vU (wd (Pt.pY q.1) 1),vI vU (wd (Pt.pY q.1) 2),vI vU (wd (Pt.pY q.1) 3),.bool (Pt.pFar q.1)],.agg #[vI vU (wd (Pt.pX r.1) 0),vI vU (wd (Pt.pX r.1) 1),vI vU (wd (Pt.pX r.1) 2),vI vU (wd (Pt.pX r.1) 3),vI vU (wd (Pt.pY r.1) 0),vI vU (wd (Pt.pY r.1) 1),vI vU (wd (Pt.pY r.1) 2),vI vU (wd (Pt.pY r.1) 3),.bool (Pt.pFar r.1)]] w fun e w' => e = .returned (.tuple #[.agg #[vI vU (wd (Pt.pX (Pt.grp.op q r).1) 0),vI vU (wd (Pt.pX (Pt.grp.op q r).1) 1),vI vU (wd (Pt.pX (Pt.grp.op q r).1) 2),vI vU (wd (Pt.pX (Pt.grp.op q r).1) 3),vI vU (wd (Pt.pY (Pt.grp.op q r).1) 0),vI vU (wd (Pt.pY (Pt.grp.op q r).1) 1),vI vU (wd (Pt.pY (Pt.grp.op q r).1) 2),vI vU (wd (Pt.pY (Pt.grp.op q r).1) 3),.bool (Pt.pFar (Pt.grp.op q r).1)],.nilIface]) ∧ Below w.heap.size w w'
 mulNo : ∀ K X Y f,K < top → X < top → Y < top → onB X Y f = false → ∀ w,I w → Calls Tryz.prog 151 #[.agg #[vI vU (wd K 0),vI vU (wd K 1),vI vU (wd K 2),vI vU (wd K 3)],.agg #[vI vU (wd X 0),vI vU (wd X 1),vI vU (wd X 2),vI vU (wd X 3),vI vU (wd Y 0),vI vU (wd Y 1),vI vU (wd Y 2),vI vU (wd Y 3),.bool (f)]] w fun e w' => e = .returned (.tuple #[.agg #[vI vU 0,vI vU 0,vI vU 0,vI vU 0,vI vU 0,vI vU 0,vI vU 0,vI vU 0,.bool false],.iface 38 (.int .i64 1)]) ∧ Below w.heap.size w w'
 mul : ∀ K,K < top → ∀ q : Pt.Q,∀ w,I w → Calls Tryz.prog 151 #[.agg #[vI vU (wd K 0),vI vU (wd K 1),vI vU (wd K 2),vI vU (wd K 3)],.agg #[vI vU (wd (Pt.pX q.1) 0),vI vU (wd (Pt.pX q.1) 1),vI vU (wd (Pt.pX q.1) 2),vI vU (wd (Pt.pX q.1) 3),vI vU (wd (Pt.pY q.1) 0),vI vU (wd (Pt.pY q.1) 1),vI vU (wd (Pt.pY q.1) 2),vI vU (wd (Pt.pY q.1) 3),.bool (Pt.pFar q.1)]] w fun e w' => e = .returned (.tuple #[.agg #[vI vU (wd (Pt.pX (Pt.grp.mul K q).1) 0),vI vU (wd (Pt.pX (Pt.grp.mul K q).1) 1),vI vU (wd (Pt.pX (Pt.grp.mul K q).1) 2),vI vU (wd (Pt.pX (Pt.grp.mul K q).1) 3),vI vU (wd (Pt.pY (Pt.grp.mul K q).1) 0),vI vU (wd (Pt.pY (Pt.grp.mul K q).1) 1),vI vU (wd (Pt.pY (Pt.grp.mul K q).1) 2),vI vU (wd (Pt.pY (Pt.grp.mul K q).1) 3),.bool (Pt.pFar (Pt.grp.mul K q).1)],.nilIface]) ∧ Below w.heap.size w w'
 base : ∀ w,I w → Calls Tryz.prog 152 #[] w fun e w' => e = .returned (.agg #[vI vU (wd (Pt.gx) 0),vI vU (wd (Pt.gx) 1),vI vU (wd (Pt.gx) 2),vI vU (wd (Pt.gx) 3),vI vU (wd (Pt.gy) 0),vI vU (wd (Pt.gy) 1),vI vU (wd (Pt.gy) 2),vI vU (wd (Pt.gy) 3),.bool (false)]) ∧ Below w.heap.size w w'
 pp : ∀ w,I w → Calls Tryz.prog 174 #[] w fun e w' => e = .returned (.agg #[vI vU (wd (Pt.pp) 0),vI vU (wd (Pt.pp) 1),vI vU (wd (Pt.pp) 2),vI vU (wd (Pt.pp) 3)]) ∧ Below w.heap.size w w'
 nn : ∀ w,I w → Calls Tryz.prog 144 #[] w fun e w' => e = .returned (.agg #[vI vU (wd (Pt.nn) 0),vI vU (wd (Pt.nn) 1),vI vU (wd (Pt.nn) 2),vI vU (wd (Pt.nn) 3)]) ∧ Below w.heap.size w w'
theorem Code.drew {I : World → Prop} (C : Code I) {w : World} (h : I w) : I w.drew:=C.keep _ _ h (Below.refl _ _).drew
theorem Code.alloc {I : World → Prop} (C : Code I) {w : World} (h : I w) (o : Obj) : I (w.alloc o):=C.keep _ _ h ((Below.refl _ _).alloc (Nat.le_refl _) _)
theorem on_base : onB Pt.gx Pt.gy false = true:=by decide +kernel
theorem vs_row {w : World} {g t : Nat} {C : Array Value} {fr : Nat × Nat} {l : List (List Nat)} {c : Nat} (hg : w.heap[g]? = some (.cells C t fr)) (hc : l.length ≤ c)
  (h : ∀ i,i < l.length → ∃ A c',C[i]? = some (.slice A (l.getD i []).length c') ∧ (l.getD i []).length ≤ c' ∧ Bs w A (l.getD i [])) : Vs w (.slice (some ⟨g,0,none⟩) l.length c) l:=by
 refine ⟨fun x hx => ?_,_,c,rfl,hc,.inr ⟨g,0,rfl,(Array.getElem?_eq_some_iff.1 hg).1,fun i hi => ?_⟩⟩
 ·
  obtain ⟨i,hi,e⟩:=List.mem_iff_getElem.1 hx
  obtain ⟨A,c',_,_,hB⟩:=h i hi
  have : l.getD i [] = x:=by simp [List.getD_eq_getElem?_getD,hi,e]
  rw [← this]
  exact hB.1
 ·
  obtain ⟨A,c',h1,h2,h3⟩:=h i hi
  exact ⟨A,c',by rw [Nat.zero_add,cell_of_row w g i C t fr hg]; exact h1,h2,h3⟩
theorem vs_five {w : World} {g t : Nat} {A0 A1 A2 A3 A4 : Option Addr} {c0 c1 c2 c3 c4 : Nat} {x0 x1 x2 x3 x4 : List Nat} {fr : Nat × Nat}
  (l0 : x0.length = 8) (l1 : x1.length = 8) (l2 : x2.length = 8) (l3 : x3.length = 8) (l4 : x4.length = 8)
  (hg : w.heap[g]? = some (.cells #[.slice A0 8 c0,.slice A1 8 c1,.slice A2 8 c2,.slice A3 8 c3,.slice A4 8 c4] t fr))
  (h0 : 8 ≤ c0 ∧ Bs w A0 x0) (h1 : 8 ≤ c1 ∧ Bs w A1 x1) (h2 : 8 ≤ c2 ∧ Bs w A2 x2) (h3 : 8 ≤ c3 ∧ Bs w A3 x3) (h4 : 8 ≤ c4 ∧ Bs w A4 x4) : Vs w (.slice (some ⟨g,0,none⟩) 5 5) [x0,x1,x2,x3,x4] :=
 vs_row (l:=[x0,x1,x2,x3,x4]) hg (Nat.le_refl _) fun i hi => by
  match i,hi with
  | 0,_ => exact ⟨A0,c0,by show some (Value.slice A0 8 c0) = some (.slice A0 x0.length c0); rw [l0],by show x0.length ≤ _; rw [l0]; exact h0.1,h0.2⟩
  | 1,_ => exact ⟨A1,c1,by show some (Value.slice A1 8 c1) = some (.slice A1 x1.length c1); rw [l1],by show x1.length ≤ _; rw [l1]; exact h1.1,h1.2⟩
  | 2,_ => exact ⟨A2,c2,by show some (Value.slice A2 8 c2) = some (.slice A2 x2.length c2); rw [l2],by show x2.length ≤ _; rw [l2]; exact h2.1,h2.2⟩
  | 3,_ => exact ⟨A3,c3,by show some (Value.slice A3 8 c3) = some (.slice A3 x3.length c3); rw [l3],by show x3.length ≤ _; rw [l3]; exact h3.1,h3.2⟩
  | 4,_ => exact ⟨A4,c4,by show some (Value.slice A4 8 c4) = some (.slice A4 x4.length c4); rw [l4],by show x4.length ≤ _; rw [l4]; exact h4.1,h4.2⟩
theorem cells_tk9 {w : World} {g : Nat} {t : Tk} {fr : Nat × Nat} (h : w.heap[g]? = some (.cells (tkC t) 24 fr)) :
  w.cell? ⟨g,0,none⟩ = some (.int .i64 t.s) ∧ w.cell? ⟨g,1,none⟩ = some (.int .i64 t.p) ∧ w.cell? ⟨g,2,none⟩ = some (.int .i64 t.z) ∧ w.cell? ⟨g,3,none⟩ = some (.int .i64 t.f) ∧ w.cell? ⟨g,4,none⟩ = some (.int .i64 t.k) :=
 ⟨by rw [cell_of_row w g _ _ _ _ h]; rfl,by rw [cell_of_row w g _ _ _ _ h]; rfl,by rw [cell_of_row w g _ _ _ _ h]; rfl,by rw [cell_of_row w g _ _ _ _ h]; rfl,by rw [cell_of_row w g _ _ _ _ h]; rfl⟩
def NumV (n : Int) (v : Value) (W : World) : Prop:=∃ A c,v = .slice A 8 c ∧ 8 ≤ c ∧ Bs W A (numB n)
theorem numV (n : Int) (h : 0 ≤ n ∧ n ≤ 9223372036854775807) (W : World) : Calls Tryz.prog 94 #[.int .i64 n] W fun e w' => ∃ v,e = .returned v ∧ Ext W w' ∧ NumV n v w' :=
 (num8_calls n W (by omega) h.2).mono fun _ _ ⟨A,c,he,hc,hB,hE⟩ => ⟨_,he,hE,A,c,rfl,hc,hB⟩
theorem body9_calls (t : Tk) (w : World) : Calls Tryz.prog 65 #[tkV t] w fun e w' => ∃ x ev,e = .returned (.tuple #[x,ev]) ∧ Ext w w' ∧ BodyA w' t x ev:=by
 obtain ⟨C,hC⟩ : ∃ C,C = tkC t:=⟨_,rfl⟩
 have KM:=veil (fun W => zgi t W)
 have HC:=veil (And.intro hC (And.intro (show (Tryz.prog.info? 24).map (·.size) = some C.size by rw [hC]; exact iTk t) (show C.all (·.oneCell') = true by rw [hC]; exact zav t)))
 unfold tkV at KM ⊢
 rw [← hC] at KM ⊢
 clear hC
 go_enter Tryz.func65,Tryz.ntmps65
 go_upto_region 1 with (fail)
 obtain ⟨g,hg⟩ : ∃ g,g = w.heap.size:=⟨_,rfl⟩
 have h0:=zab w (.cells C 24)
 have hE0:=Ext.alloc w (.cells C 24)
 generalize w.alloc (.cells C 24) = w0 at *
 rw [← hg] at h0 ⊢
 have H0:=veil (And.intro h0 hE0)
 clear h0 hE0 hg
 cases hm : mayT t with
 | false =>
  rw [hm] at KM
  have HM:=veil hm
  clear hm
  go_wp2_with (first
   | ((with_reducible refine zaa 4 ?_); refine wpList_load_row rfl 24 _ rfl g rfl 24 C (0,0) _ H0.out.1 Tryz.underlying24 rfl HC.out.2.1 ?_)
   | (go_at_call 24; refine (KM.out _).mono ?_; rintro e w1 ⟨rfl,hE1⟩))
  go_ret2
  exact ⟨_,_,rfl,H0.out.2.trans hE1,.inl ⟨HM.out,⟨none,0,rfl⟩,rfl⟩⟩
 | true =>
  rw [hm] at KM
  have HM:=veil hm
  clear hm
  go_upto_region 3 with (first
   | ((with_reducible refine zaa 4 ?_); refine wpList_load_row rfl 24 _ rfl g rfl 24 C (0,0) _ H0.out.1 Tryz.underlying24 rfl HC.out.2.1 ?_)
   | (go_at_call 24; refine (KM.out _).mono ?_; rintro e w1 ⟨rfl,hE1⟩))
  have h1:=hE1.block H0.out.1
  rw [HC.out.1] at h1
  obtain ⟨k0,k1,k2,k3,k4⟩:=cells_tk9 h1
  have HE1:=veil (H0.out.2.trans hE1)
  have hn:=mayT_each HM.out
  have HN:=veil (And.intro (hn t.s (by simp [Tk.list])) (And.intro (hn t.p (by simp [Tk.list])) (And.intro (hn t.z (by simp [Tk.list])) (And.intro (hn t.f (by simp [Tk.list])) (hn t.k (by simp [Tk.list]))))))
  have hlist : tagFs 1 [numB t.s,numB t.p,numB t.z,numB t.f,numB t.k] = numFs 1 t.list:=tagFs_num 1 t.list
  have HL:=veil hlist
  have HS:=veil (show Tk.list t = [t.s,t.p,t.z,t.f,t.k] from rfl)
  clear hE1 h1 hn hlist KM
  generalize t.s = s at *
  generalize t.p = p at *
  generalize t.z = z at *
  generalize t.f = f at *
  generalize t.k = k at *
  refine zdc 21 [(true,[0,1,3,4,6,7,9,10,12,13]),(false,[2]),(false,[5]),(false,[8]),(false,[11]),(false,[14]),(false,[15]),(false,[16]),(true,[17,18,19,20])] (by kernel_rfl) (by kernel_rfl) fun Q' hQ' => ?_
  refine' zbj (A:=_) _ rfl (by kernel_rfl) ?_ ?_
  rotate_left
  ·
   intro D hD hN'
   have e0:=hD.cell k0
   have e1:=hD.cell k1
   have e2:=hD.cell k2
   have e3:=hD.cell k3
   have e4:=hD.cell k4
   simp only [pickI,consO,List.getElem?_cons_zero,List.getElem?_cons_succ]
   repeat (go_big_quiet_step (fail))
   exact zct
  refine zcb (R:=NumV s) _ rfl rfl rfl rfl rfl (zdn Tryz.func94 rfl rfl _) (fun W _ => numV s HN.out.1 W) ?_
  rintro _ W2 hE2 ⟨A0,c0,rfl,hc0,hB0⟩
  simp only [aP,lA,lZ,lS]
  refine zcb (R:=NumV p) _ rfl rfl rfl rfl rfl (zdn Tryz.func94 rfl rfl _) (fun W _ => numV p HN.out.2.1 W) ?_
  rintro _ W3 hE3 ⟨A1,c1,rfl,hc1,hB1⟩
  simp only [aP,lA,lZ,lS]
  refine zcb (R:=NumV z) _ rfl rfl rfl rfl rfl (zdn Tryz.func94 rfl rfl _) (fun W _ => numV z HN.out.2.2.1 W) ?_
  rintro _ W4 hE4 ⟨A2,c2,rfl,hc2,hB2⟩
  simp only [aP,lA,lZ,lS]
  refine zcb (R:=NumV f) _ rfl rfl rfl rfl rfl (zdn Tryz.func94 rfl rfl _) (fun W _ => numV f HN.out.2.2.2.1 W) ?_
  rintro _ W5 hE5 ⟨A3,c3,rfl,hc3,hB3⟩
  simp only [aP,lA,lZ,lS]
  refine zcb (R:=NumV k) _ rfl rfl rfl rfl rfl (zdn Tryz.func94 rfl rfl _) (fun W _ => numV k HN.out.2.2.2.2 W) ?_
  rintro _ W6 hE6 ⟨A4,c4,rfl,hc4,hB4⟩
  simp only [aP,lA,lZ,lS]
  refine sched_build (vs:=[(0,.slice A0 8 c0),(1,.slice A1 8 c1),(2,.slice A2 8 c2),(3,.slice A3 8 c3),(4,.slice A4 8 c4)]) (C:=#[.slice A0 8 c0,.slice A1 8 c1,.slice A2 8 c2,.slice A3 8 c3,.slice A4 8 c4]) (e:=30) _ rfl rfl rfl rfl rfl (fun W => by simp [Instr.buildSlice,go_sem]) ?_
  intro g7 W7 hg7 hgb7 hE7
  simp only [aP,lA,lZ,lS]
  have hV:=vs_five (zax s) (zax p) (zax z) (zax f) (zax k) hgb7 ⟨hc0,hB0.ext (hE3.trans (hE4.trans (hE5.trans (hE6.trans hE7))))⟩ ⟨hc1,hB1.ext (hE4.trans (hE5.trans (hE6.trans hE7)))⟩ ⟨hc2,hB2.ext (hE5.trans (hE6.trans hE7))⟩ ⟨hc3,hB3.ext (hE6.trans hE7)⟩ ⟨hc4,hB4.ext hE7⟩
  have HV:=veil (And.intro hV (hE2.trans (hE3.trans (hE4.trans (hE5.trans (hE6.trans hE7))))))
  refine zcb (R:=fun v W => ∃ x ev,v = .tuple #[x,ev] ∧ PutA W (numFs 1 t.list) x ev) _ rfl rfl rfl rfl rfl (zdn Tryz.func93 rfl rfl _) (fun W hW => (tput_calls _ [numB s,numB p,numB z,numB f,numB k] (show (5 : Nat) ≤ 64 by decide) W (HV.out.1.ext hW)).mono fun e W' ⟨x,ev,he,hE',hA⟩ => ⟨_,he,hE',x,ev,rfl,by rw [← HL.out]; exact hA⟩) ?_
  rintro _ W8 hE8 ⟨x,ev,rfl,hA⟩
  simp only [aP,lA,lZ,lS]
  refine' zbj (A:=_) _ rfl (by kernel_rfl) ?_ ?_
  rotate_left
  ·
   intro D hD hN'
   simp only [pickI,consO,List.getElem?_cons_zero,List.getElem?_cons_succ]
   repeat (go_big_quiet_step (fail))
   exact zct
  refine zcc hQ' fun W9 hE9 => ?_
  have hEnd:=HE1.out.trans ((HV.out.2.trans hE8).trans hE9)
  have hmay : mayFs (numFs 1 t.list) = true:=numFs_may (by decide : (5 : Nat) ≤ 64)
  rcases hA with ⟨h,_⟩ | ⟨_,rfl,A,c,rfl,hc,hB⟩
  ·
   rw [hmay] at h; cases h
  ·
   have hl : (encF (numFs 1 t.list)).length = 55:=tkB_length t
   rw [hl] at hc ⊢
   have hB9 : Bs W9 A (tkB t):=hB.ext hE9
   clear hB hmay hl hE2 hE3 hE4 hE5 hE6 hE7 hE8 hE9 hB0 hB1 hB2 hB3 hB4 hV hgb7 hg7
   go_wp2
   go_ret2
   exact ⟨_,_,rfl,hEnd,.inr ⟨HM.out,⟨A,c,rfl,hc,hB9⟩,rfl⟩⟩
theorem neNil2 (w : World) : (binOp .neq 32 (.iface 38 (.int .i64 2)) .nilIface).run Tryz.prog w = .ok (.bool true) w:=by kernel_rfl
theorem neNilN (w : World) : (binOp .neq 32 .nilIface .nilIface).run Tryz.prog w = .ok (.bool false) w:=by kernel_rfl
theorem get8_nil (w : World) : Calls Tryz.prog 90 #[.slice none 0 0] w fun e w' => e = .returned (.tuple #[.slice none 0 0,.nilIface]) ∧ Ext w w':=by
 have KM : Hid (∀ W : World,Calls Tryz.prog 140 #[.slice none 0 0] W fun e w' => e = .returned (.bool true) ∧ Ext W w'):=veil (fun W => zdm _ [] W (Fl.nil W) (by decide))
 go_enter Tryz.func90,Tryz.ntmps90
 go_wp2
 go_loopw [0,4] (fun s v wr => s = .slice none 0 0 ∧ v = .slice none 0 0 ∧ Ext w wr) (fun _ _ _ => 0)
 case atStart => exact ⟨rfl,rfl,Ext.refl _⟩
 case round =>
  obtain ⟨rfl,rfl,hE⟩:=hrel
  have HE:=veil hE
  clear hE
  go_wp2_with (go_at_call 140; refine (KM.out _).mono ?_; rintro e w1 ⟨rfl,hE1⟩)
  go_ret2
  exact ⟨rfl,HE.out.trans hE1⟩
theorem tget_nil (w : World) : Calls Tryz.prog 62 #[.slice none 0 0,.int .i64 2] w fun e w' => e = .returned (.tuple #[.slice none 0 0,.iface 38 (.int .i64 2)]) ∧ Ext w w':=by
 have KG:=veil (fun W => get8_nil W)
 have k3:=neNilN
 go_enter Tryz.func62,Tryz.ntmps62
 go_wp2_with (go_at_call 90; refine (KG.out _).mono ?_; rintro e w1 ⟨rfl,hE1⟩)
 go_ret2
 exact ⟨rfl,hE1⟩
theorem open_nil_calls (w : World) : Calls Tryz.prog 32 #[.slice none 0 0] w fun e w' => e = .returned (.tuple #[.agg (tkC ⟨0,0,0,0,0⟩),.agg (gc 0 0),.iface 38 (.int .i64 2)]) ∧ Ext w w':=by
 have KG:=veil (fun W => tget_nil W)
 have k2:=neNil2
 go_enter Tryz.func32,Tryz.ntmps32
 go_upto_region 1 with (fail)
 obtain ⟨g2,hg2⟩ : ∃ g,g = w.heap.size:=⟨_,rfl⟩
 obtain ⟨g3,hg3⟩ : ∃ g,g = w.heap.size + 1:=⟨_,rfl⟩
 obtain ⟨w0,hw0⟩ : ∃ W,W = (w.alloc (.cells TZ 24)).alloc (.cells Z8 69):=⟨_,rfl⟩
 have h2:=(zau w (.cells TZ 24) (.cells Z8 69)).1
 have h3:=(zau w (.cells TZ 24) (.cells Z8 69)).2
 have hE0:=zfj w (.cells TZ 24) (.cells Z8 69)
 rw [← hw0,← hg2] at h2
 rw [← hw0,← hg3] at h3
 rw [← hw0] at hE0
 have H0:=veil (And.intro hE0 (And.intro h2 (And.intro h3 (And.intro (show w.heap.size ≤ g2 by omega) (show g2 < g3 by omega)))))
 unfold TZ Z8 at hw0
 rw [← hw0,← hg3,← hg2]
 clear hw0 hg3 hg2 hE0 h2 h3
 go_upto_region 2 with (go_at_call 62; refine (KG.out _).mono ?_; rintro e w1 ⟨rfl,hE1⟩)
 have H1:=veil (And.intro (H0.out.1.trans hE1) (And.intro (hE1.block H0.out.2.1) (And.intro (hE1.block H0.out.2.2.1) H0.out.2.2.2)))
 clear hE1 H0 KG
 go_wp2_with (first
  | ((with_reducible refine zae ?_); refine wpList_store_row rfl 24 _ _ rfl g2 TZ rfl rfl 24 _ H1.out.2.1 iTZ rfl zbz ?_)
  | ((with_reducible refine zae ?_); refine wpList_store_row rfl 69 _ _ rfl g3 Z8 rfl rfl 69 _ (zdq TZ H1.out.2.2.1 H1.out.2.2.2.2) iZ8 rfl z8_one ?_))
 have hF:=zdf (T:=TZ) (G:=Z8) H1.out.1 H1.out.2.1 H1.out.2.2.1 ⟨H1.out.2.2.2.1,H1.out.2.2.2.2⟩
 refine bodyPost_ret (zbi rfl _ _ g2 g3 24 69 TZ Z8 (0,0) (0,0) _ _ rfl hF.2.1 Tryz.underlying24 rfl iTZ rfl hF.2.2 Tryz.underlying69 rfl iZ8) rfl ⟨by rw [z8_gc]; rfl,hF.1⟩
end Go.Proofs.YtbfkecfcolcclaaGreatDoor
