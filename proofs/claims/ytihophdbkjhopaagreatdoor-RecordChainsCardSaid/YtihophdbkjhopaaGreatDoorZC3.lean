/-
  Of Rcb T2 T3 T4 T5 T6 T8 TA K3 Eql C0 Of Cq Aut.
-/
import Derived.Laws.Concat
import Derived.Deep.MidRow
import Derived.Laws.OwnMore
import Derived.Maps.AppendAt
import Derived.ArgAppend
import Derived.Lib.SmallJoins
import Derived.Great.BuildSlice
import Derived.Laws.IdiomStrings
import Derived.Test.YtihophdbkjhopaaGreatDoorRows
import Derived.WalkKit
import Derived.ChangeKeysEq
import Derived.WalkSpells
import Derived.WalkLawsBesides
import Derived.Deep.LoopGhost
import Derived.Deep.RegionWith
import Derived.Deep.QuietTactic
import Derived.BigQuiet
import Derived.BigRegion
import Derived.Scope
import Derived.Test.YtihophdbkjhopaaGreatDoorZC2
import Derived.Test.YtihophdbkjhopaaGreatDoorZC1
set_option maxRecDepth 1000000
set_option maxHeartbeats 20000000
namespace Go.Proofs.YtihophdbkjhopaaGreatDoor
open Go.RowKit
open Go.Value renaming int → vI
open Go.IntKind renaming u64 → vU
open Go.Act renaming put → aP
open List renaming setIfInBounds_toArray → lA, set_cons_zero → lZ, set_cons_succ → lS
abbrev pb (r : Rc) (j : Nat) : Value:=.int .u8 (r.pv.getD j 0 : Nat)
def rcC (r : Rc) (v : Value) : Array Value:=#[.int .i64 r.dv,.int .i64 r.sq,.int .i64 r.mi,.int .i64 r.kd,.int .i64 r.st,.int .i64 r.zn,.int .i64 r.sr,.int .i64 r.vd,
 pb r 0,pb r 1,pb r 2,pb r 3,pb r 4,pb r 5,pb r 6,pb r 7,pb r 8,pb r 9,pb r 10,pb r 11,pb r 12,pb r 13,pb r 14,pb r 15,pb r 16,pb r 17,pb r 18,pb r 19,pb r 20,pb r 21,pb r 22,pb r 23,pb r 24,pb r 25,pb r 26,pb r 27,pb r 28,pb r 29,pb r 30,pb r 31,v]
theorem rcC_size (r : Rc) (v : Value) : (rcC r v).size = 41:=rfl
theorem zjg (r : Rc) {A : Option Addr} {n c : Nat} : (rcC r (.slice A n c)).all (·.oneCell') = true:=by simp [rcC,Value.oneCell']
theorem iRc (r : Rc) (v : Value) : (Tryz.prog.info? 26).map (·.size) = some (rcC r v).size:=by
 rw [rcC_size]
 kernel_rfl
theorem rcC_pv (r : Rc) (v : Value) {j : Nat} (hj : j < 32) : (rcC r v)[8 + j]? = some (pb r j):=by
 match j,hj with
 | 0,_ => rfl
 | 1,_ => rfl
 | 2,_ => rfl
 | 3,_ => rfl
 | 4,_ => rfl
 | 5,_ => rfl
 | 6,_ => rfl
 | 7,_ => rfl
 | 8,_ => rfl
 | 9,_ => rfl
 | 10,_ => rfl
 | 11,_ => rfl
 | 12,_ => rfl
 | 13,_ => rfl
 | 14,_ => rfl
 | 15,_ => rfl
 | 16,_ => rfl
 | 17,_ => rfl
 | 18,_ => rfl
 | 19,_ => rfl
 | 20,_ => rfl
 | 21,_ => rfl
 | 22,_ => rfl
 | 23,_ => rfl
 | 24,_ => rfl
 | 25,_ => rfl
 | 26,_ => rfl
 | 27,_ => rfl
 | 28,_ => rfl
 | 29,_ => rfl
 | 30,_ => rfl
 | 31,_ => rfl
 | j + 32,h => exact absurd h (by omega)
def Rv17 (w : World) (X : Array Value) (r : Rc) : Prop:=WfC r ∧ ∃ A c,X = rcC r (.slice A r.bs.length c) ∧ r.bs.length ≤ c ∧ Bs w A r.bs
section
variable {w w' : World} {X : Array Value} {r : Rc}
theorem Rv17.ext (h : Rv17 w X r) (k : Ext w w') : Rv17 w' X r:=by
 obtain ⟨h0,A,c,e,hc,hB⟩:=h
 exact ⟨h0,A,c,e,hc,hB.ext k⟩
theorem Rv17.size (h : Rv17 w X r) : X.size = 41:=by
 obtain ⟨_,A,c,e,_⟩:=h
 rw [e,rcC_size]
theorem Rv17.info (h : Rv17 w X r) : (Tryz.prog.info? 26).map (·.size) = some X.size:=by
 obtain ⟨_,A,c,e,_⟩:=h
 rw [e]
 exact iRc _ _
theorem Rv17.one (h : Rv17 w X r) : X.all (·.oneCell') = true:=by
 obtain ⟨_,A,c,e,_⟩:=h
 rw [e]
 exact zjg r
def RcAt (w : World) (g : Nat) (X : Array Value) : Prop:=w.heap[g]? = some (.cells X 26 (0,0))
theorem RcAt.ext {g : Nat} (h : RcAt w g X) (k : Ext w w') : RcAt w' g X:=k.block h
theorem RcAt.new (w : World) (X : Array Value) : RcAt (w.alloc (.cells X 26)) w.heap.size X:=zac w _
theorem RcAt.cell {g : Nat} (h : RcAt w g X) {j : Nat} {u : Value} (hX : X[j]? = some u) : w.cell? ⟨g,j,none⟩ = some u:=by
 rw [cell_of_row w g j _ _ _ h]
 exact hX
theorem RcAt.cells {g : Nat} {A : Option Addr} {n c : Nat} (h : RcAt w g (rcC r (.slice A n c))) :
  w.cell? ⟨g,0,none⟩ = some (.int .i64 r.dv) ∧ w.cell? ⟨g,1,none⟩ = some (.int .i64 r.sq) ∧ w.cell? ⟨g,2,none⟩ = some (.int .i64 r.mi) ∧ w.cell? ⟨g,3,none⟩ = some (.int .i64 r.kd) ∧ w.cell? ⟨g,4,none⟩ = some (.int .i64 r.st) ∧ w.cell? ⟨g,5,none⟩ = some (.int .i64 r.zn) ∧ w.cell? ⟨g,6,none⟩ = some (.int .i64 r.sr) ∧ w.cell? ⟨g,7,none⟩ = some (.int .i64 r.vd) ∧ w.cell? ⟨g,40,none⟩ = some (.slice A n c) :=
 ⟨h.cell rfl,h.cell rfl,h.cell rfl,h.cell rfl,h.cell rfl,h.cell rfl,h.cell rfl,h.cell rfl,h.cell rfl⟩
theorem RcAt.prev {g : Nat} {v : Value} (h : RcAt w g (rcC r v)) (hw : WfC r) : Bs w (some ⟨g,8,none⟩) r.pv :=
 ⟨hw.2.1,.inr ⟨g,8,rfl,(Array.getElem?_eq_some_iff.1 h).1,fun j hj => h.cell (rcC_pv r v (by rw [hw.1] at hj; exact hj))⟩⟩
end
theorem rgC_no {r : Rc} (h : ¬ (1 ≤ r.dv ∧ r.dv ≤ 2147483647 ∧ 0 ≤ r.sq ∧ r.sq ≤ 1073741824 ∧ 0 ≤ r.mi ∧ r.mi ≤ 1073741824 ∧ 0 ≤ r.st ∧ r.st ≤ 31 ∧ 0 ≤ r.zn ∧ r.zn ≤ 7 ∧ 0 ≤ r.sr ∧ r.sr ≤ 2147483647)) : mayC r = false:=by
 unfold mayC rgC
 rw [decide_eq_false h,Bool.false_and]
theorem rgC_yes {r : Rc} (h : 1 ≤ r.dv ∧ r.dv ≤ 2147483647 ∧ 0 ≤ r.sq ∧ r.sq ≤ 1073741824 ∧ 0 ≤ r.mi ∧ r.mi ≤ 1073741824 ∧ 0 ≤ r.st ∧ r.st ≤ 31 ∧ 0 ≤ r.zn ∧ r.zn ≤ 7 ∧ 0 ≤ r.sr ∧ r.sr ≤ 2147483647) : mayC r = kdC r:=by
 unfold mayC rgC
 rw [decide_eq_true h,Bool.true_and]
theorem kdC_1 {r : Rc} (h : r.kd = 1) : kdC r = decide (1 ≤ r.vd ∧ r.vd ≤ 7 ∧ r.bs.length ≤ 500):=by unfold kdC; rw [if_pos h]
theorem kdC_2 {r : Rc} (h : ¬ r.kd = 1) : kdC r = decide ((r.kd = 2 ∨ r.kd = 3) ∧ r.vd = 0 ∧ r.bs.length = 0):=by unfold kdC; rw [if_neg h]
theorem rmay17_calls (X : Array Value) (r : Rc) (w : World) (hF : Rv17 w X r) (hL : r.bs.length ≤ 1000000000) :
  Calls Tryz.prog 8 #[.agg X] w fun e w' => e = .returned (.bool (mayC r)) ∧ Ext w w':=by
 obtain ⟨R,hR⟩ : ∃ R,R = mayC r:=⟨_,rfl⟩
 rw [← hR]
 have hE:=Ext.alloc w (.cells X 26)
 have hA:=RcAt.new w X
 have hno:=rgC_no (r:=r)
 have hyes:=rgC_yes (r:=r)
 have hk1:=kdC_1 (r:=r)
 have hk2:=kdC_2 (r:=r)
 obtain ⟨_,A,c,hX,hc,_⟩:=hF
 rw [hX] at hA
 obtain ⟨c0,c1,c2,c3,c4,c5,c6,c7,c8⟩:=hA.cells
 rw [← hX] at hA c0 c1 c2 c3 c4 c5 c6 c7 c8
 have HN:=veil (And.intro hR (And.intro hno hyes))
 have HK:=veil (And.intro hk1 hk2)
 have HE:=veil hE
 clear hA hX hc hno hyes hk1 hk2 hE hR
 obtain ⟨dv,sq,mi,kd,st,zn,sr,vd,pv,bs⟩:=r
 simp only at c0 c1 c2 c3 c4 c5 c6 c7 c8 HN HK hL
 obtain ⟨n,hn⟩ : ∃ n,n = bs.length:=⟨_,rfl⟩
 rw [← hn] at c8 HK hL
 clear hn
 go_enter Tryz.func8,Tryz.ntmps8
 go_upto_region 1 with (fail)
 generalize w.alloc (.cells X 26) = w1 at *
 generalize w.heap.size = g at *
 by_cases g0 : dv < 1
 ·
  have f0 : decide (dv < 1) = true:=decide_eq_true g0
  obtain rfl : R = false:=HN.out.1.trans (HN.out.2.1 fun h => by omega)
  go_wp2
  go_ret
  exact ⟨rfl,HE.out⟩
 have f0 : decide (dv < 1) = false:=decide_eq_false g0
 by_cases g1 : 2147483647 < dv
 ·
  have f1 : decide (2147483647 < dv) = true:=decide_eq_true g1
  obtain rfl : R = false:=HN.out.1.trans (HN.out.2.1 fun h => by omega)
  go_wp2
  go_ret
  exact ⟨rfl,HE.out⟩
 have f1 : decide (2147483647 < dv) = false:=decide_eq_false g1
 by_cases g2 : sq < 0
 ·
  have f2 : decide (sq < 0) = true:=decide_eq_true g2
  obtain rfl : R = false:=HN.out.1.trans (HN.out.2.1 fun h => by omega)
  go_wp2
  go_ret
  exact ⟨rfl,HE.out⟩
 have f2 : decide (sq < 0) = false:=decide_eq_false g2
 by_cases g3 : 1073741824 < sq
 ·
  have f3 : decide (1073741824 < sq) = true:=decide_eq_true g3
  obtain rfl : R = false:=HN.out.1.trans (HN.out.2.1 fun h => by omega)
  go_wp2
  go_ret
  exact ⟨rfl,HE.out⟩
 have f3 : decide (1073741824 < sq) = false:=decide_eq_false g3
 by_cases g4 : mi < 0
 ·
  have f4 : decide (mi < 0) = true:=decide_eq_true g4
  obtain rfl : R = false:=HN.out.1.trans (HN.out.2.1 fun h => by omega)
  go_wp2
  go_ret
  exact ⟨rfl,HE.out⟩
 have f4 : decide (mi < 0) = false:=decide_eq_false g4
 by_cases g5 : 1073741824 < mi
 ·
  have f5 : decide (1073741824 < mi) = true:=decide_eq_true g5
  obtain rfl : R = false:=HN.out.1.trans (HN.out.2.1 fun h => by omega)
  go_wp2
  go_ret
  exact ⟨rfl,HE.out⟩
 have f5 : decide (1073741824 < mi) = false:=decide_eq_false g5
 by_cases g6 : st < 0
 ·
  have f6 : decide (st < 0) = true:=decide_eq_true g6
  obtain rfl : R = false:=HN.out.1.trans (HN.out.2.1 fun h => by omega)
  go_wp2
  go_ret
  exact ⟨rfl,HE.out⟩
 have f6 : decide (st < 0) = false:=decide_eq_false g6
 by_cases g7 : 31 < st
 ·
  have f7 : decide (31 < st) = true:=decide_eq_true g7
  obtain rfl : R = false:=HN.out.1.trans (HN.out.2.1 fun h => by omega)
  go_wp2
  go_ret
  exact ⟨rfl,HE.out⟩
 have f7 : decide (31 < st) = false:=decide_eq_false g7
 by_cases g8 : zn < 0
 ·
  have f8 : decide (zn < 0) = true:=decide_eq_true g8
  obtain rfl : R = false:=HN.out.1.trans (HN.out.2.1 fun h => by omega)
  go_wp2
  go_ret
  exact ⟨rfl,HE.out⟩
 have f8 : decide (zn < 0) = false:=decide_eq_false g8
 by_cases g9 : 7 < zn
 ·
  have f9 : decide (7 < zn) = true:=decide_eq_true g9
  obtain rfl : R = false:=HN.out.1.trans (HN.out.2.1 fun h => by omega)
  go_wp2
  go_ret
  exact ⟨rfl,HE.out⟩
 have f9 : decide (7 < zn) = false:=decide_eq_false g9
 by_cases g10 : sr < 0
 ·
  have f10 : decide (sr < 0) = true:=decide_eq_true g10
  obtain rfl : R = false:=HN.out.1.trans (HN.out.2.1 fun h => by omega)
  go_wp2
  go_ret
  exact ⟨rfl,HE.out⟩
 have f10 : decide (sr < 0) = false:=decide_eq_false g10
 by_cases g11 : 2147483647 < sr
 ·
  have f11 : decide (2147483647 < sr) = true:=decide_eq_true g11
  obtain rfl : R = false:=HN.out.1.trans (HN.out.2.1 fun h => by omega)
  go_wp2
  go_ret
  exact ⟨rfl,HE.out⟩
 have f11 : decide (2147483647 < sr) = false:=decide_eq_false g11
 have hm:=HN.out.1.trans (HN.out.2.2 ⟨by omega,by omega,by omega,by omega,by omega,by omega,by omega,by omega,by omega,by omega,by omega,by omega⟩)
 have HM:=veil hm
 clear hm HN
 by_cases k1 : kd = 1
 ·
  have e1 : (kd == 1) = true:=by simp [k1]
  by_cases v0 : 1 ≤ vd
  rotate_left
  ·
   have d0 : decide (1 ≤ vd) = false:=decide_eq_false v0
   obtain rfl : R = false:=HM.out.trans ((HK.out.1 k1).trans (decide_eq_false fun h => by omega))
   subst k1
   go_wp2
   go_ret
   exact ⟨rfl,HE.out⟩
  have d0 : decide (1 ≤ vd) = true:=decide_eq_true v0
  by_cases v1 : vd ≤ 7
  rotate_left
  ·
   have d1 : decide (vd ≤ 7) = false:=decide_eq_false v1
   obtain rfl : R = false:=HM.out.trans ((HK.out.1 k1).trans (decide_eq_false fun h => by omega))
   subst k1
   go_wp2
   go_ret
   exact ⟨rfl,HE.out⟩
  have d1 : decide (vd ≤ 7) = true:=decide_eq_true v1
  have d2 : decide ((n : Int) ≤ 500) = R:=by
   rw [HM.out,HK.out.1 k1]
   by_cases v2 : n ≤ 500
   ·
    rw [decide_eq_true (show (n : Int) ≤ 500 by omega),decide_eq_true ⟨v0,v1,v2⟩]
   ·
    rw [decide_eq_false (show ¬ (n : Int) ≤ 500 by omega),decide_eq_false fun h => v2 h.2.2]
  subst k1
  go_wp2
  go_ret
  exact ⟨rfl,HE.out⟩
 have e1 : (kd == 1) = false:=by simp [k1]
 have HS:=veil (HM.out.trans (HK.out.2 k1))
 clear HM HK
 by_cases k2 : kd = 2
 ·
  have e2 : (kd == 2) = true:=by simp [k2]
  by_cases v0 : vd = 0
  rotate_left
  ·
   have d0 : (vd == 0) = false:=by simp [v0]
   obtain rfl : R = false:=HS.out.trans (decide_eq_false fun h => v0 h.2.1)
   subst k2
   go_wp2
   go_ret
   exact ⟨rfl,HE.out⟩
  have d0 : (vd == 0) = true:=by simp [v0]
  have d2 : ((n : Int) == 0) = R:=by
   rw [HS.out]
   by_cases v2 : n = 0
   ·
    rw [show ((n : Int) == 0) = true by simp [v2],decide_eq_true ⟨.inl k2,v0,v2⟩]
   ·
    rw [show ((n : Int) == 0) = false by simp [v2],decide_eq_false fun h => v2 h.2.2]
  subst k2 v0
  go_wp2
  go_ret
  exact ⟨rfl,HE.out⟩
 have e2 : (kd == 2) = false:=by simp [k2]
 by_cases k3 : kd = 3
 ·
  have e3 : (kd == 3) = true:=by simp [k3]
  by_cases v0 : vd = 0
  rotate_left
  ·
   have d0 : (vd == 0) = false:=by simp [v0]
   obtain rfl : R = false:=HS.out.trans (decide_eq_false fun h => v0 h.2.1)
   subst k3
   go_wp2
   go_ret
   exact ⟨rfl,HE.out⟩
  have d0 : (vd == 0) = true:=by simp [v0]
  have d2 : ((n : Int) == 0) = R:=by
   rw [HS.out]
   by_cases v2 : n = 0
   ·
    rw [show ((n : Int) == 0) = true by simp [v2],decide_eq_true ⟨.inr k3,v0,v2⟩]
   ·
    rw [show ((n : Int) == 0) = false by simp [v2],decide_eq_false fun h => v2 h.2.2]
  subst k3 v0
  go_wp2
  go_ret
  exact ⟨rfl,HE.out⟩
 have e3 : (kd == 3) = false:=by simp [k3]
 obtain rfl : R = false:=HS.out.trans (decide_eq_false fun h => h.1.elim k2 k3)
 go_wp2
 go_ret
 exact ⟨rfl,HE.out⟩
theorem mayFs_false {fs : List Fd} {i : Nat} (hi : i < fs.length) (h : ¬ okF fs i) : mayFs fs = false:=decide_eq_false fun hh => h (hh.2 i hi)
theorem mayFs_len {fs : List Fd} (h : ∀ i,i < fs.length → okF fs i) : mayFs fs = decide (fs.length ≤ 64):=by
 unfold mayFs
 by_cases hc : fs.length ≤ 64
 ·
  rw [decide_eq_true hc,decide_eq_true ⟨hc,h⟩]
 ·
  rw [decide_eq_false hc,decide_eq_false fun hh => hc hh.1]
theorem rmay8_calls (v : Value) (fs : List Fd) (w : World) (hF : Fl w v fs) (hL : fs.length ≤ 1000000000) :
  Calls Tryz.prog 76 #[v] w fun e w' => e = .returned (.bool (mayFs fs)) ∧ Ext w w':=by
 obtain ⟨hB,AL,c,rfl,hc,hx⟩:=hF
 obtain ⟨R,hR⟩ : ∃ R,R = mayFs fs:=⟨_,rfl⟩
 rw [← hR]
 obtain ⟨n,hn⟩ : ∃ n,n = fs.length:=⟨_,rfl⟩
 rw [← hn] at hx hc ⊢
 have HR:=veil (And.intro hR (And.intro hn hL))
 have HX:=veil hx
 have hnL : n ≤ 1000000000:=by omega
 clear hR hx hB hn hL
 go_enter Tryz.func76,Tryz.ntmps76
 go_wp2
 go_loopw [3] (fun v wr => ∃ i : Nat,i ≤ n ∧ v = .int .i64 (i : Int) ∧ (∀ j,j < i → okF fs j) ∧ Ext w wr)
  (fun v _ => n - (intOf v).toNat)
 case atStart => exact ⟨0,by omega,rfl,fun j hj => by omega,Ext.refl _⟩
 case round =>
  obtain ⟨i,hi,rfl,hall,hE⟩:=hrel
  by_cases hlt : i < n
  ·
   have hd1 : decide ((i : Int) < (n : Int)) = true:=by simp; omega
   have hii : (i : Int) < (n : Int):=by omega
   obtain ⟨b,o,hAL,hb,hcl⟩:=HX.out.resolve_left (by omega)
   obtain ⟨h1,A,c',h2,_,_⟩:=hcl i hlt
   have c0:=(hE.cell hb).trans h1
   have c1:=(hE.cell hb).trans h2
   obtain ⟨T,hT⟩ : ∃ T,T = tgF fs i:=⟨_,rfl⟩
   obtain ⟨L,hL⟩ : ∃ L,L = (bsF fs i).length:=⟨_,rfl⟩
   rw [← hT] at c0
   rw [← hL] at c1
   have HT:=veil (And.intro hT hL)
   have HALL:=veil hall
   have hfalse : ∀ h : ¬ okF fs i,R = false:=fun h => HR.out.1.trans (mayFs_false (by have:=HR.out.2.1; omega) h)
   have HF:=veil hfalse
   subst hAL
   clear h1 h2 hT hL hall hfalse
   by_cases g1 : T < 1
   ·
    have e : R = false:=HF.out fun h => by have:=h.1; rw [← HT.out.1] at this; omega
    subst e
    have hd : decide (T < 1) = true:=decide_eq_true g1
    clear hcl
    go_wp2_with fail
    go_quiet (fail)
    go_wp2
    go_ret
    exact ⟨rfl,hE.trans (Ext.drewK _ _)⟩
   ·
    have hd2 : decide (T < 1) = false:=decide_eq_false g1
    by_cases g2 : 255 < T
    ·
     have e : R = false:=HF.out fun h => by have:=h.2.1; rw [← HT.out.1] at this; omega
     subst e
     have hd : decide (255 < T) = true:=decide_eq_true g2
     clear hcl
     go_wp2_with fail
     go_quiet (fail)
     go_wp2
     go_ret
     exact ⟨rfl,hE.trans (Ext.drewK _ _)⟩
    ·
     have hd3 : decide (255 < T) = false:=decide_eq_false g2
     by_cases g3 : (65535 : Int) < (L : Int)
     ·
      have e : R = false:=HF.out fun h => by have:=h.2.2.1; rw [← HT.out.2] at this; omega
      subst e
      have hd : decide ((65535 : Int) < (L : Int)) = true:=decide_eq_true g3
      clear hcl
      go_wp2_with fail
      go_quiet (fail)
      go_wp2
      go_ret
      exact ⟨rfl,hE.trans (Ext.drewK _ _)⟩
     ·
      have hd4 : decide ((65535 : Int) < (L : Int)) = false:=decide_eq_false g3
      by_cases g4 : i = 0
      ·
       have hd5 : decide (0 < i) = false:=by simp; omega
       have G4:=veil g4
       clear hcl g4
       go_wp2_with fail
       go_quiet (fail)
       go_wp2
       go_roundw
       case rel =>
        refine ⟨i + 1,by omega,by go_num,fun j hj => ?_,hE.trans (Ext.drewK _ _)⟩
        obtain rfl : j = i:=by have:=G4.out; omega
        exact ⟨by rw [← HT.out.1]; omega,by rw [← HT.out.1]; omega,by rw [← HT.out.2]; omega,fun h => absurd h (by have:=G4.out; omega)⟩
       case measure => simp [intOf]; omega
      ·
       have hd5 : decide (0 < i) = true:=by simp; omega
       obtain ⟨k,hk⟩ : ∃ k,k = i - 1:=⟨_,rfl⟩
       have hki : (i : Int) - 1 = (k : Int):=by omega
       have hkn : (k : Int) < (n : Int):=by omega
       have d0:=(hE.cell hb).trans (hcl k (by omega)).1
       obtain ⟨P,hP⟩ : ∃ P,P = tgF fs k:=⟨_,rfl⟩
       rw [← hP] at d0
       have HP:=veil (And.intro hP hk)
       clear hcl hP hk
       by_cases g5 : T ≤ P
       ·
        have e : R = false:=HF.out fun h => by have:=h.2.2.2 (by omega); rw [← HT.out.1,← HP.out.2,← HP.out.1] at this; omega
        subst e
        have hd : decide (T ≤ P) = true:=decide_eq_true g5
        go_wp2_with fail
        go_quiet (fail)
        go_wp2
        go_ret
        exact ⟨rfl,hE.trans (Ext.drewK _ _)⟩
       ·
        have hd : decide (T ≤ P) = false:=decide_eq_false g5
        go_wp2_with fail
        go_quiet (fail)
        go_wp2
        go_roundw
        case rel =>
         refine ⟨i + 1,by omega,by go_num,fun j hj => ?_,hE.trans (Ext.drewK _ _)⟩
         by_cases e : j = i
         ·
          subst e
          refine ⟨by rw [← HT.out.1]; omega,by rw [← HT.out.1]; omega,by rw [← HT.out.2]; omega,fun _ => ?_⟩
          rw [← HT.out.1,← HP.out.2,← HP.out.1]
          omega
         ·
          exact HALL.out j (by omega)
        case measure => simp [intOf]; omega
  ·
   obtain rfl : i = n:=by omega
   have e : R = decide ((i : Int) ≤ 64):=by
    rw [HR.out.1,mayFs_len (by rw [← HR.out.2.1]; exact hall),← HR.out.2.1]
    by_cases h : i ≤ 64
    ·
     rw [decide_eq_true h,decide_eq_true (by omega)]
    ·
     rw [decide_eq_false h,decide_eq_false (by omega)]
   have HE:=veil e
   clear hall e
   go_wp2
   go_ret
   exact ⟨by rw [HE.out]; rfl,hE⟩
theorem mayFs_ok {fs : List Fd} (h : mayFs fs = true) {i : Nat} (hi : i < fs.length) : okF fs i:=(of_decide_eq_true h).2 i hi
theorem mayFs_64 {fs : List Fd} (h : mayFs fs = true) : fs.length ≤ 64:=(of_decide_eq_true h).1
theorem zge {fs : List Fd} (h : mayFs fs = true) (i : Nat) : (encF (fs.take i)).length ≤ 4194432:=by
 have h1:=zgv (fs.take i) 65535 fun f hf => (mayFs_each h f (List.mem_of_mem_take hf)).2.2
 have h2:=mayFs_64 h
 have h3 : (fs.take i).length ≤ 64:=by rw [List.length_take]; omega
 omega
theorem hdr3 {w : World} {g : Nat} {T : Int} {D0 : List Nat} {L : Nat} (h : w.heap[g]? = some (.cells #[.int .u8 T,.int .u8 ((L : Int) / 256),.int .u8 ((L : Int) % 256)] 5 (0,0))) (h1 : 1 ≤ T) (h2 : T ≤ 255) (h3 : L ≤ 65535) (hL : L = D0.length) : Bs w (some ⟨g,0,none⟩) (hdr (T,D0)):=by
 refine ⟨hdr_byt _,.inr ⟨g,0,rfl,(Array.getElem?_eq_some_iff.1 h).1,fun j hj => ?_⟩⟩
 rw [Nat.zero_add,cell_of_row w g j _ _ _ h]
 subst hL
 have e0 : (((T % 256).toNat : Nat) : Int) = T:=by omega
 have e1 : (((D0.length / 256 % 256 : Nat) : Nat) : Int) = (D0.length : Int) / 256:=by omega
 have e2 : (((D0.length % 256 : Nat) : Nat) : Int) = (D0.length : Int) % 256:=by omega
 match j,hj with
 | 0,_ => show some (Value.int .u8 T) = some (.int .u8 (((T % 256).toNat : Nat) : Int)); rw [e0]
 | 1,_ => show some (Value.int .u8 _) = some (.int .u8 ((D0.length / 256 % 256 : Nat) : Int)); rw [e1]
 | 2,_ => show some (Value.int .u8 _) = some (.int .u8 ((D0.length % 256 : Nat) : Int)); rw [e2]
def cellsFs : List Fd → List (Option Addr × Nat) → List Value
 | f :: fs,a :: al => [.int .i64 f.1,.slice a.1 f.2.length a.2] ++ cellsFs fs al
 | _,_ => []
theorem zev : ∀ {fs : List Fd} {al : List (Option Addr × Nat)} (f : Fd) (a : Option Addr × Nat),al.length = fs.length → cellsFs (fs ++ [f]) (al ++ [a]) = cellsFs fs al ++ [.int .i64 f.1,.slice a.1 f.2.length a.2]
 | [],[],_,_,_ => rfl
 | [],_ :: _,_,_,h => by simp at h
 | _ :: _,[],_,_,h => by simp at h
 | g :: fs,b :: al,f,a,h => by
  show [_,_] ++ cellsFs (fs ++ [f]) (al ++ [a]) = ([_,_] ++ cellsFs fs al) ++ _
  rw [zev f a (by simpa using h),List.append_assoc]
theorem zir : ∀ {fs : List Fd} {al : List (Option Addr × Nat)} {i : Nat},al.length = fs.length → i < fs.length →
  (cellsFs fs al)[i * 2]? = some (.int .i64 (tgF fs i)) ∧ (cellsFs fs al)[i * 2 + 1]? = some (.slice (al.getD i (none,0)).1 (bsF fs i).length (al.getD i (none,0)).2)
 | [],_,_,_,h => by simp at h
 | _ :: _,[],_,h,_ => by simp at h
 | f :: fs,a :: al,0,_,_ => ⟨rfl,rfl⟩
 | f :: fs,a :: al,i + 1,h,hi => by
  have ih:=zir (fs:=fs) (al:=al) (i:=i) (by simpa using h) (by simpa using hi)
  have e : (i + 1) * 2 = i * 2 + 1 + 1:=by omega
  rw [e]
  exact ih
def Off (A : Option Addr) (bs : List Nat) (row : Option Nat) : Prop:=bs.length = 0 ∨ ∀ b o,A = some ⟨b,o,none⟩ → row ≠ some b
def OwnFs (w : World) (base : Nat) (v : Value) (fs : List Fd) : Prop:=BytF fs ∧ ∃ al : List (Option Addr × Nat),al.length = fs.length ∧ w.ownsRow base 75 2 v fs.length (cellsFs fs al) ∧
 ∀ i,i < fs.length → (bsF fs i).length ≤ (al.getD i (none,0)).2 ∧ Bs w (al.getD i (none,0)).1 (bsF fs i) ∧ Off (al.getD i (none,0)).1 (bsF fs i) v.ownBlock
theorem Bs.but {w w' : World} {A : Option Addr} {bs : List Nat} {row : Option Nat} (h : Bs w A bs) (k : w.grownBy w' row) (hne : Off A bs row) : Bs w' A bs:=by
 rcases hne with h0 | hne
 ·
  exact ⟨h.1,.inl h0⟩
 ·
  exact ⟨h.1,h.2.imp id fun ⟨b,o,e,hb,hc⟩ => ⟨b,o,e,Nat.lt_of_lt_of_le hb k.size,fun j hj => (World.cell?_of_block (a:=⟨b,o + j,none⟩) (k.block b hb (fun e2 => hne b o e e2.symm))).trans (hc j hj)⟩⟩
theorem OwnFs.nil (w : World) (base : Nat) : OwnFs w base (.slice none 0 0) []:=⟨fun _ h => (by cases h),[],rfl,World.ownsRow_nil _ _ _ _,fun i hi => by simp at hi⟩
theorem OwnFs.keep {w w' : World} {base : Nat} {v : Value} {fs : List Fd} (o : OwnFs w base v fs) (h : Ext w w') : OwnFs w' base v fs:=by
 obtain ⟨hB,al,hl,hr,hx⟩:=o
 refine ⟨hB,al,hl,⟨hr.1,?_⟩,fun i hi => ⟨(hx i hi).1,(hx i hi).2.1.ext h,(hx i hi).2.2⟩⟩
 rcases hr.2 with hn | ⟨g,cap,cur,rfl,hbg,hh,rest⟩
 ·
  exact .inl hn
 ·
  exact .inr ⟨g,cap,cur,rfl,hbg,h.block hh,rest⟩
theorem OwnFs.lt {w : World} {base : Nat} {v : Value} {fs : List Fd} (o : OwnFs w base v fs) {k : Nat} (hk : v.ownBlock = some k) : base ≤ k ∧ k < w.heap.size:=by
 obtain ⟨_,al,_,hr,_⟩:=o
 exact World.ownsRow.lt hr k hk
theorem OwnFs.fl {w : World} {base : Nat} {v : Value} {fs : List Fd} (o : OwnFs w base v fs) : Fl w v fs:=by
 obtain ⟨hB,al,hl,hr,hx⟩:=o
 rcases hr.2 with ⟨rfl,h0⟩ | ⟨g,cap,cur,rfl,hbg,hh,hn,hm,hs,ht⟩
 ·
  exact ⟨hB,none,0,by rw [h0],by omega,.inl h0⟩
 ·
  refine ⟨hB,_,cap,rfl,hn,?_⟩
  by_cases h0 : fs.length = 0
  ·
   exact .inl h0
  ·
   refine .inr ⟨g,0,rfl,(Array.getElem?_eq_some_iff.1 hh).1,fun i hi => ?_⟩
   have hcell : ∀ k,k < fs.length * 2 → w.cell? ⟨g,k,none⟩ = (cellsFs fs al)[k]?:=fun k hk => by
    rw [cell_of_row w g k cur _ _ hh,← ht,List.getElem?_take_of_lt hk]
    simp
   obtain ⟨c0,c1⟩:=zir hl hi
   refine ⟨by rw [Nat.zero_add,hcell _ (by omega)]; exact c0,_,_,by rw [Nat.zero_add,hcell _ (by omega)]; exact c1,(hx i hi).1,(hx i hi).2.1⟩
theorem infoF16 : (Tryz.prog.info? 75).map (fun i => (i.zero,i.size,i.bytes)) = some (some (.agg #[.int .i64 0,.slice none 0 0]),2,32):=by kernel_rfl
theorem zgs {i : Option TypeInfo} {z : Value} {n b : Nat} (h : i.map (fun i => (i.zero,i.size,i.bytes)) = some (some z,n,b)) : ∃ j,i = some j ∧ j.zero = some z ∧ j.size = n ∧ j.bytes = b:=by
 cases i with
 | none => simp at h
 | some j =>
  simp only [Option.map_some,Option.some.injEq,Prod.mk.injEq] at h
  exact ⟨j,rfl,h.1,h.2.1,h.2.2⟩
theorem tgF_lt {fs : List Fd} {f : Fd} {i : Nat} (h : i < fs.length) : tgF (fs ++ [f]) i = tgF fs i ∧ bsF (fs ++ [f]) i = bsF fs i:=by
 unfold tgF bsF
 simp only [List.getD_eq_getElem?_getD,List.getElem?_append_left h,and_self]
theorem tgF_last (fs : List Fd) (f : Fd) : tgF (fs ++ [f]) fs.length = f.1 ∧ bsF (fs ++ [f]) fs.length = f.2:=by
 unfold tgF bsF
 simp
theorem run_append_fd {w : World} {base : Nat} {v : Value} {fs : List Fd} (ty : TypeId) (hown : OwnFs w base v fs) (g : Nat) (f : Fd) (a : Option Addr × Nat) (c1 : Nat)
  (hg : w.heap[g]? = some (.cells #[.int .i64 f.1,.slice a.1 f.2.length a.2] 75 (0,0))) (hc : f.2.length ≤ a.2) (hb : Bs w a.1 f.2) (hne : Off a.1 f.2 v.ownBlock)
  (hn : fs.length ≤ 1000000000) (hbase : base ≤ w.heap.size) :
  ∃ v' w',(Builtin.append_ #[73,73] ty #[v,.slice (some ⟨g,0,none⟩) 1 c1]).run Tryz.prog w = .ok v' w' ∧ OwnFs w' base v' (fs ++ [f]) ∧ w.grownBy w' v.ownBlock:=by
 obtain ⟨i,hi,hz,hsz,hby⟩:=zgs infoF16
 obtain ⟨hB,al,hl,hr,hx⟩:=hown
 obtain ⟨v',w',hrun,h2,h3,_,h5⟩:=run_append_own_at (P:=Tryz.prog) w base 73 ty 75 i _ 2 32 Tryz.underlying73 hi hz hsz hby rfl (by decide) v fs.length (cellsFs fs al) hr ⟨g,0,none⟩ 1 c1 [.int .i64 f.1,.slice a.1 f.2.length a.2] rfl
  (fun j u hu => by
   rw [Addr.add_mid,Nat.zero_add,cell_of_row w g j _ _ _ hg]
   simpa using hu)
  (fun u hu => by
   simp only [List.mem_cons,List.not_mem_nil,or_false] at hu
   rcases hu with rfl | rfl <;> rfl) (by unfold maxLen; omega) (by omega) hbase
 refine ⟨v',w',hrun,⟨?_,al ++ [a],by simp [hl],?_,fun k hk => ?_⟩,h3⟩
 ·
  intro x hx'
  rcases List.mem_append.1 hx' with h | h
  ·
   exact hB x h
  ·
   rw [List.mem_singleton.1 h]; exact hb.1
 ·
  rw [zev f a hl,List.length_append]
  exact h2
 ·
  have hout : ∀ (A : Option Addr) (bs : List Nat),Bs w A bs → Off A bs v.ownBlock → Off A bs v'.ownBlock:=by
   intro A bs hA hn1
   rcases hn1 with h0 | hn1
   ·
    exact .inl h0
   ·
    rcases hA.2 with h | ⟨b',o',e',hb',_⟩
    ·
     exact .inl h
    ·
     refine .inr fun b o e e2 => ?_
     rw [e] at e'
     injection e' with e'
     injection e' with e4
     rcases h5 with h5 | h5
     ·
      rw [h5] at e2; exact hn1 b o e e2
     ·
      rw [h5] at e2
      have e3 : w.heap.size = b:=by injection e2
      omega
  rw [List.length_append,List.length_singleton] at hk
  by_cases hlt : k < fs.length
  ·
   obtain ⟨e1,e2⟩:=tgF_lt (f:=f) hlt
   have e3 : (al ++ [a]).getD k (none,0) = al.getD k (none,0):=by
    simp only [List.getD_eq_getElem?_getD,List.getElem?_append_left (show k < al.length by omega)]
   obtain ⟨x1,x2,x3⟩:=hx k hlt
   rw [e2,e3]
   exact ⟨x1,x2.but h3 x3,hout _ _ x2 x3⟩
  ·
   obtain rfl : k = fs.length:=by omega
   obtain ⟨e1,e2⟩:=tgF_last fs f
   have e3 : (al ++ [a]).getD fs.length (none,0) = a:=by
    rw [← hl]
    simp
   rw [e2,e3]
   exact ⟨hc,hb.but h3 hne,hout _ _ hb hne⟩
theorem infoT1 : (Tryz.prog.info? 5).map (fun i => (i.zero,i.size,i.bytes)) = some (some (.int .u8 0),1,1):=by kernel_rfl
def Fresh (w : World) (A : Option Addr) (bs : List Nat) : Prop:=bs.length = 0 ∨ ∀ b o,A = some ⟨b,o,none⟩ → w.heap.size ≤ b
theorem Fresh.off {w : World} {A : Option Addr} {bs : List Nat} {row : Option Nat} (h : Fresh w A bs) (hr : ∀ k,row = some k → k < w.heap.size) : Off A bs row :=
 h.imp id fun h b o e e2 => by have:=h b o e; have:=hr b e2; omega
theorem zjx {w : World} (ty : TypeId) {g m c : Nat} {A : Option Addr} {bs : List Nat} (hg : w.heap[g]? = some (.cells #[] 5 (0,0))) (hb : Bs w A bs) (hm : m = bs.length) (hle : m ≤ 1000000000) :
  ∃ A' c' w',(Builtin.append_ #[24,24] ty #[.slice (some ⟨g,0,none⟩) 0 0,.slice A m c]).run Tryz.prog w = .ok (.slice A' m c') w' ∧ Ext w w' ∧ m ≤ c' ∧ Bs w' A' bs ∧ Fresh w A' bs:=by
 subst hm
 obtain ⟨i,hi,hz,hsz,hby⟩:=info_parts infoT1
 have hgl : g < w.heap.size:=(Array.getElem?_eq_some_iff.1 hg).1
 have o0 : Own w g 5 (.slice (some ⟨g,0,none⟩) 0 0) 0 (fun j => .int .u8 (bs.getD j 0 : Nat)) :=
  ⟨by simp,.inr ⟨g,0,#[],rfl,Nat.le_refl _,hg,Nat.le_refl _,by unfold maxLen; omega,by simp,by simp⟩⟩
 obtain ⟨v',w',hr,h2,h3,h5,_⟩:=zif (P:=Tryz.prog) w g 24 ty 5 i _ 1 Tryz.underlying24 hi hz hsz hby rfl _ 0 _ o0 A bs.length c (fun j => .int .u8 (bs.getD j 0 : Nat)) hb.from (fun _ => rfl) (by unfold maxLen; omega) (by omega) (by omega)
 rw [Nat.zero_add] at h2
 have hO : OwnB w' g v' bs:=OwnB.of h2 hb.1 rfl fun j hj => by rw [if_neg (by omega),Nat.sub_zero]
 obtain ⟨A',c',rfl,hc',hB'⟩:=hO.bs
 by_cases h0 : bs.length = 0
 ·
  rcases A with _ | ad
  ·
   have hw : w' = w:=by
    have : (Builtin.append_ #[24,24] ty #[.slice (some ⟨g,0,none⟩) 0 0,.slice none bs.length c]).run Tryz.prog w = .ok (.slice (some ⟨g,0,none⟩) 0 0) w:=by
     rw [h0]
     simp [Builtin.append_,run_underlying Tryz.underlying24,sizeOf,typeInfo,hi,Builtin.lenOf,Builtin.firstCells,storeCells]
    rw [hr] at this
    injection this
   subst hw
   exact ⟨A',c',w',hr,Ext.refl _,hc',hB',.inl h0⟩
  ·
   have hr2:=run_append_room_cells (P:=Tryz.prog) (w:=w) 24 ty 5 i Tryz.underlying24 hi g 0 0 0 ad bs.length c [] (by rw [h0]; simp) (fun j u hu => by simp at hu) (fun u hu => by simp at hu) (by omega) (fun j hj => by simp at hj) (fun j hj => by simp at hj)
   rw [hr] at hr2
   injection hr2 with _ hw
   have hw' : w' = w:=hw
   subst hw'
   exact ⟨A',c',w',hr,Ext.refl _,hc',hB',.inl h0⟩
 ·
  rcases hb.2 with h | ⟨b,o,rfl,hbl,hcl⟩
  ·
   exact absurd h h0
  ·
   have hr2:=run_append_grow (P:=Tryz.prog) w 24 ty 5 i _ Tryz.underlying24 hi hz ⟨g,0,none⟩ 0 0 [] (by simp) (fun j u hu => by simp at hu) ⟨b,o,none⟩ bs.length c ((List.range bs.length).map fun j => .int .u8 (bs.getD j 0 : Nat)) (by simp [hsz]) (fun j u hu => by
    have hj : j < bs.length:=by have:=(List.getElem?_eq_some_iff.1 hu).1; simpa using this
    rw [Addr.add_mid,hcl j hj,← hu]; simp [hj]) (by omega) (by omega) (growslice_fits (by omega) (by rw [hby]; omega))
   rw [hr] at hr2
   injection hr2 with hv hw
   injection hv with hA _ _
   subst hA
   exact ⟨_,c',w',hr,by rw [hw]; exact (Ext.drew w).trans (Ext.alloc _ _),hc',hB',.inr fun b' o' e => by injection e with e; injection e with e; omega⟩
/-! ### in schedules -/
section
variable {Q : Exit → Act → World → Prop} {l : List Oper} {n k d : Nat} {r : Sched} {a : Act} {w : World}
theorem sched_val {v : Value} (o : Oper) (ho : l[k]? = some o) (hg : o.guard = none) (hd : o.dst = some d) (hm : ∀ W,Ext w W → (execOp a.eval o).run Tryz.prog W = .ok (.value v) W)
  (h : ∀ W,Ext w W → wpSched Tryz.prog l Q n r (a.put (some d) v) W) : wpSched Tryz.prog l Q n ((false,[k]) :: r) a w:=by
 refine zcy o ho hg fun W hW => ?_
 unfold Oper.wp
 rw [hm W hW,Oper.upon_value,hd]
 exact ⟨fun _ => Ext.refl W,h W hW⟩
theorem run_assign_v {o : Oper} {x : Operand} {v : Value} (ho : o.op = .assign x) (hx : a.eval x = v) (W : World) : (execOp a.eval o).run Tryz.prog W = .ok (.value v) W:=by
 unfold execOp
 simp only [ho,hx,Sem.run_pure]
theorem zde {x : Operand} (v : Value) (o : Oper) (ho : l[k]? = some o) (hg : o.guard = none) (hd : o.dst = some d) (hop : o.op = .assign x) (hx : a.eval x = v)
  (h : ∀ W,Ext w W → wpSched Tryz.prog l Q n r (a.put (some d) v) W) : wpSched Tryz.prog l Q n ((false,[k]) :: r) a w:=sched_val o ho hg hd (fun W _ => run_assign_v hop hx W) h
theorem zht {s x : Operand} {g m c : Nat} {A : Option Addr} {bs : List Nat} (o : Oper) (ho : l[k]? = some o) (hgd : o.guard = none) (hop : o.op = .call { callee:=.builtin .append,args:=#[s,x],argTypes:=#[24,24] }) (hd : o.dst = some d)
  (hs : a.eval s = .slice (some ⟨g,0,none⟩) 0 0) (hx : a.eval x = .slice A m c) (hg : w.heap[g]? = some (.cells #[] 5 (0,0))) (hb : Bs w A bs) (hm : m = bs.length) (hle : m ≤ 1000000000)
  (h : ∀ A' c' W,Ext w W → m ≤ c' → Bs W A' bs → Fresh w A' bs → wpSched Tryz.prog l Q n r (a.put (some d) (.slice A' m c')) W) : wpSched Tryz.prog l Q n ((false,[k]) :: r) a w:=by
 refine zcy o ho hgd fun W hW => ?_
 obtain ⟨A',c',w',hr,hE,hc,hB,hF⟩:=zjx (c:=c) o.type (hW.block hg) (hb.ext hW) hm hle
 unfold Oper.wp execOp
 simp only [hop,resolve,invoke,builtin,Sem.run_bind,Sem.run_pure,Result.andThen_ok,List.map_toArray,List.map_cons,List.map_nil,hs,hx,hr]
 show (k < n → Ext W w') ∧ _
 rw [hd]
 exact ⟨fun _ => hE,h A' c' w' (hW.trans hE) hc hB (hF.imp id fun h b o e => Nat.le_trans (Below.size hW) (h b o e))⟩
theorem zgg {s x : Operand} {base g c : Nat} {v : Value} {fs : List Fd} {f : Fd} {al : Option Addr × Nat} (o : Oper) (ho : l[k]? = some o) (hgd : o.guard = none) (hop : o.op = .call { callee:=.builtin .append,args:=#[s,x],argTypes:=#[73,73] }) (hd : o.dst = some d)
  (hs : a.eval s = v) (hx : a.eval x = .slice (some ⟨g,0,none⟩) 1 c) (hkn : ¬ k < n) (hown : OwnFs w base v fs) (hg : w.heap[g]? = some (.cells #[.int .i64 f.1,.slice al.1 f.2.length al.2] 75 (0,0)))
  (hc : f.2.length ≤ al.2) (hb : Bs w al.1 f.2) (hne : Off al.1 f.2 v.ownBlock) (hn : fs.length ≤ 1000000000) (hbase : base ≤ w.heap.size)
  (h : ∀ v' W W',Ext w W → OwnFs W' base v' (fs ++ [f]) → W.grownBy W' v.ownBlock → wpSched Tryz.prog l Q n r (a.put (some d) v') W') : wpSched Tryz.prog l Q n ((false,[k]) :: r) a w:=by
 refine zcy o ho hgd fun W hW => ?_
 obtain ⟨v',w',hr,hO,hG⟩:=run_append_fd (c1:=c) o.type (hown.keep hW) g f al (hW.block hg) hc (hb.ext hW) hne hn (Nat.le_trans hbase (Below.size hW))
 unfold Oper.wp execOp
 simp only [hop,resolve,invoke,builtin,Sem.run_bind,Sem.run_pure,Result.andThen_ok,List.map_toArray,List.map_cons,List.map_nil,hs,hx,hr]
 show (k < n → Ext W w') ∧ _
 rw [hd]
 exact ⟨fun h => absurd h hkn,h v' W w' hW hO hG⟩
end
theorem wpl_append0 {Q : Exit → Act → World → Prop} {ops : Array Oper} {rest : List Oper} {a : Act} {w : World} {s x : Operand} {g m c : Nat} {A : Option Addr} {bs : List Nat} {o : Oper} (hgd : o.guard = none) (hop : o.op = .call { callee:=.builtin .append,args:=#[s,x],argTypes:=#[24,24] })
  (hs : a.eval s = .slice (some ⟨g,0,none⟩) 0 0) (hx : a.eval x = .slice A m c) (hg : w.heap[g]? = some (.cells #[] 5 (0,0))) (hb : Bs w A bs) (hm : m = bs.length) (hle : m ≤ 1000000000)
  (h : ∀ A' c' W,Ext w W → m ≤ c' → Bs W A' bs → Fresh w A' bs → wpList Tryz.prog ops Q rest (a.put o.dst (.slice A' m c')) W) : wpList Tryz.prog ops Q (o :: rest) a w:=by
 refine wpList_plain hgd fun K hK => ?_
 obtain ⟨A',c',w',hr,hE,hc,hB,hF⟩:=zjx (c:=c) o.type hg hb hm hle
 unfold Oper.wp execOp
 simp only [hop,resolve,invoke,builtin,Sem.run_bind,Sem.run_pure,Result.andThen_ok,List.map_toArray,List.map_cons,List.map_nil,hs,hx,hr]
 exact hK _ _ (h A' c' w' hE hc hB hF)
theorem cut_mid (A : Option Addr) (r c p n : Nat) (hp : p + n ≤ c) (w : World) {x y : Int} (hx : x = (p : Int)) (hy : y = ((p + n : Nat) : Int)) : (Instr.sliceAt 24 (.slice A r c) (some (.int .i64 x)) (some (.int .i64 y)) none).run Tryz.prog w = .ok (.slice (cutA A p c) n (c - p)) w:=by
 subst hx hy
 have e2 : ((sizeOf (Tryz.prog.elem 24)).run Tryz.prog w) = .ok 1 w:=by kernel_rfl
 rw [run_sliceAt_slice w 24 _ _ _ _ (by kernel_rfl),run_slice_lh w 24 A r c (by kernel_rfl) .i64 .i64 (p : Int) ((p + n : Nat) : Int) (by omega) (by omega) (by omega),e2]
 simp [sliced,Result.andThen,cutA]
 omega
theorem zit {P : Program} {ops : Array Oper} {Q : Exit → Act → World → Prop} {rest : List Oper} {a : Act} {w : World} {o : Oper} (v : Value) (hg : o.guard = none) (hr : (execOp a.eval o).run P w = .ok (.value v) w) (h : wpList P ops Q rest (a.put o.dst v) w) : wpList P ops Q (o :: rest) a w:=by
 refine wpList_plain hg fun K hK => ?_
 unfold Oper.wp
 rw [hr,Oper.upon_value]
 exact hK _ _ h
theorem run_slice_hv {P : Program} {o : Oper} {a : Act} {t : TypeId} {x z : Operand} {v v' vz : Value} {W : World} (ho : o.op = .slice t x none (some z) none) (hx : a.eval x = v) (hz : a.eval z = vz)
  (h : (Instr.sliceAt t v none (some vz) none).run P W = .ok v' W) : (execOp a.eval o).run P W = .ok (.value v') W:=by
 unfold execOp
 simp only [ho,hx,hz,Option.map_some,Option.map_none,Sem.run_bind,h,Result.andThen_ok,Sem.run_pure]
theorem cutA_zero (A : Option Addr) (c : Nat) : cutA A 0 c = A:=by
 unfold cutA
 split
 ·
  rfl
 ·
  cases A with
  | none => rfl
  | some a => simp [Addr.add]
theorem cut_to_b (A : Option Addr) (r c m : Nat) (hm : m ≤ c) (w : World) {y : Int} (hy : y = (m : Int)) : (Instr.sliceAt 24 (.slice A r c) none (some (.int .i64 y)) none).run Tryz.prog w = .ok (.slice A m c) w:=by
 subst hy
 rw [cut_to A r c m hm w,cutA_zero]
theorem Fl.take {w : World} {A : Option Addr} {n c : Nat} {fs : List Fd} (h : Fl w (.slice A n c) fs) {m : Nat} (hm : m ≤ n) : Fl w (.slice A m c) (fs.take m):=by
 obtain ⟨hB,AL,c',he,hc,hx⟩:=h
 injection he with e1 e2 e3
 subst e1 e3
 have hl : (fs.take m).length = m:=by rw [List.length_take]; omega
 have hg : ∀ i,i < m → tgF (fs.take m) i = tgF fs i ∧ bsF (fs.take m) i = bsF fs i:=fun i hi => by
  unfold tgF bsF
  simp only [List.getD_eq_getElem?_getD,List.getElem?_take_of_lt hi,and_self]
 refine ⟨fun f hf => hB f (List.mem_of_mem_take hf),A,c,by rw [hl],by rw [hl]; omega,?_⟩
 rw [hl]
 by_cases h0 : m = 0
 ·
  exact .inl h0
 ·
  refine .inr ?_
  obtain ⟨b,o,e,hb,hcl⟩:=hx.resolve_left (by omega)
  refine ⟨b,o,e,hb,fun i hi => ?_⟩
  obtain ⟨g1,g2⟩:=hg i hi
  rw [g1,g2]
  exact hcl i (by omega)
theorem bs_take {w : World} {A : Option Addr} {bs : List Nat} (h : Bs w A bs) (m : Nat) : Bs w A (bs.take m):=by
 refine ⟨h.1.take m,?_⟩
 rcases h.2 with h | ⟨b,o,e,hb,hc⟩
 ·
  exact .inl (by rw [List.length_take]; omega)
 ·
  refine .inr ⟨b,o,e,hb,fun j hj => ?_⟩
  rw [List.length_take] at hj
  rw [hc j (by omega)]
  simp only [List.getD_eq_getElem?_getD,List.getElem?_take_of_lt (show j < m by omega)]
theorem zba {bs : List Nat} : getFs bs = match parse bs with | some fs => if mayFs fs = true then some fs else none | none => none:=by
 unfold getFs
 cases parse bs with
 | none => rfl
 | some fs => cases h : mayFs fs <;> simp [Option.filter,h]
theorem rget8_calls (A : Option Addr) (m c : Nat) (bs : List Nat) (hm : m = bs.length) (hmc : m ≤ c) (hle : m ≤ 100000000) (w : World) (hS : Bs w A bs) :
  Calls Tryz.prog 41 #[.slice A m c] w fun e w' => Ext w w' ∧ ((getFs bs = none ∧ e = .returned (.tuple #[.slice none 0 0,.bool false])) ∨ (∃ fs v,getFs bs = some fs ∧ Fl w' v fs ∧ e = .returned (.tuple #[v,.bool true]))):=by
 have HS:=veil hS
 have HM:=veil hm
 clear hS hm
 go_enter Tryz.func41,Tryz.ntmps41
 go_wp2
 go_loopw [4,5,6] (fun v u _ wr => ∃ (p : Nat) (fs : List Fd),p ≤ m ∧ u = .int .i64 (p : Int) ∧ OwnFs wr w.heap.size v fs ∧ fs.length ≤ p ∧ parse bs = (parse (bs.drop p)).map (fs ++ ·) ∧ Ext w wr)
  (fun _ v _ _ => m - (intOf v).toNat)
 case atStart => exact ⟨0,[],by omega,rfl,OwnFs.nil _ _,by simp,by simp,Ext.refl _⟩
 case round =>
  obtain ⟨p,fs,hp,rfl,hO,hfl,hpar,hE⟩:=hrel
  by_cases hlt : p < m
  ·
   have hd1 : decide ((p : Int) < (m : Int)) = true:=by simp; omega
   have hii : (p : Int) < (m : Int):=by omega
   by_cases h3 : m < p + 3
   ·
    have hd2 : decide ((m : Int) < (p : Int) + 3) = true:=by simp; omega
    have hn : getFs bs = none:=by
     rw [zba,hpar,parse_short (by have:=HM.out; omega) (by have:=HM.out; omega)]
     rfl
    clear hpar hO
    go_wp2
    go_ret2
    exact ⟨hE,.inl ⟨hn,rfl⟩⟩
   ·
    have hd2 : decide ((m : Int) < (p : Int) + 3) = false:=by simp; omega
    have hb:=HS.out.ext hE
    obtain ⟨b,o,hA,hbl,c1⟩:=hb.cell (j:=p + 1) (by have:=HM.out; omega)
    obtain ⟨b',o',hA',_,c2⟩:=hb.cell (j:=p + 2) (by have:=HM.out; omega)
    obtain ⟨b'',o'',hA'',_,c0⟩:=hb.cell (j:=p) (by have:=HM.out; omega)
    obtain ⟨e1,e2⟩ : b' = b ∧ o' = o:=by rw [hA] at hA'; injection hA' with h; injection h with h1 h2; exact ⟨h1.symm,h2.symm⟩
    obtain ⟨e3,e4⟩ : b'' = b ∧ o'' = o:=by rw [hA] at hA''; injection hA'' with h; injection h with h1 h2; exact ⟨h1.symm,h2.symm⟩
    subst e1 e2 e3 e4
    have l1:=HS.out.1.getD (p + 1)
    have l2:=HS.out.1.getD (p + 2)
    have l0:=HS.out.1.getD p
    obtain ⟨X,hX⟩ : ∃ X,X = bs.getD (p + 1) 0:=⟨_,rfl⟩
    obtain ⟨Y,hY⟩ : ∃ Y,Y = bs.getD (p + 2) 0:=⟨_,rfl⟩
    obtain ⟨T,hT⟩ : ∃ T,T = bs.getD p 0:=⟨_,rfl⟩
    rw [← hX] at c1 l1
    rw [← hY] at c2 l2
    rw [← hT] at c0 l0
    have HXY:=veil (And.intro hX (And.intro hY hT))
    have k1 : (X : Int) ≤ 255:=by omega
    have k2 : (Y : Int) ≤ 255:=by omega
    have k0 : (T : Int) ≤ 255:=by omega
    have i1 : (p : Int) + 1 < (m : Int):=by omega
    have i2 : (p : Int) + 2 < (m : Int):=by omega
    have HO:=veil (And.intro hO (And.intro hfl hpar))
    have HB:=veil hb
    clear hX hY hT l1 l2 l0 hA' hA'' hO hfl hpar hb
    subst hA
    go_wp2_with fail
    go_quiet (fail)
    obtain ⟨N,hN⟩ : ∃ N,N = 256 * X + Y:=⟨_,rfl⟩
    have hNi : (256 * (X : Int) + (Y : Int)) = (N : Int):=by omega
    have hN2 : N ≤ 65535:=by omega
    have HN:=veil hN
    rw [hNi]
    clear hN hNi c1 c2 k1 k2 i1 i2
    generalize hwr : wr.drewN nq = wr1 at *
    have hE1 : Ext wr wr1:=by rw [← hwr]; exact Ext.drewK _ _
    have hc0 : wr1.cell? ⟨b'',o'' + p,none⟩ = some (.int .u8 T):=(hE1.cell hbl).trans c0
    have hEE:=hE.trans hE1
    have HO1:=veil (And.intro (HO.out.1.keep hE1) (HB.out.ext hE1))
    clear hwr c0
    by_cases h4 : m < p + 3 + N
    ·
     have hd3 : decide ((m : Int) < (p : Int) + 3 + (N : Int)) = true:=by simp; omega
     have hn : getFs bs = none:=by
      rw [zba,HO.out.2.2,zie (n:=N) (by have:=HM.out; omega) (by rw [HN.out,HXY.out.1,HXY.out.2.1]) (by have:=HM.out; omega)]
      rfl
     go_wp2
     go_ret2
     exact ⟨hEE,.inl ⟨hn,rfl⟩⟩
    ·
     have hd3 : decide ((m : Int) < (p : Int) + 3 + (N : Int)) = false:=by simp; omega
     have hst:=zid (n:=N) (by have:=HM.out; omega) (by rw [HN.out,HXY.out.1,HXY.out.2.1]) (by have:=HM.out; omega : p + 3 + N ≤ bs.length)
     have HST:=veil hst
     clear hst
     go_upto_region 9 with (fail)
     refine zej 18 [(true,[0,1,2,3,4,5,7,8,9,10,11,12,13,14]),(false,[6]),(false,[15]),(true,[16]),(false,[17]),(false,[18]),(false,[19])] (by kernel_rfl) (by kernel_rfl) fun Q' hQ' => ?_
     refine' zby (A:=_) _ rfl (by kernel_rfl) ?h1 ?h2
     case h1 =>
      intro D hD hN
      have d0:=hD.cell hc0
      simp only [pickI,consO,List.getElem?_cons_zero,List.getElem?_cons_succ]
      iterate 13 (go_big_quiet_step (fail))
      go_big_quiet_want
      refine zdn (.slice (cutA (some ⟨b'',o'',none⟩) (p + 3) c) N (c - (p + 3))) (fun x => zex rfl rfl rfl rfl (cut_mid _ _ _ _ _ (by omega) _ (by omega) (by omega))) ?_
      simp only [aP,lA,lZ,lS]
      go_big_quiet_on
      exact zct
     refine zcz (vs:=[]) (C:=#[]) (e:=5) _ rfl rfl rfl rfl rfl (fun W => by simp [Instr.buildSlice,go_sem]) ?_
     intro g W hg hgb hEW
     simp only [aP,lA,lZ,lS]
     have hBc:=(HO1.out.2.cut (p + 3) (n:=N) (c:=c) (by have:=HM.out; omega) (by have:=HM.out; omega)).ext hEW
     have hl : N = ((bs.drop (p + 3)).take N).length:=by rw [List.length_take,List.length_drop]; have:=HM.out; omega
     refine zht _ rfl rfl rfl rfl rfl rfl hgb hBc hl (by omega) ?_
     intro A' c' W2 hE2 hc' hB' hF'
     simp only [aP,lA,lZ,lS]
     have HB2:=veil (And.intro hB' (And.intro hF' hl))
     have hEW2:=hEW.trans hE2
     have hsz:=Below.size hEW
     clear hB' hF' hl hBc hgb hg hE2 hEW
     refine' zby (A:=_) _ rfl (by kernel_rfl) ?k1 ?k2
     case k1 =>
      intro D hD hN
      simp only [pickI,consO,List.getElem?_cons_zero,List.getElem?_cons_succ]
      repeat (go_big_quiet_step (fail))
      exact zct
     refine zcz (vs:=[(0,.agg #[.int .i64 (T : Int),.slice A' N c'])]) (C:=#[.int .i64 (T : Int),.slice A' N c']) (e:=75) _ rfl rfl rfl rfl rfl (fun W => by simp [Instr.buildSlice,go_sem]) ?_
     intro g2 W3 hg2 hgb2 hE3
     simp only [aP,lA,lZ,lS]
     have hEW3:=hEW2.trans hE3
     have hown3:=HO1.out.1.keep hEW3
     have hoff : Off A' ((bs.drop (p + 3)).take N) (Value.ownBlock u4):=HB2.out.2.1.off fun k hk => Nat.lt_of_lt_of_le (HO1.out.1.lt hk).2 hsz
     have hBn:=HB2.out.1.ext hE3
     have hbase:=Nat.le_trans (Below.size hEE) (Below.size hEW3)
     have hNl:=HB2.out.2.2
     have hfl : fs.length ≤ 1000000000:=by have:=HO.out.2.1; omega
     rw [hNl] at hgb2 hc'
     refine zgg (f:=((T : Int),(bs.drop (p + 3)).take N)) (al:=(A',c')) _ rfl rfl rfl rfl rfl rfl (by decide) hown3 hgb2 hc' hBn hoff hfl hbase ?_
     intro v' W4 W5 hE4 hO5 hG5
     simp only [aP,lA,lZ,lS]
     have hE5 : Ext w W5:=(hEE.trans (hEW3.trans hE4)).grown hG5 (Below.size (hEE.trans (hEW3.trans hE4))) fun k hk => (HO1.out.1.lt hk).1
     have HO5:=veil (And.intro hO5 hE5)
     clear hown3 hoff hBn hbase hNl hgb2 hc' hO5 hE5 hG5
     refine zde v' _ rfl rfl rfl rfl rfl ?_
     intro W6 hE6
     simp only [aP,lA,lZ,lS]
     refine zdm hQ' fun W7 hE7 => ?_
     go_wp2
     go_roundw
     case rel =>
      refine ⟨p + 3 + N,_,by omega,by go_num,(HO5.out.1.keep hE6).keep hE7,?_,?_,HO5.out.2.trans (hE6.trans hE7)⟩
      ·
       rw [List.length_append,List.length_singleton]; have:=HO.out.2.1; omega
      ·
       rw [HO.out.2.2,HST.out,← HXY.out.2.2]
       cases parse (bs.drop (p + 3 + N)) with
       | none => rfl
       | some x => simp
     case measure => simp [intOf]; omega
  ·
   obtain rfl : p = m:=by omega
   have hd1 : decide ((p : Int) < (p : Int)) = false:=by simp
   have hpar2 : parse bs = some fs:=by
    rw [hpar,HM.out,parse_end]
    simp
   have hF:=hO.fl
   have HP:=veil (And.intro hpar2 (And.intro hF hE))
   have hfb : fs.length ≤ 1000000000:=by omega
   have KM:=veil (fun v hv => rmay8_calls v fs wr hv hfb)
   clear hpar hpar2 hF hO
   go_upto_region 12 with (go_at_call 76; refine (KM.out _ HP.out.2.1).mono ?_; rintro e w2 ⟨rfl,hE2⟩)
   cases hmay : mayFs fs with
   | false =>
    have hn : getFs bs = none:=by
     rw [zba,HP.out.1]
     simp [hmay]
    go_wp2
    go_ret2
    exact ⟨HP.out.2.2.trans hE2,.inl ⟨hn,rfl⟩⟩
   | true =>
    have hn : getFs bs = some fs:=by
     rw [zba,HP.out.1]
     simp [hmay]
    go_wp2
    go_ret2
    exact ⟨HP.out.2.2.trans hE2,.inr ⟨fs,_,hn,HP.out.2.1.ext hE2,rfl⟩⟩
theorem valB_le {bs : List Nat} (h : Byt bs) (h0 : bs.getD 0 0 ≤ 127) (hl : bs.length = 8) {i : Nat} (hi : i < 8) : valB (bs.take (i + 1)) ≤ 9223372036854775807:=by
 have h1:=ziy h h0 i (by omega)
 have h2 : 128 * 256 ^ i ≤ 128 * 256 ^ 7:=Nat.mul_le_mul_left _ (Nat.pow_le_pow_right (by decide) (by omega))
 have : (128 : Nat) * 256 ^ 7 = 9223372036854775808:=by decide
 omega
theorem rof8_calls (A : Option Addr) (m c : Nat) (bs : List Nat) (hm : m = bs.length) (w : World) (hS : Bs w A bs) :
  Calls Tryz.prog 42 #[.slice A m c] w fun e w' => e = .returned (.int .i64 (ofB bs)) ∧ Ext w w':=by
 have HS:=veil (And.intro hS hm)
 by_cases h8 : m = 8
 ·
  subst h8
  obtain ⟨b,o,hA,hb,c0⟩:=hS.cell (j:=0) (by omega)
  rw [Nat.add_zero] at c0
  have l0:=hS.1.getD 0
  obtain ⟨R,hR⟩ : ∃ R,R = ofB bs:=⟨_,rfl⟩
  rw [← hR]
  obtain ⟨X,hX⟩ : ∃ X,X = bs.getD 0 0:=⟨_,rfl⟩
  rw [← hX] at c0 l0
  have HX:=veil (And.intro hR hX)
  subst hA
  clear hS hm hR hX
  have k0 : (X : Int) ≤ 255:=by omega
  by_cases hx : 127 < X
  ·
   have hd : decide ((127 : Int) < (X : Int)) = true:=by simp; omega
   have hd2 : decide (127 < X) = true:=by simp; omega
   have hr : R = -1:=by
    rw [HX.out.1]
    unfold ofB
    rw [if_neg]
    intro h
    have:=HX.out.2
    omega
   subst hr
   go_enter Tryz.func42,Tryz.ntmps42
   go_wp2_with fail
   go_ret
   exact ⟨rfl,Ext.refl _⟩
  ·
   have hd : decide ((127 : Int) < (X : Int)) = false:=by simp; omega
   have hd2 : decide (127 < X) = false:=by simp; omega
   have hr : R = (valB bs : Nat):=by
    rw [HX.out.1]
    unfold ofB
    rw [if_pos]
    have:=HX.out.2
    have:=HS.out.2
    omega
   have HR:=veil hr
   have hx0 : bs.getD 0 0 ≤ 127:=by rw [← HX.out.2]; omega
   have HV:=veil (fun (i : Nat) (hi : i < 8) => valB_le HS.out.1.1 hx0 HS.out.2.symm hi)
   clear hr hx0
   go_enter Tryz.func42,Tryz.ntmps42
   go_wp2_with fail
   go_loopw [3,4] (fun v u wr => ∃ i : Nat,i ≤ 8 ∧ u = .int .i64 (i : Int) ∧ v = .int .i64 ((valB (bs.take i) : Nat) : Int) ∧ Ext w wr)
    (fun _ v _ => 8 - (intOf v).toNat)
   case atStart => exact ⟨0,by omega,rfl,rfl,Ext.refl _⟩
   case round =>
    obtain ⟨i,hi,rfl,rfl,hE⟩:=hrel
    by_cases hlt : i < 8
    ·
     have hii : (i : Int) < 8:=by omega
     obtain ⟨b2,o2,hA,_,c1⟩:=(HS.out.1.ext hE).cell (j:=i) (by have:=HS.out.2; omega)
     obtain ⟨e1,e2⟩ : b2 = b ∧ o2 = o:=by injection hA with h; injection h with h1 h2; exact ⟨h1.symm,h2.symm⟩
     subst e1 e2
     have l1:=HS.out.1.1.getD i
     have hv:=HV.out i hlt
     rw [zbp (by have:=HS.out.2; omega)] at hv
     obtain ⟨V,hV⟩ : ∃ V,V = valB (bs.take i):=⟨_,rfl⟩
     obtain ⟨Y,hY⟩ : ∃ Y,Y = bs.getD i 0:=⟨_,rfl⟩
     rw [← hV,← hY] at hv
     rw [← hY] at c1 l1
     rw [← hV]
     have HVY:=veil (And.intro hV hY)
     have k1 : (Y : Int) ≤ 255:=by omega
     have k2 : 256 * (V : Int) + (Y : Int) ≤ 9223372036854775807:=by omega
     clear hV hY hv l1 hA
     go_wp2
     go_roundw
     case rel =>
      refine ⟨i + 1,by omega,by go_num,?_,hE⟩
      rw [zbp (by have:=HS.out.2; omega),← HVY.out.1,← HVY.out.2]
      simp
     case measure => simp [intOf]; omega
    ·
     obtain rfl : i = 8:=by omega
     have e : bs.take 8 = bs:=List.take_of_length_le (by have:=HS.out.2; omega)
     rw [e]
     go_wp2
     go_ret
     exact ⟨by rw [HR.out]; rfl,hE⟩
 ·
  have hr : ofB bs = -1:=by
   unfold ofB
   rw [if_neg]
   intro h
   omega
  rw [hr]
  have h8' : ¬ ((m : Int) = 8):=by omega
  clear hr hS hm
  go_enter Tryz.func42,Tryz.ntmps42
  go_wp2_with fail
  go_ret
  exact ⟨rfl,Ext.refl _⟩
def PutA (w' : World) (fs : List Fd) (x ev : Value) : Prop :=
 (mayFs fs = false ∧ (∃ A c,x = .slice A 0 c) ∧ ev = .iface 37 (.int .i64 1)) ∨
 (mayFs fs = true ∧ ev = .nilIface ∧ ∃ A c,x = .slice A (encF fs).length c ∧ (encF fs).length ≤ c ∧ Bs w' A (encF fs))
def GetA (w' : World) (bs : List Nat) (x ev : Value) : Prop :=
 (getFs bs = none ∧ (∃ A c,x = .slice A 0 c) ∧ ev = .iface 37 (.int .i64 2)) ∨ (∃ fs,getFs bs = some fs ∧ ev = .nilIface ∧ Fl w' x fs)
def OfA (bs : List Nat) (x ev : Value) : Prop:=(ofB bs < 0 ∧ x = .int .i64 0 ∧ ev = .iface 37 (.int .i64 2)) ∨ (0 ≤ ofB bs ∧ x = .int .i64 (ofB bs) ∧ ev = .nilIface)
def RGetA (w' : World) (bs : List Nat) (x y : Value) : Prop:=(getFs bs = none ∧ x = .slice none 0 0 ∧ y = .bool false) ∨ (∃ fs,getFs bs = some fs ∧ Fl w' x fs ∧ y = .bool true)
theorem rget8_any (A : Option Addr) (m c : Nat) (bs : List Nat) (hm : m = bs.length) (hmc : m ≤ c) (hle : m ≤ 100000000) (w : World) (hS : Bs w A bs) :
  Calls Tryz.prog 41 #[.slice A m c] w fun e w' => ∃ x y,e = .returned (.tuple #[x,y]) ∧ Ext w w' ∧ RGetA w' bs x y :=
 (rget8_calls A m c bs hm hmc hle w hS).mono fun e w' ⟨hE,h⟩ => by
  rcases h with ⟨h,rfl⟩ | ⟨fs,v,h,hF,rfl⟩
  ·
   exact ⟨_,_,rfl,hE,.inl ⟨h,rfl,rfl⟩⟩
  ·
   exact ⟨_,_,rfl,hE,.inr ⟨fs,h,hF,rfl⟩⟩
structure Code8 : Prop where
 may : ∀ (v : Value) (fs : List Fd) (w : World),Fl w v fs → fs.length ≤ 1000000000 → Calls Tryz.prog 109 #[v] w fun e w' => e = .returned (.bool (mayFs fs)) ∧ Ext w w'
 put : ∀ (v : Value) (fs : List Fd) (w : World),Fl w v fs → fs.length ≤ 1000000000 → Calls Tryz.prog 56 #[v] w fun e w' => ∃ x ev,e = .returned (.tuple #[x,ev]) ∧ Ext w w' ∧ PutA w' fs x ev
 get : ∀ (A : Option Addr) (m c : Nat) (bs : List Nat) (w : World),m = bs.length → m ≤ c → m ≤ 100000000 → Bs w A bs → Calls Tryz.prog 72 #[.slice A m c] w fun e w' => ∃ x ev,e = .returned (.tuple #[x,ev]) ∧ Ext w w' ∧ GetA w' bs x ev
 number : ∀ (n : Int) (w : World),-9223372036854775808 ≤ n → n ≤ 9223372036854775807 → Calls Tryz.prog 24 #[.int .i64 n] w fun e w' => ∃ A c,e = .returned (.slice A 8 c) ∧ 8 ≤ c ∧ Bs w' A (numB n) ∧ Ext w w'
 of : ∀ (A : Option Addr) (m c : Nat) (bs : List Nat) (w : World),m = bs.length → m ≤ c → Bs w A bs → Calls Tryz.prog 73 #[.slice A m c] w fun e w' => ∃ x ev,e = .returned (.tuple #[x,ev]) ∧ Ext w w' ∧ OfA bs x ev
theorem infoI9 : (Tryz.prog.info? 3).map (fun i => (i.zero,i.size,i.bytes)) = some (some (.int .i64 0),1,8):=by kernel_rfl
theorem run_items (d : Nat) (xs ys : Array Value) (A B : Nat → Int) (w : World) : ∀ is : List Nat,(∀ i ∈ is,xs[i]? = some (vI vU (A i))) → (∀ i ∈ is,ys[i]? = some (vI vU (B i))) →
  (Op.eqItems (d + 1) 27 1 xs ys is).run Tryz.prog w = .ok (is.all fun i => A i == B i) w
 | [],_,_ => by simp [Op.eqItems]
 | i :: is,hx,hy => by
  have e1:=run_part_plain (P:=Tryz.prog) w (e:=27) (by kernel_rfl) (xs:=xs) (off:=i * 1) (v:=.int .u64 (A i)) (by rw [Nat.mul_one]; exact hx i (by simp))
  have e2:=run_part_plain (P:=Tryz.prog) w (e:=27) (by kernel_rfl) (xs:=ys) (off:=i * 1) (v:=.int .u64 (B i)) (by rw [Nat.mul_one]; exact hy i (by simp))
  have e3:=run_equalIn_int (P:=Tryz.prog) w d 27 .u64 .u64 (A i) (B i) Tryz.underlying27
  have ih:=run_items d xs ys A B w is (fun j hj => hx j (by simp [hj])) (fun j hj => hy j (by simp [hj]))
  simp only [Op.eqItems,Sem.run_bind,e1,e2,e3,Result.andThen_ok]
  by_cases h : A i = B i
  ·
   simp [h,ih]
  ·
   simp [h]
theorem eql4 (f g : Nat → Int) (w : World) : (binOp .eql 29 (.agg #[vI vU (f 0),vI vU (f 1),vI vU (f 2),vI vU (f 3)]) (.agg #[vI vU (g 0),vI vU (g 1),vI vU (g 2),vI vU (g 3)])).run Tryz.prog w = .ok (.bool ((List.range 4).all fun i => f i == g i)) w:=by
 obtain ⟨i,hi⟩ : ∃ i,Tryz.prog.info? 27 = some i:=Option.isSome_iff_exists.1 (by kernel_rfl)
 have hc : Tryz.prog.cellsOf 27 = 1:=by kernel_rfl
 rw [run_eql_struct,run_equalIn_array (P:=Tryz.prog) w 9999 _ _ Tryz.underlying29 hi,hc]
 rw [run_items 9998 _ _ f g w _ (fun j hj => arr4 (fun j => .int .u64 (f j)) j (by simpa using hj)) (fun j hj => arr4 (fun j => .int .u64 (g j)) j (by simpa using hj))]
 rfl
theorem all_wd (n X Y : Nat) : ((List.range n).all fun i => wd X i == wd Y i) = decide (X % w64 ^ n = Y % w64 ^ n):=by
 rw [Bool.eq_iff_iff]
 simp only [List.all_eq_true,List.mem_range,beq_iff_eq,decide_eq_true_eq]
 constructor
 ·
  intro h
  exact zjr zak n fun i hi => by have:=h i hi; unfold wd at this; omega
 ·
  intro h i hi
  unfold wd
  rw [← zck X n i hi,← zck Y n i hi,h]
theorem zgd {X Y : Nat} (hX : X < top) (hY : Y < top) (w : World) : (binOp .eql 29 (.agg #[vI vU (wd X 0),vI vU (wd X 1),vI vU (wd X 2),vI vU (wd X 3)]) (.agg #[vI vU (wd Y 0),vI vU (wd Y 1),vI vU (wd Y 2),vI vU (wd Y 3)])).run Tryz.prog w = .ok (.bool (decide (X = Y))) w:=by
 have h:=eql4 (wd X) (wd Y) w
 rw [all_wd 4 X Y] at h
 have e : (X % w64 ^ 4 = Y % w64 ^ 4) = (X = Y):=by rw [Nat.mod_eq_of_lt (show X < w64 ^ 4 from hX),Nat.mod_eq_of_lt (show Y < w64 ^ 4 from hY)]
 simpa [e] using h
theorem eql_num_same (X : Nat) (w : World) : (binOp .eql 29 (.agg #[vI vU (wd X 0),vI vU (wd X 1),vI vU (wd X 2),vI vU (wd X 3)]) (.agg #[vI vU (wd X 0),vI vU (wd X 1),vI vU (wd X 2),vI vU (wd X 3)])).run Tryz.prog w = .ok (.bool true) w:=by
 have h:=eql4 (wd X) (wd X) w
 rw [all_wd 4 X X] at h
 simpa using h
theorem infoN4 : (Tryz.prog.info? 29).map (·.size) = some 4:=by kernel_rfl
def nc (x : Nat) : Array Value:=#[vI vU (wd x 0),vI vU (wd x 1),vI vU (wd x 2),vI vU (wd x 3)]
def nv (x : Nat) : Value:=.agg (nc x)
theorem nc_one (x : Nat) : (nc x).all (·.oneCell') = true:=by simp [nc,Value.oneCell']
theorem iN (x : Nat) : (Tryz.prog.info? 29).map (·.size) = some (nc x).size:=by exact infoN4
theorem uN : Tryz.prog.underlying 29 = some (.array 4 27):=Tryz.underlying29
section
variable {P : Program} {o : Oper} {a : Act} {w : World}
theorem zad {f : FuncId} {fn : Func} {c : Code} (hf : P.funcs[f]? = some fn) (hname : (fn.name == "runtime.NumGoroutine") = false) (hb : fn.body = some c) (args : Array Value) (w : World) :
  (callFunc f args).run P w = .ok (.enter f args) w:=by
 have hn : ¬ fn.name = "runtime.NumGoroutine":=by simpa using hname
 simp [callFunc,go_sem,hf,hb,hn]
theorem zaz {k : FuncId} {xs : List Operand} {ts : Array TypeId} {args : List Value} {v : Value} (ho : o.op = .call { callee:=.value (.func k),args:=xs.toArray,argTypes:=ts }) (hx : xs.map a.eval = args)
  (he : ∀ W,(callFunc k args.toArray).run P W = .ok (.enter k args.toArray) W) (hc : ∀ W,Ext w W → Calls P k args.toArray W fun e W' => e = .returned v ∧ Ext W W') : Made P o v a w :=
 made_call (fun W => by
  have h1 : execOp a.eval o = callFunc k (#[] ++ xs.toArray.map a.eval ++ #[]):=by
   cases o
   subst ho
   rfl
  rw [h1,List.map_toArray,hx]
  simpa using he W) hc
theorem zjm {op : BinOp} {x y : Operand} {ty ty2 : TypeId} {u v r : Value} (ho : o.op = .binOp op ty x y ty2) (hx : a.eval x = u) (hy : a.eval y = v)
  (hg : ∀ W,(eqGuard op ty x y u v).run P W = .ok () W) (hr : ∀ W,(binOp op ty u v).run P W = .ok r W) : Made P o r a w:=zbi fun W _ => by
 unfold execOp
 simp only [ho,hx,hy,Sem.run_bind,hg W,Result.andThen_ok,hr W,Sem.run_pure]
theorem made_slice {ty : TypeId} {x : Operand} {lo hi mx : Option Operand} {u v : Value} (ho : o.op = .slice ty x lo hi mx) (hx : a.eval x = u)
  (h : ∀ W,(Instr.sliceAt ty u (lo.map a.eval) (hi.map a.eval) (mx.map a.eval)).run P W = .ok v W) : Made P o v a w:=zbi fun W _ => by
 unfold execOp
 simp only [ho,hx,Sem.run_bind,h W,Result.andThen_ok,Sem.run_pure]
theorem neq_of {t : TypeId} {c d : Array Value} {b r : Bool} {W : World} (h : (binOp .eql t (.agg c) (.agg d)).run P W = .ok (.bool b) W) (hr : (!b) = r) : (binOp .neq t (.agg c) (.agg d)).run P W = .ok (.bool r) W:=by
 subst hr
 have h1 : (do pure (Value.bool (← Op.equal t (.agg c) (.agg d))) : Sem Value).run P W = .ok (.bool b) W:=h
 show (do pure (Value.bool (!(← Op.equal t (.agg c) (.agg d)))) : Sem Value).run P W = .ok (.bool (!b)) W
 simp only [Sem.run_bind,Sem.run_pure] at h1 ⊢
 generalize (Op.equal t (.agg c) (.agg d)).run P W = r at h1 ⊢
 cases r with
 | ok v w' =>
  simp only [Result.andThen_ok,Result.ok.injEq,Value.bool.injEq] at h1 ⊢
  exact ⟨by rw [h1.1],h1.2⟩
 | halt x w' => simp [Result.andThen] at h1
end
section
variable (W : World)
theorem hzN : (Instr.alloc 29 true (.tuple #[])).run Tryz.prog W = .ok (ptrTo W.heap.size) (W.alloc (.cells #[vI vU 0,vI vU 0,vI vU 0,vI vU 0] 29)):=by simp [Instr.alloc,go_sem]
theorem wd_z : wd 0 0 = 0 ∧ wd 0 1 = 0 ∧ wd 0 2 = 0 ∧ wd 0 3 = 0:=by decide
theorem bldN0 : (Instr.build 29 [].toArray).run Tryz.prog W = .ok (nv 0) W:=by
 obtain ⟨h0,h1,h2,h3⟩:=wd_z
 unfold nv nc
 rw [h0,h1,h2,h3]
 simp [Instr.build,go_sem]
end
theorem zhm {w : World} {o : Obj} {k : Nat} (hk : k = w.heap.size) : (w.alloc o).heap[k]? = some o:=by subst hk; exact zac w o
theorem blocks1 (w : World) (A : Obj) : Ext w (w.alloc A) ∧ (w.alloc A).heap[w.heap.size]? = some A:=⟨Ext.alloc _ _,zhm rfl⟩
theorem blocks2 (w : World) (A B : Obj) : Ext w ((w.alloc A).alloc B) ∧ ((w.alloc A).alloc B).heap[w.heap.size]? = some A ∧ ((w.alloc A).alloc B).heap[w.heap.size + 1]? = some B :=
 ⟨(Ext.alloc _ _).trans (Ext.alloc _ _),(Ext.alloc _ _).block (zhm rfl),zhm (by simp)⟩
theorem blocks3 (w : World) (A B C : Obj) : Ext w (((w.alloc A).alloc B).alloc C) ∧ (((w.alloc A).alloc B).alloc C).heap[w.heap.size]? = some A ∧ (((w.alloc A).alloc B).alloc C).heap[w.heap.size + 1]? = some B ∧ (((w.alloc A).alloc B).alloc C).heap[w.heap.size + 1 + 1]? = some C :=
 ⟨(Ext.alloc _ _).trans ((Ext.alloc _ _).trans (Ext.alloc _ _)),((Ext.alloc _ _).trans (Ext.alloc _ _)).block (zhm rfl),(Ext.alloc _ _).block (zhm (by simp)),zhm (by simp)⟩
theorem wp_via1 {P : Program} {c : Code} {Q : Exit → Act → World → Prop} {a : Act} {w : World} {A : Obj} (h : ∀ w1,Ext w w1 → w1.heap[w.heap.size]? = some A → c.wp P Q a w1) : c.wp P Q a (w.alloc A):=h _ (blocks1 w A).1 (blocks1 w A).2
theorem wp_via2 {P : Program} {c : Code} {Q : Exit → Act → World → Prop} {a : Act} {w : World} {A B : Obj} (h : ∀ w1,Ext w w1 → w1.heap[w.heap.size]? = some A → w1.heap[w.heap.size + 1]? = some B → c.wp P Q a w1) : c.wp P Q a ((w.alloc A).alloc B):=h _ (blocks2 w A B).1 (blocks2 w A B).2.1 (blocks2 w A B).2.2
theorem Ext.new {w w1 W : World} {r : Nat} (h : Ext w w1) (k : But r w1 W) (hr : w.heap.size ≤ r) : Ext w W:=Below.trans h (k.new hr (Below.size h))
theorem made_not' {P : Program} {o : Oper} {a : Act} {w : World} {ty : TypeId} {x : Operand} {b r : Bool} (ho : o.op = .unOp .not ty x) (hx : a.eval x = .bool b) (hr : (!b) = r) : Made P o (.bool r) a w:=hr ▸ made_not ho hx
theorem eqN {X : Nat} (W : World) : (binOp .eql 29 (nv X) (nv X)).run Tryz.prog W = .ok (.bool true) W:=eql_num_same X W
theorem neN {X : Nat} (W : World) : (binOp .neq 29 (nv X) (nv X)).run Tryz.prog W = .ok (.bool false) W:=neq_of (eqN W) rfl
theorem gN (X Y : Nat) (op : BinOp) (x y : Operand) (W : World) : (eqGuard op 29 x y (nv X) (nv Y)).run Tryz.prog W = .ok () W:=by
 unfold nv nc
 cases op <;> simp [eqGuard,go_sem]
def lev (z : Nat → Nat) : Nat → Nat
 | 0 => 0
 | i + 1 => lev z i + z i * 256 ^ i
theorem zii {z : Nat → Nat} (hz : ∀ j,z j < 256) : ∀ i,lev z i < 256 ^ i
 | 0 => by simp [lev]
 | i + 1 => by
  have h:=zii hz i
  have h2 : z i * 256 ^ i ≤ 255 * 256 ^ i:=Nat.mul_le_mul_right _ (by have:=hz i; omega)
  show lev z i + z i * 256 ^ i < _
  rw [Nat.pow_succ]
  omega
theorem dg_put (m q r L c : Nat) (hr : r < m) (hL : L < 256 ^ (m * q + r)) (hc : c < 256) (j : Nat) :
  dg (256 ^ m) (L + c * 256 ^ (m * q + r)) j = if j = q then dg (256 ^ m) L j + c * 256 ^ r else dg (256 ^ m) L j:=by
 have hB : 0 < 256 ^ m:=Nat.pow_pos (by omega)
 have hp : ∀ k,0 < (256 ^ m) ^ k:=fun k => Nat.pow_pos hB
 have e : 256 ^ (m * q + r) = (256 ^ m) ^ q * 256 ^ r:=by rw [Nat.pow_add,Nat.pow_mul]
 have hrm : 256 ^ r * 256 ≤ 256 ^ m:=by rw [← Nat.pow_succ]; exact Nat.pow_le_pow_right (by omega) hr
 rw [e] at hL ⊢
 have hLq : L / (256 ^ m) ^ q < 256 ^ r:=by rw [Nat.div_lt_iff_lt_mul (hp q),Nat.mul_comm]; exact hL
 have hcr : c * 256 ^ r ≤ 255 * 256 ^ r:=Nat.mul_le_mul_right _ (by omega)
 rw [show c * ((256 ^ m) ^ q * 256 ^ r) = (256 ^ m) ^ q * (c * 256 ^ r) by rw [Nat.mul_left_comm]]
 by_cases hj : j = q
 ·
  subst hj
  rw [if_pos rfl]
  unfold dg
  rw [Nat.add_mul_div_left _ _ (hp j),Nat.mod_eq_of_lt (by omega),Nat.mod_eq_of_lt (by omega)]
 ·
  rw [if_neg hj]
  by_cases hlt : j < q
  ·
   rw [← zck _ q j hlt,Nat.add_mul_mod_self_left,zck _ q j hlt]
  ·
   have hjq : q + 1 ≤ j:=by omega
   have hle : (256 ^ m) ^ (q + 1) ≤ (256 ^ m) ^ j:=Nat.pow_le_pow_right hB hjq
   rw [Nat.pow_succ] at hle
   have h1 : (256 ^ m) ^ q * (256 ^ r + c * 256 ^ r) ≤ (256 ^ m) ^ q * 256 ^ m:=Nat.mul_le_mul_left _ (by omega)
   rw [Nat.mul_add] at h1
   unfold dg
   rw [Nat.div_eq_of_lt (show L < _ by omega),Nat.div_eq_of_lt (show L + (256 ^ m) ^ q * (c * 256 ^ r) < _ by omega)]
theorem w64_bytes : w64 = 256 ^ 8:=by decide
theorem w16_bytes : w16 = 256 ^ 2:=by decide
theorem two_256 (r : Nat) : 2 ^ (r * 8) = 256 ^ r:=by rw [Nat.mul_comm,Nat.pow_mul]
theorem wd_put (L c k j : Nat) (hL : L < 256 ^ k) (hc : c < 256) : wd (L + c * 256 ^ k) j = if j = k / 8 then wd L j + (c * 256 ^ (k % 8) : Nat) else wd L j:=by
 have h:=dg_put 8 (k / 8) (k % 8) L c (Nat.mod_lt _ (by omega)) (by rw [Nat.div_add_mod]; exact hL) hc j
 rw [Nat.div_add_mod,← w64_bytes] at h
 unfold wd
 rw [h]
 split
 ·
  rw [Int.natCast_add]
 ·
  rfl
theorem of_word (L c k : Nat) (hL : L < 256 ^ k) (hc : c < 256) : bits .or .u64 (wd L (k / 8)) (IntKind.u64.wrap ((c : Int) * 2 ^ (k % 8 * 8))) = wd (L + c * 256 ^ k) (k / 8):=by
 have hr : k % 8 < 8:=Nat.mod_lt _ (by omega)
 have hp : 256 ^ (k % 8) ≤ 256 ^ 7:=Nat.pow_le_pow_right (by omega) (by omega)
 have h7 : (256 : Nat) ^ 7 = 72057594037927936:=by decide
 have hcr : c * 256 ^ (k % 8) ≤ 255 * 256 ^ (k % 8):=Nat.mul_le_mul_right _ (by omega)
 have hq : dg w64 L (k / 8) < 256 ^ (k % 8):=by
  have e : 256 ^ k = w64 ^ (k / 8) * 256 ^ (k % 8):=by
   rw [w64_bytes,← Nat.pow_mul,← Nat.pow_add,Nat.div_add_mod]
  unfold dg
  refine Nat.lt_of_le_of_lt (Nat.mod_le _ _) ?_
  rw [Nat.div_lt_iff_lt_mul (Nat.pow_pos zak),Nat.mul_comm,← e]
  exact hL
 have ec : (c : Int) * 2 ^ (k % 8 * 8) = ((c * 256 ^ (k % 8) : Nat) : Int):=by
  rw [← two_256,Int.natCast_mul,Int.natCast_pow]
  rfl
 rw [wd_put L c k _ hL hc,if_pos rfl,ec,IntKind.wrap_u64]
 unfold wd
 rw [show ((c * 256 ^ (k % 8) : Nat) : Int) % 18446744073709551616 = ((c * 256 ^ (k % 8) : Nat) : Int) by omega]
 rw [u64_or_nat _ _ (by omega) (by omega),Nat.or_comm,nat_join (8 * (k % 8)) _ _ (by rw [Nat.mul_comm 8,two_256]; exact Nat.mul_mod_left _ _) (by rw [Nat.mul_comm 8,two_256]; exact hq)]
 omega
theorem of_step (z : Nat → Nat) (k : Nat) (hz : ∀ j,z j < 256) (i : Nat) :
  (if i = k / 8 then Value.int .u64 (wd (lev z k + z k * 256 ^ k) (k / 8)) else Value.int .u64 (wd (lev z k) i)) = Value.int .u64 (wd (lev z (k + 1)) i):=by
 show _ = Value.int .u64 (wd (lev z k + z k * 256 ^ k) i)
 by_cases h : i = k / 8
 ·
  rw [if_pos h,h]
 ·
  rw [if_neg h,wd_put _ _ _ _ (zii hz k) (hz k),if_neg h]
theorem wd_zero (i : Nat) : wd 0 i = 0:=by unfold wd dg; simp
theorem of_some (b o n c : Nat) (y : Nat → Nat) (hy : ∀ j,y j < 256) (hn : n ≤ 32) (w : World) (hb : b < w.heap.size) (hcell : ∀ j,j < n → w.cell? ⟨b,o + j,none⟩ = some (.int .u8 (y j))) :
  Calls Tryz.prog 74 #[.slice (some ⟨b,o,none⟩) n c] w fun e w' => e = .returned (.tuple #[.agg #[vI vU (wd (lev (fun k => y (n - 1 - k)) n) 0),vI vU (wd (lev (fun k => y (n - 1 - k)) n) 1),vI vU (wd (lev (fun k => y (n - 1 - k)) n) 2),vI vU (wd (lev (fun k => y (n - 1 - k)) n) 3)],.nilIface]) ∧ Below w.heap.size w w':=by
 have HY:=veil hy
 have HC:=veil hcell
 clear hy hcell
 have hn' : (n : Int) ≤ 32:=by omega
 go_enter Tryz.func74,Tryz.ntmps74
 go_wp2
 go_loopw [13] (fun i wr => ∃ k : Nat,k ≤ n ∧ i = .int .i64 k ∧ wr.rowIs w.heap.size 29 4 (fun _ => .int .u64 0) ∧ wr.rowIs (w.heap.size + 1) 29 4 (fun j => .int .u64 (wd (lev (fun k => y (n - 1 - k)) k) j)) ∧ Below w.heap.size w wr)
  (fun i _ => n - (intOf i).toNat)
 case atStart => exact ⟨0,by omega,rfl,(zag (n:=4) rfl rfl (arr4 fun _ => .int .u64 0)).alloc _,(zag (n:=4) (f:=fun _ => .int .u64 0) (by simp) rfl (arr4 fun _ => .int .u64 0)).congr (fun i _ => by rw [lev,wd_zero]),((Below.refl _ _).alloc (by simp) _).alloc (by simp) _⟩
 case round =>
  obtain ⟨k,hk,rfl,hR,hS,hbel⟩:=hrel
  by_cases hlt : k < n
  ·
   have hk8 : k / 8 < 4:=by omega
   have c1:=hS.cell hk8
   have f1:=hS.frozen (k / 8)
   obtain ⟨j,hj⟩ : ∃ j,j = n - 1 - k:=⟨_,rfl⟩
   have hji : (n : Int) - 1 - (k : Int) = (j : Int):=by omega
   have hjn : (j : Int) < (n : Int):=by omega
   have hkn : (k : Int) < (n : Int):=by omega
   have c2:=(hbel.cell (p:=⟨b,o + j,none⟩) hb).trans (HC.out j (by omega))
   have l1:=wd_lo (lev (fun k => y (n - 1 - k)) k) (k / 8)
   have u1:=wd_le (lev (fun k => y (n - 1 - k)) k) (k / 8)
   have u2 : (y j : Int) ≤ 255:=by have:=HY.out j; omega
   have hst:=of_step (fun k => y (n - 1 - k)) k (fun j => HY.out _)
   have HS:=veil hst
   clear hst
   have HJ:=veil hj
   clear hj
   go_wp2
   go_region
   all_goals
    go_wp2
    go_roundw
    case rel =>
     rw [show y j = y (n - 1 - k) by rw [HJ.out],of_word _ _ _ (zii (fun j => HY.out _) k) (HY.out _)]
     exact ⟨k + 1,by omega,by go_num,(zar hR (by omega) _).drew,((hS.set (k / 8) _).congr fun i _ => HS.out i).drew,(zaf hbel (by omega) _).drew⟩
    case measure => simp [intOf]; omega
  ·
   obtain rfl : k = n:=by omega
   obtain ⟨c0,c1,c2,c3⟩:=zaj hS
   obtain ⟨d0,d1,d2,d3⟩:=zaj hR
   obtain ⟨f0,f1,f2,f3⟩:=zbm hR
   go_wp2
   refine bodyPost_ret (zcf rfl _ _ w.heap.size 29 #[vI vU (wd (lev (fun j => y (k - 1 - j)) k) 0),vI vU (wd (lev (fun j => y (k - 1 - j)) k) 1),vI vU (wd (lev (fun j => y (k - 1 - j)) k) 2),vI vU (wd (lev (fun j => y (k - 1 - j)) k) 3)] (0,0) 4 27 rfl (blk4 (put4 hR fun j => .int .u64 (wd (lev (fun j => y (k - 1 - j)) k) j))) Tryz.underlying29 (by kernel_rfl)) rfl ⟨rfl,zax hbel (Nat.le_refl _) _ _ _ _⟩
def qc (x y : Nat) (f : Bool) : Array Value:=#[vI vU (wd x 0),vI vU (wd x 1),vI vU (wd x 2),vI vU (wd x 3),vI vU (wd y 0),vI vU (wd y 1),vI vU (wd y 2),vI vU (wd y 3),.bool (f)]
def qv (x y : Nat) (f : Bool) : Value:=.agg (qc x y f)
theorem qc_one (x y : Nat) (f : Bool) : (qc x y f).all (·.oneCell') = true:=by simp [qc,Value.oneCell']
theorem iT (x y : Nat) (f : Bool) : (Tryz.prog.info? 44).map (·.size) = some (qc x y f).size:=by kernel_rfl
theorem isn_bool (W : World) : (isAgg 4).run Tryz.prog W = .ok false W:=by simp [isAgg,go_sem]
section
variable (g : Nat) (W : World)
theorem fldT0 : (Instr.fieldAt 44 (ptrTo g) 0).run Tryz.prog W = .ok (.pointer (some ⟨g,0,none⟩)) W:=by simp [Instr.fieldAt,go_sem]
theorem fldT2 : (Instr.fieldAt 44 (ptrTo g) 2).run Tryz.prog W = .ok (.pointer (some ⟨g,8,none⟩)) W:=by simp [Instr.fieldAt,go_sem]
theorem hzT : (Instr.alloc 44 true (.tuple #[])).run Tryz.prog W = .ok (ptrTo W.heap.size) (W.alloc (.cells #[vI vU 0,vI vU 0,vI vU 0,vI vU 0,vI vU 0,vI vU 0,vI vU 0,vI vU 0,.bool false] 44)):=by simp [Instr.alloc,go_sem]
end
inductive SV where
 | v (x : Value)
 | p (i o : Nat)
def SV.den (e : Nat → Nat) : SV → Value
 | .v x => x
 | .p i o => .pointer (some ⟨e i,o,none⟩)
def SV.below (k : Nat) : SV → Bool
 | .v _ => true
 | .p i _ => Nat.blt i k
theorem den_env {e e' : Nat → Nat} {k : Nat} (h : ∀ i,i < k → e' i = e i) : ∀ {s : SV},s.below k = true → s.den e' = s.den e
 | .v _,_ => rfl
 | .p i o,hs => by
  have : i < k:=by simpa [SV.below] using hs
  show Value.pointer (some ⟨e' i,o,none⟩) = _
  rw [h i this]
  rfl
structure Blk where
 ty : TypeId
 cs : List SV
def Blk.obj (e : Nat → Nat) (b : Blk) : Obj:=.cells (b.cs.map (SV.den e)).toArray b.ty (0,0)
inductive Orc (P : Program) (w0 : World) where
 | call (f : FuncId) (args : Array Value) (v : Value) (ok : ∀ W,Ext w0 W → Calls P f args W fun e W' => e = .returned v ∧ Ext W W')
 | bin (op : BinOp) (ty : TypeId) (x y r : Value) (g : ∀ X Y W,(eqGuard op ty X Y x y).run P W = .ok () W) (ok : ∀ W,(binOp op ty x y).run P W = .ok r W)
abbrev Fun2:=(Nat → Nat) → World → Result Next
structure Sst (P : Program) (w0 : World) where
 n : Nat
 t : List (Nat × SV)
 m : List Blk
 x : Nat
 q : List (Orc P w0)
 g : List (Fun2 × Fun2)
def lookS : List (Nat × SV) → Nat → SV
 | [],_ => .v undef
 | (j,s) :: r,i => bif Nat.beq i j then s else lookS r i
def valOf : Result Next → Value
 | .ok (.value v) _ => v
 | _ => undef
def offOf : Result Next → Nat
 | .ok (.value (.pointer (some a))) _ => a.off
 | _ => 0
section
variable {P : Program} {w0 : World}
def evX (s : Sst P w0) : Operand → SV
 | .tmp i => lookS s.t i
 | .const v => .v v
 | .global g => .v (.pointer (some ⟨g,0,none⟩))
 | .func f => .v (.func (.func f) #[] #[])
def evR (s : Sst P w0) (o : Oper) : Fun2:=fun e W => (execOp (fun x => (evX s x).den e) o).run P W
def Sst.put (s : Sst P w0) (d : Option Tmp) (x : SV) : Option (Sst P w0) :=
 match d with
 | none => some s
 | some i => bif Nat.blt i s.n then some { s with t:=(i,x) :: s.t } else none
def Sst.log (s : Sst P w0) (l r : Fun2) : Sst P w0:={ s with g:=(l,r) :: s.g }
def toVals : List SV → Option (List Value)
 | [] => some []
 | .v x :: r => (toVals r).map (x :: ·)
 | .p _ _ :: _ => none
def isRowT : TypeDesc → Bool
 | .struct _ | .array _ _ => true
 | _ => false
/-! ### what it says -/
theorem zhx {e : Nat → Nat} : ∀ {l : List SV} {vs : List Value},toVals l = some vs → l.map (SV.den e) = vs
 | [],vs,h => by
  obtain rfl : [] = vs:=by simpa [toVals] using h
  rfl
 | .v x :: r,vs,h => by
  unfold toVals at h
  cases hr : toVals r with
  | none => rw [hr] at h; cases h
  | some ws =>
   rw [hr] at h
   obtain rfl : x :: ws = vs:=by simpa using h
   rw [List.map_cons,zhx hr]
   rfl
 | .p _ _ :: _,_,h => by cases h
theorem agg_no {P : Program} {ty : TypeId} {d : TypeDesc} (hu : P.underlying ty = some d) (h : isRowT d = false) (W : World) : (isAgg ty).run P W = .ok false W:=by
 unfold isAgg
 rw [Sem.run_bind,run_underlying hu W]
 cases d <;> simp_all [isRowT]
end
end Go.Proofs.YtihophdbkjhopaaGreatDoor
