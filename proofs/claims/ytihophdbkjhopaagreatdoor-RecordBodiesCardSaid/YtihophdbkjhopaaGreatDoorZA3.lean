/-
  Of Ls Rcb T2 T3 T4 T5 T9 K2 Rcc T6 TA Eql C0 Of Cq.
-/
import Derived.Deep.MidRow
import Derived.Deep.Slices
import Derived.Laws.OwnMore
import Derived.Maps.AppendAt
import Derived.Laws.Concat
import Derived.ArgAppend
import Derived.Great.BuildSlice
import Derived.Laws.IdiomStrings
import Derived.Lib.SmallJoins
import Derived.Test.YtihophdbkjhopaaGreatDoorRows
import Derived.WalkKit
import Derived.ChangeKeysEq
import Derived.WalkSpells
import Derived.WalkLawsBesides
import Derived.Deep.LoopGhost
import Derived.Deep.RegionWith
import Derived.Deep.QuietTactic
import Derived.BigQuiet
import Derived.BigRegion
import Derived.Test.YtihophdbkjhopaaGreatDoorZA2
import Derived.Test.YtihophdbkjhopaaGreatDoorZA1
set_option maxRecDepth 1000000
set_option maxHeartbeats 20000000
namespace Go.Proofs.YtihophdbkjhopaaGreatDoor
open Go.RowKit
open Go.Value renaming int → vI
open Go.IntKind renaming u64 → vU
open Go.Act renaming put → aP
open List renaming setIfInBounds_toArray → lA, set_cons_zero → lZ, set_cons_succ → lS
section
variable {α : Type} {sz : Nat} {cs : α → List Value} {w w' : World} {v : Value} {l : List α} {P : Program}
def Ls (sz : Nat) (cs : α → List Value) (w : World) (v : Value) (l : List α) : Prop :=
 ∃ A c,v = .slice A l.length c ∧ l.length ≤ c ∧ (l.length = 0 ∨ ∃ b o,A = some ⟨b,o,none⟩ ∧ b < w.heap.size ∧ ∀ i x,l[i]? = some x → w.rangeAt b (o + i * sz) (cs x))
theorem range_ext (h : Ext w w') {b o : Nat} {L : List Value} (hb : b < w.heap.size) (hr : w.rangeAt b o L) : w'.rangeAt b o L:=fun j u hu => (h.cell hb).trans (hr j u hu)
theorem Ls.ext (h : Ls sz cs w v l) (k : Ext w w') : Ls sz cs w' v l:=by
 obtain ⟨A,c,e,hc,hx⟩:=h
 exact ⟨A,c,e,hc,hx.imp id fun ⟨b,o,ha,hb,hr⟩ => ⟨b,o,ha,Nat.lt_of_lt_of_le hb (Below.size k),fun i x hi => range_ext k hb (hr i x hi)⟩⟩
theorem Ls.nil (w : World) (A : Option Addr) (c : Nat) : Ls sz cs w (.slice A 0 c) ([] : List α):=⟨A,c,rfl,Nat.zero_le _,.inl rfl⟩
theorem Ls.at (h : Ls sz cs w v l) {i : Nat} (hi : i < l.length) : ∃ b o c,v = .slice (some ⟨b,o,none⟩) l.length c ∧ l.length ≤ c ∧ b < w.heap.size ∧ ∀ i x,l[i]? = some x → w.rangeAt b (o + i * sz) (cs x):=by
 obtain ⟨A,c,e,hc,hx⟩:=h
 rcases hx with h0 | ⟨b,o,rfl,hb,hr⟩
 ·
  omega
 ·
  exact ⟨b,o,c,e,hc,hb,hr⟩
def OwnL (sz : Nat) (cs : α → List Value) (w : World) (base ty : Nat) (v : Value) (l : List α) : Prop:=w.ownsRow base ty sz v l.length (l.flatMap cs)
variable {base ty : Nat}
theorem OwnL.nil (w : World) (base ty : Nat) : OwnL sz cs w base ty (.slice none 0 0) ([] : List α):=World.ownsRow_nil _ _ _ _
theorem OwnL.keep (o : OwnL sz cs w base ty v l) (h : Ext w w') : OwnL sz cs w' base ty v l :=
 ⟨o.1,o.2.imp id fun ⟨g,cap,cur,e,hg,hh,r⟩ => ⟨g,cap,cur,e,hg,h.block hh,r⟩⟩
theorem OwnL.lt (o : OwnL sz cs w base ty v l) {k : Nat} (hk : v.ownBlock = some k) : base ≤ k ∧ k < w.heap.size:=World.ownsRow.lt o k hk
theorem flat_at (hcs : ∀ x,(cs x).length = sz) : ∀ {l : List α} {i j : Nat} {x : α} {u : Value},l[i]? = some x → (cs x)[j]? = some u → (l.flatMap cs)[i * sz + j]? = some u
 | [],_,_,_,_,h,_ => by simp at h
 | a :: l,0,j,x,u,h,hu => by
  obtain rfl : a = x:=by simpa using h
  have hj : j < (cs a).length:=(List.getElem?_eq_some_iff.1 hu).1
  rw [List.flatMap_cons,Nat.zero_mul,Nat.zero_add,List.getElem?_append_left hj]
  exact hu
 | a :: l,i + 1,j,x,u,h,hu => by
  rw [List.flatMap_cons,List.getElem?_append_right (by rw [hcs,Nat.add_mul]; omega),hcs,show (i + 1) * sz + j - sz = i * sz + j by rw [Nat.add_mul]; omega]
  exact flat_at hcs (by simpa using h) hu
theorem flat_len (hcs : ∀ x,(cs x).length = sz) : ∀ (l : List α),(l.flatMap cs).length = l.length * sz
 | [] => by simp
 | a :: l => by rw [List.flatMap_cons,List.length_append,hcs,flat_len hcs l,List.length_cons,Nat.add_mul]; omega
theorem OwnL.ls (hcs : ∀ x,(cs x).length = sz) (o : OwnL sz cs w base ty v l) : Ls sz cs w v l:=by
 rcases o.2 with ⟨rfl,h0⟩ | ⟨g,cap,cur,rfl,hbg,hh,hn,hm,hs,ht⟩
 ·
  exact ⟨none,0,by rw [h0],by omega,.inl h0⟩
 ·
  refine ⟨_,cap,rfl,hn,.inr ⟨g,0,rfl,(Array.getElem?_eq_some_iff.1 hh).1,fun i x hi j u hu => ?_⟩⟩
  have h1:=flat_at hcs hi hu
  rw [← ht] at h1
  have hlt : i * sz + j < l.length * sz:=by
   have:=(List.getElem?_eq_some_iff.1 h1).1
   rw [List.length_take] at this
   omega
  rw [List.getElem?_take_of_lt hlt] at h1
  rw [Nat.zero_add,cell_of_row w g _ cur _ _ hh]
  simpa using h1
theorem zja {i : TypeInfo} {z : Value} {bytes t : Nat} (ht : P.underlying t = some (.slice ty)) (hi : P.info? ty = some i) (hz : i.zero = some z) (hsize : i.size = sz) (hby : i.bytes = bytes) (hzs : z.cells.size = sz) (hsz : 0 < sz)
  (hcs : ∀ x,(cs x).length = sz) (h1 : ∀ x,∀ u ∈ cs x,u.oneCell' = true) (rt : TypeId) (o : OwnL sz cs w base ty v l) {ys : List α} {A : Option Addr} {m c : Nat} (hm : m = ys.length) (hy : Ls sz cs w (.slice A m c) ys)
  (h63 : l.length + m ≤ maxLen) (hbytes : (l.length + m) * bytes ≤ 140737488355328) (hbase : base ≤ w.heap.size) :
  ∃ v' w',(Builtin.append_ #[t,t] rt #[v,.slice A m c]).run P w = .ok v' w' ∧ OwnL sz cs w' base ty v' (l ++ ys) ∧ w.grownBy w' v.ownBlock ∧ (v'.ownBlock = v.ownBlock ∨ v'.ownBlock = some w.heap.size):=by
 subst hm
 obtain ⟨A',c',e,hc,hx⟩:=hy
 injection e with e1 _ e3
 subst e1 e3
 rcases A with _ | a
 ·
  have h0 : ys = []:=by
   rcases hx with h | ⟨_,_,h,_⟩
   ·
    exact List.length_eq_zero_iff.1 h
   ·
    cases h
  subst h0
  refine ⟨v,w,?_,by rw [List.append_nil]; exact o,World.grownBy.refl w _,.inl rfl⟩
  rcases o.2 with ⟨rfl,h0⟩ | ⟨g,cap,cur,rfl,_,_,hnc,_⟩
  ·
   simp [Builtin.append_,run_underlying ht,sizeOf,typeInfo,hi,Builtin.lenOf,Builtin.firstCells]
  ·
   simp [Builtin.append_,run_underlying ht,sizeOf,typeInfo,hi,Builtin.lenOf,Builtin.firstCells,hnc,storeCells]
 ·
  have hcell : ∀ j u,(ys.flatMap cs)[j]? = some u → w.cell? (a.add j) = some u:=by
   intro j u hu
   have hj:=(List.getElem?_eq_some_iff.1 hu).1
   rw [flat_len hcs] at hj
   rcases hx with h | ⟨b,off,ha,_,hr⟩
   ·
    rw [h] at hj; omega
   ·
    obtain rfl:=Option.some.inj ha
    have hq : j / sz < ys.length:=(Nat.div_lt_iff_lt_mul hsz).2 hj
    have hr2:=hr (j / sz) _ (List.getElem?_eq_getElem hq)
    have hd : j / sz * sz + j % sz = j:=by rw [Nat.mul_comm]; exact Nat.div_add_mod j sz
    have hlt : j % sz < (cs ys[j / sz]).length:=by rw [hcs]; exact Nat.mod_lt _ hsz
    have h3:=flat_at hcs (List.getElem?_eq_getElem hq) (List.getElem?_eq_getElem hlt)
    rw [hd,hu] at h3
    obtain rfl:=Option.some.inj h3
    have h4:=hr2 _ _ (List.getElem?_eq_getElem hlt)
    rw [Nat.add_assoc,hd] at h4
    rw [Addr.add_mid]
    exact h4
  obtain ⟨v',w',hr,h2,h3,_,h5⟩:=run_append_own_at (P:=P) w base t rt ty i z sz bytes ht hi hz hsize hby hzs hsz v l.length _ o a ys.length c (ys.flatMap cs) (flat_len hcs ys) hcell
   (fun u hu => by obtain ⟨x,_,hx⟩:=List.mem_flatMap.1 hu; exact h1 x u hx) h63 hbytes hbase
  refine ⟨v',w',hr,?_,h3,h5⟩
  unfold OwnL
  rw [List.flatMap_append,List.length_append]
  exact h2
theorem ls_one {g c : Nat} {x : α} {fr : Nat × Nat} (hg : w.heap[g]? = some (.cells (cs x).toArray ty fr)) (hc : 1 ≤ c:=by decide) : Ls sz cs w (.slice (some ⟨g,0,none⟩) 1 c) [x] :=
 ⟨_,c,rfl,hc,.inr ⟨g,0,rfl,(Array.getElem?_eq_some_iff.1 hg).1,fun i y hi j u hu => by
  match i,hi with
  | 0,hi =>
   obtain rfl : x = y:=by simpa using hi
   simp only [Nat.zero_mul,Nat.zero_add]
   rw [cell_of_row w g j _ _ _ hg]
   simpa using hu⟩⟩
end
abbrev pb (r : Rc) (j : Nat) : Value:=.int .u8 (r.pv.getD j 0 : Nat)
def rcC (r : Rc) (v : Value) : Array Value:=#[.int .i64 r.dv,.int .i64 r.sq,.int .i64 r.mi,.int .i64 r.kd,.int .i64 r.st,.int .i64 r.zn,.int .i64 r.sr,.int .i64 r.vd,
 pb r 0,pb r 1,pb r 2,pb r 3,pb r 4,pb r 5,pb r 6,pb r 7,pb r 8,pb r 9,pb r 10,pb r 11,pb r 12,pb r 13,pb r 14,pb r 15,pb r 16,pb r 17,pb r 18,pb r 19,pb r 20,pb r 21,pb r 22,pb r 23,pb r 24,pb r 25,pb r 26,pb r 27,pb r 28,pb r 29,pb r 30,pb r 31,v]
theorem zki (r : Rc) (v : Value) : (rcC r v).size = 41:=rfl
theorem rcC_one (r : Rc) {A : Option Addr} {n c : Nat} : (rcC r (.slice A n c)).all (·.oneCell') = true:=by simp [rcC,Value.oneCell']
theorem iRc (r : Rc) (v : Value) : (Tryz.prog.info? 26).map (·.size) = some (rcC r v).size:=by
 rw [zki]
 kernel_rfl
theorem rcC_pv (r : Rc) (v : Value) {j : Nat} (hj : j < 32) : (rcC r v)[8 + j]? = some (pb r j):=by
 match j,hj with
 | 0,_ => rfl
 | 1,_ => rfl
 | 2,_ => rfl
 | 3,_ => rfl
 | 4,_ => rfl
 | 5,_ => rfl
 | 6,_ => rfl
 | 7,_ => rfl
 | 8,_ => rfl
 | 9,_ => rfl
 | 10,_ => rfl
 | 11,_ => rfl
 | 12,_ => rfl
 | 13,_ => rfl
 | 14,_ => rfl
 | 15,_ => rfl
 | 16,_ => rfl
 | 17,_ => rfl
 | 18,_ => rfl
 | 19,_ => rfl
 | 20,_ => rfl
 | 21,_ => rfl
 | 22,_ => rfl
 | 23,_ => rfl
 | 24,_ => rfl
 | 25,_ => rfl
 | 26,_ => rfl
 | 27,_ => rfl
 | 28,_ => rfl
 | 29,_ => rfl
 | 30,_ => rfl
 | 31,_ => rfl
 | j + 32,h => exact absurd h (by omega)
def Rv17 (w : World) (X : Array Value) (r : Rc) : Prop:=WfC r ∧ ∃ A c,X = rcC r (.slice A r.bs.length c) ∧ r.bs.length ≤ c ∧ Bs w A r.bs
section
variable {w w' : World} {X : Array Value} {r : Rc}
theorem Rv17.ext (h : Rv17 w X r) (k : Ext w w') : Rv17 w' X r:=by
 obtain ⟨h0,A,c,e,hc,hB⟩:=h
 exact ⟨h0,A,c,e,hc,hB.ext k⟩
theorem Rv17.size (h : Rv17 w X r) : X.size = 41:=by
 obtain ⟨_,A,c,e,_⟩:=h
 rw [e,zki]
theorem Rv17.info (h : Rv17 w X r) : (Tryz.prog.info? 26).map (·.size) = some X.size:=by
 obtain ⟨_,A,c,e,_⟩:=h
 rw [e]
 exact iRc _ _
theorem Rv17.one (h : Rv17 w X r) : X.all (·.oneCell') = true:=by
 obtain ⟨_,A,c,e,_⟩:=h
 rw [e]
 exact rcC_one r
def RcAt (w : World) (g : Nat) (X : Array Value) : Prop:=w.heap[g]? = some (.cells X 26 (0,0))
theorem RcAt.ext {g : Nat} (h : RcAt w g X) (k : Ext w w') : RcAt w' g X:=k.block h
theorem RcAt.new (w : World) (X : Array Value) : RcAt (w.alloc (.cells X 26)) w.heap.size X:=zah w _
theorem RcAt.cell {g : Nat} (h : RcAt w g X) {j : Nat} {u : Value} (hX : X[j]? = some u) : w.cell? ⟨g,j,none⟩ = some u:=by
 rw [cell_of_row w g j _ _ _ h]
 exact hX
theorem RcAt.cells {g : Nat} {A : Option Addr} {n c : Nat} (h : RcAt w g (rcC r (.slice A n c))) :
  w.cell? ⟨g,0,none⟩ = some (.int .i64 r.dv) ∧ w.cell? ⟨g,1,none⟩ = some (.int .i64 r.sq) ∧ w.cell? ⟨g,2,none⟩ = some (.int .i64 r.mi) ∧ w.cell? ⟨g,3,none⟩ = some (.int .i64 r.kd) ∧ w.cell? ⟨g,4,none⟩ = some (.int .i64 r.st) ∧ w.cell? ⟨g,5,none⟩ = some (.int .i64 r.zn) ∧ w.cell? ⟨g,6,none⟩ = some (.int .i64 r.sr) ∧ w.cell? ⟨g,7,none⟩ = some (.int .i64 r.vd) ∧ w.cell? ⟨g,40,none⟩ = some (.slice A n c) :=
 ⟨h.cell rfl,h.cell rfl,h.cell rfl,h.cell rfl,h.cell rfl,h.cell rfl,h.cell rfl,h.cell rfl,h.cell rfl⟩
theorem RcAt.prev {g : Nat} {v : Value} (h : RcAt w g (rcC r v)) (hw : WfC r) : Bs w (some ⟨g,8,none⟩) r.pv :=
 ⟨hw.2.1,.inr ⟨g,8,rfl,(Array.getElem?_eq_some_iff.1 h).1,fun j hj => h.cell (rcC_pv r v (by rw [hw.1] at hj; exact hj))⟩⟩
end
theorem rgC_no {r : Rc} (h : ¬ (1 ≤ r.dv ∧ r.dv ≤ 2147483647 ∧ 0 ≤ r.sq ∧ r.sq ≤ 1073741824 ∧ 0 ≤ r.mi ∧ r.mi ≤ 1073741824 ∧ 0 ≤ r.st ∧ r.st ≤ 31 ∧ 0 ≤ r.zn ∧ r.zn ≤ 7 ∧ 0 ≤ r.sr ∧ r.sr ≤ 2147483647)) : mayC r = false:=by
 unfold mayC rgC
 rw [decide_eq_false h,Bool.false_and]
theorem rgC_yes {r : Rc} (h : 1 ≤ r.dv ∧ r.dv ≤ 2147483647 ∧ 0 ≤ r.sq ∧ r.sq ≤ 1073741824 ∧ 0 ≤ r.mi ∧ r.mi ≤ 1073741824 ∧ 0 ≤ r.st ∧ r.st ≤ 31 ∧ 0 ≤ r.zn ∧ r.zn ≤ 7 ∧ 0 ≤ r.sr ∧ r.sr ≤ 2147483647) : mayC r = kdC r:=by
 unfold mayC rgC
 rw [decide_eq_true h,Bool.true_and]
theorem kdC_1 {r : Rc} (h : r.kd = 1) : kdC r = decide (1 ≤ r.vd ∧ r.vd ≤ 7 ∧ r.bs.length ≤ 500):=by unfold kdC; rw [if_pos h]
theorem kdC_2 {r : Rc} (h : ¬ r.kd = 1) : kdC r = decide ((r.kd = 2 ∨ r.kd = 3) ∧ r.vd = 0 ∧ r.bs.length = 0):=by unfold kdC; rw [if_neg h]
theorem rmay17_calls (X : Array Value) (r : Rc) (w : World) (hF : Rv17 w X r) (hL : r.bs.length ≤ 1000000000) :
  Calls Tryz.prog 8 #[.agg X] w fun e w' => e = .returned (.bool (mayC r)) ∧ Ext w w':=by
 obtain ⟨R,hR⟩ : ∃ R,R = mayC r:=⟨_,rfl⟩
 rw [← hR]
 have hE:=Ext.alloc w (.cells X 26)
 have hA:=RcAt.new w X
 have hno:=rgC_no (r:=r)
 have hyes:=rgC_yes (r:=r)
 have hk1:=kdC_1 (r:=r)
 have hk2:=kdC_2 (r:=r)
 obtain ⟨_,A,c,hX,hc,_⟩:=hF
 rw [hX] at hA
 obtain ⟨c0,c1,c2,c3,c4,c5,c6,c7,c8⟩:=hA.cells
 rw [← hX] at hA c0 c1 c2 c3 c4 c5 c6 c7 c8
 have HN:=veil (And.intro hR (And.intro hno hyes))
 have HK:=veil (And.intro hk1 hk2)
 have HE:=veil hE
 clear hA hX hc hno hyes hk1 hk2 hE hR
 obtain ⟨dv,sq,mi,kd,st,zn,sr,vd,pv,bs⟩:=r
 simp only at c0 c1 c2 c3 c4 c5 c6 c7 c8 HN HK hL
 obtain ⟨n,hn⟩ : ∃ n,n = bs.length:=⟨_,rfl⟩
 rw [← hn] at c8 HK hL
 clear hn
 go_enter Tryz.func8,Tryz.ntmps8
 go_upto_region 1 with (fail)
 generalize w.alloc (.cells X 26) = w1 at *
 generalize w.heap.size = g at *
 by_cases g0 : dv < 1
 ·
  have f0 : decide (dv < 1) = true:=decide_eq_true g0
  obtain rfl : R = false:=HN.out.1.trans (HN.out.2.1 fun h => by omega)
  go_wp2
  go_ret
  exact ⟨rfl,HE.out⟩
 have f0 : decide (dv < 1) = false:=decide_eq_false g0
 by_cases g1 : 2147483647 < dv
 ·
  have f1 : decide (2147483647 < dv) = true:=decide_eq_true g1
  obtain rfl : R = false:=HN.out.1.trans (HN.out.2.1 fun h => by omega)
  go_wp2
  go_ret
  exact ⟨rfl,HE.out⟩
 have f1 : decide (2147483647 < dv) = false:=decide_eq_false g1
 by_cases g2 : sq < 0
 ·
  have f2 : decide (sq < 0) = true:=decide_eq_true g2
  obtain rfl : R = false:=HN.out.1.trans (HN.out.2.1 fun h => by omega)
  go_wp2
  go_ret
  exact ⟨rfl,HE.out⟩
 have f2 : decide (sq < 0) = false:=decide_eq_false g2
 by_cases g3 : 1073741824 < sq
 ·
  have f3 : decide (1073741824 < sq) = true:=decide_eq_true g3
  obtain rfl : R = false:=HN.out.1.trans (HN.out.2.1 fun h => by omega)
  go_wp2
  go_ret
  exact ⟨rfl,HE.out⟩
 have f3 : decide (1073741824 < sq) = false:=decide_eq_false g3
 by_cases g4 : mi < 0
 ·
  have f4 : decide (mi < 0) = true:=decide_eq_true g4
  obtain rfl : R = false:=HN.out.1.trans (HN.out.2.1 fun h => by omega)
  go_wp2
  go_ret
  exact ⟨rfl,HE.out⟩
 have f4 : decide (mi < 0) = false:=decide_eq_false g4
 by_cases g5 : 1073741824 < mi
 ·
  have f5 : decide (1073741824 < mi) = true:=decide_eq_true g5
  obtain rfl : R = false:=HN.out.1.trans (HN.out.2.1 fun h => by omega)
  go_wp2
  go_ret
  exact ⟨rfl,HE.out⟩
 have f5 : decide (1073741824 < mi) = false:=decide_eq_false g5
 by_cases g6 : st < 0
 ·
  have f6 : decide (st < 0) = true:=decide_eq_true g6
  obtain rfl : R = false:=HN.out.1.trans (HN.out.2.1 fun h => by omega)
  go_wp2
  go_ret
  exact ⟨rfl,HE.out⟩
 have f6 : decide (st < 0) = false:=decide_eq_false g6
 by_cases g7 : 31 < st
 ·
  have f7 : decide (31 < st) = true:=decide_eq_true g7
  obtain rfl : R = false:=HN.out.1.trans (HN.out.2.1 fun h => by omega)
  go_wp2
  go_ret
  exact ⟨rfl,HE.out⟩
 have f7 : decide (31 < st) = false:=decide_eq_false g7
 by_cases g8 : zn < 0
 ·
  have f8 : decide (zn < 0) = true:=decide_eq_true g8
  obtain rfl : R = false:=HN.out.1.trans (HN.out.2.1 fun h => by omega)
  go_wp2
  go_ret
  exact ⟨rfl,HE.out⟩
 have f8 : decide (zn < 0) = false:=decide_eq_false g8
 by_cases g9 : 7 < zn
 ·
  have f9 : decide (7 < zn) = true:=decide_eq_true g9
  obtain rfl : R = false:=HN.out.1.trans (HN.out.2.1 fun h => by omega)
  go_wp2
  go_ret
  exact ⟨rfl,HE.out⟩
 have f9 : decide (7 < zn) = false:=decide_eq_false g9
 by_cases g10 : sr < 0
 ·
  have f10 : decide (sr < 0) = true:=decide_eq_true g10
  obtain rfl : R = false:=HN.out.1.trans (HN.out.2.1 fun h => by omega)
  go_wp2
  go_ret
  exact ⟨rfl,HE.out⟩
 have f10 : decide (sr < 0) = false:=decide_eq_false g10
 by_cases g11 : 2147483647 < sr
 ·
  have f11 : decide (2147483647 < sr) = true:=decide_eq_true g11
  obtain rfl : R = false:=HN.out.1.trans (HN.out.2.1 fun h => by omega)
  go_wp2
  go_ret
  exact ⟨rfl,HE.out⟩
 have f11 : decide (2147483647 < sr) = false:=decide_eq_false g11
 have hm:=HN.out.1.trans (HN.out.2.2 ⟨by omega,by omega,by omega,by omega,by omega,by omega,by omega,by omega,by omega,by omega,by omega,by omega⟩)
 have HM:=veil hm
 clear hm HN
 by_cases k1 : kd = 1
 ·
  have e1 : (kd == 1) = true:=by simp [k1]
  by_cases v0 : 1 ≤ vd
  rotate_left
  ·
   have d0 : decide (1 ≤ vd) = false:=decide_eq_false v0
   obtain rfl : R = false:=HM.out.trans ((HK.out.1 k1).trans (decide_eq_false fun h => by omega))
   subst k1
   go_wp2
   go_ret
   exact ⟨rfl,HE.out⟩
  have d0 : decide (1 ≤ vd) = true:=decide_eq_true v0
  by_cases v1 : vd ≤ 7
  rotate_left
  ·
   have d1 : decide (vd ≤ 7) = false:=decide_eq_false v1
   obtain rfl : R = false:=HM.out.trans ((HK.out.1 k1).trans (decide_eq_false fun h => by omega))
   subst k1
   go_wp2
   go_ret
   exact ⟨rfl,HE.out⟩
  have d1 : decide (vd ≤ 7) = true:=decide_eq_true v1
  have d2 : decide ((n : Int) ≤ 500) = R:=by
   rw [HM.out,HK.out.1 k1]
   by_cases v2 : n ≤ 500
   ·
    rw [decide_eq_true (show (n : Int) ≤ 500 by omega),decide_eq_true ⟨v0,v1,v2⟩]
   ·
    rw [decide_eq_false (show ¬ (n : Int) ≤ 500 by omega),decide_eq_false fun h => v2 h.2.2]
  subst k1
  go_wp2
  go_ret
  exact ⟨rfl,HE.out⟩
 have e1 : (kd == 1) = false:=by simp [k1]
 have HS:=veil (HM.out.trans (HK.out.2 k1))
 clear HM HK
 by_cases k2 : kd = 2
 ·
  have e2 : (kd == 2) = true:=by simp [k2]
  by_cases v0 : vd = 0
  rotate_left
  ·
   have d0 : (vd == 0) = false:=by simp [v0]
   obtain rfl : R = false:=HS.out.trans (decide_eq_false fun h => v0 h.2.1)
   subst k2
   go_wp2
   go_ret
   exact ⟨rfl,HE.out⟩
  have d0 : (vd == 0) = true:=by simp [v0]
  have d2 : ((n : Int) == 0) = R:=by
   rw [HS.out]
   by_cases v2 : n = 0
   ·
    rw [show ((n : Int) == 0) = true by simp [v2],decide_eq_true ⟨.inl k2,v0,v2⟩]
   ·
    rw [show ((n : Int) == 0) = false by simp [v2],decide_eq_false fun h => v2 h.2.2]
  subst k2 v0
  go_wp2
  go_ret
  exact ⟨rfl,HE.out⟩
 have e2 : (kd == 2) = false:=by simp [k2]
 by_cases k3 : kd = 3
 ·
  have e3 : (kd == 3) = true:=by simp [k3]
  by_cases v0 : vd = 0
  rotate_left
  ·
   have d0 : (vd == 0) = false:=by simp [v0]
   obtain rfl : R = false:=HS.out.trans (decide_eq_false fun h => v0 h.2.1)
   subst k3
   go_wp2
   go_ret
   exact ⟨rfl,HE.out⟩
  have d0 : (vd == 0) = true:=by simp [v0]
  have d2 : ((n : Int) == 0) = R:=by
   rw [HS.out]
   by_cases v2 : n = 0
   ·
    rw [show ((n : Int) == 0) = true by simp [v2],decide_eq_true ⟨.inr k3,v0,v2⟩]
   ·
    rw [show ((n : Int) == 0) = false by simp [v2],decide_eq_false fun h => v2 h.2.2]
  subst k3 v0
  go_wp2
  go_ret
  exact ⟨rfl,HE.out⟩
 have e3 : (kd == 3) = false:=by simp [k3]
 obtain rfl : R = false:=HS.out.trans (decide_eq_false fun h => h.1.elim k2 k3)
 go_wp2
 go_ret
 exact ⟨rfl,HE.out⟩
theorem mayFs_false {fs : List Fd} {i : Nat} (hi : i < fs.length) (h : ¬ okF fs i) : mayFs fs = false:=decide_eq_false fun hh => h (hh.2 i hi)
theorem mayFs_len {fs : List Fd} (h : ∀ i,i < fs.length → okF fs i) : mayFs fs = decide (fs.length ≤ 64):=by
 unfold mayFs
 by_cases hc : fs.length ≤ 64
 ·
  rw [decide_eq_true hc,decide_eq_true ⟨hc,h⟩]
 ·
  rw [decide_eq_false hc,decide_eq_false fun hh => hc hh.1]
theorem zdm (bs : List Nat) : (strL bs).size = bs.length:=by simp [strL,ByteArray.size]
theorem zks {fs : List Fd} (h : mayFs fs = true) {i : Nat} (hi : i < fs.length) : okF fs i:=(of_decide_eq_true h).2 i hi
theorem zkt {fs : List Fd} (h : mayFs fs = true) : fs.length ≤ 64:=(of_decide_eq_true h).1
theorem zej {fs : List Fd} (h : mayFs fs = true) (i : Nat) : (encF (fs.take i)).length ≤ 4194432:=by
 have h1:=zhy (fs.take i) 65535 fun f hf => (mayFs_each h f (List.mem_of_mem_take hf)).2.2
 have h2:=zkt h
 have h3 : (fs.take i).length ≤ 64:=by rw [List.length_take]; omega
 omega
theorem hdr3 {w : World} {g : Nat} {T : Int} {D0 : List Nat} {L : Nat} (h : w.heap[g]? = some (.cells #[.int .u8 T,.int .u8 ((L : Int) / 256),.int .u8 ((L : Int) % 256)] 5 (0,0))) (h1 : 1 ≤ T) (h2 : T ≤ 255) (h3 : L ≤ 65535) (hL : L = D0.length) : Bs w (some ⟨g,0,none⟩) (hdr (T,D0)):=by
 refine ⟨hdr_byt _,.inr ⟨g,0,rfl,(Array.getElem?_eq_some_iff.1 h).1,fun j hj => ?_⟩⟩
 rw [Nat.zero_add,cell_of_row w g j _ _ _ h]
 subst hL
 have e0 : (((T % 256).toNat : Nat) : Int) = T:=by omega
 have e1 : (((D0.length / 256 % 256 : Nat) : Nat) : Int) = (D0.length : Int) / 256:=by omega
 have e2 : (((D0.length % 256 : Nat) : Nat) : Int) = (D0.length : Int) % 256:=by omega
 match j,hj with
 | 0,_ => show some (Value.int .u8 T) = some (.int .u8 (((T % 256).toNat : Nat) : Int)); rw [e0]
 | 1,_ => show some (Value.int .u8 _) = some (.int .u8 ((D0.length / 256 % 256 : Nat) : Int)); rw [e1]
 | 2,_ => show some (Value.int .u8 _) = some (.int .u8 ((D0.length % 256 : Nat) : Int)); rw [e2]
theorem zhg (v : Value) (fs : List Fd) (w : World) (hF : Fl w v fs) (hM : mayFs fs = true) :
  Calls Tryz.prog 32 #[v] w fun e w' => e = .returned (.string (strL (encF fs))) ∧ Ext w w':=by
 obtain ⟨hB,AL,c,rfl,hc,hx⟩:=hF
 obtain ⟨n,hn⟩ : ∃ n,n = fs.length:=⟨_,rfl⟩
 rw [← hn] at hx hc ⊢
 have HR:=veil (And.intro hn (And.intro hM hB))
 have HX:=veil hx
 have hnL : n ≤ 64:=by rw [hn]; exact zkt hM
 clear hx hB hn hM
 go_enter Tryz.func32,Tryz.ntmps32
 go_wp2
 go_loopw [3,4,5] (fun s v _ wr => ∃ i : Nat,i ≤ n ∧ s = .string (strL (encF (fs.take i))) ∧ v = .int .i64 (i : Int) ∧ Ext w wr)
  (fun _ v _ _ => n - (intOf v).toNat)
 case atStart => exact ⟨0,by omega,rfl,rfl,Ext.refl _⟩
 case round =>
  obtain ⟨i,hi,rfl,rfl,hE⟩:=hrel
  by_cases hlt : i < n
  ·
   have hd1 : decide ((i : Int) < (n : Int)) = true:=by simp; omega
   have hii : (i : Int) < (n : Int):=by omega
   have hok:=zks HR.out.2.1 (by have:=HR.out.1; omega : i < fs.length)
   have hst:=encF_take fs (by have:=HR.out.1; omega : i < fs.length)
   have hle:=zej HR.out.2.1 i
   obtain ⟨b,o,hAL,hb,hcl⟩:=HX.out.resolve_left (by omega)
   obtain ⟨h1,A,c',h2,h3,h4⟩:=hcl i hlt
   have c0:=(hE.cell hb).trans h1
   have c1:=(hE.cell hb).trans h2
   have hS:=h4.ext hE
   obtain ⟨S,hSS⟩ : ∃ S,S = strL (encF (fs.take i)):=⟨_,rfl⟩
   rw [← hSS]
   have hs : (S.size : Int) ≤ 4194432:=by rw [hSS,zdm]; omega
   have HS:=veil (And.intro hSS hst)
   have hT1:=hok.1
   have hT2:=hok.2.1
   have hL1:=hok.2.2.1
   clear hcl h1 h2 hok hst hle hSS h4
   generalize tgF fs i = T at *
   generalize bsF fs i = D0 at *
   obtain ⟨L,hL⟩ : ∃ L,L = D0.length:=⟨_,rfl⟩
   rw [← hL] at c1 hL1 h3
   have HD:=veil (And.intro hL hS)
   clear hL hS
   subst hAL
   go_upto_region 6 with (fail)
   have hz:=HD.out.2
   refine zjw 24 [(true,[0,1,2,3,4,5,6,7,8,9,10,11,12,16,17,18,19,20,21]),(false,[13]),(true,[14,15,22,23])] (by kernel_rfl) (by kernel_rfl) fun Q' hQ' => ?_
   refine' zdn (A:=_) _ rfl (by kernel_rfl) ?h1 ?h2
   case h1 =>
    intro D hD hN
    have d0:=hD.cell c0
    have d1:=hD.cell c1
    have d2 : ∀ x : Gw D,(convert 24 9 (.slice A L c')).run Tryz.prog x.val = .ok (.string (strL D0)) x.val:=fun x => by
     exact str_of (hz.ext (hD.grown _ x.property)) HD.out.1
    simp only [pickI,consO,List.getElem?_cons_zero,List.getElem?_cons_succ]
    repeat (go_big_quiet_step (fail))
    exact zff
   refine zhe (vs:=[(0,.int .u8 T),(1,.int .u8 ((L : Int) / 256)),(2,.int .u8 ((L : Int) % 256))]) (C:=#[.int .u8 T,.int .u8 ((L : Int) / 256),.int .u8 ((L : Int) % 256)]) (e:=5) _ rfl rfl rfl rfl rfl (fun W => by simp [Instr.buildSlice,go_sem]) ?_
   intro g W hg hgb hEW
   simp only [aP,lA,lZ,lS]
   have hh:=hdr3 hgb hT1 hT2 hL1 HD.out.1
   refine' zdn (A:=_) _ rfl (by kernel_rfl) ?k1 ?k2
   case k1 =>
    intro D hD hN
    have d2 : ∀ x : Gw D,(convert 24 9 (.slice (some ⟨g,0,none⟩) 3 3)).run Tryz.prog x.val = .ok (.string (strL (hdr (T,D0)))) x.val:=fun x => by
     exact str_of (hh.ext (hD.grown _ x.property)) rfl
    have s1 : ((strL (hdr (T,D0))).size : Int) ≤ 3:=by rw [zdm]; exact Int.le_refl _
    have s2 : ((strL D0).size : Int) ≤ 65535:=by rw [zdm,← HD.out.1]; omega
    have s3 : ((S ++ strL (hdr (T,D0))).size : Int) ≤ 4194435:=by rw [ByteArray.size_append]; omega
    simp only [pickI,consO,List.getElem?_cons_zero,List.getElem?_cons_succ]
    repeat (go_big_quiet_step (fail))
    exact zff
   refine ziq hQ' fun W2 hE2 => ?_
   refine NoPanic.normal ?_
   go_wp2
   go_roundw
   case rel => exact ⟨i + 1,by omega,by rw [HS.out.2,zhd,HS.out.1]; unfold enc1; rw [zhd,ByteArray.append_assoc],by go_num,hE.trans (hEW.trans hE2)⟩
   case measure => simp [intOf]; omega
  ·
   obtain rfl : i = n:=by omega
   have e : encF (fs.take i) = encF fs:=by rw [HR.out.1,List.take_length]
   rw [e]
   go_wp2
   go_ret
   exact ⟨rfl,hE⟩
def cellsFs : List Fd → List (Option Addr × Nat) → List Value
 | f :: fs,a :: al => [.int .i64 f.1,.slice a.1 f.2.length a.2] ++ cellsFs fs al
 | _,_ => []
theorem zfc : ∀ {fs : List Fd} {al : List (Option Addr × Nat)} (f : Fd) (a : Option Addr × Nat),al.length = fs.length → cellsFs (fs ++ [f]) (al ++ [a]) = cellsFs fs al ++ [.int .i64 f.1,.slice a.1 f.2.length a.2]
 | [],[],_,_,_ => rfl
 | [],_ :: _,_,_,h => by simp at h
 | _ :: _,[],_,_,h => by simp at h
 | g :: fs,b :: al,f,a,h => by
  show [_,_] ++ cellsFs (fs ++ [f]) (al ++ [a]) = ([_,_] ++ cellsFs fs al) ++ _
  rw [zfc f a (by simpa using h),List.append_assoc]
theorem zju : ∀ {fs : List Fd} {al : List (Option Addr × Nat)} {i : Nat},al.length = fs.length → i < fs.length →
  (cellsFs fs al)[i * 2]? = some (.int .i64 (tgF fs i)) ∧ (cellsFs fs al)[i * 2 + 1]? = some (.slice (al.getD i (none,0)).1 (bsF fs i).length (al.getD i (none,0)).2)
 | [],_,_,_,h => by simp at h
 | _ :: _,[],_,h,_ => by simp at h
 | f :: fs,a :: al,0,_,_ => ⟨rfl,rfl⟩
 | f :: fs,a :: al,i + 1,h,hi => by
  have ih:=zju (fs:=fs) (al:=al) (i:=i) (by simpa using h) (by simpa using hi)
  have e : (i + 1) * 2 = i * 2 + 1 + 1:=by omega
  rw [e]
  exact ih
def Off (A : Option Addr) (bs : List Nat) (row : Option Nat) : Prop:=bs.length = 0 ∨ ∀ b o,A = some ⟨b,o,none⟩ → row ≠ some b
def OwnFs (w : World) (base : Nat) (v : Value) (fs : List Fd) : Prop:=BytF fs ∧ ∃ al : List (Option Addr × Nat),al.length = fs.length ∧ w.ownsRow base 75 2 v fs.length (cellsFs fs al) ∧
 ∀ i,i < fs.length → (bsF fs i).length ≤ (al.getD i (none,0)).2 ∧ Bs w (al.getD i (none,0)).1 (bsF fs i) ∧ Off (al.getD i (none,0)).1 (bsF fs i) v.ownBlock
theorem Bs.but {w w' : World} {A : Option Addr} {bs : List Nat} {row : Option Nat} (h : Bs w A bs) (k : w.grownBy w' row) (hne : Off A bs row) : Bs w' A bs:=by
 rcases hne with h0 | hne
 ·
  exact ⟨h.1,.inl h0⟩
 ·
  exact ⟨h.1,h.2.imp id fun ⟨b,o,e,hb,hc⟩ => ⟨b,o,e,Nat.lt_of_lt_of_le hb k.size,fun j hj => (World.cell?_of_block (a:=⟨b,o + j,none⟩) (k.block b hb (fun e2 => hne b o e e2.symm))).trans (hc j hj)⟩⟩
theorem OwnFs.nil (w : World) (base : Nat) : OwnFs w base (.slice none 0 0) []:=⟨fun _ h => (by cases h),[],rfl,World.ownsRow_nil _ _ _ _,fun i hi => by simp at hi⟩
theorem OwnFs.keep {w w' : World} {base : Nat} {v : Value} {fs : List Fd} (o : OwnFs w base v fs) (h : Ext w w') : OwnFs w' base v fs:=by
 obtain ⟨hB,al,hl,hr,hx⟩:=o
 refine ⟨hB,al,hl,⟨hr.1,?_⟩,fun i hi => ⟨(hx i hi).1,(hx i hi).2.1.ext h,(hx i hi).2.2⟩⟩
 rcases hr.2 with hn | ⟨g,cap,cur,rfl,hbg,hh,rest⟩
 ·
  exact .inl hn
 ·
  exact .inr ⟨g,cap,cur,rfl,hbg,h.block hh,rest⟩
theorem OwnFs.lt {w : World} {base : Nat} {v : Value} {fs : List Fd} (o : OwnFs w base v fs) {k : Nat} (hk : v.ownBlock = some k) : base ≤ k ∧ k < w.heap.size:=by
 obtain ⟨_,al,_,hr,_⟩:=o
 exact World.ownsRow.lt hr k hk
theorem OwnFs.fl {w : World} {base : Nat} {v : Value} {fs : List Fd} (o : OwnFs w base v fs) : Fl w v fs:=by
 obtain ⟨hB,al,hl,hr,hx⟩:=o
 rcases hr.2 with ⟨rfl,h0⟩ | ⟨g,cap,cur,rfl,hbg,hh,hn,hm,hs,ht⟩
 ·
  exact ⟨hB,none,0,by rw [h0],by omega,.inl h0⟩
 ·
  refine ⟨hB,_,cap,rfl,hn,?_⟩
  by_cases h0 : fs.length = 0
  ·
   exact .inl h0
  ·
   refine .inr ⟨g,0,rfl,(Array.getElem?_eq_some_iff.1 hh).1,fun i hi => ?_⟩
   have hcell : ∀ k,k < fs.length * 2 → w.cell? ⟨g,k,none⟩ = (cellsFs fs al)[k]?:=fun k hk => by
    rw [cell_of_row w g k cur _ _ hh,← ht,List.getElem?_take_of_lt hk]
    simp
   obtain ⟨c0,c1⟩:=zju hl hi
   refine ⟨by rw [Nat.zero_add,hcell _ (by omega)]; exact c0,_,_,by rw [Nat.zero_add,hcell _ (by omega)]; exact c1,(hx i hi).1,(hx i hi).2.1⟩
theorem infoF16 : (Tryz.prog.info? 75).map (fun i => (i.zero,i.size,i.bytes)) = some (some (.agg #[.int .i64 0,.slice none 0 0]),2,32):=by kernel_rfl
theorem zhu {i : Option TypeInfo} {z : Value} {n b : Nat} (h : i.map (fun i => (i.zero,i.size,i.bytes)) = some (some z,n,b)) : ∃ j,i = some j ∧ j.zero = some z ∧ j.size = n ∧ j.bytes = b:=by
 cases i with
 | none => simp at h
 | some j =>
  simp only [Option.map_some,Option.some.injEq,Prod.mk.injEq] at h
  exact ⟨j,rfl,h.1,h.2.1,h.2.2⟩
theorem tgF_lt {fs : List Fd} {f : Fd} {i : Nat} (h : i < fs.length) : tgF (fs ++ [f]) i = tgF fs i ∧ bsF (fs ++ [f]) i = bsF fs i:=by
 unfold tgF bsF
 simp only [List.getD_eq_getElem?_getD,List.getElem?_append_left h,and_self]
theorem tgF_last (fs : List Fd) (f : Fd) : tgF (fs ++ [f]) fs.length = f.1 ∧ bsF (fs ++ [f]) fs.length = f.2:=by
 unfold tgF bsF
 simp
theorem zjb {w : World} {base : Nat} {v : Value} {fs : List Fd} (ty : TypeId) (hown : OwnFs w base v fs) (g : Nat) (f : Fd) (a : Option Addr × Nat) (c1 : Nat)
  (hg : w.heap[g]? = some (.cells #[.int .i64 f.1,.slice a.1 f.2.length a.2] 75 (0,0))) (hc : f.2.length ≤ a.2) (hb : Bs w a.1 f.2) (hne : Off a.1 f.2 v.ownBlock)
  (hn : fs.length ≤ 1000000000) (hbase : base ≤ w.heap.size) :
  ∃ v' w',(Builtin.append_ #[73,73] ty #[v,.slice (some ⟨g,0,none⟩) 1 c1]).run Tryz.prog w = .ok v' w' ∧ OwnFs w' base v' (fs ++ [f]) ∧ w.grownBy w' v.ownBlock:=by
 obtain ⟨i,hi,hz,hsz,hby⟩:=zhu infoF16
 obtain ⟨hB,al,hl,hr,hx⟩:=hown
 obtain ⟨v',w',hrun,h2,h3,_,h5⟩:=run_append_own_at (P:=Tryz.prog) w base 73 ty 75 i _ 2 32 Tryz.underlying73 hi hz hsz hby rfl (by decide) v fs.length (cellsFs fs al) hr ⟨g,0,none⟩ 1 c1 [.int .i64 f.1,.slice a.1 f.2.length a.2] rfl
  (fun j u hu => by
   rw [Addr.add_mid,Nat.zero_add,cell_of_row w g j _ _ _ hg]
   simpa using hu)
  (fun u hu => by
   simp only [List.mem_cons,List.not_mem_nil,or_false] at hu
   rcases hu with rfl | rfl <;> rfl) (by unfold maxLen; omega) (by omega) hbase
 refine ⟨v',w',hrun,⟨?_,al ++ [a],by simp [hl],?_,fun k hk => ?_⟩,h3⟩
 ·
  intro x hx'
  rcases List.mem_append.1 hx' with h | h
  ·
   exact hB x h
  ·
   rw [List.mem_singleton.1 h]; exact hb.1
 ·
  rw [zfc f a hl,List.length_append]
  exact h2
 ·
  have hout : ∀ (A : Option Addr) (bs : List Nat),Bs w A bs → Off A bs v.ownBlock → Off A bs v'.ownBlock:=by
   intro A bs hA hn1
   rcases hn1 with h0 | hn1
   ·
    exact .inl h0
   ·
    rcases hA.2 with h | ⟨b',o',e',hb',_⟩
    ·
     exact .inl h
    ·
     refine .inr fun b o e e2 => ?_
     rw [e] at e'
     injection e' with e'
     injection e' with e4
     rcases h5 with h5 | h5
     ·
      rw [h5] at e2; exact hn1 b o e e2
     ·
      rw [h5] at e2
      have e3 : w.heap.size = b:=by injection e2
      omega
  rw [List.length_append,List.length_singleton] at hk
  by_cases hlt : k < fs.length
  ·
   obtain ⟨e1,e2⟩:=tgF_lt (f:=f) hlt
   have e3 : (al ++ [a]).getD k (none,0) = al.getD k (none,0):=by
    simp only [List.getD_eq_getElem?_getD,List.getElem?_append_left (show k < al.length by omega)]
   obtain ⟨x1,x2,x3⟩:=hx k hlt
   rw [e2,e3]
   exact ⟨x1,x2.but h3 x3,hout _ _ x2 x3⟩
  ·
   obtain rfl : k = fs.length:=by omega
   obtain ⟨e1,e2⟩:=tgF_last fs f
   have e3 : (al ++ [a]).getD fs.length (none,0) = a:=by
    rw [← hl]
    simp
   rw [e2,e3]
   exact ⟨hc,hb.but h3 hne,hout _ _ hb hne⟩
theorem infoT1 : (Tryz.prog.info? 5).map (fun i => (i.zero,i.size,i.bytes)) = some (some (.int .u8 0),1,1):=by kernel_rfl
def Fresh (w : World) (A : Option Addr) (bs : List Nat) : Prop:=bs.length = 0 ∨ ∀ b o,A = some ⟨b,o,none⟩ → w.heap.size ≤ b
theorem Fresh.off {w : World} {A : Option Addr} {bs : List Nat} {row : Option Nat} (h : Fresh w A bs) (hr : ∀ k,row = some k → k < w.heap.size) : Off A bs row :=
 h.imp id fun h b o e e2 => by have:=h b o e; have:=hr b e2; omega
theorem append_empty {w : World} (ty : TypeId) {g m c : Nat} {A : Option Addr} {bs : List Nat} (hg : w.heap[g]? = some (.cells #[] 5 (0,0))) (hb : Bs w A bs) (hm : m = bs.length) (hle : m ≤ 1000000000) :
  ∃ A' c' w',(Builtin.append_ #[24,24] ty #[.slice (some ⟨g,0,none⟩) 0 0,.slice A m c]).run Tryz.prog w = .ok (.slice A' m c') w' ∧ Ext w w' ∧ m ≤ c' ∧ Bs w' A' bs ∧ Fresh w A' bs:=by
 subst hm
 obtain ⟨i,hi,hz,hsz,hby⟩:=info_parts infoT1
 have hgl : g < w.heap.size:=(Array.getElem?_eq_some_iff.1 hg).1
 have o0 : Own w g 5 (.slice (some ⟨g,0,none⟩) 0 0) 0 (fun j => .int .u8 (bs.getD j 0 : Nat)) :=
  ⟨by simp,.inr ⟨g,0,#[],rfl,Nat.le_refl _,hg,Nat.le_refl _,by unfold maxLen; omega,by simp,by simp⟩⟩
 obtain ⟨v',w',hr,h2,h3,h5,_⟩:=zjj (P:=Tryz.prog) w g 24 ty 5 i _ 1 Tryz.underlying24 hi hz hsz hby rfl _ 0 _ o0 A bs.length c (fun j => .int .u8 (bs.getD j 0 : Nat)) hb.from (fun _ => rfl) (by unfold maxLen; omega) (by omega) (by omega)
 rw [Nat.zero_add] at h2
 have hO : OwnB w' g v' bs:=OwnB.of h2 hb.1 rfl fun j hj => by rw [if_neg (by omega),Nat.sub_zero]
 obtain ⟨A',c',rfl,hc',hB'⟩:=hO.bs
 by_cases h0 : bs.length = 0
 ·
  rcases A with _ | ad
  ·
   have hw : w' = w:=by
    have : (Builtin.append_ #[24,24] ty #[.slice (some ⟨g,0,none⟩) 0 0,.slice none bs.length c]).run Tryz.prog w = .ok (.slice (some ⟨g,0,none⟩) 0 0) w:=by
     rw [h0]
     simp [Builtin.append_,run_underlying Tryz.underlying24,sizeOf,typeInfo,hi,Builtin.lenOf,Builtin.firstCells,storeCells]
    rw [hr] at this
    injection this
   subst hw
   exact ⟨A',c',w',hr,Ext.refl _,hc',hB',.inl h0⟩
  ·
   have hr2:=run_append_room_cells (P:=Tryz.prog) (w:=w) 24 ty 5 i Tryz.underlying24 hi g 0 0 0 ad bs.length c [] (by rw [h0]; simp) (fun j u hu => by simp at hu) (fun u hu => by simp at hu) (by omega) (fun j hj => by simp at hj) (fun j hj => by simp at hj)
   rw [hr] at hr2
   injection hr2 with _ hw
   have hw' : w' = w:=hw
   subst hw'
   exact ⟨A',c',w',hr,Ext.refl _,hc',hB',.inl h0⟩
 ·
  rcases hb.2 with h | ⟨b,o,rfl,hbl,hcl⟩
  ·
   exact absurd h h0
  ·
   have hr2:=run_append_grow (P:=Tryz.prog) w 24 ty 5 i _ Tryz.underlying24 hi hz ⟨g,0,none⟩ 0 0 [] (by simp) (fun j u hu => by simp at hu) ⟨b,o,none⟩ bs.length c ((List.range bs.length).map fun j => .int .u8 (bs.getD j 0 : Nat)) (by simp [hsz]) (fun j u hu => by
    have hj : j < bs.length:=by have:=(List.getElem?_eq_some_iff.1 hu).1; simpa using this
    rw [Addr.add_mid,hcl j hj,← hu]; simp [hj]) (by omega) (by omega) (growslice_fits (by omega) (by rw [hby]; omega))
   rw [hr] at hr2
   injection hr2 with hv hw
   injection hv with hA _ _
   subst hA
   exact ⟨_,c',w',hr,by rw [hw]; exact (Ext.drew w).trans (Ext.alloc _ _),hc',hB',.inr fun b' o' e => by injection e with e; injection e with e; omega⟩
/-! ### in schedules -/
section
variable {Q : Exit → Act → World → Prop} {l : List Oper} {n k d : Nat} {r : Sched} {a : Act} {w : World}
theorem sched_val {v : Value} (o : Oper) (ho : l[k]? = some o) (hg : o.guard = none) (hd : o.dst = some d) (hm : ∀ W,Ext w W → (execOp a.eval o).run Tryz.prog W = .ok (.value v) W)
  (h : ∀ W,Ext w W → wpSched Tryz.prog l Q n r (a.put (some d) v) W) : wpSched Tryz.prog l Q n ((false,[k]) :: r) a w:=by
 refine zfw o ho hg fun W hW => ?_
 unfold Oper.wp
 rw [hm W hW,Oper.upon_value,hd]
 exact ⟨fun _ => Ext.refl W,h W hW⟩
theorem run_assign_v {o : Oper} {x : Operand} {v : Value} (ho : o.op = .assign x) (hx : a.eval x = v) (W : World) : (execOp a.eval o).run Tryz.prog W = .ok (.value v) W:=by
 unfold execOp
 simp only [ho,hx,Sem.run_pure]
theorem zkg {x : Operand} (v : Value) (o : Oper) (ho : l[k]? = some o) (hg : o.guard = none) (hd : o.dst = some d) (hop : o.op = .assign x) (hx : a.eval x = v)
  (h : ∀ W,Ext w W → wpSched Tryz.prog l Q n r (a.put (some d) v) W) : wpSched Tryz.prog l Q n ((false,[k]) :: r) a w:=sched_val o ho hg hd (fun W _ => run_assign_v hop hx W) h
theorem sched_append_fd {s x : Operand} {base g c : Nat} {v : Value} {fs : List Fd} {f : Fd} {al : Option Addr × Nat} (o : Oper) (ho : l[k]? = some o) (hgd : o.guard = none) (hop : o.op = .call { callee:=.builtin .append,args:=#[s,x],argTypes:=#[73,73] }) (hd : o.dst = some d)
  (hs : a.eval s = v) (hx : a.eval x = .slice (some ⟨g,0,none⟩) 1 c) (hkn : ¬ k < n) (hown : OwnFs w base v fs) (hg : w.heap[g]? = some (.cells #[.int .i64 f.1,.slice al.1 f.2.length al.2] 75 (0,0)))
  (hc : f.2.length ≤ al.2) (hb : Bs w al.1 f.2) (hne : Off al.1 f.2 v.ownBlock) (hn : fs.length ≤ 1000000000) (hbase : base ≤ w.heap.size)
  (h : ∀ v' W W',Ext w W → OwnFs W' base v' (fs ++ [f]) → W.grownBy W' v.ownBlock → wpSched Tryz.prog l Q n r (a.put (some d) v') W') : wpSched Tryz.prog l Q n ((false,[k]) :: r) a w:=by
 refine zfw o ho hgd fun W hW => ?_
 obtain ⟨v',w',hr,hO,hG⟩:=zjb (c1:=c) o.type (hown.keep hW) g f al (hW.block hg) hc (hb.ext hW) hne hn (Nat.le_trans hbase (Below.size hW))
 unfold Oper.wp execOp
 simp only [hop,resolve,invoke,builtin,Sem.run_bind,Sem.run_pure,Result.andThen_ok,List.map_toArray,List.map_cons,List.map_nil,hs,hx,hr]
 show (k < n → Ext W w') ∧ _
 rw [hd]
 exact ⟨fun h => absurd h hkn,h v' W w' hW hO hG⟩
end
theorem wpl_append0 {Q : Exit → Act → World → Prop} {ops : Array Oper} {rest : List Oper} {a : Act} {w : World} {s x : Operand} {g m c : Nat} {A : Option Addr} {bs : List Nat} {o : Oper} (hgd : o.guard = none) (hop : o.op = .call { callee:=.builtin .append,args:=#[s,x],argTypes:=#[24,24] })
  (hs : a.eval s = .slice (some ⟨g,0,none⟩) 0 0) (hx : a.eval x = .slice A m c) (hg : w.heap[g]? = some (.cells #[] 5 (0,0))) (hb : Bs w A bs) (hm : m = bs.length) (hle : m ≤ 1000000000)
  (h : ∀ A' c' W,Ext w W → m ≤ c' → Bs W A' bs → Fresh w A' bs → wpList Tryz.prog ops Q rest (a.put o.dst (.slice A' m c')) W) : wpList Tryz.prog ops Q (o :: rest) a w:=by
 refine wpList_plain hgd fun K hK => ?_
 obtain ⟨A',c',w',hr,hE,hc,hB,hF⟩:=append_empty (c:=c) o.type hg hb hm hle
 unfold Oper.wp execOp
 simp only [hop,resolve,invoke,builtin,Sem.run_bind,Sem.run_pure,Result.andThen_ok,List.map_toArray,List.map_cons,List.map_nil,hs,hx,hr]
 exact hK _ _ (h A' c' w' hE hc hB hF)
theorem cut_mid (A : Option Addr) (r c p n : Nat) (hp : p + n ≤ c) (w : World) {x y : Int} (hx : x = (p : Int)) (hy : y = ((p + n : Nat) : Int)) : (Instr.sliceAt 24 (.slice A r c) (some (.int .i64 x)) (some (.int .i64 y)) none).run Tryz.prog w = .ok (.slice (cutA A p c) n (c - p)) w:=by
 subst hx hy
 have e2 : ((sizeOf (Tryz.prog.elem 24)).run Tryz.prog w) = .ok 1 w:=by kernel_rfl
 rw [run_sliceAt_slice w 24 _ _ _ _ (by kernel_rfl),run_slice_lh w 24 A r c (by kernel_rfl) .i64 .i64 (p : Int) ((p + n : Nat) : Int) (by omega) (by omega) (by omega),e2]
 simp [sliced,Result.andThen,cutA]
 omega
theorem wpl_val {P : Program} {ops : Array Oper} {Q : Exit → Act → World → Prop} {rest : List Oper} {a : Act} {w : World} {o : Oper} (v : Value) (hg : o.guard = none) (hr : (execOp a.eval o).run P w = .ok (.value v) w) (h : wpList P ops Q rest (a.put o.dst v) w) : wpList P ops Q (o :: rest) a w:=by
 refine wpList_plain hg fun K hK => ?_
 unfold Oper.wp
 rw [hr,Oper.upon_value]
 exact hK _ _ h
theorem Fl.take {w : World} {A : Option Addr} {n c : Nat} {fs : List Fd} (h : Fl w (.slice A n c) fs) {m : Nat} (hm : m ≤ n) : Fl w (.slice A m c) (fs.take m):=by
 obtain ⟨hB,AL,c',he,hc,hx⟩:=h
 injection he with e1 e2 e3
 subst e1 e3
 have hl : (fs.take m).length = m:=by rw [List.length_take]; omega
 have hg : ∀ i,i < m → tgF (fs.take m) i = tgF fs i ∧ bsF (fs.take m) i = bsF fs i:=fun i hi => by
  unfold tgF bsF
  simp only [List.getD_eq_getElem?_getD,List.getElem?_take_of_lt hi,and_self]
 refine ⟨fun f hf => hB f (List.mem_of_mem_take hf),A,c,by rw [hl],by rw [hl]; omega,?_⟩
 rw [hl]
 by_cases h0 : m = 0
 ·
  exact .inl h0
 ·
  refine .inr ?_
  obtain ⟨b,o,e,hb,hcl⟩:=hx.resolve_left (by omega)
  refine ⟨b,o,e,hb,fun i hi => ?_⟩
  obtain ⟨g1,g2⟩:=hg i hi
  rw [g1,g2]
  exact hcl i (by omega)
def lowB (n i : Nat) : List Nat:=(List.range i).map fun j => n / 256 ^ (i - 1 - j) % 256
theorem zhs (n i : Nat) : (lowB n i).length = i:=by simp [lowB]
theorem lowB_succ (n i : Nat) : lowB n (i + 1) = [n / 256 ^ i % 256] ++ lowB n i:=by
 apply List.ext_getElem?
 intro j
 by_cases h0 : j = 0
 ·
  subst h0; simp [lowB]
 ·
  obtain ⟨k,rfl⟩ : ∃ k,j = k + 1:=⟨j - 1,by omega⟩
  rw [List.singleton_append,List.getElem?_cons_succ]
  by_cases hk : k < i
  ·
   simp [lowB,hk]
   congr 3
   omega
  ·
   rw [List.getElem?_eq_none (by rw [zhs]; omega),List.getElem?_eq_none (by rw [zhs]; omega)]
theorem lowB_num {n : Nat} (h : n ≤ 9223372036854775807) : lowB n 8 = numB n:=by
 unfold lowB numB
 rw [show ((n : Nat) : Int) % 18446744073709551616 = (n : Int) by omega]
 simp
theorem infoT9 : (Tryz.prog.info? 5).map (fun i => (i.zero,i.size,i.bytes)) = some (some (.int .u8 0),1,1):=by kernel_rfl
theorem rnum8_calls (n : Nat) (hn : n ≤ 9223372036854775807) (w : World) :
  Calls Tryz.prog 65 #[.int .i64 (n : Int)] w fun e w' => e = .returned (.string (strL (numB n))) ∧ Ext w w':=by
 have HN:=veil hn
 go_enter Tryz.func65,Tryz.ntmps65
 go_wp2_with fail
 go_loopw [0,3,4] (fun x v u wr => ∃ i : Nat,i ≤ 8 ∧ u = .int .i64 (i : Int) ∧ x = .int .i64 ((n / 256 ^ i : Nat) : Int) ∧ OwnB wr w.heap.size v (lowB n i) ∧ Ext w wr)
  (fun _ _ v _ => 8 - (intOf v).toNat)
 case atStart => exact ⟨0,by omega,rfl,by simp,OwnB.nil _ _,Ext.refl _⟩
 case round =>
  obtain ⟨i,hi,rfl,rfl,hO,hE⟩:=hrel
  by_cases hlt : i < 8
  ·
   have hii : (i : Int) < 8:=by omega
   have hq : n / 256 ^ i ≤ 9223372036854775807:=Nat.le_trans (Nat.div_le_self _ _) hn
   have hs : n / 256 ^ (i + 1) = n / 256 ^ i / 256:=by rw [Nat.pow_succ,← Nat.div_div_eq_div_mul]
   have hl:=lowB_succ n i
   have hlen:=zhs n i
   generalize n / 256 ^ i = q at *
   have HH:=veil (And.intro hs (And.intro hl hO))
   obtain ⟨L,hL⟩ : ∃ L,L = lowB n i:=⟨_,rfl⟩
   obtain ⟨A,c,hv,hc,hB⟩:=hO.bs
   rw [← hL] at hv hc hB hlen
   have HL:=veil (And.intro hL (And.intro hB hlen))
   have kq : (q : Int) ≤ 9223372036854775807:=by omega
   subst hv
   obtain ⟨i8,hi8,hz0,hz1,hz2⟩:=info_parts infoT9
   have HI:=veil (And.intro hi8 (And.intro hz0 (And.intro hz1 hz2)))
   have eq1 : (((q % 256 : Nat) : Nat) : Int) = (q : Int) % 256:=by omega
   have hmade : Own (wr.alloc (.cells #[.int .u8 ((q : Int) % 256)] 5)) w.heap.size 5 (.slice (some ⟨wr.heap.size,0,none⟩) 1 1) 1 (fun j => .int .u8 ([q % 256].getD j 0 : Nat)) :=
    (Own.made (f:=fun j => .int .u8 ([q % 256].getD j 0 : Nat)) wr (cs:=#[.int .u8 ((q : Int) % 256)]) (Nat.le_refl _) (by show 1 ≤ _; unfold maxLen; decide) fun j hj => by
     have h0 : j = 0:=by simp at hj; omega
     subst h0
     show some (Value.int .u8 ((q : Int) % 256)) = some (.int .u8 ((q % 256 : Nat) : Int))
     rw [eq1]).base_le (Below.size hE)
   have hfrom:=(HL.out.2.1.ext (Ext.alloc wr (.cells #[.int .u8 ((q : Int) % 256)] 5))).from
   have hEa:=hE.trans (Ext.alloc wr (.cells #[.int .u8 ((q : Int) % 256)] 5))
   have hbz : w.heap.size ≤ wr.heap.size + 1:=by have:=Below.size hE; omega
   have HM:=veil (And.intro hmade (And.intro hfrom hEa))
   have hLl : L.length ≤ 8:=by omega
   clear hi8 hz0 hz1 hz2 eq1 hmade hfrom hEa
   go_wp2_with ((with_reducible refine zac 14 ?_); refine zae _ rfl _ _ 24 rfl w.heap.size 5 i8 (.int .u8 0) 1 Tryz.underlying24 HI.out.1 HI.out.2.1 HI.out.2.2.1 HI.out.2.2.2 rfl _ 1 _ rfl HM.out.1 A L.length c rfl _ HM.out.2.1 (fun _ => rfl) (by unfold maxLen; omega) (by omega) (by simpa using hbz) ?_; intro v6 w6 hO6 hg6 hat6; clear hat6)
   go_roundw
   case rel =>
    refine ⟨i + 1,by omega,by go_num,?_,?_,?_⟩
    ·
     rw [HH.out.1]; simp
    ·
     rw [HH.out.2.1,← HL.out.1]
     exact OwnB.append hO6 (fun x hx => by rw [List.mem_singleton.1 hx]; exact Nat.mod_lt _ (by decide)) HL.out.2.1.1 rfl rfl
    ·
     exact HM.out.2.2.grown hg6 (by simpa using hbz) fun k hk => (HM.out.1.lt hk).1
   case measure => simp [intOf]; omega
  ·
   obtain rfl : i = 8:=by omega
   obtain ⟨A,c,rfl,hc,hB⟩:=hO.bs
   have k1 : (convert 24 9 (.slice A (lowB n 8).length c)).run Tryz.prog wr = .ok (.string (strL (lowB n 8))) wr:=str_of hB rfl
   rw [lowB_num hn] at *
   clear hO hB
   go_wp2_with fail
   go_ret
   exact ⟨rfl,hE⟩
theorem zmj {bs : List Nat} (hb : Byt bs) (w : World) : ∃ A' c' w',(convert 9 24 (.string (strL bs))).run Tryz.prog w = .ok (.slice A' bs.length c') w' ∧ Ext w w' ∧ bs.length ≤ c' ∧ Bs w' A' bs ∧ Fresh w A' bs:=by
 have h:=run_bytes_of_string (P:=Tryz.prog) w 9 24 5 (strL bs) Tryz.underlying9 Tryz.underlying24 Tryz.underlying5
 rw [zdm] at h
 refine ⟨_,_,_,h,(Ext.drew w).trans (Ext.alloc _ _),grownCap_ge _ _ _ _,⟨hb,.inr ⟨w.heap.size,0,rfl,by simp,fun j hj => ?_⟩⟩,.inr fun b o e => by injection e with e; injection e with e; omega⟩
 have hblk : (w.drew.alloc (.cells (bytesRow (strL bs) (grownCap w bs.length 0 5)) 5 ((bytesRow (strL bs) (grownCap w bs.length 0 5)).size,(bytesRow (strL bs) (grownCap w bs.length 0 5)).size + 1))).heap[w.heap.size]? = some (.cells (bytesRow (strL bs) (grownCap w bs.length 0 5)) 5 ((bytesRow (strL bs) (grownCap w bs.length 0 5)).size,(bytesRow (strL bs) (grownCap w bs.length 0 5)).size + 1)):=zah _ _
 rw [Nat.zero_add,cell_of_row _ _ j _ _ _ hblk]
 unfold bytesRow
 have hlt : j < (strL bs).data.size:=by
  show j < (strL bs).size
  rw [zdm]; exact hj
 rw [Array.getElem?_append_left (by simpa using hlt)]
 have e : (strL bs).data[j]'hlt = UInt8.ofNat (bs.getD j 0):=by
  simp only [strL]
  rw [List.getD_eq_getElem?_getD,List.getElem?_eq_getElem hj]
  simp
 have hj2:=hb.getD j
 have e3 : (UInt8.ofNat (bs.getD j 0)).toNat = bs.getD j 0:=by
  generalize bs.getD j 0 = x at hj2 ⊢
  simp
  omega
 rw [Array.getElem?_map,Array.getElem?_eq_getElem hlt,Option.map_some,e,e3]
def Is (w : World) (v : Value) (l : List Int) : Prop:=∃ A c,v = .slice A l.length c ∧ l.length ≤ c ∧ (l.length = 0 ∨ ∃ b o,A = some ⟨b,o,none⟩ ∧ b < w.heap.size ∧ ∀ i,i < l.length → w.cell? ⟨b,o + i,none⟩ = some (.int .i64 (l.getD i 0)))
theorem Is.ext {w w' : World} {v : Value} {l : List Int} (h : Is w v l) (k : Ext w w') : Is w' v l:=by
 obtain ⟨A,c,e,hc,h⟩:=h
 exact ⟨A,c,e,hc,h.imp id fun ⟨b,o,e,hb,hx⟩ => ⟨b,o,e,Nat.lt_of_lt_of_le hb k.size,fun i hi => (k.cell hb).trans (hx i hi)⟩⟩
section
variable {Q : Exit → Act → World → Prop} {ops : Array Oper} {rest : List Oper} {a : Act} {w : World} {o : Oper}
theorem wpl_bytes {x : Operand} {bs : List Nat} (hgd : o.guard = none) (hop : o.op = .convert 9 24 x) (hx : a.eval x = .string (strL bs)) (hb : Byt bs)
  (h : ∀ A' c' W,Ext w W → bs.length ≤ c' → Bs W A' bs → Fresh w A' bs → wpList Tryz.prog ops Q rest (a.put o.dst (.slice A' bs.length c')) W) : wpList Tryz.prog ops Q (o :: rest) a w:=by
 refine wpList_plain hgd fun K hK => ?_
 obtain ⟨A',c',w',hr,hE,hc,hB,hF⟩:=zmj hb w
 unfold Oper.wp execOp
 simp only [hop,hx,Sem.run_bind,hr,Result.andThen_ok,Sem.run_pure]
 exact hK _ _ (h A' c' w' hE hc hB hF)
theorem zcw {s x : Operand} {base g c : Nat} {v : Value} {fs : List Fd} {f : Fd} {al : Option Addr × Nat} (hgd : o.guard = none) (hop : o.op = .call { callee:=.builtin .append,args:=#[s,x],argTypes:=#[73,73] })
  (hs : a.eval s = v) (hx : a.eval x = .slice (some ⟨g,0,none⟩) 1 c) (hown : OwnFs w base v fs) (hg : w.heap[g]? = some (.cells #[.int .i64 f.1,.slice al.1 f.2.length al.2] 75 (0,0)))
  (hc : f.2.length ≤ al.2) (hb : Bs w al.1 f.2) (hne : Off al.1 f.2 v.ownBlock) (hn : fs.length ≤ 1000000000) (hbase : base ≤ w.heap.size)
  (h : ∀ v' W,OwnFs W base v' (fs ++ [f]) → w.grownBy W v.ownBlock → wpList Tryz.prog ops Q rest (a.put o.dst v') W) : wpList Tryz.prog ops Q (o :: rest) a w:=by
 refine wpList_plain hgd fun K hK => ?_
 obtain ⟨v',w',hr,hO,hG⟩:=zjb (c1:=c) o.type hown g f al hg hc hb hne hn hbase
 unfold Oper.wp execOp
 simp only [hop,resolve,invoke,builtin,Sem.run_bind,Sem.run_pure,Result.andThen_ok,List.map_toArray,List.map_cons,List.map_nil,hs,hx,hr]
 exact hK _ _ (h v' w' hO hG)
end
theorem rbody8_calls (v : Value) (l : List Int) (w : World) (hI : Is w v l) (hL : l.length ≤ 64) (hn : ∀ n ∈ l,0 ≤ n ∧ n ≤ 9223372036854775807) :
  Calls Tryz.prog 31 #[v] w fun e w' => e = .returned (.string (strL (bodyB l))) ∧ Ext w w':=by
 obtain ⟨A,c,rfl,hc,hx⟩:=hI
 obtain ⟨n,hnl⟩ : ∃ n,n = l.length:=⟨_,rfl⟩
 rw [← hnl] at hx hc ⊢
 have HX:=veil (And.intro hx (And.intro hnl hn))
 have hnL : n ≤ 64:=by omega
 clear hx hnl hn hL
 go_enter Tryz.func31,Tryz.ntmps31
 go_wp2
 go_loopw [3,4] (fun v u wr => ∃ i : Nat,i ≤ n ∧ u = .int .i64 (i : Int) ∧ OwnFs wr w.heap.size v (numFs 1 (l.take i)) ∧ Ext w wr)
  (fun _ v _ => n - (intOf v).toNat)
 case atStart => exact ⟨0,by omega,rfl,OwnFs.nil _ _,Ext.refl _⟩
 case round =>
  obtain ⟨i,hi,rfl,hO,hE⟩:=hrel
  by_cases hlt : i < n
  ·
   have hd1 : decide ((i : Int) < (n : Int)) = true:=by simp; omega
   have hii : (i : Int) < (n : Int):=by omega
   obtain ⟨b,o,hA,hb,hcl⟩:=HX.out.1.resolve_left (by omega)
   have c0:=(hE.cell hb).trans (hcl i hlt)
   have hil : i < l.length:=by have:=HX.out.2.1; omega
   obtain ⟨X,hX⟩ : ∃ X,X = l.getD i 0:=⟨_,rfl⟩
   rw [← hX] at c0
   have hX2 : 0 ≤ X ∧ X ≤ 9223372036854775807:=by
    rw [hX,List.getD_eq_getElem?_getD,List.getElem?_eq_getElem hil]
    exact HX.out.2.2 _ (List.getElem_mem hil)
   obtain ⟨k,hk⟩ : ∃ k : Nat,X = (k : Int):=⟨X.toNat,by omega⟩
   have htk : numFs 1 (l.take (i + 1)) = numFs 1 (l.take i) ++ [((i : Int) + 1,numB (k : Int))]:=by
    have e : l.take (i + 1) = l.take i ++ [X]:=by
     rw [List.take_add_one,List.getElem?_eq_getElem hil,hX,List.getD_eq_getElem?_getD,List.getElem?_eq_getElem hil]
     rfl
    rw [e,numFs_snoc,List.length_take,hk,show min i l.length = i by omega,show (1 : Int) + (i : Int) = (i : Int) + 1 by omega]
   have hfl : (numFs 1 (l.take i)).length ≤ 1000000000:=by rw [zei,List.length_take]; omega
   subst hk
   have HH:=veil (And.intro htk (And.intro hO (And.intro hE hfl)))
   have KN:=veil (rnum8_calls k (by omega) wr)
   have hlen:=zbz (k : Int)
   subst hA
   clear hX hX2 htk hO hE hfl hcl
   go_wp2_with (first
    | (go_at_call 65; refine KN.out.mono ?_; rintro e w1 ⟨rfl,hE1⟩)
    | ((with_reducible refine zac 19 ?_); refine wpl_bytes rfl rfl rfl (numB_byt _) ?_; intro A' c' w2 hE2 hc' hB2 hF2)
    | ((with_reducible refine zac 22 ?_); refine zcw (f:=((i : Int) + 1,numB (k : Int))) (al:=(A',c')) rfl rfl rfl rfl (HH.out.2.1.keep ((hE1.trans hE2).trans (Ext.alloc w2 _))) (by rw [hlen]; exact zah w2 _) hc' (hB2.ext (Ext.alloc w2 _)) (hF2.off fun j hj => Nat.lt_of_lt_of_le (HH.out.2.1.lt hj).2 (Below.size hE1)) HH.out.2.2.2 (Nat.le_trans (Below.size HH.out.2.2.1) (Below.size ((hE1.trans hE2).trans (Ext.alloc w2 _)))) ?_; intro v' w5 hO5 hG5))
   have hEw:=HH.out.2.2.1.trans ((hE1.trans hE2).trans (Ext.alloc w2 (.cells #[.int .i64 ((i : Int) + 1),.slice A' 8 c'] 75)))
   go_roundw
   case rel =>
    refine ⟨i + 1,by omega,by go_num,?_,hEw.grown hG5 (Below.size hEw) fun j hj => (HH.out.2.1.lt hj).1⟩
    rw [HH.out.1]
    exact hO5
   case measure => simp [intOf]; omega
  ·
   obtain rfl : i = n:=by omega
   have hd1 : decide ((i : Int) < (i : Int)) = false:=by simp
   have e : l.take i = l:=by rw [HX.out.2.1,List.take_length]
   rw [e] at hO
   have KP:=veil (zhg _ (numFs 1 l) wr hO.fl (numFs_may (by have:=HX.out.2.1; omega)))
   clear hO e
   go_wp2_with (go_at_call 32; refine KP.out.mono ?_; rintro e w1 ⟨rfl,hE1⟩)
   go_ret
   exact ⟨rfl,hE.trans hE1⟩
theorem off_old {w : World} {A : Option Addr} {bs : List Nat} {row : Option Nat} (h : Bs w A bs) (hr : ∀ k,row = some k → w.heap.size ≤ k) : Off A bs row:=by
 rcases h.2 with h0 | ⟨b,o,e,hb,_⟩
 ·
  exact .inl h0
 ·
  refine .inr fun b' o' e' e2 => ?_
  rw [e] at e'
  injection e' with e'
  injection e' with e3 _ _
  subst e3
  have:=hr b e2
  omega
theorem zjc (X : Array Value) (r : Rc) (w : World) (hF : Rv17 w X r) (hM : mayC r = true) :
  Calls Tryz.prog 12 #[.agg X] w fun e w' => e = .returned (.string (strL (rcB r))) ∧ Ext w w':=by
 have hE0:=Ext.alloc w (.cells X 26)
 have hA:=RcAt.new w X
 have hF0:=hF
 obtain ⟨hw,A,c,hX,hc,hB⟩:=hF
 rw [hX] at hA
 obtain ⟨c0,c1,c2,c3,c4,c5,c6,c7,c8⟩:=hA.cells
 have hP:=hA.prev hw
 rw [← hX] at c0 c1 c2 c3 c4 c5 c6 c7 c8 hP
 obtain ⟨hn,hl5⟩:=zen hM
 have hmf:=flC_may (r:=r) hw.1 (by omega)
 have hbl:=zew (r:=r) hw.1
 have e2:=rcB_two r
 have h32:=hw.1
 have HF:=veil (And.intro hE0 (And.intro (hB.ext hE0) (And.intro hP (And.intro hmf (And.intro hn e2)))))
 have hbs:=hB.ext hE0
 have hp9 : mayFs [(9,r.pv),(10,r.bs)] = true:=by
  refine decide_eq_true ⟨(by decide : (2 : Nat) ≤ 64),fun i hi => ?_⟩
  match i,hi with
  | 0,_ => exact ⟨(by decide : (1 : Int) ≤ 9),(by decide : (9 : Int) ≤ 255),(show r.pv.length ≤ 65535 by omega),fun h => absurd h (by decide)⟩
  | 1,_ => exact ⟨(by decide : (1 : Int) ≤ 10),(by decide : (10 : Int) ≤ 255),(show r.bs.length ≤ 65535 by omega),fun _ => (by decide : (9 : Int) < 10)⟩
 have z1 : (strL (bodyB r.nums)).size = (bodyB r.nums).length:=zdm _
 have z2 : (strL (encF [(9,r.pv),(10,r.bs)])).size = (encF [(9,r.pv),(10,r.bs)]).length:=zdm _
 have z3 : (bodyB r.nums).length + (encF [(9,r.pv),(10,r.bs)]).length = 126 + r.bs.length:=by rw [← hbl,e2,List.length_append]
 have HZ:=veil (And.intro z1 (And.intro z2 (And.intro z3 (And.intro hl5 (And.intro hc hp9)))))
 clear hF0 hX hB hA hw hP hmf hn e2 hE0 hbs z1 z2 z3 hbl hM hp9 hc
 obtain ⟨dv,sq,mi,kd,st,zn,sr,vd,pv,bs⟩:=r
 simp only at c0 c1 c2 c3 c4 c5 c6 c7 c8 HF HZ h32 hl5
 obtain ⟨T,hT⟩ : ∃ T,T = strL (rcB ⟨dv,sq,mi,kd,st,zn,sr,vd,pv,bs⟩):=⟨_,rfl⟩
 rw [← hT]
 have HT:=veil hT
 clear hT
 go_enter Tryz.func12,Tryz.ntmps12
 go_upto_region 1 with (fail)
 obtain ⟨g,hg⟩ : ∃ g,g = w.heap.size:=⟨_,rfl⟩
 rw [← hg] at HF c0 c1 c2 c3 c4 c5 c6 c7 c8 ⊢
 generalize w.alloc (.cells X 26) = w1 at *
 have hI : Is (w1.alloc (.cells #[.int .i64 dv,.int .i64 sq,.int .i64 mi,.int .i64 kd,.int .i64 st,.int .i64 zn,.int .i64 sr,.int .i64 vd] 3)) (.slice (some ⟨w1.heap.size,0,none⟩) 8 8) (Rc.nums ⟨dv,sq,mi,kd,st,zn,sr,vd,pv,bs⟩):=by
  refine ⟨_,8,rfl,Nat.le_refl _,.inr ⟨w1.heap.size,0,rfl,by simp,fun i hi => ?_⟩⟩
  rw [Nat.zero_add,cell_of_row _ _ i _ _ _ (zah w1 _)]
  match i,hi with
  | 0,_ | 1,_ | 2,_ | 3,_ | 4,_ | 5,_ | 6,_ | 7,_ => rfl
 have KB:=veil (rbody8_calls _ _ _ hI (show (8 : Nat) ≤ 64 by decide) fun n hn => by have:=HF.out.2.2.2.2.1 n hn; omega)
 have KE:=veil (Ext.alloc w1 (.cells #[.int .i64 dv,.int .i64 sq,.int .i64 mi,.int .i64 kd,.int .i64 st,.int .i64 zn,.int .i64 sr,.int .i64 vd] 3))
 clear hI hg
 obtain ⟨T1,hT1⟩ : ∃ T,T = strL (bodyB (Rc.nums ⟨dv,sq,mi,kd,st,zn,sr,vd,pv,bs⟩)):=⟨_,rfl⟩
 rw [← hT1] at KB HZ
 have HT1:=veil hT1
 clear hT1
 go_upto_region 3 with (go_at_call 31; refine KB.out.mono ?_; rintro e w2 ⟨rfl,hE2⟩)
 have hE12:=KE.out.trans hE2
 have H2:=veil (And.intro (HF.out.1.trans hE12) (And.intro (HF.out.2.1.ext hE12) (And.intro (HF.out.2.2.1.ext hE12) hE12)))
 have c8':=(hE12.cell (b:=g) (o:=40) (World.block_lt_of_cell? w1 ⟨g,40,none⟩ c8)).trans c8
 clear hE2 hE12 KB KE c0 c1 c2 c3 c4 c5 c6 c7 c8
 have c8:=c8'
 clear c8'
 go_upto_region 4 with ((with_reducible refine zac 28 ?_); refine zcw (f:=(9,pv)) (al:=(some ⟨g,8,none⟩,32)) rfl rfl rfl rfl (OwnFs.nil _ w2.heap.size) (by rw [h32]; exact zah w2 _) (by rw [h32]; exact Nat.le_refl _) (H2.out.2.2.1.ext (Ext.alloc w2 _)) (.inr fun _ _ _ h => by cases h) (by decide) (Below.size (Ext.alloc w2 _)) ?_; intro v' w3 hO3 hG3)
 have hEa:=H2.out.1.trans (Ext.alloc w2 (.cells #[.int .i64 9,.slice (some ⟨g,8,none⟩) 32 32] 75))
 have hE3:=(Ext.alloc w2 (.cells #[.int .i64 9,.slice (some ⟨g,8,none⟩) 32 32] 75))
 have hE23 : Ext w2 w3:=hE3.grown hG3 (Below.size hE3) fun j hj => (by cases hj)
 have c8':=(hE23.cell (b:=g) (o:=40) (World.block_lt_of_cell? w2 ⟨g,40,none⟩ c8)).trans c8
 have H3:=veil (And.intro (H2.out.1.trans hE23) (And.intro (H2.out.2.1.ext hE23) (And.intro hO3 (And.intro hE23 (Below.size hE23)))))
 clear hEa hE3 hE23 hO3 hG3 c8
 have c8:=c8'
 clear c8'
 go_upto_region 5 with ((with_reducible refine zac 34 ?_); refine zcw (f:=(10,bs)) (al:=(A,c)) rfl rfl rfl rfl (H3.out.2.2.1.keep (Ext.alloc w3 _)) (zah w3 _) HZ.out.2.2.2.2.1 (H3.out.2.1.ext (Ext.alloc w3 _)) (off_old H2.out.2.1 fun k hk => (H3.out.2.2.1.lt hk).1) (by simp) (Nat.le_trans H3.out.2.2.2.2 (Below.size (Ext.alloc w3 _))) ?_; intro v'' w4 hO4 hG4)
 have hEb:=H3.out.2.2.2.1.trans (Ext.alloc w3 (.cells #[.int .i64 10,.slice A bs.length c] 75))
 have hE24 : Ext w2 w4:=hEb.grown hG4 (Below.size hEb) fun j hj => (H3.out.2.2.1.lt hj).1
 have KP:=veil (zhg v'' [(9,pv),(10,bs)] w4 hO4.fl HZ.out.2.2.2.2.2)
 have H4:=veil (H2.out.1.trans hE24)
 clear hEb hE24 hO4 hG4 c8
 obtain ⟨T2,hT2⟩ : ∃ T,T = strL (encF [(9,pv),(10,bs)]):=⟨_,rfl⟩
 rw [← hT2] at KP HZ
 have z0 : T1.size + T2.size ≤ 1000000:=by have:=HZ.out; omega
 have hR : T1 ++ T2 = T:=by rw [HT.out,HT1.out,hT2,HF.out.2.2.2.2.2,zhd]
 have HR:=veil hR
 clear hT2 hR
 go_wp2_with (go_at_call 32; refine KP.out.mono ?_; rintro e w5 ⟨rfl,hE5⟩)
 go_ret
 exact ⟨by rw [← HR.out]; rfl,H4.out.trans hE5⟩
theorem zcq {bs : List Nat} : getFs bs = match parse bs with | some fs => if mayFs fs = true then some fs else none | none => none:=by
 unfold getFs
 cases parse bs with
 | none => rfl
 | some fs => cases h : mayFs fs <;> simp [Option.filter,h]
def PutA (w' : World) (fs : List Fd) (x ev : Value) : Prop :=
 (mayFs fs = false ∧ (∃ A c,x = .slice A 0 c) ∧ ev = .iface 37 (.int .i64 1)) ∨
 (mayFs fs = true ∧ ev = .nilIface ∧ ∃ A c,x = .slice A (encF fs).length c ∧ (encF fs).length ≤ c ∧ Bs w' A (encF fs))
def GetA (w' : World) (bs : List Nat) (x ev : Value) : Prop :=
 (getFs bs = none ∧ (∃ A c,x = .slice A 0 c) ∧ ev = .iface 37 (.int .i64 2)) ∨ (∃ fs,getFs bs = some fs ∧ ev = .nilIface ∧ Fl w' x fs)
def OfA (bs : List Nat) (x ev : Value) : Prop:=(ofB bs < 0 ∧ x = .int .i64 0 ∧ ev = .iface 37 (.int .i64 2)) ∨ (0 ≤ ofB bs ∧ x = .int .i64 (ofB bs) ∧ ev = .nilIface)
structure Code8 : Prop where
 may : ∀ (v : Value) (fs : List Fd) (w : World),Fl w v fs → fs.length ≤ 1000000000 → Calls Tryz.prog 109 #[v] w fun e w' => e = .returned (.bool (mayFs fs)) ∧ Ext w w'
 put : ∀ (v : Value) (fs : List Fd) (w : World),Fl w v fs → fs.length ≤ 1000000000 → Calls Tryz.prog 56 #[v] w fun e w' => ∃ x ev,e = .returned (.tuple #[x,ev]) ∧ Ext w w' ∧ PutA w' fs x ev
 get : ∀ (A : Option Addr) (m c : Nat) (bs : List Nat) (w : World),m = bs.length → m ≤ c → m ≤ 100000000 → Bs w A bs → Calls Tryz.prog 72 #[.slice A m c] w fun e w' => ∃ x ev,e = .returned (.tuple #[x,ev]) ∧ Ext w w' ∧ GetA w' bs x ev
 number : ∀ (n : Int) (w : World),-9223372036854775808 ≤ n → n ≤ 9223372036854775807 → Calls Tryz.prog 24 #[.int .i64 n] w fun e w' => ∃ A c,e = .returned (.slice A 8 c) ∧ 8 ≤ c ∧ Bs w' A (numB n) ∧ Ext w w'
 of : ∀ (A : Option Addr) (m c : Nat) (bs : List Nat) (w : World),m = bs.length → m ≤ c → Bs w A bs → Calls Tryz.prog 73 #[.slice A m c] w fun e w' => ∃ x ev,e = .returned (.tuple #[x,ev]) ∧ Ext w w' ∧ OfA bs x ev
theorem run_items (d : Nat) (xs ys : Array Value) (A B : Nat → Int) (w : World) : ∀ is : List Nat,(∀ i ∈ is,xs[i]? = some (vI vU (A i))) → (∀ i ∈ is,ys[i]? = some (vI vU (B i))) →
  (Op.eqItems (d + 1) 27 1 xs ys is).run Tryz.prog w = .ok (is.all fun i => A i == B i) w
 | [],_,_ => by simp [Op.eqItems]
 | i :: is,hx,hy => by
  have e1:=run_part_plain (P:=Tryz.prog) w (e:=27) (by kernel_rfl) (xs:=xs) (off:=i * 1) (v:=.int .u64 (A i)) (by rw [Nat.mul_one]; exact hx i (by simp))
  have e2:=run_part_plain (P:=Tryz.prog) w (e:=27) (by kernel_rfl) (xs:=ys) (off:=i * 1) (v:=.int .u64 (B i)) (by rw [Nat.mul_one]; exact hy i (by simp))
  have e3:=run_equalIn_int (P:=Tryz.prog) w d 27 .u64 .u64 (A i) (B i) Tryz.underlying27
  have ih:=run_items d xs ys A B w is (fun j hj => hx j (by simp [hj])) (fun j hj => hy j (by simp [hj]))
  simp only [Op.eqItems,Sem.run_bind,e1,e2,e3,Result.andThen_ok]
  by_cases h : A i = B i
  ·
   simp [h,ih]
  ·
   simp [h]
theorem eql4 (f g : Nat → Int) (w : World) : (binOp .eql 29 (.agg #[vI vU (f 0),vI vU (f 1),vI vU (f 2),vI vU (f 3)]) (.agg #[vI vU (g 0),vI vU (g 1),vI vU (g 2),vI vU (g 3)])).run Tryz.prog w = .ok (.bool ((List.range 4).all fun i => f i == g i)) w:=by
 obtain ⟨i,hi⟩ : ∃ i,Tryz.prog.info? 27 = some i:=Option.isSome_iff_exists.1 (by kernel_rfl)
 have hc : Tryz.prog.cellsOf 27 = 1:=by kernel_rfl
 rw [run_eql_struct,run_equalIn_array (P:=Tryz.prog) w 9999 _ _ Tryz.underlying29 hi,hc]
 rw [run_items 9998 _ _ f g w _ (fun j hj => arr4 (fun j => .int .u64 (f j)) j (by simpa using hj)) (fun j hj => arr4 (fun j => .int .u64 (g j)) j (by simpa using hj))]
 rfl
theorem all_wd (n X Y : Nat) : ((List.range n).all fun i => wd X i == wd Y i) = decide (X % w64 ^ n = Y % w64 ^ n):=by
 rw [Bool.eq_iff_iff]
 simp only [List.all_eq_true,List.mem_range,beq_iff_eq,decide_eq_true_eq]
 constructor
 ·
  intro h
  exact zmf zaq n fun i hi => by have:=h i hi; unfold wd at this; omega
 ·
  intro h i hi
  unfold wd
  rw [← zcr X n i hi,← zcr Y n i hi,h]
theorem zme {X Y : Nat} (hX : X < top) (hY : Y < top) (w : World) : (binOp .eql 29 (.agg #[vI vU (wd X 0),vI vU (wd X 1),vI vU (wd X 2),vI vU (wd X 3)]) (.agg #[vI vU (wd Y 0),vI vU (wd Y 1),vI vU (wd Y 2),vI vU (wd Y 3)])).run Tryz.prog w = .ok (.bool (decide (X = Y))) w:=by
 have h:=eql4 (wd X) (wd Y) w
 rw [all_wd 4 X Y] at h
 have e : (X % w64 ^ 4 = Y % w64 ^ 4) = (X = Y):=by rw [Nat.mod_eq_of_lt (show X < w64 ^ 4 from hX),Nat.mod_eq_of_lt (show Y < w64 ^ 4 from hY)]
 simpa [e] using h
theorem eql_num_same (X : Nat) (w : World) : (binOp .eql 29 (.agg #[vI vU (wd X 0),vI vU (wd X 1),vI vU (wd X 2),vI vU (wd X 3)]) (.agg #[vI vU (wd X 0),vI vU (wd X 1),vI vU (wd X 2),vI vU (wd X 3)])).run Tryz.prog w = .ok (.bool true) w:=by
 have h:=eql4 (wd X) (wd X) w
 rw [all_wd 4 X X] at h
 simpa using h
theorem infoN4 : (Tryz.prog.info? 29).map (·.size) = some 4:=by kernel_rfl
def nc (x : Nat) : Array Value:=#[vI vU (wd x 0),vI vU (wd x 1),vI vU (wd x 2),vI vU (wd x 3)]
def nv (x : Nat) : Value:=.agg (nc x)
theorem zch (x : Nat) : (nc x).all (·.oneCell') = true:=by simp [nc,Value.oneCell']
theorem iN (x : Nat) : (Tryz.prog.info? 29).map (·.size) = some (nc x).size:=by exact infoN4
theorem uN : Tryz.prog.underlying 29 = some (.array 4 27):=Tryz.underlying29
section
variable {P : Program} {o : Oper} {a : Act} {w : World}
theorem zab {f : FuncId} {fn : Func} {c : Code} (hf : P.funcs[f]? = some fn) (hname : (fn.name == "runtime.NumGoroutine") = false) (hb : fn.body = some c) (args : Array Value) (w : World) :
  (callFunc f args).run P w = .ok (.enter f args) w:=by
 have hn : ¬ fn.name = "runtime.NumGoroutine":=by simpa using hname
 simp [callFunc,go_sem,hf,hb,hn]
theorem zam {k : FuncId} {xs : List Operand} {ts : Array TypeId} {args : List Value} {v : Value} (ho : o.op = .call { callee:=.value (.func k),args:=xs.toArray,argTypes:=ts }) (hx : xs.map a.eval = args)
  (he : ∀ W,(callFunc k args.toArray).run P W = .ok (.enter k args.toArray) W) (hc : ∀ W,Ext w W → Calls P k args.toArray W fun e W' => e = .returned v ∧ Ext W W') : Made P o v a w :=
 made_call (fun W => by
  have h1 : execOp a.eval o = callFunc k (#[] ++ xs.toArray.map a.eval ++ #[]):=by
   cases o
   subst ho
   rfl
  rw [h1,List.map_toArray,hx]
  simpa using he W) hc
theorem zeb {op : BinOp} {x y : Operand} {ty ty2 : TypeId} {u v r : Value} (ho : o.op = .binOp op ty x y ty2) (hx : a.eval x = u) (hy : a.eval y = v)
  (hg : ∀ W,(eqGuard op ty x y u v).run P W = .ok () W) (hr : ∀ W,(binOp op ty u v).run P W = .ok r W) : Made P o r a w:=zbe fun W _ => by
 unfold execOp
 simp only [ho,hx,hy,Sem.run_bind,hg W,Result.andThen_ok,hr W,Sem.run_pure]
theorem made_slice {ty : TypeId} {x : Operand} {lo hi mx : Option Operand} {u v : Value} (ho : o.op = .slice ty x lo hi mx) (hx : a.eval x = u)
  (h : ∀ W,(Instr.sliceAt ty u (lo.map a.eval) (hi.map a.eval) (mx.map a.eval)).run P W = .ok v W) : Made P o v a w:=zbe fun W _ => by
 unfold execOp
 simp only [ho,hx,Sem.run_bind,h W,Result.andThen_ok,Sem.run_pure]
theorem neq_of {t : TypeId} {c d : Array Value} {b r : Bool} {W : World} (h : (binOp .eql t (.agg c) (.agg d)).run P W = .ok (.bool b) W) (hr : (!b) = r) : (binOp .neq t (.agg c) (.agg d)).run P W = .ok (.bool r) W:=by
 subst hr
 have h1 : (do pure (Value.bool (← Op.equal t (.agg c) (.agg d))) : Sem Value).run P W = .ok (.bool b) W:=h
 show (do pure (Value.bool (!(← Op.equal t (.agg c) (.agg d)))) : Sem Value).run P W = .ok (.bool (!b)) W
 simp only [Sem.run_bind,Sem.run_pure] at h1 ⊢
 generalize (Op.equal t (.agg c) (.agg d)).run P W = r at h1 ⊢
 cases r with
 | ok v w' =>
  simp only [Result.andThen_ok,Result.ok.injEq,Value.bool.injEq] at h1 ⊢
  exact ⟨by rw [h1.1],h1.2⟩
 | halt x w' => simp [Result.andThen] at h1
end
section
variable (W : World)
theorem hzN : (Instr.alloc 29 true (.tuple #[])).run Tryz.prog W = .ok (ptrTo W.heap.size) (W.alloc (.cells #[vI vU 0,vI vU 0,vI vU 0,vI vU 0] 29)):=by simp [Instr.alloc,go_sem]
theorem wd_z : wd 0 0 = 0 ∧ wd 0 1 = 0 ∧ wd 0 2 = 0 ∧ wd 0 3 = 0:=by decide
theorem bldN0 : (Instr.build 29 [].toArray).run Tryz.prog W = .ok (nv 0) W:=by
 obtain ⟨h0,h1,h2,h3⟩:=wd_z
 unfold nv nc
 rw [h0,h1,h2,h3]
 simp [Instr.build,go_sem]
end
theorem zdw {w : World} {o : Obj} {k : Nat} (hk : k = w.heap.size) : (w.alloc o).heap[k]? = some o:=by subst hk; exact zah w o
theorem blocks1 (w : World) (A : Obj) : Ext w (w.alloc A) ∧ (w.alloc A).heap[w.heap.size]? = some A:=⟨Ext.alloc _ _,zdw rfl⟩
theorem blocks2 (w : World) (A B : Obj) : Ext w ((w.alloc A).alloc B) ∧ ((w.alloc A).alloc B).heap[w.heap.size]? = some A ∧ ((w.alloc A).alloc B).heap[w.heap.size + 1]? = some B :=
 ⟨(Ext.alloc _ _).trans (Ext.alloc _ _),(Ext.alloc _ _).block (zdw rfl),zdw (by simp)⟩
theorem blocks3 (w : World) (A B C : Obj) : Ext w (((w.alloc A).alloc B).alloc C) ∧ (((w.alloc A).alloc B).alloc C).heap[w.heap.size]? = some A ∧ (((w.alloc A).alloc B).alloc C).heap[w.heap.size + 1]? = some B ∧ (((w.alloc A).alloc B).alloc C).heap[w.heap.size + 1 + 1]? = some C :=
 ⟨(Ext.alloc _ _).trans ((Ext.alloc _ _).trans (Ext.alloc _ _)),((Ext.alloc _ _).trans (Ext.alloc _ _)).block (zdw rfl),(Ext.alloc _ _).block (zdw (by simp)),zdw (by simp)⟩
theorem blocks4 (w : World) (A B C D : Obj) : Ext w ((((w.alloc A).alloc B).alloc C).alloc D) ∧ ((((w.alloc A).alloc B).alloc C).alloc D).heap[w.heap.size]? = some A ∧ ((((w.alloc A).alloc B).alloc C).alloc D).heap[w.heap.size + 1]? = some B ∧ ((((w.alloc A).alloc B).alloc C).alloc D).heap[w.heap.size + 1 + 1]? = some C ∧ ((((w.alloc A).alloc B).alloc C).alloc D).heap[w.heap.size + 1 + 1 + 1]? = some D :=
 ⟨(Ext.alloc _ _).trans ((Ext.alloc _ _).trans ((Ext.alloc _ _).trans (Ext.alloc _ _))),((Ext.alloc _ _).trans ((Ext.alloc _ _).trans (Ext.alloc _ _))).block (zdw rfl),((Ext.alloc _ _).trans (Ext.alloc _ _)).block (zdw (by simp)),(Ext.alloc _ _).block (zdw (by simp)),zdw (by simp)⟩
theorem zfg {P : Program} {c : Code} {Q : Exit → Act → World → Prop} {a : Act} {w : World} {A : Obj} (h : ∀ w1,Ext w w1 → w1.heap[w.heap.size]? = some A → c.wp P Q a w1) : c.wp P Q a (w.alloc A):=h _ (blocks1 w A).1 (blocks1 w A).2
theorem wp_via2 {P : Program} {c : Code} {Q : Exit → Act → World → Prop} {a : Act} {w : World} {A B : Obj} (h : ∀ w1,Ext w w1 → w1.heap[w.heap.size]? = some A → w1.heap[w.heap.size + 1]? = some B → c.wp P Q a w1) : c.wp P Q a ((w.alloc A).alloc B):=h _ (blocks2 w A B).1 (blocks2 w A B).2.1 (blocks2 w A B).2.2
theorem wp_via3 {P : Program} {c : Code} {Q : Exit → Act → World → Prop} {a : Act} {w : World} {A B C : Obj} (h : ∀ w1,Ext w w1 → w1.heap[w.heap.size]? = some A → w1.heap[w.heap.size + 1]? = some B → w1.heap[w.heap.size + 1 + 1]? = some C → c.wp P Q a w1) : c.wp P Q a (((w.alloc A).alloc B).alloc C):=h _ (blocks3 w A B C).1 (blocks3 w A B C).2.1 (blocks3 w A B C).2.2.1 (blocks3 w A B C).2.2.2
theorem wp_via4 {P : Program} {c : Code} {Q : Exit → Act → World → Prop} {a : Act} {w : World} {A B C D : Obj} (h : ∀ w1,Ext w w1 → w1.heap[w.heap.size]? = some A → w1.heap[w.heap.size + 1]? = some B → w1.heap[w.heap.size + 1 + 1]? = some C → w1.heap[w.heap.size + 1 + 1 + 1]? = some D → c.wp P Q a w1) : c.wp P Q a ((((w.alloc A).alloc B).alloc C).alloc D):=h _ (blocks4 w A B C D).1 (blocks4 w A B C D).2.1 (blocks4 w A B C D).2.2.1 (blocks4 w A B C D).2.2.2.1 (blocks4 w A B C D).2.2.2.2
theorem Ext.new {w w1 W : World} {r : Nat} (h : Ext w w1) (k : But r w1 W) (hr : w.heap.size ≤ r) : Ext w W:=Below.trans h (k.new hr (Below.size h))
theorem made_not' {P : Program} {o : Oper} {a : Act} {w : World} {ty : TypeId} {x : Operand} {b r : Bool} (ho : o.op = .unOp .not ty x) (hx : a.eval x = .bool b) (hr : (!b) = r) : Made P o (.bool r) a w:=hr ▸ made_not ho hx
theorem wpl_load {P : Program} {ops : Array Oper} {Q : Exit → Act → World → Prop} {rest : List Oper} {o : Oper} {a : Act} {w : World} {ty : TypeId} {x : Operand} {g t : Nat} {C cs : Array Value} {fr : Nat × Nat} {d : TypeDesc} (hg : o.guard = none) (ho : o.op = .load ty x) (hx : a.eval x = ptrTo g) (hb : w.heap[g]? = some (.cells C t fr))
  (hcs : C = cs) (hu : P.underlying ty = some d) (hd : d.isRow = true) (hi : (P.info? ty).map (·.size) = some cs.size) (h : wpList P ops Q rest (a.put o.dst (.agg cs)) w) : wpList P ops Q (o :: rest) a w:=by
 subst hcs
 refine wpList_load_mid hg ty x ho g 0 hx C.toList d (fun j v hv => by rw [cell_of_row w g (0 + j) C t fr hb,Nat.zero_add]; simpa using hv) hu hd (by simpa using hi) ?_
 simpa using h
theorem eqN {X : Nat} (W : World) : (binOp .eql 29 (nv X) (nv X)).run Tryz.prog W = .ok (.bool true) W:=eql_num_same X W
theorem neN {X : Nat} (W : World) : (binOp .neq 29 (nv X) (nv X)).run Tryz.prog W = .ok (.bool false) W:=neq_of (eqN W) rfl
theorem gN (X Y : Nat) (op : BinOp) (x y : Operand) (W : World) : (eqGuard op 29 x y (nv X) (nv Y)).run Tryz.prog W = .ok () W:=by
 unfold nv nc
 cases op <;> simp [eqGuard,go_sem]
def lev (z : Nat → Nat) : Nat → Nat
 | 0 => 0
 | i + 1 => lev z i + z i * 256 ^ i
theorem zjp {z : Nat → Nat} (hz : ∀ j,z j < 256) : ∀ i,lev z i < 256 ^ i
 | 0 => by simp [lev]
 | i + 1 => by
  have h:=zjp hz i
  have h2 : z i * 256 ^ i ≤ 255 * 256 ^ i:=Nat.mul_le_mul_right _ (by have:=hz i; omega)
  show lev z i + z i * 256 ^ i < _
  rw [Nat.pow_succ]
  omega
theorem dg_put (m q r L c : Nat) (hr : r < m) (hL : L < 256 ^ (m * q + r)) (hc : c < 256) (j : Nat) :
  dg (256 ^ m) (L + c * 256 ^ (m * q + r)) j = if j = q then dg (256 ^ m) L j + c * 256 ^ r else dg (256 ^ m) L j:=by
 have hB : 0 < 256 ^ m:=Nat.pow_pos (by omega)
 have hp : ∀ k,0 < (256 ^ m) ^ k:=fun k => Nat.pow_pos hB
 have e : 256 ^ (m * q + r) = (256 ^ m) ^ q * 256 ^ r:=by rw [Nat.pow_add,Nat.pow_mul]
 have hrm : 256 ^ r * 256 ≤ 256 ^ m:=by rw [← Nat.pow_succ]; exact Nat.pow_le_pow_right (by omega) hr
 rw [e] at hL ⊢
 have hLq : L / (256 ^ m) ^ q < 256 ^ r:=by rw [Nat.div_lt_iff_lt_mul (hp q),Nat.mul_comm]; exact hL
 have hcr : c * 256 ^ r ≤ 255 * 256 ^ r:=Nat.mul_le_mul_right _ (by omega)
 rw [show c * ((256 ^ m) ^ q * 256 ^ r) = (256 ^ m) ^ q * (c * 256 ^ r) by rw [Nat.mul_left_comm]]
 by_cases hj : j = q
 ·
  subst hj
  rw [if_pos rfl]
  unfold dg
  rw [Nat.add_mul_div_left _ _ (hp j),Nat.mod_eq_of_lt (by omega),Nat.mod_eq_of_lt (by omega)]
 ·
  rw [if_neg hj]
  by_cases hlt : j < q
  ·
   rw [← zcr _ q j hlt,Nat.add_mul_mod_self_left,zcr _ q j hlt]
  ·
   have hjq : q + 1 ≤ j:=by omega
   have hle : (256 ^ m) ^ (q + 1) ≤ (256 ^ m) ^ j:=Nat.pow_le_pow_right hB hjq
   rw [Nat.pow_succ] at hle
   have h1 : (256 ^ m) ^ q * (256 ^ r + c * 256 ^ r) ≤ (256 ^ m) ^ q * 256 ^ m:=Nat.mul_le_mul_left _ (by omega)
   rw [Nat.mul_add] at h1
   unfold dg
   rw [Nat.div_eq_of_lt (show L < _ by omega),Nat.div_eq_of_lt (show L + (256 ^ m) ^ q * (c * 256 ^ r) < _ by omega)]
theorem w64_bytes : w64 = 256 ^ 8:=by decide
theorem w16_bytes : w16 = 256 ^ 2:=by decide
theorem two_256 (r : Nat) : 2 ^ (r * 8) = 256 ^ r:=by rw [Nat.mul_comm,Nat.pow_mul]
theorem wd_put (L c k j : Nat) (hL : L < 256 ^ k) (hc : c < 256) : wd (L + c * 256 ^ k) j = if j = k / 8 then wd L j + (c * 256 ^ (k % 8) : Nat) else wd L j:=by
 have h:=dg_put 8 (k / 8) (k % 8) L c (Nat.mod_lt _ (by omega)) (by rw [Nat.div_add_mod]; exact hL) hc j
 rw [Nat.div_add_mod,← w64_bytes] at h
 unfold wd
 rw [h]
 split
 ·
  rw [Int.natCast_add]
 ·
  rfl
theorem of_word (L c k : Nat) (hL : L < 256 ^ k) (hc : c < 256) : bits .or .u64 (wd L (k / 8)) (IntKind.u64.wrap ((c : Int) * 2 ^ (k % 8 * 8))) = wd (L + c * 256 ^ k) (k / 8):=by
 have hr : k % 8 < 8:=Nat.mod_lt _ (by omega)
 have hp : 256 ^ (k % 8) ≤ 256 ^ 7:=Nat.pow_le_pow_right (by omega) (by omega)
 have h7 : (256 : Nat) ^ 7 = 72057594037927936:=by decide
 have hcr : c * 256 ^ (k % 8) ≤ 255 * 256 ^ (k % 8):=Nat.mul_le_mul_right _ (by omega)
 have hq : dg w64 L (k / 8) < 256 ^ (k % 8):=by
  have e : 256 ^ k = w64 ^ (k / 8) * 256 ^ (k % 8):=by
   rw [w64_bytes,← Nat.pow_mul,← Nat.pow_add,Nat.div_add_mod]
  unfold dg
  refine Nat.lt_of_le_of_lt (Nat.mod_le _ _) ?_
  rw [Nat.div_lt_iff_lt_mul (Nat.pow_pos zaq),Nat.mul_comm,← e]
  exact hL
 have ec : (c : Int) * 2 ^ (k % 8 * 8) = ((c * 256 ^ (k % 8) : Nat) : Int):=by
  rw [← two_256,Int.natCast_mul,Int.natCast_pow]
  rfl
 rw [wd_put L c k _ hL hc,if_pos rfl,ec,IntKind.wrap_u64]
 unfold wd
 rw [show ((c * 256 ^ (k % 8) : Nat) : Int) % 18446744073709551616 = ((c * 256 ^ (k % 8) : Nat) : Int) by omega]
 rw [u64_or_nat _ _ (by omega) (by omega),Nat.or_comm,nat_join (8 * (k % 8)) _ _ (by rw [Nat.mul_comm 8,two_256]; exact Nat.mul_mod_left _ _) (by rw [Nat.mul_comm 8,two_256]; exact hq)]
 omega
theorem of_step (z : Nat → Nat) (k : Nat) (hz : ∀ j,z j < 256) (i : Nat) :
  (if i = k / 8 then Value.int .u64 (wd (lev z k + z k * 256 ^ k) (k / 8)) else Value.int .u64 (wd (lev z k) i)) = Value.int .u64 (wd (lev z (k + 1)) i):=by
 show _ = Value.int .u64 (wd (lev z k + z k * 256 ^ k) i)
 by_cases h : i = k / 8
 ·
  rw [if_pos h,h]
 ·
  rw [if_neg h,wd_put _ _ _ _ (zjp hz k) (hz k),if_neg h]
theorem zed (i : Nat) : wd 0 i = 0:=by unfold wd dg; simp
theorem zkp (b o n c : Nat) (y : Nat → Nat) (hy : ∀ j,y j < 256) (hn : n ≤ 32) (w : World) (hb : b < w.heap.size) (hcell : ∀ j,j < n → w.cell? ⟨b,o + j,none⟩ = some (.int .u8 (y j))) :
  Calls Tryz.prog 74 #[.slice (some ⟨b,o,none⟩) n c] w fun e w' => e = .returned (.tuple #[.agg #[vI vU (wd (lev (fun k => y (n - 1 - k)) n) 0),vI vU (wd (lev (fun k => y (n - 1 - k)) n) 1),vI vU (wd (lev (fun k => y (n - 1 - k)) n) 2),vI vU (wd (lev (fun k => y (n - 1 - k)) n) 3)],.nilIface]) ∧ Below w.heap.size w w':=by
 have HY:=veil hy
 have HC:=veil hcell
 clear hy hcell
 have hn' : (n : Int) ≤ 32:=by omega
 go_enter Tryz.func74,Tryz.ntmps74
 go_wp2
 go_loopw [13] (fun i wr => ∃ k : Nat,k ≤ n ∧ i = .int .i64 k ∧ wr.rowIs w.heap.size 29 4 (fun _ => .int .u64 0) ∧ wr.rowIs (w.heap.size + 1) 29 4 (fun j => .int .u64 (wd (lev (fun k => y (n - 1 - k)) k) j)) ∧ Below w.heap.size w wr)
  (fun i _ => n - (intOf i).toNat)
 case atStart => exact ⟨0,by omega,rfl,(zaj (n:=4) rfl rfl (arr4 fun _ => .int .u64 0)).alloc _,(zaj (n:=4) (f:=fun _ => .int .u64 0) (by simp) rfl (arr4 fun _ => .int .u64 0)).congr (fun i _ => by rw [lev,zed]),((Below.refl _ _).alloc (by simp) _).alloc (by simp) _⟩
 case round =>
  obtain ⟨k,hk,rfl,hR,hS,hbel⟩:=hrel
  by_cases hlt : k < n
  ·
   have hk8 : k / 8 < 4:=by omega
   have c1:=hS.cell hk8
   have f1:=hS.frozen (k / 8)
   obtain ⟨j,hj⟩ : ∃ j,j = n - 1 - k:=⟨_,rfl⟩
   have hji : (n : Int) - 1 - (k : Int) = (j : Int):=by omega
   have hjn : (j : Int) < (n : Int):=by omega
   have hkn : (k : Int) < (n : Int):=by omega
   have c2:=(hbel.cell (p:=⟨b,o + j,none⟩) hb).trans (HC.out j (by omega))
   have l1:=wd_lo (lev (fun k => y (n - 1 - k)) k) (k / 8)
   have u1:=wd_le (lev (fun k => y (n - 1 - k)) k) (k / 8)
   have u2 : (y j : Int) ≤ 255:=by have:=HY.out j; omega
   have hst:=of_step (fun k => y (n - 1 - k)) k (fun j => HY.out _)
   have HS:=veil hst
   clear hst
   have HJ:=veil hj
   clear hj
   go_wp2
   go_region
   all_goals
    go_wp2
    go_roundw
    case rel =>
     rw [show y j = y (n - 1 - k) by rw [HJ.out],of_word _ _ _ (zjp (fun j => HY.out _) k) (HY.out _)]
     exact ⟨k + 1,by omega,by go_num,(zat hR (by omega) _).drew,((hS.set (k / 8) _).congr fun i _ => HS.out i).drew,(zai hbel (by omega) _).drew⟩
    case measure => simp [intOf]; omega
  ·
   obtain rfl : k = n:=by omega
   obtain ⟨c0,c1,c2,c3⟩:=zap hS
   obtain ⟨d0,d1,d2,d3⟩:=zap hR
   obtain ⟨f0,f1,f2,f3⟩:=zbq hR
   go_wp2
   refine bodyPost_ret (zcn rfl _ _ w.heap.size 29 #[vI vU (wd (lev (fun j => y (k - 1 - j)) k) 0),vI vU (wd (lev (fun j => y (k - 1 - j)) k) 1),vI vU (wd (lev (fun j => y (k - 1 - j)) k) 2),vI vU (wd (lev (fun j => y (k - 1 - j)) k) 3)] (0,0) 4 27 rfl (blk4 (put4 hR fun j => .int .u64 (wd (lev (fun j => y (k - 1 - j)) k) j))) Tryz.underlying29 (by kernel_rfl)) rfl ⟨rfl,zbb hbel (Nat.le_refl _) _ _ _ _⟩
def qc (x y : Nat) (f : Bool) : Array Value:=#[vI vU (wd x 0),vI vU (wd x 1),vI vU (wd x 2),vI vU (wd x 3),vI vU (wd y 0),vI vU (wd y 1),vI vU (wd y 2),vI vU (wd y 3),.bool (f)]
def qv (x y : Nat) (f : Bool) : Value:=.agg (qc x y f)
theorem qc_one (x y : Nat) (f : Bool) : (qc x y f).all (·.oneCell') = true:=by simp [qc,Value.oneCell']
theorem iT (x y : Nat) (f : Bool) : (Tryz.prog.info? 44).map (·.size) = some (qc x y f).size:=by kernel_rfl
section
variable (g : Nat) (W : World)
theorem fldT0 : (Instr.fieldAt 44 (ptrTo g) 0).run Tryz.prog W = .ok (.pointer (some ⟨g,0,none⟩)) W:=by simp [Instr.fieldAt,go_sem]
theorem hzT : (Instr.alloc 44 true (.tuple #[])).run Tryz.prog W = .ok (ptrTo W.heap.size) (W.alloc (.cells #[vI vU 0,vI vU 0,vI vU 0,vI vU 0,vI vU 0,vI vU 0,vI vU 0,vI vU 0,.bool false] 44)):=by simp [Instr.alloc,go_sem]
end
end Go.Proofs.YtihophdbkjhopaaGreatDoor
