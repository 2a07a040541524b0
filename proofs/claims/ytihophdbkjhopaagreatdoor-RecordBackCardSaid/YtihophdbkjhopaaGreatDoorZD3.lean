/-
  Of Ls Rcb T2 T3 T4 T5 K2 T6 TA Eql C0 Of Cq Aut Au1.
-/
import Derived.Deep.MidRow
import Derived.Deep.Slices
import Derived.Laws.OwnMore
import Derived.Maps.AppendAt
import Derived.Laws.Concat
import Derived.ArgAppend
import Derived.Laws.IdiomStrings
import Derived.Great.BuildSlice
import Derived.Lib.SmallJoins
import Derived.Test.YtihophdbkjhopaaGreatDoorRows
import Derived.WalkKit
import Derived.ChangeKeysEq
import Derived.WalkSpells
import Derived.WalkLawsBesides
import Derived.Deep.LoopGhost
import Derived.Deep.RegionWith
import Derived.Deep.QuietTactic
import Derived.BigQuiet
import Derived.BigRegion
import Derived.Scope
import Derived.Test.YtihophdbkjhopaaGreatDoorZD2
import Derived.Test.YtihophdbkjhopaaGreatDoorZD1
set_option maxRecDepth 1000000
set_option maxHeartbeats 20000000
namespace Go.Proofs.YtihophdbkjhopaaGreatDoor
open Go.RowKit
open Go.Value renaming int → vI
open Go.IntKind renaming u64 → vU
open Go.Act renaming put → aP
open List renaming setIfInBounds_toArray → lA, set_cons_zero → lZ, set_cons_succ → lS
section
variable {α : Type} {sz : Nat} {cs : α → List Value} {w w' : World} {v : Value} {l : List α} {P : Program}
def Ls (sz : Nat) (cs : α → List Value) (w : World) (v : Value) (l : List α) : Prop :=
 ∃ A c,v = .slice A l.length c ∧ l.length ≤ c ∧ (l.length = 0 ∨ ∃ b o,A = some ⟨b,o,none⟩ ∧ b < w.heap.size ∧ ∀ i x,l[i]? = some x → w.rangeAt b (o + i * sz) (cs x))
theorem range_ext (h : Ext w w') {b o : Nat} {L : List Value} (hb : b < w.heap.size) (hr : w.rangeAt b o L) : w'.rangeAt b o L:=fun j u hu => (h.cell hb).trans (hr j u hu)
theorem Ls.ext (h : Ls sz cs w v l) (k : Ext w w') : Ls sz cs w' v l:=by
 obtain ⟨A,c,e,hc,hx⟩:=h
 exact ⟨A,c,e,hc,hx.imp id fun ⟨b,o,ha,hb,hr⟩ => ⟨b,o,ha,Nat.lt_of_lt_of_le hb (Below.size k),fun i x hi => range_ext k hb (hr i x hi)⟩⟩
theorem Ls.nil (w : World) (A : Option Addr) (c : Nat) : Ls sz cs w (.slice A 0 c) ([] : List α):=⟨A,c,rfl,Nat.zero_le _,.inl rfl⟩
theorem Ls.at (h : Ls sz cs w v l) {i : Nat} (hi : i < l.length) : ∃ b o c,v = .slice (some ⟨b,o,none⟩) l.length c ∧ l.length ≤ c ∧ b < w.heap.size ∧ ∀ i x,l[i]? = some x → w.rangeAt b (o + i * sz) (cs x):=by
 obtain ⟨A,c,e,hc,hx⟩:=h
 rcases hx with h0 | ⟨b,o,rfl,hb,hr⟩
 ·
  omega
 ·
  exact ⟨b,o,c,e,hc,hb,hr⟩
def OwnL (sz : Nat) (cs : α → List Value) (w : World) (base ty : Nat) (v : Value) (l : List α) : Prop:=w.ownsRow base ty sz v l.length (l.flatMap cs)
variable {base ty : Nat}
theorem OwnL.nil (w : World) (base ty : Nat) : OwnL sz cs w base ty (.slice none 0 0) ([] : List α):=World.ownsRow_nil _ _ _ _
theorem OwnL.keep (o : OwnL sz cs w base ty v l) (h : Ext w w') : OwnL sz cs w' base ty v l :=
 ⟨o.1,o.2.imp id fun ⟨g,cap,cur,e,hg,hh,r⟩ => ⟨g,cap,cur,e,hg,h.block hh,r⟩⟩
theorem OwnL.lt (o : OwnL sz cs w base ty v l) {k : Nat} (hk : v.ownBlock = some k) : base ≤ k ∧ k < w.heap.size:=World.ownsRow.lt o k hk
theorem flat_at (hcs : ∀ x,(cs x).length = sz) : ∀ {l : List α} {i j : Nat} {x : α} {u : Value},l[i]? = some x → (cs x)[j]? = some u → (l.flatMap cs)[i * sz + j]? = some u
 | [],_,_,_,_,h,_ => by simp at h
 | a :: l,0,j,x,u,h,hu => by
  obtain rfl : a = x:=by simpa using h
  have hj : j < (cs a).length:=(List.getElem?_eq_some_iff.1 hu).1
  rw [List.flatMap_cons,Nat.zero_mul,Nat.zero_add,List.getElem?_append_left hj]
  exact hu
 | a :: l,i + 1,j,x,u,h,hu => by
  rw [List.flatMap_cons,List.getElem?_append_right (by rw [hcs,Nat.add_mul]; omega),hcs,show (i + 1) * sz + j - sz = i * sz + j by rw [Nat.add_mul]; omega]
  exact flat_at hcs (by simpa using h) hu
theorem flat_len (hcs : ∀ x,(cs x).length = sz) : ∀ (l : List α),(l.flatMap cs).length = l.length * sz
 | [] => by simp
 | a :: l => by rw [List.flatMap_cons,List.length_append,hcs,flat_len hcs l,List.length_cons,Nat.add_mul]; omega
theorem OwnL.ls (hcs : ∀ x,(cs x).length = sz) (o : OwnL sz cs w base ty v l) : Ls sz cs w v l:=by
 rcases o.2 with ⟨rfl,h0⟩ | ⟨g,cap,cur,rfl,hbg,hh,hn,hm,hs,ht⟩
 ·
  exact ⟨none,0,by rw [h0],by omega,.inl h0⟩
 ·
  refine ⟨_,cap,rfl,hn,.inr ⟨g,0,rfl,(Array.getElem?_eq_some_iff.1 hh).1,fun i x hi j u hu => ?_⟩⟩
  have h1:=flat_at hcs hi hu
  rw [← ht] at h1
  have hlt : i * sz + j < l.length * sz:=by
   have:=(List.getElem?_eq_some_iff.1 h1).1
   rw [List.length_take] at this
   omega
  rw [List.getElem?_take_of_lt hlt] at h1
  rw [Nat.zero_add,cell_of_row w g _ cur _ _ hh]
  simpa using h1
theorem zhk {i : TypeInfo} {z : Value} {bytes t : Nat} (ht : P.underlying t = some (.slice ty)) (hi : P.info? ty = some i) (hz : i.zero = some z) (hsize : i.size = sz) (hby : i.bytes = bytes) (hzs : z.cells.size = sz) (hsz : 0 < sz)
  (hcs : ∀ x,(cs x).length = sz) (h1 : ∀ x,∀ u ∈ cs x,u.oneCell' = true) (rt : TypeId) (o : OwnL sz cs w base ty v l) {ys : List α} {A : Option Addr} {m c : Nat} (hm : m = ys.length) (hy : Ls sz cs w (.slice A m c) ys)
  (h63 : l.length + m ≤ maxLen) (hbytes : (l.length + m) * bytes ≤ 140737488355328) (hbase : base ≤ w.heap.size) :
  ∃ v' w',(Builtin.append_ #[t,t] rt #[v,.slice A m c]).run P w = .ok v' w' ∧ OwnL sz cs w' base ty v' (l ++ ys) ∧ w.grownBy w' v.ownBlock ∧ (v'.ownBlock = v.ownBlock ∨ v'.ownBlock = some w.heap.size):=by
 subst hm
 obtain ⟨A',c',e,hc,hx⟩:=hy
 injection e with e1 _ e3
 subst e1 e3
 rcases A with _ | a
 ·
  have h0 : ys = []:=by
   rcases hx with h | ⟨_,_,h,_⟩
   ·
    exact List.length_eq_zero_iff.1 h
   ·
    cases h
  subst h0
  refine ⟨v,w,?_,by rw [List.append_nil]; exact o,World.grownBy.refl w _,.inl rfl⟩
  rcases o.2 with ⟨rfl,h0⟩ | ⟨g,cap,cur,rfl,_,_,hnc,_⟩
  ·
   simp [Builtin.append_,run_underlying ht,sizeOf,typeInfo,hi,Builtin.lenOf,Builtin.firstCells]
  ·
   simp [Builtin.append_,run_underlying ht,sizeOf,typeInfo,hi,Builtin.lenOf,Builtin.firstCells,hnc,storeCells]
 ·
  have hcell : ∀ j u,(ys.flatMap cs)[j]? = some u → w.cell? (a.add j) = some u:=by
   intro j u hu
   have hj:=(List.getElem?_eq_some_iff.1 hu).1
   rw [flat_len hcs] at hj
   rcases hx with h | ⟨b,off,ha,_,hr⟩
   ·
    rw [h] at hj; omega
   ·
    obtain rfl:=Option.some.inj ha
    have hq : j / sz < ys.length:=(Nat.div_lt_iff_lt_mul hsz).2 hj
    have hr2:=hr (j / sz) _ (List.getElem?_eq_getElem hq)
    have hd : j / sz * sz + j % sz = j:=by rw [Nat.mul_comm]; exact Nat.div_add_mod j sz
    have hlt : j % sz < (cs ys[j / sz]).length:=by rw [hcs]; exact Nat.mod_lt _ hsz
    have h3:=flat_at hcs (List.getElem?_eq_getElem hq) (List.getElem?_eq_getElem hlt)
    rw [hd,hu] at h3
    obtain rfl:=Option.some.inj h3
    have h4:=hr2 _ _ (List.getElem?_eq_getElem hlt)
    rw [Nat.add_assoc,hd] at h4
    rw [Addr.add_mid]
    exact h4
  obtain ⟨v',w',hr,h2,h3,_,h5⟩:=run_append_own_at (P:=P) w base t rt ty i z sz bytes ht hi hz hsize hby hzs hsz v l.length _ o a ys.length c (ys.flatMap cs) (flat_len hcs ys) hcell
   (fun u hu => by obtain ⟨x,_,hx⟩:=List.mem_flatMap.1 hu; exact h1 x u hx) h63 hbytes hbase
  refine ⟨v',w',hr,?_,h3,h5⟩
  unfold OwnL
  rw [List.flatMap_append,List.length_append]
  exact h2
theorem ls_one {g c : Nat} {x : α} {fr : Nat × Nat} (hg : w.heap[g]? = some (.cells (cs x).toArray ty fr)) (hc : 1 ≤ c:=by decide) : Ls sz cs w (.slice (some ⟨g,0,none⟩) 1 c) [x] :=
 ⟨_,c,rfl,hc,.inr ⟨g,0,rfl,(Array.getElem?_eq_some_iff.1 hg).1,fun i y hi j u hu => by
  match i,hi with
  | 0,hi =>
   obtain rfl : x = y:=by simpa using hi
   simp only [Nat.zero_mul,Nat.zero_add]
   rw [cell_of_row w g j _ _ _ hg]
   simpa using hu⟩⟩
end
abbrev pb (r : Rc) (j : Nat) : Value:=.int .u8 (r.pv.getD j 0 : Nat)
def rcC (r : Rc) (v : Value) : Array Value:=#[.int .i64 r.dv,.int .i64 r.sq,.int .i64 r.mi,.int .i64 r.kd,.int .i64 r.st,.int .i64 r.zn,.int .i64 r.sr,.int .i64 r.vd,
 pb r 0,pb r 1,pb r 2,pb r 3,pb r 4,pb r 5,pb r 6,pb r 7,pb r 8,pb r 9,pb r 10,pb r 11,pb r 12,pb r 13,pb r 14,pb r 15,pb r 16,pb r 17,pb r 18,pb r 19,pb r 20,pb r 21,pb r 22,pb r 23,pb r 24,pb r 25,pb r 26,pb r 27,pb r 28,pb r 29,pb r 30,pb r 31,v]
theorem ziq (r : Rc) (v : Value) : (rcC r v).size = 41:=rfl
theorem rcC_one (r : Rc) {A : Option Addr} {n c : Nat} : (rcC r (.slice A n c)).all (·.oneCell') = true:=by simp [rcC,Value.oneCell']
theorem iRc (r : Rc) (v : Value) : (Tryz.prog.info? 26).map (·.size) = some (rcC r v).size:=by
 rw [ziq]
 kernel_rfl
theorem rcC_pv (r : Rc) (v : Value) {j : Nat} (hj : j < 32) : (rcC r v)[8 + j]? = some (pb r j):=by
 match j,hj with
 | 0,_ => rfl
 | 1,_ => rfl
 | 2,_ => rfl
 | 3,_ => rfl
 | 4,_ => rfl
 | 5,_ => rfl
 | 6,_ => rfl
 | 7,_ => rfl
 | 8,_ => rfl
 | 9,_ => rfl
 | 10,_ => rfl
 | 11,_ => rfl
 | 12,_ => rfl
 | 13,_ => rfl
 | 14,_ => rfl
 | 15,_ => rfl
 | 16,_ => rfl
 | 17,_ => rfl
 | 18,_ => rfl
 | 19,_ => rfl
 | 20,_ => rfl
 | 21,_ => rfl
 | 22,_ => rfl
 | 23,_ => rfl
 | 24,_ => rfl
 | 25,_ => rfl
 | 26,_ => rfl
 | 27,_ => rfl
 | 28,_ => rfl
 | 29,_ => rfl
 | 30,_ => rfl
 | 31,_ => rfl
 | j + 32,h => exact absurd h (by omega)
def Rv17 (w : World) (X : Array Value) (r : Rc) : Prop:=WfC r ∧ ∃ A c,X = rcC r (.slice A r.bs.length c) ∧ r.bs.length ≤ c ∧ Bs w A r.bs
section
variable {w w' : World} {X : Array Value} {r : Rc}
theorem Rv17.ext (h : Rv17 w X r) (k : Ext w w') : Rv17 w' X r:=by
 obtain ⟨h0,A,c,e,hc,hB⟩:=h
 exact ⟨h0,A,c,e,hc,hB.ext k⟩
theorem Rv17.size (h : Rv17 w X r) : X.size = 41:=by
 obtain ⟨_,A,c,e,_⟩:=h
 rw [e,ziq]
theorem Rv17.info (h : Rv17 w X r) : (Tryz.prog.info? 26).map (·.size) = some X.size:=by
 obtain ⟨_,A,c,e,_⟩:=h
 rw [e]
 exact iRc _ _
theorem Rv17.one (h : Rv17 w X r) : X.all (·.oneCell') = true:=by
 obtain ⟨_,A,c,e,_⟩:=h
 rw [e]
 exact rcC_one r
def RcAt (w : World) (g : Nat) (X : Array Value) : Prop:=w.heap[g]? = some (.cells X 26 (0,0))
theorem RcAt.ext {g : Nat} (h : RcAt w g X) (k : Ext w w') : RcAt w' g X:=k.block h
theorem RcAt.new (w : World) (X : Array Value) : RcAt (w.alloc (.cells X 26)) w.heap.size X:=zad w _
theorem RcAt.cell {g : Nat} (h : RcAt w g X) {j : Nat} {u : Value} (hX : X[j]? = some u) : w.cell? ⟨g,j,none⟩ = some u:=by
 rw [cell_of_row w g j _ _ _ h]
 exact hX
theorem RcAt.cells {g : Nat} {A : Option Addr} {n c : Nat} (h : RcAt w g (rcC r (.slice A n c))) :
  w.cell? ⟨g,0,none⟩ = some (.int .i64 r.dv) ∧ w.cell? ⟨g,1,none⟩ = some (.int .i64 r.sq) ∧ w.cell? ⟨g,2,none⟩ = some (.int .i64 r.mi) ∧ w.cell? ⟨g,3,none⟩ = some (.int .i64 r.kd) ∧ w.cell? ⟨g,4,none⟩ = some (.int .i64 r.st) ∧ w.cell? ⟨g,5,none⟩ = some (.int .i64 r.zn) ∧ w.cell? ⟨g,6,none⟩ = some (.int .i64 r.sr) ∧ w.cell? ⟨g,7,none⟩ = some (.int .i64 r.vd) ∧ w.cell? ⟨g,40,none⟩ = some (.slice A n c) :=
 ⟨h.cell rfl,h.cell rfl,h.cell rfl,h.cell rfl,h.cell rfl,h.cell rfl,h.cell rfl,h.cell rfl,h.cell rfl⟩
theorem RcAt.prev {g : Nat} {v : Value} (h : RcAt w g (rcC r v)) (hw : WfC r) : Bs w (some ⟨g,8,none⟩) r.pv :=
 ⟨hw.2.1,.inr ⟨g,8,rfl,(Array.getElem?_eq_some_iff.1 h).1,fun j hj => h.cell (rcC_pv r v (by rw [hw.1] at hj; exact hj))⟩⟩
end
theorem kdC_1 {r : Rc} (h : r.kd = 1) : kdC r = decide (1 ≤ r.vd ∧ r.vd ≤ 7 ∧ r.bs.length ≤ 500):=by unfold kdC; rw [if_pos h]
theorem kdC_2 {r : Rc} (h : ¬ r.kd = 1) : kdC r = decide ((r.kd = 2 ∨ r.kd = 3) ∧ r.vd = 0 ∧ r.bs.length = 0):=by unfold kdC; rw [if_neg h]
theorem mayFs_false {fs : List Fd} {i : Nat} (hi : i < fs.length) (h : ¬ okF fs i) : mayFs fs = false:=decide_eq_false fun hh => h (hh.2 i hi)
theorem mayFs_len {fs : List Fd} (h : ∀ i,i < fs.length → okF fs i) : mayFs fs = decide (fs.length ≤ 64):=by
 unfold mayFs
 by_cases hc : fs.length ≤ 64
 ·
  rw [decide_eq_true hc,decide_eq_true ⟨hc,h⟩]
 ·
  rw [decide_eq_false hc,decide_eq_false fun hh => hc hh.1]
theorem zfc (bs : List Nat) : (strL bs).size = bs.length:=by simp [strL,ByteArray.size]
theorem zix {fs : List Fd} (h : mayFs fs = true) {i : Nat} (hi : i < fs.length) : okF fs i:=(of_decide_eq_true h).2 i hi
theorem ziy {fs : List Fd} (h : mayFs fs = true) : fs.length ≤ 64:=(of_decide_eq_true h).1
theorem zdz {fs : List Fd} (h : mayFs fs = true) (i : Nat) : (encF (fs.take i)).length ≤ 4194432:=by
 have h1:=zgv (fs.take i) 65535 fun f hf => (zhy h f (List.mem_of_mem_take hf)).2.2
 have h2:=ziy h
 have h3 : (fs.take i).length ≤ 64:=by rw [List.length_take]; omega
 omega
theorem hdr3 {w : World} {g : Nat} {T : Int} {D0 : List Nat} {L : Nat} (h : w.heap[g]? = some (.cells #[.int .u8 T,.int .u8 ((L : Int) / 256),.int .u8 ((L : Int) % 256)] 5 (0,0))) (h1 : 1 ≤ T) (h2 : T ≤ 255) (h3 : L ≤ 65535) (hL : L = D0.length) : Bs w (some ⟨g,0,none⟩) (hdr (T,D0)):=by
 refine ⟨hdr_byt _,.inr ⟨g,0,rfl,(Array.getElem?_eq_some_iff.1 h).1,fun j hj => ?_⟩⟩
 rw [Nat.zero_add,cell_of_row w g j _ _ _ h]
 subst hL
 have e0 : (((T % 256).toNat : Nat) : Int) = T:=by omega
 have e1 : (((D0.length / 256 % 256 : Nat) : Nat) : Int) = (D0.length : Int) / 256:=by omega
 have e2 : (((D0.length % 256 : Nat) : Nat) : Int) = (D0.length : Int) % 256:=by omega
 match j,hj with
 | 0,_ => show some (Value.int .u8 T) = some (.int .u8 (((T % 256).toNat : Nat) : Int)); rw [e0]
 | 1,_ => show some (Value.int .u8 _) = some (.int .u8 ((D0.length / 256 % 256 : Nat) : Int)); rw [e1]
 | 2,_ => show some (Value.int .u8 _) = some (.int .u8 ((D0.length % 256 : Nat) : Int)); rw [e2]
theorem rput8_calls (v : Value) (fs : List Fd) (w : World) (hF : Fl w v fs) (hM : mayFs fs = true) :
  Calls Tryz.prog 32 #[v] w fun e w' => e = .returned (.string (strL (encF fs))) ∧ Ext w w':=by
 obtain ⟨hB,AL,c,rfl,hc,hx⟩:=hF
 obtain ⟨n,hn⟩ : ∃ n,n = fs.length:=⟨_,rfl⟩
 rw [← hn] at hx hc ⊢
 have HR:=veil (And.intro hn (And.intro hM hB))
 have HX:=veil hx
 have hnL : n ≤ 64:=by rw [hn]; exact ziy hM
 clear hx hB hn hM
 go_enter Tryz.func32,Tryz.ntmps32
 go_wp2
 go_loopw [3,4,5] (fun s v _ wr => ∃ i : Nat,i ≤ n ∧ s = .string (strL (encF (fs.take i))) ∧ v = .int .i64 (i : Int) ∧ Ext w wr)
  (fun _ v _ _ => n - (intOf v).toNat)
 case atStart => exact ⟨0,by omega,rfl,rfl,Ext.refl _⟩
 case round =>
  obtain ⟨i,hi,rfl,rfl,hE⟩:=hrel
  by_cases hlt : i < n
  ·
   have hd1 : decide ((i : Int) < (n : Int)) = true:=by simp; omega
   have hii : (i : Int) < (n : Int):=by omega
   have hok:=zix HR.out.2.1 (by have:=HR.out.1; omega : i < fs.length)
   have hst:=encF_take fs (by have:=HR.out.1; omega : i < fs.length)
   have hle:=zdz HR.out.2.1 i
   obtain ⟨b,o,hAL,hb,hcl⟩:=HX.out.resolve_left (by omega)
   obtain ⟨h1,A,c',h2,h3,h4⟩:=hcl i hlt
   have c0:=(hE.cell hb).trans h1
   have c1:=(hE.cell hb).trans h2
   have hS:=h4.ext hE
   obtain ⟨S,hSS⟩ : ∃ S,S = strL (encF (fs.take i)):=⟨_,rfl⟩
   rw [← hSS]
   have hs : (S.size : Int) ≤ 4194432:=by rw [hSS,zfc]; omega
   have HS:=veil (And.intro hSS hst)
   have hT1:=hok.1
   have hT2:=hok.2.1
   have hL1:=hok.2.2.1
   clear hcl h1 h2 hok hst hle hSS h4
   generalize tgF fs i = T at *
   generalize bsF fs i = D0 at *
   obtain ⟨L,hL⟩ : ∃ L,L = D0.length:=⟨_,rfl⟩
   rw [← hL] at c1 hL1 h3
   have HD:=veil (And.intro hL hS)
   clear hL hS
   subst hAL
   go_upto_region 6 with (fail)
   have hz:=HD.out.2
   refine zfa 24 [(true,[0,1,2,3,4,5,6,7,8,9,10,11,12,16,17,18,19,20,21]),(false,[13]),(true,[14,15,22,23])] (by kernel_rfl) (by kernel_rfl) fun Q' hQ' => ?_
   refine' zcj (A:=_) _ rfl (by kernel_rfl) ?h1 ?h2
   case h1 =>
    intro D hD hN
    have d0:=hD.cell c0
    have d1:=hD.cell c1
    have d2 : ∀ x : Gw D,(convert 24 9 (.slice A L c')).run Tryz.prog x.val = .ok (.string (strL D0)) x.val:=fun x => by
     exact zge (hz.ext (hD.grown _ x.property)) HD.out.1
    simp only [pickI,consO,List.getElem?_cons_zero,List.getElem?_cons_succ]
    repeat (go_big_quiet_step (fail))
    exact zdj
   refine zgf (vs:=[(0,.int .u8 T),(1,.int .u8 ((L : Int) / 256)),(2,.int .u8 ((L : Int) % 256))]) (C:=#[.int .u8 T,.int .u8 ((L : Int) / 256),.int .u8 ((L : Int) % 256)]) (e:=5) _ rfl rfl rfl rfl rfl (fun W => by simp [Instr.buildSlice,go_sem]) ?_
   intro g W hg hgb hEW
   simp only [aP,lA,lZ,lS]
   have hh:=hdr3 hgb hT1 hT2 hL1 HD.out.1
   refine' zcj (A:=_) _ rfl (by kernel_rfl) ?k1 ?k2
   case k1 =>
    intro D hD hN
    have d2 : ∀ x : Gw D,(convert 24 9 (.slice (some ⟨g,0,none⟩) 3 3)).run Tryz.prog x.val = .ok (.string (strL (hdr (T,D0)))) x.val:=fun x => by
     exact zge (hh.ext (hD.grown _ x.property)) rfl
    have s1 : ((strL (hdr (T,D0))).size : Int) ≤ 3:=by rw [zfc]; exact Int.le_refl _
    have s2 : ((strL D0).size : Int) ≤ 65535:=by rw [zfc,← HD.out.1]; omega
    have s3 : ((S ++ strL (hdr (T,D0))).size : Int) ≤ 4194435:=by rw [ByteArray.size_append]; omega
    simp only [pickI,consO,List.getElem?_cons_zero,List.getElem?_cons_succ]
    repeat (go_big_quiet_step (fail))
    exact zdj
   refine zea hQ' fun W2 hE2 => ?_
   refine NoPanic.normal ?_
   go_wp2
   go_roundw
   case rel => exact ⟨i + 1,by omega,by rw [HS.out.2,strL_append,HS.out.1]; unfold enc1; rw [strL_append,ByteArray.append_assoc],by go_num,hE.trans (hEW.trans hE2)⟩
   case measure => simp [intOf]; omega
  ·
   obtain rfl : i = n:=by omega
   have e : encF (fs.take i) = encF fs:=by rw [HR.out.1,List.take_length]
   rw [e]
   go_wp2
   go_ret
   exact ⟨rfl,hE⟩
def cellsFs : List Fd → List (Option Addr × Nat) → List Value
 | f :: fs,a :: al => [.int .i64 f.1,.slice a.1 f.2.length a.2] ++ cellsFs fs al
 | _,_ => []
theorem zep : ∀ {fs : List Fd} {al : List (Option Addr × Nat)} (f : Fd) (a : Option Addr × Nat),al.length = fs.length → cellsFs (fs ++ [f]) (al ++ [a]) = cellsFs fs al ++ [.int .i64 f.1,.slice a.1 f.2.length a.2]
 | [],[],_,_,_ => rfl
 | [],_ :: _,_,_,h => by simp at h
 | _ :: _,[],_,_,h => by simp at h
 | g :: fs,b :: al,f,a,h => by
  show [_,_] ++ cellsFs (fs ++ [f]) (al ++ [a]) = ([_,_] ++ cellsFs fs al) ++ _
  rw [zep f a (by simpa using h),List.append_assoc]
theorem zid : ∀ {fs : List Fd} {al : List (Option Addr × Nat)} {i : Nat},al.length = fs.length → i < fs.length →
  (cellsFs fs al)[i * 2]? = some (.int .i64 (tgF fs i)) ∧ (cellsFs fs al)[i * 2 + 1]? = some (.slice (al.getD i (none,0)).1 (bsF fs i).length (al.getD i (none,0)).2)
 | [],_,_,_,h => by simp at h
 | _ :: _,[],_,h,_ => by simp at h
 | f :: fs,a :: al,0,_,_ => ⟨rfl,rfl⟩
 | f :: fs,a :: al,i + 1,h,hi => by
  have ih:=zid (fs:=fs) (al:=al) (i:=i) (by simpa using h) (by simpa using hi)
  have e : (i + 1) * 2 = i * 2 + 1 + 1:=by omega
  rw [e]
  exact ih
def Off (A : Option Addr) (bs : List Nat) (row : Option Nat) : Prop:=bs.length = 0 ∨ ∀ b o,A = some ⟨b,o,none⟩ → row ≠ some b
def OwnFs (w : World) (base : Nat) (v : Value) (fs : List Fd) : Prop:=BytF fs ∧ ∃ al : List (Option Addr × Nat),al.length = fs.length ∧ w.ownsRow base 75 2 v fs.length (cellsFs fs al) ∧
 ∀ i,i < fs.length → (bsF fs i).length ≤ (al.getD i (none,0)).2 ∧ Bs w (al.getD i (none,0)).1 (bsF fs i) ∧ Off (al.getD i (none,0)).1 (bsF fs i) v.ownBlock
theorem Bs.but {w w' : World} {A : Option Addr} {bs : List Nat} {row : Option Nat} (h : Bs w A bs) (k : w.grownBy w' row) (hne : Off A bs row) : Bs w' A bs:=by
 rcases hne with h0 | hne
 ·
  exact ⟨h.1,.inl h0⟩
 ·
  exact ⟨h.1,h.2.imp id fun ⟨b,o,e,hb,hc⟩ => ⟨b,o,e,Nat.lt_of_lt_of_le hb k.size,fun j hj => (World.cell?_of_block (a:=⟨b,o + j,none⟩) (k.block b hb (fun e2 => hne b o e e2.symm))).trans (hc j hj)⟩⟩
theorem OwnFs.nil (w : World) (base : Nat) : OwnFs w base (.slice none 0 0) []:=⟨fun _ h => (by cases h),[],rfl,World.ownsRow_nil _ _ _ _,fun i hi => by simp at hi⟩
theorem OwnFs.keep {w w' : World} {base : Nat} {v : Value} {fs : List Fd} (o : OwnFs w base v fs) (h : Ext w w') : OwnFs w' base v fs:=by
 obtain ⟨hB,al,hl,hr,hx⟩:=o
 refine ⟨hB,al,hl,⟨hr.1,?_⟩,fun i hi => ⟨(hx i hi).1,(hx i hi).2.1.ext h,(hx i hi).2.2⟩⟩
 rcases hr.2 with hn | ⟨g,cap,cur,rfl,hbg,hh,rest⟩
 ·
  exact .inl hn
 ·
  exact .inr ⟨g,cap,cur,rfl,hbg,h.block hh,rest⟩
theorem OwnFs.lt {w : World} {base : Nat} {v : Value} {fs : List Fd} (o : OwnFs w base v fs) {k : Nat} (hk : v.ownBlock = some k) : base ≤ k ∧ k < w.heap.size:=by
 obtain ⟨_,al,_,hr,_⟩:=o
 exact World.ownsRow.lt hr k hk
theorem OwnFs.fl {w : World} {base : Nat} {v : Value} {fs : List Fd} (o : OwnFs w base v fs) : Fl w v fs:=by
 obtain ⟨hB,al,hl,hr,hx⟩:=o
 rcases hr.2 with ⟨rfl,h0⟩ | ⟨g,cap,cur,rfl,hbg,hh,hn,hm,hs,ht⟩
 ·
  exact ⟨hB,none,0,by rw [h0],by omega,.inl h0⟩
 ·
  refine ⟨hB,_,cap,rfl,hn,?_⟩
  by_cases h0 : fs.length = 0
  ·
   exact .inl h0
  ·
   refine .inr ⟨g,0,rfl,(Array.getElem?_eq_some_iff.1 hh).1,fun i hi => ?_⟩
   have hcell : ∀ k,k < fs.length * 2 → w.cell? ⟨g,k,none⟩ = (cellsFs fs al)[k]?:=fun k hk => by
    rw [cell_of_row w g k cur _ _ hh,← ht,List.getElem?_take_of_lt hk]
    simp
   obtain ⟨c0,c1⟩:=zid hl hi
   refine ⟨by rw [Nat.zero_add,hcell _ (by omega)]; exact c0,_,_,by rw [Nat.zero_add,hcell _ (by omega)]; exact c1,(hx i hi).1,(hx i hi).2.1⟩
theorem infoF16 : (Tryz.prog.info? 75).map (fun i => (i.zero,i.size,i.bytes)) = some (some (.agg #[.int .i64 0,.slice none 0 0]),2,32):=by kernel_rfl
theorem zgr {i : Option TypeInfo} {z : Value} {n b : Nat} (h : i.map (fun i => (i.zero,i.size,i.bytes)) = some (some z,n,b)) : ∃ j,i = some j ∧ j.zero = some z ∧ j.size = n ∧ j.bytes = b:=by
 cases i with
 | none => simp at h
 | some j =>
  simp only [Option.map_some,Option.some.injEq,Prod.mk.injEq] at h
  exact ⟨j,rfl,h.1,h.2.1,h.2.2⟩
theorem tgF_lt {fs : List Fd} {f : Fd} {i : Nat} (h : i < fs.length) : tgF (fs ++ [f]) i = tgF fs i ∧ bsF (fs ++ [f]) i = bsF fs i:=by
 unfold tgF bsF
 simp only [List.getD_eq_getElem?_getD,List.getElem?_append_left h,and_self]
theorem tgF_last (fs : List Fd) (f : Fd) : tgF (fs ++ [f]) fs.length = f.1 ∧ bsF (fs ++ [f]) fs.length = f.2:=by
 unfold tgF bsF
 simp
theorem zhm {w : World} {base : Nat} {v : Value} {fs : List Fd} (ty : TypeId) (hown : OwnFs w base v fs) (g : Nat) (f : Fd) (a : Option Addr × Nat) (c1 : Nat)
  (hg : w.heap[g]? = some (.cells #[.int .i64 f.1,.slice a.1 f.2.length a.2] 75 (0,0))) (hc : f.2.length ≤ a.2) (hb : Bs w a.1 f.2) (hne : Off a.1 f.2 v.ownBlock)
  (hn : fs.length ≤ 1000000000) (hbase : base ≤ w.heap.size) :
  ∃ v' w',(Builtin.append_ #[73,73] ty #[v,.slice (some ⟨g,0,none⟩) 1 c1]).run Tryz.prog w = .ok v' w' ∧ OwnFs w' base v' (fs ++ [f]) ∧ w.grownBy w' v.ownBlock:=by
 obtain ⟨i,hi,hz,hsz,hby⟩:=zgr infoF16
 obtain ⟨hB,al,hl,hr,hx⟩:=hown
 obtain ⟨v',w',hrun,h2,h3,_,h5⟩:=run_append_own_at (P:=Tryz.prog) w base 73 ty 75 i _ 2 32 Tryz.underlying73 hi hz hsz hby rfl (by decide) v fs.length (cellsFs fs al) hr ⟨g,0,none⟩ 1 c1 [.int .i64 f.1,.slice a.1 f.2.length a.2] rfl
  (fun j u hu => by
   rw [Addr.add_mid,Nat.zero_add,cell_of_row w g j _ _ _ hg]
   simpa using hu)
  (fun u hu => by
   simp only [List.mem_cons,List.not_mem_nil,or_false] at hu
   rcases hu with rfl | rfl <;> rfl) (by unfold maxLen; omega) (by omega) hbase
 refine ⟨v',w',hrun,⟨?_,al ++ [a],by simp [hl],?_,fun k hk => ?_⟩,h3⟩
 ·
  intro x hx'
  rcases List.mem_append.1 hx' with h | h
  ·
   exact hB x h
  ·
   rw [List.mem_singleton.1 h]; exact hb.1
 ·
  rw [zep f a hl,List.length_append]
  exact h2
 ·
  have hout : ∀ (A : Option Addr) (bs : List Nat),Bs w A bs → Off A bs v.ownBlock → Off A bs v'.ownBlock:=by
   intro A bs hA hn1
   rcases hn1 with h0 | hn1
   ·
    exact .inl h0
   ·
    rcases hA.2 with h | ⟨b',o',e',hb',_⟩
    ·
     exact .inl h
    ·
     refine .inr fun b o e e2 => ?_
     rw [e] at e'
     injection e' with e'
     injection e' with e4
     rcases h5 with h5 | h5
     ·
      rw [h5] at e2; exact hn1 b o e e2
     ·
      rw [h5] at e2
      have e3 : w.heap.size = b:=by injection e2
      omega
  rw [List.length_append,List.length_singleton] at hk
  by_cases hlt : k < fs.length
  ·
   obtain ⟨e1,e2⟩:=tgF_lt (f:=f) hlt
   have e3 : (al ++ [a]).getD k (none,0) = al.getD k (none,0):=by
    simp only [List.getD_eq_getElem?_getD,List.getElem?_append_left (show k < al.length by omega)]
   obtain ⟨x1,x2,x3⟩:=hx k hlt
   rw [e2,e3]
   exact ⟨x1,x2.but h3 x3,hout _ _ x2 x3⟩
  ·
   obtain rfl : k = fs.length:=by omega
   obtain ⟨e1,e2⟩:=tgF_last fs f
   have e3 : (al ++ [a]).getD fs.length (none,0) = a:=by
    rw [← hl]
    simp
   rw [e2,e3]
   exact ⟨hc,hb.but h3 hne,hout _ _ hb hne⟩
theorem infoT1 : (Tryz.prog.info? 5).map (fun i => (i.zero,i.size,i.bytes)) = some (some (.int .u8 0),1,1):=by kernel_rfl
def Fresh (w : World) (A : Option Addr) (bs : List Nat) : Prop:=bs.length = 0 ∨ ∀ b o,A = some ⟨b,o,none⟩ → w.heap.size ≤ b
theorem Fresh.off {w : World} {A : Option Addr} {bs : List Nat} {row : Option Nat} (h : Fresh w A bs) (hr : ∀ k,row = some k → k < w.heap.size) : Off A bs row :=
 h.imp id fun h b o e e2 => by have:=h b o e; have:=hr b e2; omega
theorem append_empty {w : World} (ty : TypeId) {g m c : Nat} {A : Option Addr} {bs : List Nat} (hg : w.heap[g]? = some (.cells #[] 5 (0,0))) (hb : Bs w A bs) (hm : m = bs.length) (hle : m ≤ 1000000000) :
  ∃ A' c' w',(Builtin.append_ #[24,24] ty #[.slice (some ⟨g,0,none⟩) 0 0,.slice A m c]).run Tryz.prog w = .ok (.slice A' m c') w' ∧ Ext w w' ∧ m ≤ c' ∧ Bs w' A' bs ∧ Fresh w A' bs:=by
 subst hm
 obtain ⟨i,hi,hz,hsz,hby⟩:=info_parts infoT1
 have hgl : g < w.heap.size:=(Array.getElem?_eq_some_iff.1 hg).1
 have o0 : Own w g 5 (.slice (some ⟨g,0,none⟩) 0 0) 0 (fun j => .int .u8 (bs.getD j 0 : Nat)) :=
  ⟨by simp,.inr ⟨g,0,#[],rfl,Nat.le_refl _,hg,Nat.le_refl _,by unfold maxLen; omega,by simp,by simp⟩⟩
 obtain ⟨v',w',hr,h2,h3,h5,_⟩:=zhv (P:=Tryz.prog) w g 24 ty 5 i _ 1 Tryz.underlying24 hi hz hsz hby rfl _ 0 _ o0 A bs.length c (fun j => .int .u8 (bs.getD j 0 : Nat)) hb.from (fun _ => rfl) (by unfold maxLen; omega) (by omega) (by omega)
 rw [Nat.zero_add] at h2
 have hO : OwnB w' g v' bs:=OwnB.of h2 hb.1 rfl fun j hj => by rw [if_neg (by omega),Nat.sub_zero]
 obtain ⟨A',c',rfl,hc',hB'⟩:=hO.bs
 by_cases h0 : bs.length = 0
 ·
  rcases A with _ | ad
  ·
   have hw : w' = w:=by
    have : (Builtin.append_ #[24,24] ty #[.slice (some ⟨g,0,none⟩) 0 0,.slice none bs.length c]).run Tryz.prog w = .ok (.slice (some ⟨g,0,none⟩) 0 0) w:=by
     rw [h0]
     simp [Builtin.append_,run_underlying Tryz.underlying24,sizeOf,typeInfo,hi,Builtin.lenOf,Builtin.firstCells,storeCells]
    rw [hr] at this
    injection this
   subst hw
   exact ⟨A',c',w',hr,Ext.refl _,hc',hB',.inl h0⟩
  ·
   have hr2:=run_append_room_cells (P:=Tryz.prog) (w:=w) 24 ty 5 i Tryz.underlying24 hi g 0 0 0 ad bs.length c [] (by rw [h0]; simp) (fun j u hu => by simp at hu) (fun u hu => by simp at hu) (by omega) (fun j hj => by simp at hj) (fun j hj => by simp at hj)
   rw [hr] at hr2
   injection hr2 with _ hw
   have hw' : w' = w:=hw
   subst hw'
   exact ⟨A',c',w',hr,Ext.refl _,hc',hB',.inl h0⟩
 ·
  rcases hb.2 with h | ⟨b,o,rfl,hbl,hcl⟩
  ·
   exact absurd h h0
  ·
   have hr2:=run_append_grow (P:=Tryz.prog) w 24 ty 5 i _ Tryz.underlying24 hi hz ⟨g,0,none⟩ 0 0 [] (by simp) (fun j u hu => by simp at hu) ⟨b,o,none⟩ bs.length c ((List.range bs.length).map fun j => .int .u8 (bs.getD j 0 : Nat)) (by simp [hsz]) (fun j u hu => by
    have hj : j < bs.length:=by have:=(List.getElem?_eq_some_iff.1 hu).1; simpa using this
    rw [Addr.add_mid,hcl j hj,← hu]; simp [hj]) (by omega) (by omega) (growslice_fits (by omega) (by rw [hby]; omega))
   rw [hr] at hr2
   injection hr2 with hv hw
   injection hv with hA _ _
   subst hA
   exact ⟨_,c',w',hr,by rw [hw]; exact (Ext.drew w).trans (Ext.alloc _ _),hc',hB',.inr fun b' o' e => by injection e with e; injection e with e; omega⟩
/-! ### in schedules -/
section
variable {Q : Exit → Act → World → Prop} {l : List Oper} {n k d : Nat} {r : Sched} {a : Act} {w : World}
theorem sched_val {v : Value} (o : Oper) (ho : l[k]? = some o) (hg : o.guard = none) (hd : o.dst = some d) (hm : ∀ W,Ext w W → (execOp a.eval o).run Tryz.prog W = .ok (.value v) W)
  (h : ∀ W,Ext w W → wpSched Tryz.prog l Q n r (a.put (some d) v) W) : wpSched Tryz.prog l Q n ((false,[k]) :: r) a w:=by
 refine zfe o ho hg fun W hW => ?_
 unfold Oper.wp
 rw [hm W hW,Oper.upon_value,hd]
 exact ⟨fun _ => Ext.refl W,h W hW⟩
theorem run_assign_v {o : Oper} {x : Operand} {v : Value} (ho : o.op = .assign x) (hx : a.eval x = v) (W : World) : (execOp a.eval o).run Tryz.prog W = .ok (.value v) W:=by
 unfold execOp
 simp only [ho,hx,Sem.run_pure]
theorem zin {x : Operand} (v : Value) (o : Oper) (ho : l[k]? = some o) (hg : o.guard = none) (hd : o.dst = some d) (hop : o.op = .assign x) (hx : a.eval x = v)
  (h : ∀ W,Ext w W → wpSched Tryz.prog l Q n r (a.put (some d) v) W) : wpSched Tryz.prog l Q n ((false,[k]) :: r) a w:=sched_val o ho hg hd (fun W _ => run_assign_v hop hx W) h
theorem sched_append_fd {s x : Operand} {base g c : Nat} {v : Value} {fs : List Fd} {f : Fd} {al : Option Addr × Nat} (o : Oper) (ho : l[k]? = some o) (hgd : o.guard = none) (hop : o.op = .call { callee:=.builtin .append,args:=#[s,x],argTypes:=#[73,73] }) (hd : o.dst = some d)
  (hs : a.eval s = v) (hx : a.eval x = .slice (some ⟨g,0,none⟩) 1 c) (hkn : ¬ k < n) (hown : OwnFs w base v fs) (hg : w.heap[g]? = some (.cells #[.int .i64 f.1,.slice al.1 f.2.length al.2] 75 (0,0)))
  (hc : f.2.length ≤ al.2) (hb : Bs w al.1 f.2) (hne : Off al.1 f.2 v.ownBlock) (hn : fs.length ≤ 1000000000) (hbase : base ≤ w.heap.size)
  (h : ∀ v' W W',Ext w W → OwnFs W' base v' (fs ++ [f]) → W.grownBy W' v.ownBlock → wpSched Tryz.prog l Q n r (a.put (some d) v') W') : wpSched Tryz.prog l Q n ((false,[k]) :: r) a w:=by
 refine zfe o ho hgd fun W hW => ?_
 obtain ⟨v',w',hr,hO,hG⟩:=zhm (c1:=c) o.type (hown.keep hW) g f al (hW.block hg) hc (hb.ext hW) hne hn (Nat.le_trans hbase (Below.size hW))
 unfold Oper.wp execOp
 simp only [hop,resolve,invoke,builtin,Sem.run_bind,Sem.run_pure,Result.andThen_ok,List.map_toArray,List.map_cons,List.map_nil,hs,hx,hr]
 show (k < n → Ext W w') ∧ _
 rw [hd]
 exact ⟨fun h => absurd h hkn,h v' W w' hW hO hG⟩
end
theorem wpl_append0 {Q : Exit → Act → World → Prop} {ops : Array Oper} {rest : List Oper} {a : Act} {w : World} {s x : Operand} {g m c : Nat} {A : Option Addr} {bs : List Nat} {o : Oper} (hgd : o.guard = none) (hop : o.op = .call { callee:=.builtin .append,args:=#[s,x],argTypes:=#[24,24] })
  (hs : a.eval s = .slice (some ⟨g,0,none⟩) 0 0) (hx : a.eval x = .slice A m c) (hg : w.heap[g]? = some (.cells #[] 5 (0,0))) (hb : Bs w A bs) (hm : m = bs.length) (hle : m ≤ 1000000000)
  (h : ∀ A' c' W,Ext w W → m ≤ c' → Bs W A' bs → Fresh w A' bs → wpList Tryz.prog ops Q rest (a.put o.dst (.slice A' m c')) W) : wpList Tryz.prog ops Q (o :: rest) a w:=by
 refine wpList_plain hgd fun K hK => ?_
 obtain ⟨A',c',w',hr,hE,hc,hB,hF⟩:=append_empty (c:=c) o.type hg hb hm hle
 unfold Oper.wp execOp
 simp only [hop,resolve,invoke,builtin,Sem.run_bind,Sem.run_pure,Result.andThen_ok,List.map_toArray,List.map_cons,List.map_nil,hs,hx,hr]
 exact hK _ _ (h A' c' w' hE hc hB hF)
theorem cut_mid (A : Option Addr) (r c p n : Nat) (hp : p + n ≤ c) (w : World) {x y : Int} (hx : x = (p : Int)) (hy : y = ((p + n : Nat) : Int)) : (Instr.sliceAt 24 (.slice A r c) (some (.int .i64 x)) (some (.int .i64 y)) none).run Tryz.prog w = .ok (.slice (cutA A p c) n (c - p)) w:=by
 subst hx hy
 have e2 : ((sizeOf (Tryz.prog.elem 24)).run Tryz.prog w) = .ok 1 w:=by kernel_rfl
 rw [run_sliceAt_slice w 24 _ _ _ _ (by kernel_rfl),run_slice_lh w 24 A r c (by kernel_rfl) .i64 .i64 (p : Int) ((p + n : Nat) : Int) (by omega) (by omega) (by omega),e2]
 simp [sliced,Result.andThen,cutA]
 omega
theorem wpl_val {P : Program} {ops : Array Oper} {Q : Exit → Act → World → Prop} {rest : List Oper} {a : Act} {w : World} {o : Oper} (v : Value) (hg : o.guard = none) (hr : (execOp a.eval o).run P w = .ok (.value v) w) (h : wpList P ops Q rest (a.put o.dst v) w) : wpList P ops Q (o :: rest) a w:=by
 refine wpList_plain hg fun K hK => ?_
 unfold Oper.wp
 rw [hr,Oper.upon_value]
 exact hK _ _ h
theorem Fl.take {w : World} {A : Option Addr} {n c : Nat} {fs : List Fd} (h : Fl w (.slice A n c) fs) {m : Nat} (hm : m ≤ n) : Fl w (.slice A m c) (fs.take m):=by
 obtain ⟨hB,AL,c',he,hc,hx⟩:=h
 injection he with e1 e2 e3
 subst e1 e3
 have hl : (fs.take m).length = m:=by rw [List.length_take]; omega
 have hg : ∀ i,i < m → tgF (fs.take m) i = tgF fs i ∧ bsF (fs.take m) i = bsF fs i:=fun i hi => by
  unfold tgF bsF
  simp only [List.getD_eq_getElem?_getD,List.getElem?_take_of_lt hi,and_self]
 refine ⟨fun f hf => hB f (List.mem_of_mem_take hf),A,c,by rw [hl],by rw [hl]; omega,?_⟩
 rw [hl]
 by_cases h0 : m = 0
 ·
  exact .inl h0
 ·
  refine .inr ?_
  obtain ⟨b,o,e,hb,hcl⟩:=hx.resolve_left (by omega)
  refine ⟨b,o,e,hb,fun i hi => ?_⟩
  obtain ⟨g1,g2⟩:=hg i hi
  rw [g1,g2]
  exact hcl i (by omega)
theorem bytes_of_str {bs : List Nat} (hb : Byt bs) (w : World) : ∃ A' c' w',(convert 9 24 (.string (strL bs))).run Tryz.prog w = .ok (.slice A' bs.length c') w' ∧ Ext w w' ∧ bs.length ≤ c' ∧ Bs w' A' bs ∧ Fresh w A' bs:=by
 have h:=run_bytes_of_string (P:=Tryz.prog) w 9 24 5 (strL bs) Tryz.underlying9 Tryz.underlying24 Tryz.underlying5
 rw [zfc] at h
 refine ⟨_,_,_,h,(Ext.drew w).trans (Ext.alloc _ _),grownCap_ge _ _ _ _,⟨hb,.inr ⟨w.heap.size,0,rfl,by simp,fun j hj => ?_⟩⟩,.inr fun b o e => by injection e with e; injection e with e; omega⟩
 have hblk : (w.drew.alloc (.cells (bytesRow (strL bs) (grownCap w bs.length 0 5)) 5 ((bytesRow (strL bs) (grownCap w bs.length 0 5)).size,(bytesRow (strL bs) (grownCap w bs.length 0 5)).size + 1))).heap[w.heap.size]? = some (.cells (bytesRow (strL bs) (grownCap w bs.length 0 5)) 5 ((bytesRow (strL bs) (grownCap w bs.length 0 5)).size,(bytesRow (strL bs) (grownCap w bs.length 0 5)).size + 1)):=zad _ _
 rw [Nat.zero_add,cell_of_row _ _ j _ _ _ hblk]
 unfold bytesRow
 have hlt : j < (strL bs).data.size:=by
  show j < (strL bs).size
  rw [zfc]; exact hj
 rw [Array.getElem?_append_left (by simpa using hlt)]
 have e : (strL bs).data[j]'hlt = UInt8.ofNat (bs.getD j 0):=by
  simp only [strL]
  rw [List.getD_eq_getElem?_getD,List.getElem?_eq_getElem hj]
  simp
 have hj2:=hb.getD j
 have e3 : (UInt8.ofNat (bs.getD j 0)).toNat = bs.getD j 0:=by
  generalize bs.getD j 0 = x at hj2 ⊢
  simp
  omega
 rw [Array.getElem?_map,Array.getElem?_eq_getElem hlt,Option.map_some,e,e3]
section
variable {Q : Exit → Act → World → Prop} {ops : Array Oper} {rest : List Oper} {a : Act} {w : World} {o : Oper}
theorem wpl_bytes {x : Operand} {bs : List Nat} (hgd : o.guard = none) (hop : o.op = .convert 9 24 x) (hx : a.eval x = .string (strL bs)) (hb : Byt bs)
  (h : ∀ A' c' W,Ext w W → bs.length ≤ c' → Bs W A' bs → Fresh w A' bs → wpList Tryz.prog ops Q rest (a.put o.dst (.slice A' bs.length c')) W) : wpList Tryz.prog ops Q (o :: rest) a w:=by
 refine wpList_plain hgd fun K hK => ?_
 obtain ⟨A',c',w',hr,hE,hc,hB,hF⟩:=bytes_of_str hb w
 unfold Oper.wp execOp
 simp only [hop,hx,Sem.run_bind,hr,Result.andThen_ok,Sem.run_pure]
 exact hK _ _ (h A' c' w' hE hc hB hF)
theorem zhi {s x : Operand} {base g c : Nat} {v : Value} {fs : List Fd} {f : Fd} {al : Option Addr × Nat} (hgd : o.guard = none) (hop : o.op = .call { callee:=.builtin .append,args:=#[s,x],argTypes:=#[73,73] })
  (hs : a.eval s = v) (hx : a.eval x = .slice (some ⟨g,0,none⟩) 1 c) (hown : OwnFs w base v fs) (hg : w.heap[g]? = some (.cells #[.int .i64 f.1,.slice al.1 f.2.length al.2] 75 (0,0)))
  (hc : f.2.length ≤ al.2) (hb : Bs w al.1 f.2) (hne : Off al.1 f.2 v.ownBlock) (hn : fs.length ≤ 1000000000) (hbase : base ≤ w.heap.size)
  (h : ∀ v' W,OwnFs W base v' (fs ++ [f]) → w.grownBy W v.ownBlock → wpList Tryz.prog ops Q rest (a.put o.dst v') W) : wpList Tryz.prog ops Q (o :: rest) a w:=by
 refine wpList_plain hgd fun K hK => ?_
 obtain ⟨v',w',hr,hO,hG⟩:=zhm (c1:=c) o.type hown g f al hg hc hb hne hn hbase
 unfold Oper.wp execOp
 simp only [hop,resolve,invoke,builtin,Sem.run_bind,Sem.run_pure,Result.andThen_ok,List.map_toArray,List.map_cons,List.map_nil,hs,hx,hr]
 exact hK _ _ (h v' w' hO hG)
end
theorem zch {bs : List Nat} : getFs bs = match parse bs with | some fs => if mayFs fs = true then some fs else none | none => none:=by
 unfold getFs
 cases parse bs with
 | none => rfl
 | some fs => cases h : mayFs fs <;> simp [Option.filter,h]
def PutA (w' : World) (fs : List Fd) (x ev : Value) : Prop :=
 (mayFs fs = false ∧ (∃ A c,x = .slice A 0 c) ∧ ev = .iface 37 (.int .i64 1)) ∨
 (mayFs fs = true ∧ ev = .nilIface ∧ ∃ A c,x = .slice A (encF fs).length c ∧ (encF fs).length ≤ c ∧ Bs w' A (encF fs))
def GetA (w' : World) (bs : List Nat) (x ev : Value) : Prop :=
 (getFs bs = none ∧ (∃ A c,x = .slice A 0 c) ∧ ev = .iface 37 (.int .i64 2)) ∨ (∃ fs,getFs bs = some fs ∧ ev = .nilIface ∧ Fl w' x fs)
def OfA (bs : List Nat) (x ev : Value) : Prop:=(ofB bs < 0 ∧ x = .int .i64 0 ∧ ev = .iface 37 (.int .i64 2)) ∨ (0 ≤ ofB bs ∧ x = .int .i64 (ofB bs) ∧ ev = .nilIface)
structure Code8 : Prop where
 may : ∀ (v : Value) (fs : List Fd) (w : World),Fl w v fs → fs.length ≤ 1000000000 → Calls Tryz.prog 109 #[v] w fun e w' => e = .returned (.bool (mayFs fs)) ∧ Ext w w'
 put : ∀ (v : Value) (fs : List Fd) (w : World),Fl w v fs → fs.length ≤ 1000000000 → Calls Tryz.prog 56 #[v] w fun e w' => ∃ x ev,e = .returned (.tuple #[x,ev]) ∧ Ext w w' ∧ PutA w' fs x ev
 get : ∀ (A : Option Addr) (m c : Nat) (bs : List Nat) (w : World),m = bs.length → m ≤ c → m ≤ 100000000 → Bs w A bs → Calls Tryz.prog 72 #[.slice A m c] w fun e w' => ∃ x ev,e = .returned (.tuple #[x,ev]) ∧ Ext w w' ∧ GetA w' bs x ev
 number : ∀ (n : Int) (w : World),-9223372036854775808 ≤ n → n ≤ 9223372036854775807 → Calls Tryz.prog 24 #[.int .i64 n] w fun e w' => ∃ A c,e = .returned (.slice A 8 c) ∧ 8 ≤ c ∧ Bs w' A (numB n) ∧ Ext w w'
 of : ∀ (A : Option Addr) (m c : Nat) (bs : List Nat) (w : World),m = bs.length → m ≤ c → Bs w A bs → Calls Tryz.prog 73 #[.slice A m c] w fun e w' => ∃ x ev,e = .returned (.tuple #[x,ev]) ∧ Ext w w' ∧ OfA bs x ev
theorem run_items (d : Nat) (xs ys : Array Value) (A B : Nat → Int) (w : World) : ∀ is : List Nat,(∀ i ∈ is,xs[i]? = some (vI vU (A i))) → (∀ i ∈ is,ys[i]? = some (vI vU (B i))) →
  (Op.eqItems (d + 1) 27 1 xs ys is).run Tryz.prog w = .ok (is.all fun i => A i == B i) w
 | [],_,_ => by simp [Op.eqItems]
 | i :: is,hx,hy => by
  have e1:=run_part_plain (P:=Tryz.prog) w (e:=27) (by kernel_rfl) (xs:=xs) (off:=i * 1) (v:=.int .u64 (A i)) (by rw [Nat.mul_one]; exact hx i (by simp))
  have e2:=run_part_plain (P:=Tryz.prog) w (e:=27) (by kernel_rfl) (xs:=ys) (off:=i * 1) (v:=.int .u64 (B i)) (by rw [Nat.mul_one]; exact hy i (by simp))
  have e3:=run_equalIn_int (P:=Tryz.prog) w d 27 .u64 .u64 (A i) (B i) Tryz.underlying27
  have ih:=run_items d xs ys A B w is (fun j hj => hx j (by simp [hj])) (fun j hj => hy j (by simp [hj]))
  simp only [Op.eqItems,Sem.run_bind,e1,e2,e3,Result.andThen_ok]
  by_cases h : A i = B i
  ·
   simp [h,ih]
  ·
   simp [h]
theorem eql4 (f g : Nat → Int) (w : World) : (binOp .eql 29 (.agg #[vI vU (f 0),vI vU (f 1),vI vU (f 2),vI vU (f 3)]) (.agg #[vI vU (g 0),vI vU (g 1),vI vU (g 2),vI vU (g 3)])).run Tryz.prog w = .ok (.bool ((List.range 4).all fun i => f i == g i)) w:=by
 obtain ⟨i,hi⟩ : ∃ i,Tryz.prog.info? 27 = some i:=Option.isSome_iff_exists.1 (by kernel_rfl)
 have hc : Tryz.prog.cellsOf 27 = 1:=by kernel_rfl
 rw [run_eql_struct,run_equalIn_array (P:=Tryz.prog) w 9999 _ _ Tryz.underlying29 hi,hc]
 rw [run_items 9998 _ _ f g w _ (fun j hj => arr4 (fun j => .int .u64 (f j)) j (by simpa using hj)) (fun j hj => arr4 (fun j => .int .u64 (g j)) j (by simpa using hj))]
 rfl
theorem all_wd (n X Y : Nat) : ((List.range n).all fun i => wd X i == wd Y i) = decide (X % w64 ^ n = Y % w64 ^ n):=by
 rw [Bool.eq_iff_iff]
 simp only [List.all_eq_true,List.mem_range,beq_iff_eq,decide_eq_true_eq]
 constructor
 ·
  intro h
  exact zjh zau n fun i hi => by have:=h i hi; unfold wd at this; omega
 ·
  intro h i hi
  unfold wd
  rw [← zdd X n i hi,← zdd Y n i hi,h]
theorem eql_num {X Y : Nat} (hX : X < top) (hY : Y < top) (w : World) : (binOp .eql 29 (.agg #[vI vU (wd X 0),vI vU (wd X 1),vI vU (wd X 2),vI vU (wd X 3)]) (.agg #[vI vU (wd Y 0),vI vU (wd Y 1),vI vU (wd Y 2),vI vU (wd Y 3)])).run Tryz.prog w = .ok (.bool (decide (X = Y))) w:=by
 have h:=eql4 (wd X) (wd Y) w
 rw [all_wd 4 X Y] at h
 have e : (X % w64 ^ 4 = Y % w64 ^ 4) = (X = Y):=by rw [Nat.mod_eq_of_lt (show X < w64 ^ 4 from hX),Nat.mod_eq_of_lt (show Y < w64 ^ 4 from hY)]
 simpa [e] using h
theorem eql_num_same (X : Nat) (w : World) : (binOp .eql 29 (.agg #[vI vU (wd X 0),vI vU (wd X 1),vI vU (wd X 2),vI vU (wd X 3)]) (.agg #[vI vU (wd X 0),vI vU (wd X 1),vI vU (wd X 2),vI vU (wd X 3)])).run Tryz.prog w = .ok (.bool true) w:=by
 have h:=eql4 (wd X) (wd X) w
 rw [all_wd 4 X X] at h
 simpa using h
theorem infoN4 : (Tryz.prog.info? 29).map (·.size) = some 4:=by kernel_rfl
def nc (x : Nat) : Array Value:=#[vI vU (wd x 0),vI vU (wd x 1),vI vU (wd x 2),vI vU (wd x 3)]
def nv (x : Nat) : Value:=.agg (nc x)
theorem zdu (x : Nat) : (nc x).all (·.oneCell') = true:=by simp [nc,Value.oneCell']
theorem iN (x : Nat) : (Tryz.prog.info? 29).map (·.size) = some (nc x).size:=by exact infoN4
theorem uN : Tryz.prog.underlying 29 = some (.array 4 27):=Tryz.underlying29
section
variable {P : Program} {o : Oper} {a : Act} {w : World}
theorem zaf {f : FuncId} {fn : Func} {c : Code} (hf : P.funcs[f]? = some fn) (hname : (fn.name == "runtime.NumGoroutine") = false) (hb : fn.body = some c) (args : Array Value) (w : World) :
  (callFunc f args).run P w = .ok (.enter f args) w:=by
 have hn : ¬ fn.name = "runtime.NumGoroutine":=by simpa using hname
 simp [callFunc,go_sem,hf,hb,hn]
theorem zbc {k : FuncId} {xs : List Operand} {ts : Array TypeId} {args : List Value} {v : Value} (ho : o.op = .call { callee:=.value (.func k),args:=xs.toArray,argTypes:=ts }) (hx : xs.map a.eval = args)
  (he : ∀ W,(callFunc k args.toArray).run P W = .ok (.enter k args.toArray) W) (hc : ∀ W,Ext w W → Calls P k args.toArray W fun e W' => e = .returned v ∧ Ext W W') : Made P o v a w :=
 made_call (fun W => by
  have h1 : execOp a.eval o = callFunc k (#[] ++ xs.toArray.map a.eval ++ #[]):=by
   cases o
   subst ho
   rfl
  rw [h1,List.map_toArray,hx]
  simpa using he W) hc
theorem made_bin {op : BinOp} {x y : Operand} {ty ty2 : TypeId} {u v r : Value} (ho : o.op = .binOp op ty x y ty2) (hx : a.eval x = u) (hy : a.eval y = v)
  (hg : ∀ W,(eqGuard op ty x y u v).run P W = .ok () W) (hr : ∀ W,(binOp op ty u v).run P W = .ok r W) : Made P o r a w:=zba fun W _ => by
 unfold execOp
 simp only [ho,hx,hy,Sem.run_bind,hg W,Result.andThen_ok,hr W,Sem.run_pure]
theorem made_slice {ty : TypeId} {x : Operand} {lo hi mx : Option Operand} {u v : Value} (ho : o.op = .slice ty x lo hi mx) (hx : a.eval x = u)
  (h : ∀ W,(Instr.sliceAt ty u (lo.map a.eval) (hi.map a.eval) (mx.map a.eval)).run P W = .ok v W) : Made P o v a w:=zba fun W _ => by
 unfold execOp
 simp only [ho,hx,Sem.run_bind,h W,Result.andThen_ok,Sem.run_pure]
theorem neq_of {t : TypeId} {c d : Array Value} {b r : Bool} {W : World} (h : (binOp .eql t (.agg c) (.agg d)).run P W = .ok (.bool b) W) (hr : (!b) = r) : (binOp .neq t (.agg c) (.agg d)).run P W = .ok (.bool r) W:=by
 subst hr
 have h1 : (do pure (Value.bool (← Op.equal t (.agg c) (.agg d))) : Sem Value).run P W = .ok (.bool b) W:=h
 show (do pure (Value.bool (!(← Op.equal t (.agg c) (.agg d)))) : Sem Value).run P W = .ok (.bool (!b)) W
 simp only [Sem.run_bind,Sem.run_pure] at h1 ⊢
 generalize (Op.equal t (.agg c) (.agg d)).run P W = r at h1 ⊢
 cases r with
 | ok v w' =>
  simp only [Result.andThen_ok,Result.ok.injEq,Value.bool.injEq] at h1 ⊢
  exact ⟨by rw [h1.1],h1.2⟩
 | halt x w' => simp [Result.andThen] at h1
end
section
variable (W : World)
theorem hzN : (Instr.alloc 29 true (.tuple #[])).run Tryz.prog W = .ok (ptrTo W.heap.size) (W.alloc (.cells #[vI vU 0,vI vU 0,vI vU 0,vI vU 0] 29)):=by simp [Instr.alloc,go_sem]
theorem wd_z : wd 0 0 = 0 ∧ wd 0 1 = 0 ∧ wd 0 2 = 0 ∧ wd 0 3 = 0:=by decide
theorem bldN0 : (Instr.build 29 [].toArray).run Tryz.prog W = .ok (nv 0) W:=by
 obtain ⟨h0,h1,h2,h3⟩:=wd_z
 unfold nv nc
 rw [h0,h1,h2,h3]
 simp [Instr.build,go_sem]
end
theorem zdn {w : World} {o : Obj} {k : Nat} (hk : k = w.heap.size) : (w.alloc o).heap[k]? = some o:=by subst hk; exact zad w o
theorem blocks1 (w : World) (A : Obj) : Ext w (w.alloc A) ∧ (w.alloc A).heap[w.heap.size]? = some A:=⟨Ext.alloc _ _,zdn rfl⟩
theorem blocks2 (w : World) (A B : Obj) : Ext w ((w.alloc A).alloc B) ∧ ((w.alloc A).alloc B).heap[w.heap.size]? = some A ∧ ((w.alloc A).alloc B).heap[w.heap.size + 1]? = some B :=
 ⟨(Ext.alloc _ _).trans (Ext.alloc _ _),(Ext.alloc _ _).block (zdn rfl),zdn (by simp)⟩
theorem blocks3 (w : World) (A B C : Obj) : Ext w (((w.alloc A).alloc B).alloc C) ∧ (((w.alloc A).alloc B).alloc C).heap[w.heap.size]? = some A ∧ (((w.alloc A).alloc B).alloc C).heap[w.heap.size + 1]? = some B ∧ (((w.alloc A).alloc B).alloc C).heap[w.heap.size + 1 + 1]? = some C :=
 ⟨(Ext.alloc _ _).trans ((Ext.alloc _ _).trans (Ext.alloc _ _)),((Ext.alloc _ _).trans (Ext.alloc _ _)).block (zdn rfl),(Ext.alloc _ _).block (zdn (by simp)),zdn (by simp)⟩
theorem blocks4 (w : World) (A B C D : Obj) : Ext w ((((w.alloc A).alloc B).alloc C).alloc D) ∧ ((((w.alloc A).alloc B).alloc C).alloc D).heap[w.heap.size]? = some A ∧ ((((w.alloc A).alloc B).alloc C).alloc D).heap[w.heap.size + 1]? = some B ∧ ((((w.alloc A).alloc B).alloc C).alloc D).heap[w.heap.size + 1 + 1]? = some C ∧ ((((w.alloc A).alloc B).alloc C).alloc D).heap[w.heap.size + 1 + 1 + 1]? = some D :=
 ⟨(Ext.alloc _ _).trans ((Ext.alloc _ _).trans ((Ext.alloc _ _).trans (Ext.alloc _ _))),((Ext.alloc _ _).trans ((Ext.alloc _ _).trans (Ext.alloc _ _))).block (zdn rfl),((Ext.alloc _ _).trans (Ext.alloc _ _)).block (zdn (by simp)),(Ext.alloc _ _).block (zdn (by simp)),zdn (by simp)⟩
theorem zif {P : Program} {c : Code} {Q : Exit → Act → World → Prop} {a : Act} {w : World} {A : Obj} (h : ∀ w1,Ext w w1 → w1.heap[w.heap.size]? = some A → c.wp P Q a w1) : c.wp P Q a (w.alloc A):=h _ (blocks1 w A).1 (blocks1 w A).2
theorem wp_via2 {P : Program} {c : Code} {Q : Exit → Act → World → Prop} {a : Act} {w : World} {A B : Obj} (h : ∀ w1,Ext w w1 → w1.heap[w.heap.size]? = some A → w1.heap[w.heap.size + 1]? = some B → c.wp P Q a w1) : c.wp P Q a ((w.alloc A).alloc B):=h _ (blocks2 w A B).1 (blocks2 w A B).2.1 (blocks2 w A B).2.2
theorem wp_via3 {P : Program} {c : Code} {Q : Exit → Act → World → Prop} {a : Act} {w : World} {A B C : Obj} (h : ∀ w1,Ext w w1 → w1.heap[w.heap.size]? = some A → w1.heap[w.heap.size + 1]? = some B → w1.heap[w.heap.size + 1 + 1]? = some C → c.wp P Q a w1) : c.wp P Q a (((w.alloc A).alloc B).alloc C):=h _ (blocks3 w A B C).1 (blocks3 w A B C).2.1 (blocks3 w A B C).2.2.1 (blocks3 w A B C).2.2.2
theorem wp_via4 {P : Program} {c : Code} {Q : Exit → Act → World → Prop} {a : Act} {w : World} {A B C D : Obj} (h : ∀ w1,Ext w w1 → w1.heap[w.heap.size]? = some A → w1.heap[w.heap.size + 1]? = some B → w1.heap[w.heap.size + 1 + 1]? = some C → w1.heap[w.heap.size + 1 + 1 + 1]? = some D → c.wp P Q a w1) : c.wp P Q a ((((w.alloc A).alloc B).alloc C).alloc D):=h _ (blocks4 w A B C D).1 (blocks4 w A B C D).2.1 (blocks4 w A B C D).2.2.1 (blocks4 w A B C D).2.2.2.1 (blocks4 w A B C D).2.2.2.2
theorem Ext.new {w w1 W : World} {r : Nat} (h : Ext w w1) (k : But r w1 W) (hr : w.heap.size ≤ r) : Ext w W:=Below.trans h (k.new hr (Below.size h))
theorem made_not' {P : Program} {o : Oper} {a : Act} {w : World} {ty : TypeId} {x : Operand} {b r : Bool} (ho : o.op = .unOp .not ty x) (hx : a.eval x = .bool b) (hr : (!b) = r) : Made P o (.bool r) a w:=hr ▸ made_not ho hx
theorem wpl_load {P : Program} {ops : Array Oper} {Q : Exit → Act → World → Prop} {rest : List Oper} {o : Oper} {a : Act} {w : World} {ty : TypeId} {x : Operand} {g t : Nat} {C cs : Array Value} {fr : Nat × Nat} {d : TypeDesc} (hg : o.guard = none) (ho : o.op = .load ty x) (hx : a.eval x = ptrTo g) (hb : w.heap[g]? = some (.cells C t fr))
  (hcs : C = cs) (hu : P.underlying ty = some d) (hd : d.isRow = true) (hi : (P.info? ty).map (·.size) = some cs.size) (h : wpList P ops Q rest (a.put o.dst (.agg cs)) w) : wpList P ops Q (o :: rest) a w:=by
 subst hcs
 refine wpList_load_mid hg ty x ho g 0 hx C.toList d (fun j v hv => by rw [cell_of_row w g (0 + j) C t fr hb,Nat.zero_add]; simpa using hv) hu hd (by simpa using hi) ?_
 simpa using h
theorem eqN {X : Nat} (W : World) : (binOp .eql 29 (nv X) (nv X)).run Tryz.prog W = .ok (.bool true) W:=eql_num_same X W
theorem neN {X : Nat} (W : World) : (binOp .neq 29 (nv X) (nv X)).run Tryz.prog W = .ok (.bool false) W:=neq_of (eqN W) rfl
theorem gN (X Y : Nat) (op : BinOp) (x y : Operand) (W : World) : (eqGuard op 29 x y (nv X) (nv Y)).run Tryz.prog W = .ok () W:=by
 unfold nv nc
 cases op <;> simp [eqGuard,go_sem]
def lev (z : Nat → Nat) : Nat → Nat
 | 0 => 0
 | i + 1 => lev z i + z i * 256 ^ i
theorem lev_lt {z : Nat → Nat} (hz : ∀ j,z j < 256) : ∀ i,lev z i < 256 ^ i
 | 0 => by simp [lev]
 | i + 1 => by
  have h:=lev_lt hz i
  have h2 : z i * 256 ^ i ≤ 255 * 256 ^ i:=Nat.mul_le_mul_right _ (by have:=hz i; omega)
  show lev z i + z i * 256 ^ i < _
  rw [Nat.pow_succ]
  omega
theorem dg_put (m q r L c : Nat) (hr : r < m) (hL : L < 256 ^ (m * q + r)) (hc : c < 256) (j : Nat) :
  dg (256 ^ m) (L + c * 256 ^ (m * q + r)) j = if j = q then dg (256 ^ m) L j + c * 256 ^ r else dg (256 ^ m) L j:=by
 have hB : 0 < 256 ^ m:=Nat.pow_pos (by omega)
 have hp : ∀ k,0 < (256 ^ m) ^ k:=fun k => Nat.pow_pos hB
 have e : 256 ^ (m * q + r) = (256 ^ m) ^ q * 256 ^ r:=by rw [Nat.pow_add,Nat.pow_mul]
 have hrm : 256 ^ r * 256 ≤ 256 ^ m:=by rw [← Nat.pow_succ]; exact Nat.pow_le_pow_right (by omega) hr
 rw [e] at hL ⊢
 have hLq : L / (256 ^ m) ^ q < 256 ^ r:=by rw [Nat.div_lt_iff_lt_mul (hp q),Nat.mul_comm]; exact hL
 have hcr : c * 256 ^ r ≤ 255 * 256 ^ r:=Nat.mul_le_mul_right _ (by omega)
 rw [show c * ((256 ^ m) ^ q * 256 ^ r) = (256 ^ m) ^ q * (c * 256 ^ r) by rw [Nat.mul_left_comm]]
 by_cases hj : j = q
 ·
  subst hj
  rw [if_pos rfl]
  unfold dg
  rw [Nat.add_mul_div_left _ _ (hp j),Nat.mod_eq_of_lt (by omega),Nat.mod_eq_of_lt (by omega)]
 ·
  rw [if_neg hj]
  by_cases hlt : j < q
  ·
   rw [← zdd _ q j hlt,Nat.add_mul_mod_self_left,zdd _ q j hlt]
  ·
   have hjq : q + 1 ≤ j:=by omega
   have hle : (256 ^ m) ^ (q + 1) ≤ (256 ^ m) ^ j:=Nat.pow_le_pow_right hB hjq
   rw [Nat.pow_succ] at hle
   have h1 : (256 ^ m) ^ q * (256 ^ r + c * 256 ^ r) ≤ (256 ^ m) ^ q * 256 ^ m:=Nat.mul_le_mul_left _ (by omega)
   rw [Nat.mul_add] at h1
   unfold dg
   rw [Nat.div_eq_of_lt (show L < _ by omega),Nat.div_eq_of_lt (show L + (256 ^ m) ^ q * (c * 256 ^ r) < _ by omega)]
theorem w64_bytes : w64 = 256 ^ 8:=by decide
theorem w16_bytes : w16 = 256 ^ 2:=by decide
theorem two_256 (r : Nat) : 2 ^ (r * 8) = 256 ^ r:=by rw [Nat.mul_comm,Nat.pow_mul]
theorem wd_put (L c k j : Nat) (hL : L < 256 ^ k) (hc : c < 256) : wd (L + c * 256 ^ k) j = if j = k / 8 then wd L j + (c * 256 ^ (k % 8) : Nat) else wd L j:=by
 have h:=dg_put 8 (k / 8) (k % 8) L c (Nat.mod_lt _ (by omega)) (by rw [Nat.div_add_mod]; exact hL) hc j
 rw [Nat.div_add_mod,← w64_bytes] at h
 unfold wd
 rw [h]
 split
 ·
  rw [Int.natCast_add]
 ·
  rfl
theorem of_word (L c k : Nat) (hL : L < 256 ^ k) (hc : c < 256) : bits .or .u64 (wd L (k / 8)) (IntKind.u64.wrap ((c : Int) * 2 ^ (k % 8 * 8))) = wd (L + c * 256 ^ k) (k / 8):=by
 have hr : k % 8 < 8:=Nat.mod_lt _ (by omega)
 have hp : 256 ^ (k % 8) ≤ 256 ^ 7:=Nat.pow_le_pow_right (by omega) (by omega)
 have h7 : (256 : Nat) ^ 7 = 72057594037927936:=by decide
 have hcr : c * 256 ^ (k % 8) ≤ 255 * 256 ^ (k % 8):=Nat.mul_le_mul_right _ (by omega)
 have hq : dg w64 L (k / 8) < 256 ^ (k % 8):=by
  have e : 256 ^ k = w64 ^ (k / 8) * 256 ^ (k % 8):=by
   rw [w64_bytes,← Nat.pow_mul,← Nat.pow_add,Nat.div_add_mod]
  unfold dg
  refine Nat.lt_of_le_of_lt (Nat.mod_le _ _) ?_
  rw [Nat.div_lt_iff_lt_mul (Nat.pow_pos zau),Nat.mul_comm,← e]
  exact hL
 have ec : (c : Int) * 2 ^ (k % 8 * 8) = ((c * 256 ^ (k % 8) : Nat) : Int):=by
  rw [← two_256,Int.natCast_mul,Int.natCast_pow]
  rfl
 rw [wd_put L c k _ hL hc,if_pos rfl,ec,IntKind.wrap_u64]
 unfold wd
 rw [show ((c * 256 ^ (k % 8) : Nat) : Int) % 18446744073709551616 = ((c * 256 ^ (k % 8) : Nat) : Int) by omega]
 rw [u64_or_nat _ _ (by omega) (by omega),Nat.or_comm,nat_join (8 * (k % 8)) _ _ (by rw [Nat.mul_comm 8,two_256]; exact Nat.mul_mod_left _ _) (by rw [Nat.mul_comm 8,two_256]; exact hq)]
 omega
theorem of_step (z : Nat → Nat) (k : Nat) (hz : ∀ j,z j < 256) (i : Nat) :
  (if i = k / 8 then Value.int .u64 (wd (lev z k + z k * 256 ^ k) (k / 8)) else Value.int .u64 (wd (lev z k) i)) = Value.int .u64 (wd (lev z (k + 1)) i):=by
 show _ = Value.int .u64 (wd (lev z k + z k * 256 ^ k) i)
 by_cases h : i = k / 8
 ·
  rw [if_pos h,h]
 ·
  rw [if_neg h,wd_put _ _ _ _ (lev_lt hz k) (hz k),if_neg h]
theorem zih (i : Nat) : wd 0 i = 0:=by unfold wd dg; simp
theorem ziu (b o n c : Nat) (y : Nat → Nat) (hy : ∀ j,y j < 256) (hn : n ≤ 32) (w : World) (hb : b < w.heap.size) (hcell : ∀ j,j < n → w.cell? ⟨b,o + j,none⟩ = some (.int .u8 (y j))) :
  Calls Tryz.prog 74 #[.slice (some ⟨b,o,none⟩) n c] w fun e w' => e = .returned (.tuple #[.agg #[vI vU (wd (lev (fun k => y (n - 1 - k)) n) 0),vI vU (wd (lev (fun k => y (n - 1 - k)) n) 1),vI vU (wd (lev (fun k => y (n - 1 - k)) n) 2),vI vU (wd (lev (fun k => y (n - 1 - k)) n) 3)],.nilIface]) ∧ Below w.heap.size w w':=by
 have HY:=veil hy
 have HC:=veil hcell
 clear hy hcell
 have hn' : (n : Int) ≤ 32:=by omega
 go_enter Tryz.func74,Tryz.ntmps74
 go_wp2
 go_loopw [13] (fun i wr => ∃ k : Nat,k ≤ n ∧ i = .int .i64 k ∧ wr.rowIs w.heap.size 29 4 (fun _ => .int .u64 0) ∧ wr.rowIs (w.heap.size + 1) 29 4 (fun j => .int .u64 (wd (lev (fun k => y (n - 1 - k)) k) j)) ∧ Below w.heap.size w wr)
  (fun i _ => n - (intOf i).toNat)
 case atStart => exact ⟨0,by omega,rfl,(zai (n:=4) rfl rfl (arr4 fun _ => .int .u64 0)).alloc _,(zai (n:=4) (f:=fun _ => .int .u64 0) (by simp) rfl (arr4 fun _ => .int .u64 0)).congr (fun i _ => by rw [lev,zih]),((Below.refl _ _).alloc (by simp) _).alloc (by simp) _⟩
 case round =>
  obtain ⟨k,hk,rfl,hR,hS,hbel⟩:=hrel
  by_cases hlt : k < n
  ·
   have hk8 : k / 8 < 4:=by omega
   have c1:=hS.cell hk8
   have f1:=hS.frozen (k / 8)
   obtain ⟨j,hj⟩ : ∃ j,j = n - 1 - k:=⟨_,rfl⟩
   have hji : (n : Int) - 1 - (k : Int) = (j : Int):=by omega
   have hjn : (j : Int) < (n : Int):=by omega
   have hkn : (k : Int) < (n : Int):=by omega
   have c2:=(hbel.cell (p:=⟨b,o + j,none⟩) hb).trans (HC.out j (by omega))
   have l1:=wd_lo (lev (fun k => y (n - 1 - k)) k) (k / 8)
   have u1:=wd_le (lev (fun k => y (n - 1 - k)) k) (k / 8)
   have u2 : (y j : Int) ≤ 255:=by have:=HY.out j; omega
   have hst:=of_step (fun k => y (n - 1 - k)) k (fun j => HY.out _)
   have HS:=veil hst
   clear hst
   have HJ:=veil hj
   clear hj
   go_wp2
   go_region
   all_goals
    go_wp2
    go_roundw
    case rel =>
     rw [show y j = y (n - 1 - k) by rw [HJ.out],of_word _ _ _ (lev_lt (fun j => HY.out _) k) (HY.out _)]
     exact ⟨k + 1,by omega,by go_num,(zat hR (by omega) _).drew,((hS.set (k / 8) _).congr fun i _ => HS.out i).drew,(zag hbel (by omega) _).drew⟩
    case measure => simp [intOf]; omega
  ·
   obtain rfl : k = n:=by omega
   obtain ⟨c0,c1,c2,c3⟩:=zak hS
   obtain ⟨d0,d1,d2,d3⟩:=zak hR
   obtain ⟨f0,f1,f2,f3⟩:=zbq hR
   go_wp2
   refine bodyPost_ret (zdb rfl _ _ w.heap.size 29 #[vI vU (wd (lev (fun j => y (k - 1 - j)) k) 0),vI vU (wd (lev (fun j => y (k - 1 - j)) k) 1),vI vU (wd (lev (fun j => y (k - 1 - j)) k) 2),vI vU (wd (lev (fun j => y (k - 1 - j)) k) 3)] (0,0) 4 27 rfl (blk4 (put4 hR fun j => .int .u64 (wd (lev (fun j => y (k - 1 - j)) k) j))) Tryz.underlying29 (by kernel_rfl)) rfl ⟨rfl,zax hbel (Nat.le_refl _) _ _ _ _⟩
def qc (x y : Nat) (f : Bool) : Array Value:=#[vI vU (wd x 0),vI vU (wd x 1),vI vU (wd x 2),vI vU (wd x 3),vI vU (wd y 0),vI vU (wd y 1),vI vU (wd y 2),vI vU (wd y 3),.bool (f)]
def qv (x y : Nat) (f : Bool) : Value:=.agg (qc x y f)
theorem qc_one (x y : Nat) (f : Bool) : (qc x y f).all (·.oneCell') = true:=by simp [qc,Value.oneCell']
theorem iT (x y : Nat) (f : Bool) : (Tryz.prog.info? 44).map (·.size) = some (qc x y f).size:=by kernel_rfl
section
variable (g : Nat) (W : World)
theorem fldT0 : (Instr.fieldAt 44 (ptrTo g) 0).run Tryz.prog W = .ok (.pointer (some ⟨g,0,none⟩)) W:=by simp [Instr.fieldAt,go_sem]
theorem hzT : (Instr.alloc 44 true (.tuple #[])).run Tryz.prog W = .ok (ptrTo W.heap.size) (W.alloc (.cells #[vI vU 0,vI vU 0,vI vU 0,vI vU 0,vI vU 0,vI vU 0,vI vU 0,vI vU 0,.bool false] 44)):=by simp [Instr.alloc,go_sem]
end
inductive SV where
 | v (x : Value)
 | p (i o : Nat)
def SV.den (e : Nat → Nat) : SV → Value
 | .v x => x
 | .p i o => .pointer (some ⟨e i,o,none⟩)
def SV.below (k : Nat) : SV → Bool
 | .v _ => true
 | .p i _ => Nat.blt i k
theorem den_env {e e' : Nat → Nat} {k : Nat} (h : ∀ i,i < k → e' i = e i) : ∀ {s : SV},s.below k = true → s.den e' = s.den e
 | .v _,_ => rfl
 | .p i o,hs => by
  have : i < k:=by simpa [SV.below] using hs
  show Value.pointer (some ⟨e' i,o,none⟩) = _
  rw [h i this]
  rfl
structure Blk where
 ty : TypeId
 cs : List SV
def Blk.obj (e : Nat → Nat) (b : Blk) : Obj:=.cells (b.cs.map (SV.den e)).toArray b.ty (0,0)
inductive Orc (P : Program) (w0 : World) where
 | call (f : FuncId) (args : Array Value) (v : Value) (ok : ∀ W,Ext w0 W → Calls P f args W fun e W' => e = .returned v ∧ Ext W W')
 | bin (op : BinOp) (ty : TypeId) (x y r : Value) (g : ∀ X Y W,(eqGuard op ty X Y x y).run P W = .ok () W) (ok : ∀ W,(binOp op ty x y).run P W = .ok r W)
abbrev Fun2:=(Nat → Nat) → World → Result Next
structure Sst (P : Program) (w0 : World) where
 n : Nat
 t : List (Nat × SV)
 m : List Blk
 x : Nat
 q : List (Orc P w0)
 g : List (Fun2 × Fun2)
def lookS : List (Nat × SV) → Nat → SV
 | [],_ => .v undef
 | (j,s) :: r,i => bif Nat.beq i j then s else lookS r i
def valOf : Result Next → Value
 | .ok (.value v) _ => v
 | _ => undef
def offOf : Result Next → Nat
 | .ok (.value (.pointer (some a))) _ => a.off
 | _ => 0
section
variable {P : Program} {w0 : World}
def evX (s : Sst P w0) : Operand → SV
 | .tmp i => lookS s.t i
 | .const v => .v v
 | .global g => .v (.pointer (some ⟨g,0,none⟩))
 | .func f => .v (.func (.func f) #[] #[])
def evR (s : Sst P w0) (o : Oper) : Fun2:=fun e W => (execOp (fun x => (evX s x).den e) o).run P W
def Sst.put (s : Sst P w0) (d : Option Tmp) (x : SV) : Option (Sst P w0) :=
 match d with
 | none => some s
 | some i => bif Nat.blt i s.n then some { s with t:=(i,x) :: s.t } else none
def Sst.log (s : Sst P w0) (l r : Fun2) : Sst P w0:={ s with g:=(l,r) :: s.g }
def toVals : List SV → Option (List Value)
 | [] => some []
 | .v x :: r => (toVals r).map (x :: ·)
 | .p _ _ :: _ => none
def isRowT : TypeDesc → Bool
 | .struct _ | .array _ _ => true
 | _ => false
/-! ### what it says -/
theorem zhr {e : Nat → Nat} : ∀ {l : List SV} {vs : List Value},toVals l = some vs → l.map (SV.den e) = vs
 | [],vs,h => by
  obtain rfl : [] = vs:=by simpa [toVals] using h
  rfl
 | .v x :: r,vs,h => by
  unfold toVals at h
  cases hr : toVals r with
  | none => rw [hr] at h; cases h
  | some ws =>
   rw [hr] at h
   obtain rfl : x :: ws = vs:=by simpa using h
   rw [List.map_cons,zhr hr]
   rfl
 | .p _ _ :: _,_,h => by cases h
theorem agg_no {P : Program} {ty : TypeId} {d : TypeDesc} (hu : P.underlying ty = some d) (h : isRowT d = false) (W : World) : (isAgg ty).run P W = .ok false W:=by
 unfold isAgg
 rw [Sem.run_bind,run_underlying hu W]
 cases d <;> simp_all [isRowT]
end
inductive OT (P : Program) (w0 : World) (Post : Value → World → Prop) : (World → Prop) → Type 1 where
 | ret {J : World → Prop} (v : Value) (h : ∀ W,J W → Post v W) : OT P w0 Post J
 | call {J : World → Prop} (f : FuncId) (args : Array Value) (v : Value) (ok : ∀ W,J W → Calls P f args W fun e W' => e = .returned v ∧ Ext W W') (r : OT P w0 Post J) : OT P w0 Post J
 | ins {J : World → Prop} (d : Tmp) (key : Sem Value) (v : Value) (ok : ∀ W,J W → key.run P W = .ok v W) (r : OT P w0 Post J) : OT P w0 Post J
 | hang {J : World → Prop} (f : FuncId) (args : Array Value) {α : Type} (val : α → Value) (R : α → World → Prop) (V : α → Nat → Prop)
   (ext : ∀ x W W',R x W → Ext W W' → R x W') (off : ∀ x W g o vs,R x W → ¬ V x g → R x (W.setCells g o vs))
   (ok : ∀ W,J W → Calls P f args W fun e W' => ∃ x,e = .returned (val x) ∧ Ext W W' ∧ R x W' ∧ ∀ g,V x g → (W.heap.size ≤ g ∨ g < w0.heap.size) ∧ g < W'.heap.size)
   (r : ∀ x,OT P w0 Post (fun W => J W ∧ R x W)) : OT P w0 Post J
 | cases {J : World → Prop} (p : Prop) (y : p → OT P w0 Post J) (n : ¬ p → OT P w0 Post J) : OT P w0 Post J
 | get {J : World → Prop} {α : Type} (p : α → Prop) (h : ∃ x,p x) (r : ∀ x,p x → OT P w0 Post J) : OT P w0 Post J
 | loop {J : World → Prop} (T : (Nat → Nat) → List (Nat × SV)) (M : (Nat → Nat) → List Blk) (μ : (Nat → Nat) → Nat) (H : (Nat → Nat) → Prop) (i : Nat → Nat) (h : H i) (body : ∀ i,H i → OT P w0 Post J) : OT P w0 Post J
 | loopG {J : World → Prop} {α : Type} (T : α → List (Nat × SV)) (M : α → List Blk) (μ : α → Nat) (H : α → Prop) (i : α) (h : H i) (t : List (Nat × SV)) (m : List Blk) (ht : T i = t ∧ M i = m) (body : ∀ i,H i → OT P w0 Post J) : OT P w0 Post J
 | nextG {J : World → Prop} (t : List (Nat × SV)) (m : List Blk) (c : Prop) (h : c) : OT P w0 Post J
 | unroll {J : World → Prop} (n : Nat) (r : OT P w0 Post J) : OT P w0 Post J
 | next {J : World → Prop} (i : Nat → Nat) (c : Prop) (h : c) : OT P w0 Post J
structure Sta (P : Program) (w0 : World) (Post : Value → World → Prop) (J : World → Prop) where
 n : Nat
 t : List (Nat × SV)
 z : Nat → Value
 m : List Blk
 x : Nat
 q : OT P w0 Post J
inductive Rsl where
 | bad
 | done
 | eq (l r : Fun2) (n : Rsl)
 | both (a b : Rsl)
 | peq (a b : Prop) (n : Rsl)
 | weq (a b : World → Prop) (n : Rsl)
 | br {α : Type} (n : α → Rsl)
inductive Lft where
 | bad
 | done
 | cons (l : Fun2) (n : Lft)
 | both (a b : Lft)
 | pc (a : Prop) (n : Lft)
 | wc (a : World → Prop) (n : Lft)
 | br {α : Type} (n : α → Lft)
def Rsl.left : Rsl → Lft
 | .bad => .bad
 | .done => .done
 | .eq l _ n => .cons l n.left
 | .both a b => .both a.left b.left
 | .peq a _ n => .pc a n.left
 | .weq a _ n => .wc a n.left
 | .br n => .br fun x => (n x).left
def Rsl.right : Rsl → Lft
 | .bad => .done
 | .done => .done
 | .eq _ r n => .cons r n.right
 | .both a b => .both a.right b.right
 | .peq _ b n => .pc b n.right
 | .weq _ b n => .wc b n.right
 | .br n => .br fun x => (n x).right
def OkR : Rsl → Prop
 | .bad => False
 | .done => True
 | .eq l r n => l = r ∧ OkR n
 | .both a b => OkR a ∧ OkR b
 | .peq a b n => a = b ∧ OkR n
 | .weq a b n => a = b ∧ OkR n
 | .br n => ∀ x,OkR (n x)
theorem zhx : ∀ {r : Rsl},r.left = r.right → OkR r
 | .bad,h => by cases h
 | .done,_ => trivial
 | .eq l r n,h => by
  have h : Lft.cons l n.left = Lft.cons r n.right:=h
  injection h with h1 h2
  exact ⟨h1,zhx h2⟩
 | .both a b,h => by
  have h : Lft.both a.left b.left = Lft.both a.right b.right:=h
  injection h with h1 h2
  exact ⟨zhx h1,zhx h2⟩
 | .peq a b n,h => by
  have h : Lft.pc a n.left = Lft.pc b n.right:=h
  injection h with h1 h2
  exact ⟨h1,zhx h2⟩
 | .weq a b n,h => by
  have h : Lft.wc a n.left = Lft.wc b n.right:=h
  injection h with h1 h2
  exact ⟨h1,zhx h2⟩
 | .br n,h => by
  have h : Lft.br (fun x => (n x).left) = Lft.br fun x => (n x).right:=h
  injection h with _ h2
  exact fun x => zhx (congrFun h2 x)
def lookZ (z : Nat → Value) : List (Nat × SV) → Nat → SV
 | [],i => .v (z i)
 | (j,s) :: r,i => bif Nat.beq i j then s else lookZ z r i
theorem zfv {z : Nat → Value} {l : List (Nat × SV)} {j i : Nat} {x : SV} : lookZ z ((j,x) :: l) i = if i = j then x else lookZ z l i:=by
 show (bif Nat.beq i j then x else lookZ z l i) = _
 by_cases h : i = j
 ·
  subst h; simp
 ·
  have : Nat.beq i j = false:=by
   cases hb : Nat.beq i j with
   | false => rfl
   | true => exact absurd (Nat.eq_of_beq_eq_true hb) h
  rw [this,if_neg h]
  rfl
section
variable {P : Program} {w0 : World} {Post : Value → World → Prop} {J : World → Prop}
def stX (s : Sta P w0 Post J) : Operand → SV
 | .tmp i => lookZ s.z s.t i
 | .const v => .v v
 | .global g => .v (.pointer (some ⟨g,0,none⟩))
 | .func f => .v (.func (.func f) #[] #[])
def stR (s : Sta P w0 Post J) (o : Oper) : Fun2:=fun e W => (execOp (fun x => (stX s x).den e) o).run P W
def Sta.put (s : Sta P w0 Post J) (d : Option Tmp) (x : SV) (k : Sta P w0 Post J → Rsl) : Rsl :=
 match d with
 | none => k s
 | some i => bif Nat.blt i s.n then k { s with t:=(i,x) :: s.t } else .bad
def stWant (s : Sta P w0 Post J) (ops : List Oper) (o : Oper) : Option Bool :=
 match o.guard with
 | none => some true
 | some (k,b) =>
  match ops[k]? with
  | none => none
  | some o' => match o'.dst with
   | none => none
   | some d => match lookZ s.z s.t d with
    | .v (.bool c) => some (c == b)
    | _ => none
def stPure (s : Sta P w0 Post J) (o : Oper) (k : Sta P w0 Post J → Rsl) : Rsl :=
 .eq (stR s o) (fun _ W => .ok (.value (valOf (stR s o (fun _ => 0) w0))) W) (s.put o.dst (.v (valOf (stR s o (fun _ => 0) w0))) k)
def stPtr (s : Sta P w0 Post J) (o : Oper) (i : Nat) (k : Sta P w0 Post J → Rsl) : Rsl :=
 .eq (stR s o) (fun e W => .ok (.value ((SV.p i (offOf (stR s o (fun _ => 0) w0))).den e)) W) (s.put o.dst (.p i (offOf (stR s o (fun _ => 0) w0))) k)
def stLoad (s : Sta P w0 Post J) (o : Oper) (ty : TypeId) (i off : Nat) (k : Sta P w0 Post J → Rsl) : Rsl :=
 match s.m[i]?,P.underlying ty with
 | some b,some d =>
  bif isRowT d then
   match P.info? ty with
   | some inf => match toVals ((b.cs.drop off).take inf.size) with
    | some vs => bif Nat.beq vs.length inf.size then s.put o.dst (.v (.agg vs.toArray)) k else .bad
    | none => .bad
   | none => .bad
  else match b.cs[off]? with
   | some c => s.put o.dst c k
   | none => .bad
 | _,_ => .bad
def stIns (s : Sta P w0 Post J) (o : Oper) (k : Sta P w0 Post J → Rsl) (dflt : Rsl) : Rsl :=
 match s.q,o.dst with
 | .ins d key v _ r,some d' => bif Nat.beq d d' then
   .eq (stR s o) (fun _ W => (do pure (Next.value (← key)) : Sem Next).run P W) ({ s with q:=r }.put o.dst (.v v) k)
  else dflt
 | _,_ => dflt
def stCall (s : Sta P w0 Post J) (o : Oper) (k : Sta P w0 Post J → Rsl) : Rsl :=
 match s.q with
 | .call f args v _ r => .eq (stR s o) (fun _ W => .ok (.enter f args) W) ({ s with q:=r }.put o.dst (.v v) k)
 | _ => .bad
def stVal0 (s : Sta P w0 Post J) (o : Oper) (k : Sta P w0 Post J → Rsl) : Rsl :=
 match o.op with
 | .move x => s.put o.dst (stX s x) k
 | .assign x => s.put o.dst (stX s x) k
 | .pick c a b => match stX s c with
  | .v (.bool true) => s.put o.dst (stX s a) k
  | .v (.bool false) => s.put o.dst (stX s b) k
  | _ => .bad
 | .load ty x => match stX s x with
  | .p i off => stLoad s o ty i off k
  | .v _ => .bad
 | .fieldAddr _ x _ => match stX s x with
  | .p i _ => stPtr s o i k
  | .v _ => stPure s o k
 | .indexAddr _ x _ => match stX s x with
  | .p i _ => stPtr s o i k
  | .v _ => stPure s o k
 | .call c => match c.callee with
  | .builtin _ => stPure s o k
  | _ => stCall s o k
 | _ => stPure s o k
def stVal (s : Sta P w0 Post J) (o : Oper) (k : Sta P w0 Post J → Rsl) : Rsl:=stIns s o k (stVal0 s o k)
def stVals (ops : List Oper) : List Oper → Sta P w0 Post J → (Sta P w0 Post J → Rsl) → Rsl
 | [],s,k => k s
 | o :: l,s,k => match stWant s ops o with
  | some true => stVal s o fun s1 => stVals ops l s1 k
  | some false => s.put o.dst (.v undef) fun s1 => stVals ops l s1 k
  | none => .bad
structure Rl (s : Sta P w0 Post J) (a : Act) (e : Nat → Nat) (w : World) : Prop where
 size : a.tmps.size = s.n
 defers : a.defers = []
 slot : ∀ i,a.tmps.getD i undef = (lookZ s.z s.t i).den e
 blk : ∀ (i : Nat) b,s.m[i]? = some b → w.heap[e i]? = some (b.obj e)
 own : ∀ i,s.x ≤ i → i < s.m.length → w0.heap.size ≤ e i
 far : ∀ i j,s.x ≤ i → i < s.m.length → j < s.m.length → i ≠ j → e i ≠ e j
 ext : Ext w0 w
 jj : J w
 jx : ∀ W W',J W → Ext W W' → J W'
 jo : ∀ i,s.x ≤ i → i < s.m.length → ∀ W o vs,J W → J (W.setCells (e i) o vs)
 jf : ∀ g,w.heap.size ≤ g → ∀ W o vs,J W → J (W.setCells g o vs)
variable {s s' : Sta P w0 Post J} {a : Act} {e : Nat → Nat} {w w' : World} {o : Oper} {k : Sta P w0 Post J → Rsl}
theorem Rl.eval (h : Rl s a e w) : a.eval = fun x => (stX s x).den e:=by
 funext x
 cases x with
 | tmp i => exact h.slot i
 | const v => rfl
 | global g => rfl
 | func f => rfl
theorem Rl.exec (h : Rl s a e w) (o : Oper) (W : World) : (execOp a.eval o).run P W = stR s o e W:=by
 unfold stR
 rw [h.eval]
theorem Rl.more (h : Rl s a e w) (k : Ext w w') : Rl s a e w' :=
 ⟨h.size,h.defers,h.slot,fun i b hb => k.block (h.blk i b hb),h.own,h.far,h.ext.trans k,h.jx _ _ h.jj k,h.jx,h.jo,fun g hg => h.jf g (Nat.le_trans (Below.size k) hg)⟩
theorem Rl.q (h : Rl s a e w) (q : OT P w0 Post J) : Rl { s with q:=q } a e w :=
 ⟨h.size,h.defers,h.slot,h.blk,h.own,h.far,h.ext,h.jj,h.jx,h.jo,h.jf⟩
theorem Rl.put (h : Rl s a e w) {d : Option Tmp} {x : SV} {v : Value} (hk : OkR (s.put d x k)) (hv : x.den e = v) : ∃ s',OkR (k s') ∧ Rl s' (a.put d v) e w ∧ s'.m = s.m ∧ s'.x = s.x:=by
 subst hv
 cases d with
 | none => exact ⟨s,hk,h,rfl,rfl⟩
 | some i =>
  unfold Sta.put at hk
  simp only at hk
  cases hb : Nat.blt i s.n with
  | false => rw [hb] at hk; exact hk.elim
  | true =>
   rw [hb] at hk
   have hi : i < a.tmps.size:=by rw [h.size]; simpa using hb
   refine ⟨_,hk,⟨?_,h.defers,fun j => ?_,h.blk,h.own,h.far,h.ext,h.jj,h.jx,h.jo,h.jf⟩,rfl,rfl⟩
   ·
    show (a.tmps.setIfInBounds i _).size = _
    simpa using h.size
   ·
    show (a.tmps.setIfInBounds i _).getD j undef = (lookZ s.z ((i,x) :: s.t) j).den e
    rw [zfv]
    by_cases hj : j = i
    ·
     subst hj
     rw [if_pos rfl]
     simp [hi]
    ·
     rw [if_neg hj,← h.slot j]
     simp [Ne.symm hj]
theorem stval_sound (hk : OkR (stVal s o k)) (hR : Rl s a e w) : ∃ v s',Made P o v a w ∧ Rl s' (a.put o.dst v) e w ∧ OkR (k s'):=by
 have pure_ : OkR (stPure s o k) → ∃ v s',Made P o v a w ∧ Rl s' (a.put o.dst v) e w ∧ OkR (k s'):=fun ⟨h1,h2⟩ => by
  obtain ⟨s',h3,h4,_⟩:=hR.put h2 rfl
  exact ⟨_,s',zba fun W _ => by rw [hR.exec]; exact congrFun (congrFun h1 e) W,h4,h3⟩
 have ptr_ : ∀ {i : Nat},OkR (stPtr s o i k) → ∃ v s',Made P o v a w ∧ Rl s' (a.put o.dst v) e w ∧ OkR (k s'):=fun {i} ⟨h1,h2⟩ => by
  obtain ⟨s',h3,h4,_⟩:=hR.put h2 rfl
  exact ⟨_,s',zba fun W _ => by rw [hR.exec]; exact congrFun (congrFun h1 e) W,h4,h3⟩
 have slot_ : ∀ {x : Operand},OkR (s.put o.dst (stX s x) k) → (∀ W,(execOp a.eval o).run P W = .ok (.value (a.eval x)) W) → ∃ v s',Made P o v a w ∧ Rl s' (a.put o.dst v) e w ∧ OkR (k s'):=fun {x} h hx => by
  obtain ⟨s',h3,h4,_⟩:=hR.put h rfl
  refine ⟨_,s',zba fun W _ => ?_,h4,h3⟩
  rw [hx W,hR.eval]
 have old : OkR (stVal0 s o k) → ∃ v s',Made P o v a w ∧ Rl s' (a.put o.dst v) e w ∧ OkR (k s'):=fun hk => by
  unfold stVal0 at hk
  split at hk
  ·
   rename_i x ho
   exact slot_ hk fun W => by unfold execOp; simp only [ho,Sem.run_pure]
  ·
   rename_i x ho
   exact slot_ hk fun W => by unfold execOp; simp only [ho,Sem.run_pure]
  ·
   rename_i c x y ho
   split at hk
   ·
    rename_i hc
    have hc' : a.eval c = .bool true:=by rw [hR.eval]; show (stX s c).den e = _; rw [hc]; rfl
    exact slot_ hk fun W => by unfold execOp; simp [ho,hc',asBool]
   ·
    rename_i hc
    have hc' : a.eval c = .bool false:=by rw [hR.eval]; show (stX s c).den e = _; rw [hc]; rfl
    exact slot_ hk fun W => by unfold execOp; simp [ho,hc',asBool]
   ·
    exact hk.elim
  ·
   rename_i ty x ho
   split at hk
   ·
    rename_i i off hx
    have hxa : a.eval x = .pointer (some ⟨e i,off,none⟩):=by rw [hR.eval]; show (stX s x).den e = _; rw [hx]; rfl
    unfold stLoad at hk
    split at hk
    ·
     rename_i b d hb hu
     cases hd : isRowT d with
     | true =>
      rw [hd] at hk
      simp only [cond_true] at hk
      split at hk
      ·
       rename_i inf hi
       split at hk
       ·
        rename_i vs hvs
        cases hl : Nat.beq vs.length inf.size with
        | false => rw [hl] at hk; exact hk.elim
        | true =>
         rw [hl] at hk
         have hlen:=Nat.eq_of_beq_eq_true hl
         obtain ⟨s',h3,h4,_⟩:=hR.put hk rfl
         refine ⟨.agg vs.toArray,s',?_,h4,h3⟩
         refine zan (g:=e i) (off:=off) (C:=(b.cs.map (SV.den e)).toArray) (t:=b.ty) (fr:=(0,0)) ho hxa (hR.blk i b hb) ?_ hu ?_ (by rw [hi]; simp [hlen])
         ·
          rw [hlen]
          have:=zhr (e:=e) hvs
          rw [← this,List.map_take,List.map_drop]
         ·
          cases d <;> simp_all [isRowT]
       ·
        exact hk.elim
      ·
       exact hk.elim
     | false =>
      rw [hd] at hk
      simp only [cond_false] at hk
      split at hk
      ·
       rename_i c hc
       obtain ⟨s',h3,h4,_⟩:=hR.put hk rfl
       exact ⟨c.den e,s',zdg (g:=e i) (off:=off) (C:=(b.cs.map (SV.den e)).toArray) (t:=b.ty) (fr:=(0,0)) ho hxa (hR.blk i b hb) (by simp [hc]) (fun W => agg_no hu hd W),h4,h3⟩
      ·
       exact hk.elim
    ·
     exact hk.elim
   ·
    exact hk.elim
  ·
   split at hk
   ·
    exact ptr_ hk
   ·
    exact pure_ hk
  ·
   split at hk
   ·
    exact ptr_ hk
   ·
    exact pure_ hk
  ·
   split at hk
   ·
    exact pure_ hk
   ·
    unfold stCall at hk
    split at hk
    ·
     rename_i f args v ok r hq
     obtain ⟨h1,h2⟩:=hk
     obtain ⟨s',h3,h4,_⟩:=(hR.q r).put h2 rfl
     exact ⟨v,s',made_call (f:=f) (args:=args) (fun W => by rw [hR.exec]; exact congrFun (congrFun h1 e) W) (fun W hW => ok W (hR.jx _ _ hR.jj hW)),h4,h3⟩
    ·
     exact hk.elim
  ·
   exact pure_ hk
 unfold stVal stIns at hk
 split at hk
 ·
  rename_i d key v ok r d' hq hd
  cases hb : Nat.beq d d' with
  | false => rw [hb] at hk; exact old hk
  | true =>
   rw [hb] at hk
   obtain ⟨h1,h2⟩:=hk
   obtain ⟨s',h3,h4,_⟩:=(hR.q r).put h2 rfl
   refine ⟨v,s',zba fun W hW => ?_,h4,h3⟩
   rw [hR.exec]
   refine (congrFun (congrFun h1 e) W).trans ?_
   simp only [Sem.run_bind,ok W (hR.jx _ _ hR.jj hW),Result.andThen_ok,Sem.run_pure]
 ·
  exact old hk
theorem zbn {ops : List Oper} {b : Bool} (h : stWant s ops o = some b) (hR : Rl s a e w) : Region.wanted o (yielded ops.toArray a.tmps) = b:=by
 unfold stWant at h
 unfold Region.wanted
 cases hg : o.guard with
 | none =>
  rw [hg] at h
  simpa using h
 | some kb =>
  obtain ⟨k,b'⟩:=kb
  rw [hg] at h
  simp only at h ⊢
  split at h
  ·
   cases h
  ·
   rename_i o' ho
   split at h
   ·
    cases h
   ·
    rename_i d hd
    split at h
    ·
     rename_i c hc
     have hs:=hR.slot d
     rw [hc] at hs
     have ht : a.tmps[d]? = some (.bool c):=by
      simp only [SV.den,Array.getD_eq_getD_getElem?] at hs
      cases hx : a.tmps[d]? with
      | none => rw [hx] at hs; simp [undef] at hs
      | some y => rw [hx] at hs; simpa using hs
     have hy : yielded ops.toArray a.tmps k = some c:=by
      unfold yielded
      simp [ho,hd,ht]
     rw [hy]
     have h : (c == b') = b:=by simpa using h
     rw [← h]
     cases c <;> cases b' <;> rfl
    ·
     cases h
theorem stvals_mk {ops : List Oper} {R : Act → Prop} : ∀ {l : List Oper} {s : Sta P w0 Post J} {a : Act},OkR (stVals ops l s k) → Rl s a e w → (∀ s' a',OkR (k s') → Rl s' a' e w → R a') → wpMk P ops.toArray w R l a
 | [],s,a,h,hR,hK => hK s a h hR
 | o :: l,s,a,h,hR,hK => by
  unfold stVals at h
  split at h
  ·
   rename_i hw
   obtain ⟨v,s1,hm,hR1,h1⟩:=stval_sound h hR
   exact ⟨v,.inl ⟨zbn hw hR,hm⟩,stvals_mk h1 hR1 hK⟩
  ·
   rename_i hw
   obtain ⟨s1,h1,hR1,_⟩:=hR.put h rfl
   exact ⟨undef,.inr ⟨zbn hw hR,rfl⟩,stvals_mk h1 hR1 hK⟩
  ·
   exact h.elim
end
end Go.Proofs.YtihophdbkjhopaaGreatDoor
