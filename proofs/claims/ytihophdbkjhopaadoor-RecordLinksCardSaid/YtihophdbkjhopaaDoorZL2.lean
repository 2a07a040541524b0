/-
  Of Own Cut T1 Sch Ls Rcb T2 T3 T4 T5 T6 TA Eql C0.
-/
import Derived.WalkKit
import Derived.OwnWalk
import Derived.RegionTactic
import Derived.Deep.AppendLies
import Derived.Maps.AppendAt
import Derived.Test.YtihophdbkjhopaaDoorRows
import Derived.WalkSpells
import Derived.WalkLawsBesides
import Derived.BigQuiet
import Derived.BigRegion
import Derived.Laws.BytesString
import Derived.Deep.SlicePairs
import Derived.Deep.LoopGhost
import Derived.Deep.Cut
import Derived.Deep.CutRange
import Derived.Deep.MidRow
import Derived.Deep.Slices
import Derived.Laws.OwnMore
import Derived.Laws.Concat
import Derived.ArgAppend
import Derived.Lib.SmallJoins
import Derived.Great.BuildSlice
import Derived.ChangeKeysEq
import Derived.Test.YtihophdbkjhopaaDoorZL1
set_option maxRecDepth 1000000
set_option maxHeartbeats 20000000
namespace Go.Proofs.YtihophdbkjhopaaDoor
open Go.RowKit
open Go.Value renaming int → vI
open Go.IntKind renaming u64 → vU
open Go.Act renaming put → aP
open List renaming setIfInBounds_toArray → lA, set_cons_zero → lZ, set_cons_succ → lS
def Own (w : World) (base e : Nat) (v : Value) (n : Nat) (f : Nat → Value) : Prop:=w.ownsRow base e 1 v n ((List.range n).map f)
section
variable {w w' : World} {base e n : Nat} {v : Value} {f h : Nat → Value}
theorem Own.congr (o : Own w base e v n f) (hf : ∀ i,i < n → f i = h i) : Own w base e v n h:=by
 unfold Own at *
 have : (List.range n).map f = (List.range n).map h:=List.map_congr_left fun i hi => hf i (by simpa using hi)
 rw [← this]; exact o
theorem Own.nil (w : World) (base e : Nat) (f : Nat → Value) : Own w base e (.slice none 0 0) 0 f:=World.ownsRow_nil _ _ _ _
theorem Own.alloc (o : Own w base e v n f) (ob : Obj) : Own (w.alloc ob) base e v n f:=World.ownsRow.alloc o ob
theorem Own.drew (o : Own w base e v n f) : Own w.drew base e v n f:=o
theorem Own.drewN (o : Own w base e v n f) (k : Nat) : Own (w.drewN k) base e v n f:=o
theorem Own.lt (o : Own w base e v n f) {k : Nat} (hk : v.ownBlock = some k) : base ≤ k ∧ k < w.heap.size:=World.ownsRow.lt o k hk
theorem Own.kept {row : Option Nat} (o : Own w base e v n f) (hg : w.grownBy w' row) (hne : v.ownBlock = none ∨ v.ownBlock ≠ row) : Own w' base e v n f:=World.ownsRow.kept o hg hne
theorem Own.below {B : Nat} (o : Own w base e v n f) (hb : Below B w w') (hB : w.heap.size ≤ B) : Own w' base e v n f:=by
 refine ⟨o.1,?_⟩
 rcases o.2 with hn | ⟨g,cap,cur,rfl,hbg,hh,rest⟩
 ·
  exact .inl hn
 ·
  exact .inr ⟨g,cap,cur,rfl,hbg,(hb.block g (by have:=(Array.getElem?_eq_some_iff.1 hh).1; omega)).trans hh,rest⟩
theorem Own.pre (o : Own w base e v n f) (hn : 0 < n) : ∃ g cap,v = .slice (some ⟨g,0,none⟩) n cap ∧ n ≤ cap ∧ base ≤ g ∧ Pre w g e n f:=Pre.of_own o hn
end
def From (w : World) (A : Option Addr) (m : Nat) (y : Nat → Value) : Prop:=m = 0 ∨ ∃ ad,A = some ad ∧ ∀ j,j < m → w.cell? (ad.add j) = some (y j)
theorem own_append {P : Program} (w : World) (base t ty e : Nat) (i : TypeInfo) (z : Value) (bytes : Nat) (ht : P.underlying t = some (.slice e)) (hi : P.info? e = some i) (hz : i.zero = some z) (hsize : i.size = 1) (hby : i.bytes = bytes) (hzs : z.cells.size = 1)
  (v : Value) (n : Nat) (f : Nat → Value) (hown : Own w base e v n f) (A : Option Addr) (m c : Nat) (y : Nat → Value) (hs : From w A m y) (h1 : ∀ j,(y j).oneCell' = true)
  (h63 : n + m ≤ maxLen) (hbytes : (n + m) * bytes ≤ 140737488355328) (hbase : base ≤ w.heap.size) :
  ∃ v' w',(Builtin.append_ #[t,t] ty #[v,.slice A m c]).run P w = .ok v' w' ∧ Own w' base e v' (n + m) (fun j => if j < n then f j else y (j - n)) ∧ w.grownBy w' v.ownBlock ∧ (v'.ownBlock = v.ownBlock ∨ v'.ownBlock = some w.heap.size) ∧ (∀ g,v.ownBlock = some g → ∀ j,j < n → w'.cell? ⟨g,j,none⟩ = w.cell? ⟨g,j,none⟩):=by
 have hl : (List.range n).map f ++ (List.range m).map y = (List.range (n + m)).map (fun j => if j < n then f j else y (j - n)):=by
  apply List.ext_getElem?
  intro k
  by_cases h1 : k < n
  ·
   rw [List.getElem?_append_left (by simpa using h1)]; simp [h1,show k < n + m by omega]
  ·
   rw [List.getElem?_append_right (by simpa using Nat.le_of_not_lt h1)]
   by_cases h2 : k < n + m
   ·
    simp [h1,h2,show k - n < m by omega]
   ·
    simp [h2,show ¬ k - n < m by omega]
 rcases A with _ | ad
 ·
  have hm : m = 0:=by
   rcases hs with h | ⟨ad,h,_⟩
   ·
    exact h
   ·
    cases h
  subst hm
  refine ⟨v,w,?_,hown.congr fun j hj => (if_pos hj).symm,World.grownBy.refl w _,.inl rfl,fun _ _ _ _ => rfl⟩
  rcases hown.2 with ⟨rfl,rfl⟩ | ⟨g,cap,cur,rfl,_,_,hnc,_⟩
  ·
   simp [Builtin.append_,run_underlying ht,sizeOf,typeInfo,hi,Builtin.lenOf,Builtin.firstCells]
  ·
   simp [Builtin.append_,run_underlying ht,sizeOf,typeInfo,hi,Builtin.lenOf,Builtin.firstCells,hnc,storeCells]
 ·
  have hc : ∀ j,j < m → w.cell? (ad.add j) = some (y j):=by
   rcases hs with h | ⟨ad',h,hc⟩
   ·
    intro j hj; omega
   ·
    cases h; exact hc
  obtain ⟨v',w',hr,h2,h3,_,h5⟩:=run_append_own_at (P:=P) w base t ty e i z 1 bytes ht hi hz hsize hby hzs (by omega) v n _ hown ad m c ((List.range m).map y) (by simp) (fun j u hu => by
   have hj : j < m:=by have:=(List.getElem?_eq_some_iff.1 hu).1; simpa using this
   rw [hc j hj,← hu]; simp [hj]) (fun u hu => by simp at hu; obtain ⟨j,_,rfl⟩:=hu; exact h1 j) h63 hbytes hbase
  rw [hl] at h2
  refine ⟨v',w',hr,h2,h3,h5,fun g hg j hj => ?_⟩
  have cellAt : ∀ (b k : Nat),(⟨b,0,none⟩ : Addr).add k = ⟨b,k,none⟩:=fun b k => by rw [Addr.add_mid,Nat.zero_add]
  rcases hown.2 with ⟨rfl,_⟩ | ⟨g',cap,cur,rfl,hbg,hgc,hnc,hcm,hcs,htake⟩
  ·
   simp [Value.ownBlock] at hg
  ·
   obtain rfl : g' = g:=by simpa [Value.ownBlock] using hg
   have hold : w.cell? ⟨g',j,none⟩ = some (f j):=by
    rw [← cellAt g' j]
    exact hown.cells (g:=g') rfl j _ (by simp [hj])
   by_cases hroom : n + m ≤ cap
   ·
    have hr2:=run_append_room (P:=P) w t ty e i ht hi g' n cap cur hgc ad m c ((List.range m).map y) (by simp [hsize]) (fun j u hu => by
     have hj : j < m:=by have:=(List.getElem?_eq_some_iff.1 hu).1; simpa using this
     rw [hc j hj,← hu]; simp [hj]) (fun u hu => by simp at hu; obtain ⟨j,_,rfl⟩:=hu; exact h1 j) hroom (by rw [hsize]; simp; omega)
    rw [hr] at hr2
    injection hr2 with hv _
    rw [hold]
    rw [← cellAt g' j]
    rw [World.ownsRow.cells (g:=g') h2 (by rw [hv]; rfl) j (f j) (by simp [hj,show j < n + m by omega])]
   ·
    have hr2:=run_append_grow (P:=P) w t ty e i z ht hi hz ⟨g',0,none⟩ n cap ((List.range n).map f) (by simp [hsize]) (fun j u hu => hown.cells (g:=g') rfl j u hu) ad m c ((List.range m).map y) (by simp [hsize]) (fun j u hu => by
     have hj : j < m:=by have:=(List.getElem?_eq_some_iff.1 hu).1; simpa using this
     rw [hc j hj,← hu]; simp [hj]) (by omega) (by simp only [maxLen] at h63; omega) (growslice_fits (by omega) (by rw [hby]; exact hbytes))
    rw [hr] at hr2
    injection hr2 with _ hw
    rw [hw]
    exact World.cell?_of_block (w:=w) (a:=⟨g',j,none⟩) (Below.heap_alloc w.drew _ g' (Array.getElem?_eq_some_iff.1 hgc).1)
theorem zcu {P : Program} (w : World) {ops : Array Oper} {rest : List Oper} {o : Oper} {a : Act} {Q : Exit → Act → World → Prop} (hgd : o.guard = none) (s x : Operand) (t : TypeId)
  (ho : o.op = .call { callee:=.builtin .append,args:=#[s,x],argTypes:=#[t,t] })
  (base e : Nat) (i : TypeInfo) (z : Value) (bytes : Nat) (ht : P.underlying t = some (.slice e)) (hi : P.info? e = some i) (hz : i.zero = some z) (hsize : i.size = 1) (hby : i.bytes = bytes) (hzs : z.cells.size = 1)
  (v : Value) (n : Nat) (f : Nat → Value) (hs : a.eval s = v) (hown : Own w base e v n f) (A : Option Addr) (m c : Nat) (hx : a.eval x = .slice A m c) (y : Nat → Value) (hsr : From w A m y) (h1 : ∀ j,(y j).oneCell' = true)
  (h63 : n + m ≤ maxLen) (hbytes : (n + m) * bytes ≤ 140737488355328) (hbase : base ≤ w.heap.size)
  (h : ∀ v' w',Own w' base e v' (n + m) (fun j => if j < n then f j else y (j - n)) → w.grownBy w' v.ownBlock → (v'.ownBlock = v.ownBlock ∨ v'.ownBlock = some w.heap.size) → wpList P ops Q rest (a.put o.dst v') w') : wpList P ops Q (o :: rest) a w:=by
 refine wpList_plain hgd fun K hK => ?_
 obtain ⟨v',w',hr,h2,h3,h5,_⟩:=own_append (P:=P) w base t o.type e i z bytes ht hi hz hsize hby hzs v n f hown A m c y hsr h1 h63 hbytes hbase
 unfold Oper.wp execOp
 simp only [ho,resolve,invoke,builtin,Sem.run_bind,Sem.run_pure,Result.andThen_ok,List.map_toArray,List.map_cons,List.map_nil,hs,hx,hr]
 exact hK _ _ (h v' w' h2 h3 h5)
def cutA (A : Option Addr) (m c : Nat) : Option Addr:=if c = m then A else A.map (·.add (m * 1))
theorem cut_from (A : Option Addr) (r c m : Nat) (hm : m ≤ r) (w : World) : (Instr.sliceAt 29 (.slice A r c) (some (.int .i64 (m : Int))) none none).run Tryd.prog w = .ok (.slice (cutA A m c) (r - m) (c - m)) w:=by
 have e2 : ((sizeOf (Tryd.prog.elem 29)).run Tryd.prog w) = .ok 1 w:=by kernel_rfl
 rw [run_sliceAt_slice w 29 _ _ _ _ (by kernel_rfl),run_slice_l w 29 A r c (by kernel_rfl) .i64 (m : Int) (by omega) (by omega),e2]
 simp [sliced,Result.andThen,cutA]
theorem cut_to (A : Option Addr) (r c m : Nat) (hm : m ≤ c) (w : World) : (Instr.sliceAt 29 (.slice A r c) none (some (.int .i64 (m : Int))) none).run Tryd.prog w = .ok (.slice (cutA A 0 c) m c) w:=by
 have e2 : ((sizeOf (Tryd.prog.elem 29)).run Tryd.prog w) = .ok 1 w:=by kernel_rfl
 rw [run_sliceAt_slice w 29 _ _ _ _ (by kernel_rfl),run_slice_h w 29 A r c (by kernel_rfl) .i64 (m : Int) (by omega) (by omega),e2]
 simp [sliced,Result.andThen,cutA]
theorem Ext.drewK (w : World) (k : Nat) : Ext w (w.drewN k):=⟨rfl,rfl,rfl,Nat.le_refl _,fun _ _ => rfl⟩
theorem Ext.cell {w w' : World} (h : Ext w w') {b o : Nat} (hb : b < w.heap.size) : w'.cell? ⟨b,o,none⟩ = w.cell? ⟨b,o,none⟩:=Below.cell h (p:=⟨b,o,none⟩) hb
/-! ### bytes -/
def Bs (w : World) (A : Option Addr) (bs : List Nat) : Prop:=Byt bs ∧ (bs.length = 0 ∨ ∃ b o,A = some ⟨b,o,none⟩ ∧ b < w.heap.size ∧ ∀ j,j < bs.length → w.cell? ⟨b,o + j,none⟩ = some (.int .u8 (bs.getD j 0 : Nat)))
theorem Bs.ext {w w' : World} {A : Option Addr} {bs : List Nat} (h : Bs w A bs) (k : Ext w w') : Bs w' A bs :=
 ⟨h.1,h.2.imp id fun ⟨b,o,e,hb,hc⟩ => ⟨b,o,e,Nat.lt_of_lt_of_le hb k.size,fun j hj => (k.cell hb).trans (hc j hj)⟩⟩
theorem Bs.cell {w : World} {A : Option Addr} {bs : List Nat} (h : Bs w A bs) {j : Nat} (hj : j < bs.length) : ∃ b o,A = some ⟨b,o,none⟩ ∧ b < w.heap.size ∧ w.cell? ⟨b,o + j,none⟩ = some (.int .u8 (bs.getD j 0 : Nat)):=by
 rcases h.2 with h | ⟨b,o,e,hb,hc⟩
 ·
  omega
 ·
  exact ⟨b,o,e,hb,hc j hj⟩
theorem Bs.from {w : World} {A : Option Addr} {bs : List Nat} (h : Bs w A bs) : From w A bs.length (fun j => .int .u8 (bs.getD j 0 : Nat)) :=
 h.2.imp id fun ⟨b,o,e,_,hc⟩ => ⟨_,e,fun j hj => by rw [Addr.add_mid]; exact hc j hj⟩
theorem Bs.nil (w : World) (A : Option Addr) : Bs w A []:=⟨(fun _ h => by cases h),.inl rfl⟩
theorem Bs.cut {w : World} {A : Option Addr} {bs : List Nat} {c : Nat} (h : Bs w A bs) (m : Nat) {n : Nat} (hm : m + n ≤ bs.length) (hc : bs.length ≤ c) : Bs w (cutA A m c) ((bs.drop m).take n):=by
 refine ⟨(h.1.drop m).take n,?_⟩
 have hl : ((bs.drop m).take n).length = n:=by rw [List.length_take,List.length_drop]; omega
 by_cases h0 : n = 0
 ·
  exact .inl (by rw [hl]; exact h0)
 ·
  right
  rcases h.2 with h | ⟨b,o,rfl,hb,hcl⟩
  ·
   omega
  ·
   refine ⟨b,o + m,by unfold cutA; rw [if_neg (by omega)]; simp [Addr.add_mid],hb,fun j hj => ?_⟩
   rw [Nat.add_assoc,hcl (m + j) (by omega)]
   congr 3
   simp only [List.getD_eq_getElem?_getD,List.getElem?_take_of_lt (show j < n by omega),List.getElem?_drop]
def OwnB (w : World) (base : Nat) (v : Value) (bs : List Nat) : Prop:=Byt bs ∧ Own w base 5 v bs.length (fun j => .int .u8 (bs.getD j 0 : Nat))
theorem OwnB.bs {w : World} {base : Nat} {v : Value} {bs : List Nat} (o : OwnB w base v bs) : ∃ A c,v = .slice A bs.length c ∧ bs.length ≤ c ∧ Bs w A bs:=by
 obtain ⟨hB,o⟩:=o
 by_cases h : bs.length = 0
 ·
  rcases o.2 with ⟨rfl,h0⟩ | ⟨b,cap,cur,rfl,_,_,hnc,_⟩
  ·
   exact ⟨none,0,by rw [h],by omega,hB,.inl h⟩
  ·
   exact ⟨_,cap,rfl,hnc,hB,.inl h⟩
 ·
  obtain ⟨b,cap,rfl,hnc,_,hp⟩:=o.pre (by omega)
  exact ⟨_,cap,rfl,hnc,hB,.inr ⟨b,0,rfl,hp.lt,fun j hj => by rw [Nat.zero_add]; exact hp.cell hj⟩⟩
theorem OwnB.nil (w : World) (base : Nat) : OwnB w base (.slice none 0 0) []:=⟨(fun _ h => by cases h),Own.nil _ _ _ _⟩
theorem OwnB.ext {w w' : World} {base : Nat} {v : Value} {bs : List Nat} (o : OwnB w base v bs) (h : Ext w w') : OwnB w' base v bs:=⟨o.1,o.2.below h (Nat.le_refl _)⟩
theorem OwnB.of {w : World} {base n : Nat} {v : Value} {f : Nat → Value} {bs : List Nat} (o : Own w base 5 v n f) (hb : Byt bs) (hn : n = bs.length) (h : ∀ j,j < bs.length → f j = .int .u8 (bs.getD j 0 : Nat)) : OwnB w base v bs:=by
 subst hn
 exact ⟨hb,o.congr h⟩
theorem OwnB.append {w : World} {base n m : Nat} {v : Value} {bs cs : List Nat} (o : Own w base 5 v (n + m) (fun j => if j < n then .int .u8 (bs.getD j 0 : Nat) else .int .u8 (cs.getD (j - n) 0 : Nat))) (hb : Byt bs) (hc : Byt cs) (hn : n = bs.length) (hm : m = cs.length) : OwnB w base v (bs ++ cs):=by
 subst hn hm
 refine OwnB.of o (hb.append hc) (by simp) fun j hj => ?_
 simp only [List.getD_eq_getElem?_getD]
 by_cases h : j < bs.length
 ·
  rw [if_pos h,List.getElem?_append_left h]
 ·
  rw [if_neg h,List.getElem?_append_right (by omega)]
/-! ### texts -/
/-! ### fields in memory -/
def Fl (w : World) (v : Value) (fs : List Fd) : Prop:=BytF fs ∧ ∃ AL c,v = .slice AL fs.length c ∧ fs.length ≤ c ∧ (fs.length = 0 ∨ ∃ b o,AL = some ⟨b,o,none⟩ ∧ b < w.heap.size ∧
 ∀ i,i < fs.length → w.cell? ⟨b,o + i * 2,none⟩ = some (.int .i64 (tgF fs i)) ∧ ∃ A c',w.cell? ⟨b,o + i * 2 + 1,none⟩ = some (.slice A (bsF fs i).length c') ∧ (bsF fs i).length ≤ c' ∧ Bs w A (bsF fs i))
theorem Fl.ext {w w' : World} {v : Value} {fs : List Fd} (h : Fl w v fs) (k : Ext w w') : Fl w' v fs:=by
 obtain ⟨hB,AL,c,rfl,hc,h⟩:=h
 refine ⟨hB,AL,c,rfl,hc,h.imp id ?_⟩
 rintro ⟨b,o,e,hb,hx⟩
 refine ⟨b,o,e,Nat.lt_of_lt_of_le hb k.size,fun i hi => ?_⟩
 obtain ⟨h1,A,c',h2,h3,h4⟩:=hx i hi
 exact ⟨(k.cell hb).trans h1,A,c',(k.cell hb).trans h2,h3,h4.ext k⟩
theorem Fl.nil (w : World) : Fl w (.slice none 0 0) []:=⟨fun _ h => (by cases h),none,0,rfl,Nat.le_refl _,.inl rfl⟩
structure Gw (D : World → Prop) where
 val : World
 property : D val
abbrev Sub (D : World → Prop) : World → Prop:=fun W => ∃ x : Gw D,W = x.val
section
variable {P : Program} {ops : Array Oper} {Q : Exit → Act → World → Prop} {md : Region.Mode}
/-! ### the quiet walk in every class of grown worlds is a walk of made values -/
def dstsB : List Oper → List Nat
 | [] => []
 | o :: r => (match o.dst with | some d => [d] | none => []) ++ dstsB r
def ownB (size : Nat) : List Oper → Bool
 | [] => true
 | o :: r => (match o.dst with | some d => decide (d < size) && !(dstsB r).contains d | none => false) && ownB size r
theorem zeh (a : Act) (d : Nat) (v : Value) : (a.put (some d) v).tmps = a.tmps.setIfInBounds d v:=rfl
theorem zeg {C : World → Prop} {A : Act} : ∀ {l : List Oper} {a : Act} {d : Nat},d ∉ dstsB l → wpQuiet P ops C (fun a' => a' = A) l a → A.tmps[d]? = a.tmps[d]?
 | [],a,d,_,h => by
  have h' : a = A:=h
  rw [h']
 | o :: r,a,d,hd,h => by
  have hr : d ∉ dstsB r:=fun hh => hd (by unfold dstsB; exact List.mem_append_right _ hh)
  have hne : ∀ v,(a.put o.dst v).tmps[d]? = a.tmps[d]?:=fun v => by
   cases ho : o.dst with
   | none => rfl
   | some e =>
    have : e ≠ d:=fun hh => hd (by unfold dstsB; rw [ho]; simp [hh])
    rw [zeh,Array.getElem?_setIfInBounds_ne this]
  unfold wpQuiet at h
  split at h
  ·
   obtain ⟨v,_,hK⟩:=h
   rw [zeg hr hK,hne]
  ·
   rw [zeg hr h,hne]
theorem made_of_quiet {o : Oper} {v : Value} {a : Act} {w : World} (h : ∀ W,Ext w W → o.quietAt P a (Sub (Ext W)) W v) : Made P o v a w:=fun W hW => by
 have h1:=h W hW
 unfold Oper.quietAt at h1
 generalize (execOp a.eval o).run P W = r at *
 cases r with
 | ok n w' =>
  cases n <;> simp only [Oper.quietUpon] at h1 <;> simp only [madeUpon]
  case value u => obtain ⟨rfl,rfl⟩:=h1; exact ⟨rfl,Ext.refl _⟩
  case skip => obtain ⟨rfl,rfl⟩:=h1; exact ⟨rfl,Ext.refl _⟩
  case enter f args =>
   obtain ⟨rfl,hc⟩:=h1
   exact hc.mono fun e w'' ⟨he,x,hx⟩ => ⟨he,by rw [hx]; exact x.property⟩
 | halt x w' => simp only [Oper.quietUpon] at h1
structure Up (w : World) (D : World → Prop) : Prop where
 ne : Nonempty (Gw D)
 grown : ∀ W,D W → Ext w W
 up : ∀ W W',D W → Ext W W' → D W'
theorem Up.ext {w : World} (W : World) (h : Ext w W) : Up w (Ext W):=⟨⟨⟨W,Ext.refl W⟩⟩,fun _ k => h.trans k,fun _ _ k k' => k.trans k'⟩
theorem Up.cell {w : World} {D : World → Prop} (h : Up w D) {b o : Nat} {v : Value} (hc : w.cell? ⟨b,o,none⟩ = some v) : ∀ x : Gw D,x.val.cell? ⟨b,o,none⟩ = some v:=fun x => by
 have hb : b < w.heap.size:=World.block_lt_of_cell? w ⟨b,o,none⟩ hc
 exact (Below.cell (h.grown _ x.property) (p:=⟨b,o,none⟩) hb).trans hc
theorem zde {w : World} {A : Act} : ∀ {l : List Oper} {a : Act},ownB a.tmps.size l = true → (∀ D,Up w D → wpQuiet P ops (Sub D) (fun a' => a' = A) l a) → wpMk P ops w (fun a' => a' = A) l a
 | [],a,_,h => h (Ext w) (Up.ext w (Ext.refl w))
 | o :: r,a,hB,h => by
  unfold ownB at hB
  cases ho : o.dst with
  | none => rw [ho] at hB; simp at hB
  | some d =>
   rw [ho] at hB
   simp only [Bool.and_eq_true,decide_eq_true_eq,Bool.not_eq_true'] at hB
   obtain ⟨⟨hd,hnot⟩,hr⟩:=hB
   have hnot' : d ∉ dstsB r:=fun hh => by
    have : (dstsB r).contains d = true:=by simpa using hh
    rw [hnot] at this; cases this
   have hsz : ∀ v,(a.put o.dst v).tmps.size = a.tmps.size:=fun v => by rw [ho,zeh]; simp
   by_cases hw : Region.wanted o (yielded ops a.tmps) = true
   ·
    have each : ∀ D,Up w D → (∀ W,Sub D W → o.quietAt P a (Sub D) W (A.tmps.getD d undef)) ∧ wpQuiet P ops (Sub D) (fun a' => a' = A) r (a.put o.dst (A.tmps.getD d undef)):=fun D hD => by
     have h1:=h D hD
     unfold wpQuiet at h1
     rw [if_pos hw] at h1
     obtain ⟨v,h2,h3⟩:=h1
     have h4:=zeg hnot' h3
     rw [ho,zeh,Array.getElem?_setIfInBounds_self_of_lt hd] at h4
     have hv : A.tmps.getD d undef = v:=by simp [h4]
     rw [hv]
     exact ⟨h2,h3⟩
    refine ⟨A.tmps.getD d undef,.inl ⟨hw,made_of_quiet fun W hW => ?_⟩,zde (by rw [hsz]; exact hr) fun D hD => (each D hD).2⟩
    exact (each (Ext W) (Up.ext W hW)).1 W ⟨⟨W,Ext.refl W⟩,rfl⟩
   ·
    have hw' : Region.wanted o (yielded ops a.tmps) = false:=by simpa using hw
    refine ⟨undef,.inr ⟨hw',rfl⟩,zde (by rw [hsz]; exact hr) fun D hD => ?_⟩
    have h1:=h D hD
    unfold wpQuiet at h1
    rwa [if_neg hw] at h1
theorem quiet_val {o : Oper} {a : Act} {D : World → Prop} {K : Act → Prop} (v : Value) (h : ∀ x : Gw D,(execOp a.eval o).run P x.val = .ok (.value v) x.val) (hK : K (a.put o.dst v)) : o.quiet P a (fun W => ∃ x : Gw D,W = x.val) K :=
 ⟨v,fun W hW => by
  obtain ⟨x,rfl⟩:=hW
  unfold Oper.quietAt
  rw [h x]
  exact ⟨rfl,rfl⟩,hK⟩
theorem run_slice_v {o : Oper} {a : Act} {t : TypeId} {x y z : Operand} {v v' vy vz : Value} {W : World} (ho : o.op = .slice t x (some y) (some z) none) (hx : a.eval x = v) (hy : a.eval y = vy) (hz : a.eval z = vz)
  (h : (Instr.sliceAt t v (some vy) (some vz) none).run P W = .ok v' W) : (execOp a.eval o).run P W = .ok (.value v') W:=by
 unfold execOp
 simp only [ho,hx,hy,hz,Option.map_some,Option.map_none,Sem.run_bind,h,Result.andThen_ok,Sem.run_pure]
/-! ### schedules -/
def lateS (md : Region.Mode) (ops : Array Oper) (n : Nat) : Bool :=
 decide (ops.size ≤ n) || (((List.range n).all fun i => (List.range (n + 1)).any fun j => decide (i < j) && Region.waitsFor md ops j i) && (List.range ops.size).all fun t => decide (t ≤ n) || (List.range t).any fun j => decide (n ≤ j) && Region.waitsFor md ops t j)
theorem lateS_one {n : Nat} {listed : Array Bool} (hB : ((List.range n).all fun i => (List.range (n + 1)).any fun j => decide (i < j) && Region.waitsFor md ops j i) = true) (inv : Closed md ops listed) :
  ∀ (d i : Nat),n - i = d → i < n → listed.getD i false = false → listed.getD n false = false ∧ n ∉ Region.ready md ops listed:=by
 intro d
 induction d using Nat.strongRecOn with
 | _ d ih =>
  intro i hd hi hun
  have h1:=List.all_eq_true.1 hB i (List.mem_range.2 hi)
  obtain ⟨j,hj,hj2⟩:=List.any_eq_true.1 h1
  simp only [Bool.and_eq_true,decide_eq_true_eq] at hj2
  have hjn:=List.mem_range.1 hj
  obtain ⟨oj,hoj,e,he,hb,hon⟩:=Region.waitsFor_spec hj2.2
  have hlj : listed.getD j false = false:=by
   cases h2 : listed.getD j false with
   | false => rfl
   | true =>
    have h3:=inv.2 j oj hoj h2 e he hb
    rw [hon,hun] at h3
    cases h3
  by_cases hl : j = n
  ·
   subst hl
   refine ⟨hlj,fun hr => ?_⟩
   obtain ⟨_,oj',hoj',hall⟩:=mem_ready.1 hr
   have : oj = oj':=Option.some.inj (hoj.symm.trans hoj')
   subst this
   have h3:=hall e he hb
   rw [hon,hun] at h3
   cases h3
  ·
   exact ih (n - j) (by omega) j rfl (by omega) hlj
theorem lateS_two {n : Nat} {listed : Array Bool} (hB : ((List.range ops.size).all fun t => decide (t ≤ n) || (List.range t).any fun j => decide (n ≤ j) && Region.waitsFor md ops t j) = true) (inv : Closed md ops listed) (hn : listed.getD n false = false) :
  ∀ (t : Nat),n < t → t < ops.size → listed.getD t false = false ∧ t ∉ Region.ready md ops listed:=by
 intro t
 induction t using Nat.strongRecOn with
 | _ t ih =>
  intro hnt htl
  have h1:=List.all_eq_true.1 hB t (List.mem_range.2 htl)
  simp only [Bool.or_eq_true,decide_eq_true_eq] at h1
  rcases h1 with h1 | h1
  ·
   omega
  ·
   obtain ⟨j,hj,hj2⟩:=List.any_eq_true.1 h1
   simp only [Bool.and_eq_true,decide_eq_true_eq] at hj2
   have hjt:=List.mem_range.1 hj
   have hjf : listed.getD j false = false:=by
    by_cases e : j = n
    ·
     rw [e]; exact hn
    ·
     exact (ih j hjt (by omega) (by omega)).1
   obtain ⟨ot,hot,e,he,hb,hon⟩:=Region.waitsFor_spec hj2.2
   refine ⟨?_,fun hr => ?_⟩
   ·
    cases h2 : listed.getD t false with
    | false => rfl
    | true =>
     have h3:=inv.2 t ot hot h2 e he hb
     rw [hon,hjf] at h3
     cases h3
   ·
    obtain ⟨_,o',ho',hall⟩:=mem_ready.1 hr
    have : ot = o':=Option.some.inj (hot.symm.trans ho')
    subst this
    have h3:=hall e he hb
    rw [hon,hjf] at h3
    cases h3
theorem lateS_spec {n i : Nat} {listed : Array Bool} (hB : lateS md ops n = true) (inv : Closed md ops listed) (hi : i < n) (hun : listed.getD i false = false)
  {t : Nat} (ht : t ∈ Region.ready md ops listed) : t < n:=by
 obtain ⟨_,ot,hot,_⟩:=mem_ready.1 ht
 have htl : t < ops.size:=(Array.getElem?_eq_some_iff.1 hot).1
 unfold lateS at hB
 simp only [Bool.or_eq_true,decide_eq_true_eq,Bool.and_eq_true] at hB
 rcases hB with hB | ⟨hB1,hB2⟩
 ·
  omega
 ·
  obtain ⟨hn1,hn2⟩:=lateS_one hB1 inv _ i rfl hi hun
  have h2 : ((List.range ops.size).all fun t => decide (t ≤ n) || (List.range t).any fun j => decide (n ≤ j) && Region.waitsFor md ops t j) = true:=by
   rw [List.all_eq_true]
   simpa using hB2
  have h1:=lateS_two h2 inv hn1 t
  have h3 : t ≠ n:=fun e => hn2 (e ▸ ht)
  by_cases h4 : n < t
  ·
   exact absurd ht (h1 h4 htl).2
  ·
   omega
theorem S_first {i n : Nat} {oi : Oper} {v : Value} (hi : ops[i]? = some oi) (hsel : ∀ (j : Nat) (o : Oper) cs b,ops[j]? = some o → o.op ≠ .select cs b)
  (hQ : ∀ c a w,Q (.panic c) (a.put oi.dst v) w → Q (.panic c) a w) (hB : lateS md ops n = true) (him : i < n) :
  ∀ (fuel : Nat) (listed : Array Bool) (a : Act) (w : World),Closed md ops listed →
   (∀ j oj,ops[j]? = some oj → j ≠ i → listed.getD j true = false → (∀ e ∈ oj.after,Region.binds md e = true → e.on ≠ i) → oi.apart ops oj = true) →
   i ∈ Region.ready md ops listed → YieldsE P ops oi v a w →
   wpG P md ops Q n fuel (listed.setIfInBounds i true) (a.put oi.dst v) w → wpG P md ops Q n (fuel + 1) listed a w:=by
 intro fuel
 induction fuel with
 | zero =>
  intro listed a w _ _ hr hy H
  refine ⟨fun h => (by rw [h] at hr; cases hr),fun j hj W hW => ?_⟩
  by_cases hji : j = i
  ·
   subst hji; exact hy.wpOp hi hW fun W' hW' => ⟨fun _ => hW',H.ext (hW.trans hW')⟩
  ·
   have:=ready_mono hj hji
   rw [H.1] at this
   cases this
 | succ fuel ih =>
  intro listed a w inv hfree hr hy H
  refine ⟨fun h => (by rw [h] at hr; cases hr),fun j hj W hW => ?_⟩
  by_cases hji : j = i
  ·
   subst hji; exact hy.wpOp hi hW fun W' hW' => ⟨fun _ => hW',H.ext (hW.trans hW')⟩
  ·
   have hun:=getD_both (mem_ready.1 hr).1
   have hjn : j < n:=lateS_spec hB inv him hun hj
   have h1:=H.2 j (ready_mono hj hji) W hW
   obtain ⟨hjun,oj,hoj,hall⟩:=mem_ready.1 hj
   have hnot : ∀ e ∈ oj.after,Region.binds md e = true → e.on ≠ i:=fun e he hb heq => by
    have h2:=hall e he hb
    rw [heq,hun] at h2
    cases h2
   have h2:=wpOp_putE hoj (hfree j oj hoj hji hjun hnot) (fun cs b => hsel i oi cs b hi) (fun cs b => hsel j oj cs b hoj) hQ (fun a' w' hk => hk.1 hjn)
    (hy.of_same hW rfl rfl) h1
   have hfree' : ∀ k ok,ops[k]? = some ok → k ≠ i → (listed.setIfInBounds j true).getD k true = false →
     (∀ e ∈ ok.after,Region.binds md e = true → e.on ≠ i) → oi.apart ops ok = true:=fun k ok hk hki hunk hno => by
    refine hfree k ok hk hki ?_ hno
    by_cases hjk : j = k
    ·
     subst hjk; exact hjun
    ·
     rw [getD_set_ne true hjk] at hunk; exact hunk
   refine wpOp_mono (fun a' w' h3 => ⟨h3.2.1,ih (listed.setIfInBounds j true) a' w' (inv.set hj) hfree' (ready_mono hr (Ne.symm hji)) h3.1 ?_⟩) h2
   rw [Array.setIfInBounds_comm _ _ hji]
   exact h3.2.2
abbrev Sched:=List (Bool × List Nat)
def takeI (md : Region.Mode) (ops : Array Oper) (n : Nat) : List Nat → Array Bool → Bool
 | [],_ => true
 | k :: r,listed => (Region.ready md ops listed).contains k && Region.free md ops listed k && decide (k < n) && takeI md ops n r (listed.setIfInBounds k true)
def oneI (md : Region.Mode) (ops : Array Oper) : List Nat → Array Bool → Bool
 | [],_ => true
 | k :: r,listed => (Region.ready md ops listed == [k]) && oneI md ops r (listed.setIfInBounds k true)
def markI : List Nat → Array Bool → Array Bool
 | [],listed => listed
 | k :: r,listed => markI r (listed.setIfInBounds k true)
def schedI (md : Region.Mode) (ops : Array Oper) (n : Nat) : Sched → Array Bool → Bool
 | [],listed => (Region.ready md ops listed).isEmpty
 | (true,is) :: r,listed => takeI md ops n is listed && schedI md ops n r (markI is listed)
 | (false,is) :: r,listed => oneI md ops is listed && schedI md ops n r (markI is listed)
def consO : Option Oper → List Oper → List Oper
 | some o,r => o :: r
 | none,r => r
def pickI (l : List Oper) : List Nat → List Oper
 | [] => []
 | k :: r => consO l[k]? (pickI l r)
def wpOne (P : Program) (ops : Array Oper) (Q : Exit → Act → World → Prop) (n : Nat) (R : Act → World → Prop) : List Nat → Act → World → Prop
 | [],a,w => R a w
 | k :: r,a,w => ∀ W,Ext w W → wpOp P ops Q k (fun a' W' => (k < n → Ext W W') ∧ wpOne P ops Q n R r a' W') a W
def wpSched (P : Program) (l : List Oper) (Q : Exit → Act → World → Prop) (n : Nat) : Sched → Act → World → Prop
 | [],a,w => ∀ W,Ext w W → Q .normal a W
 | (true,is) :: r,a,w => wpMk P l.toArray w (fun a' => wpSched P l Q n r a' w) (pickI l is) a
 | (false,is) :: r,a,w => wpOne P l.toArray Q n (fun a' w' => wpSched P l Q n r a' w') is a w
def lenI : Sched → Nat
 | [] => 0
 | (_,is) :: r => is.length + lenI r
theorem S_take {n g : Nat} {l : List Oper} (hsel : Region.noSelect l.toArray = true) (hQ : ∀ (o : Oper) v c a w,Q (.panic c) (a.put o.dst v) w → Q (.panic c) a w) (hB : lateS md l.toArray n = true) {w : World} {R : Act → Prop} {L : Array Bool}
  (hR : ∀ a,R a → Closed md l.toArray L → wpG P md l.toArray Q n g L a w) : ∀ (is : List Nat) (listed : Array Bool) (a : Act),Closed md l.toArray listed →
  takeI md l.toArray n is listed = true → markI is listed = L → wpMk P l.toArray w R (pickI l is) a → wpG P md l.toArray Q n (is.length + g) listed a w
 | [],listed,a,inv,_,hL,h => by
  have hL' : listed = L:=hL
  subst hL'
  simpa using hR a h inv
 | k :: r,listed,a,inv,hX,hL,h => by
  simp only [takeI,Bool.and_eq_true,decide_eq_true_eq] at hX
  obtain ⟨⟨⟨hr,hf⟩,hkn⟩,hX'⟩:=hX
  have hr' : k ∈ Region.ready md l.toArray listed:=by simpa using hr
  obtain ⟨_,o,h0,_⟩:=mem_ready.1 hr'
  have h0' : l[k]? = some o:=by simpa using h0
  unfold pickI at h
  rw [h0'] at h
  obtain ⟨v,hy,hK⟩:=h
  rw [List.length_cons,show r.length + 1 + g = (r.length + g) + 1 by omega]
  exact S_first h0 (Region.noSelect_spec hsel) (hQ o v) hB hkn _ listed a w inv (Region.free_spec h0 hf) hr' hy
   (S_take hsel hQ hB hR r _ _ (inv.set hr') hX' hL hK)
theorem S_one {n g : Nat} {l : List Oper} {R : Act → World → Prop} {L : Array Bool} (hRx : ∀ a w w',R a w → Ext w w' → R a w')
  (hR : ∀ a w,R a w → Closed md l.toArray L → wpG P md l.toArray Q n g L a w) : ∀ (is : List Nat) (listed : Array Bool) (a : Act) (w : World),Closed md l.toArray listed →
  oneI md l.toArray is listed = true → markI is listed = L → wpOne P l.toArray Q n R is a w → wpG P md l.toArray Q n (is.length + g) listed a w
 | [],listed,a,w,inv,_,hL,h => by
  have hL' : listed = L:=hL
  subst hL'
  simpa using hR a w h inv
 | k :: r,listed,a,w,inv,hX,hL,h => by
  simp only [oneI,Bool.and_eq_true,beq_iff_eq] at hX
  obtain ⟨hr,hX'⟩:=hX
  rw [List.length_cons,show r.length + 1 + g = (r.length + g) + 1 by omega]
  refine ⟨fun h0 => (by rw [hr] at h0; cases h0),fun i hi W hW => ?_⟩
  have hik : i = k:=by rw [hr] at hi; simpa using hi
  subst hik
  refine wpOp_mono (fun a' W' hk => ⟨hk.1,S_one hRx hR r _ _ _ (inv.set hi) hX' hL hk.2⟩) (h W hW)
theorem wpMk_ext {w w' : World} {R R' : Act → Prop} (hE : Ext w w') (hR : ∀ a,R a → R' a) : ∀ {l : List Oper} {a : Act},wpMk P ops w R l a → wpMk P ops w' R' l a
 | [],_,hh => hR _ hh
 | _ :: _,_,⟨v,hy,hK⟩ => ⟨v,hy.of_same hE rfl rfl,wpMk_ext hE hR hK⟩
theorem wpOne_ext {n : Nat} {R : Act → World → Prop} {w w' : World} (hE : Ext w w') (hRx : ∀ a w w',R a w → Ext w w' → R a w') : ∀ {is : List Nat} {a : Act},wpOne P ops Q n R is a w → wpOne P ops Q n R is a w'
 | [],_,h => hRx _ _ _ h hE
 | _ :: _,_,h => fun W hW => h W (hE.trans hW)
theorem zea {l : List Oper} {n : Nat} : ∀ {s : Sched} {a : Act} {w w' : World},wpSched P l Q n s a w → Ext w w' → wpSched P l Q n s a w'
 | [],_,_,_,h,hE => fun W hW => h W (hE.trans hW)
 | (true,_) :: _,_,_,_,h,hE => wpMk_ext hE (fun _ h => zea h hE) h
 | (false,is) :: r,_,_,_,h,hE => wpOne_ext (R:=fun a' w' => wpSched P l Q n r a' w') (is:=is) hE (fun _ _ _ h k => zea h k) h
theorem S_all {n : Nat} {l : List Oper} (hsel : Region.noSelect l.toArray = true) (hQ : ∀ (o : Oper) v c a w,Q (.panic c) (a.put o.dst v) w → Q (.panic c) a w) (hB : lateS md l.toArray n = true) :
  ∀ (s : Sched) (listed : Array Bool) (a : Act) (w : World),Closed md l.toArray listed → schedI md l.toArray n s listed = true → wpSched P l Q n s a w → wpG P md l.toArray Q n (lenI s) listed a w
 | [],listed,a,w,_,hX,h => ⟨by simpa [schedI] using hX,h⟩
 | (true,is) :: r,listed,a,w,inv,hX,h => by
  simp only [schedI,Bool.and_eq_true] at hX
  exact S_take (g:=lenI r) hsel hQ hB (R:=fun a' => wpSched P l Q n r a' w) (L:=markI is listed) (fun a' h' inv' => S_all hsel hQ hB r _ _ _ inv' hX.2 h') is listed a inv hX.1 rfl h
 | (false,is) :: r,listed,a,w,inv,hX,h => by
  simp only [schedI,Bool.and_eq_true] at hX
  exact S_one (g:=lenI r) (R:=fun a' w' => wpSched P l Q n r a' w') (L:=markI is listed) (fun _ _ _ h k => zea h k) (fun a' w' h' inv' => S_all hsel hQ hB r _ _ _ inv' hX.2 h') is listed a w inv hX.1 rfl h
def schedB (l : List Oper) (n : Nat) (s : Sched) : Bool :=
 Region.noSelect l.toArray && lateS .any l.toArray n && (lenI s == l.length) && schedI .any l.toArray n s (Array.replicate l.length false)
theorem wp_sched {id : Nat} (n : Nat) (s : Sched) {a : Act} {w : World} {l : List Oper} (hm : P.follows .mixedOrders = true) (hB : schedB l n s = true)
  (h : ∀ Q',Hid (Q' = NoPanic Q) → wpSched P l Q' n s a w) : (Code.region id l.toArray true).wp P Q a w:=by
 simp only [schedB,Bool.and_eq_true,beq_iff_eq] at hB
 obtain ⟨⟨⟨hsel,hlate⟩,hlen⟩,hs⟩:=hB
 refine wp_region_noPanic ?_
 have inv0 : Closed .any l.toArray (Array.replicate l.length false) :=
  ⟨by simp,fun j oj _ hl => (by rw [getD_replicate_false] at hl; cases hl)⟩
 have H:=S_all (P:=P) (md:=.any) (Q:=NoPanic Q) hsel (fun _ _ _ _ _ h => h) hlate s _ a w inv0 hs (h _ (veil rfl))
 rw [hlen] at H
 refine wp_region_any hm (zcv (n:=n) _ _ _ _ ?_)
 have:=wpG.ext H (Ext.drew w)
 simpa using this
/-! ### how its parts are walked -/
theorem zeq {C : World → Prop} {a : Act} : wpQuiet P ops C (fun a' => a' = a) [] a:=rfl
theorem zdj {l : List Oper} {n : Nat} {is : List Nat} {r : Sched} {a A : Act} {w : World} (os : List Oper) (ho : pickI l is = os) (hB : ownB a.tmps.size os = true)
  (h : ∀ D,Up w D → Nonempty (Gw D) → wpQuiet P l.toArray (fun W => ∃ x : Gw D,W = x.val) (fun a' => a' = A) os a) (h2 : wpSched P l Q n r A w) : wpSched P l Q n ((true,is) :: r) a w:=by
 subst ho
 exact zga (fun a' e => by subst e; exact h2) (zde hB fun D hD => h D hD hD.ne)
theorem zdk {l : List Oper} {n k : Nat} {r : Sched} {a : Act} {w : World} (o : Oper) (ho : l[k]? = some o) (hg : o.guard = none)
  (h : ∀ W,Ext w W → o.wp P a W (fun a' W' => (k < n → Ext W W') ∧ wpSched P l Q n r a' W') Q) : wpSched P l Q n ((false,[k]) :: r) a w:=fun W hW =>
 zbp (by simpa using ho) hg (h W hW)
theorem sched_build {l : List Oper} {n k : Nat} {r : Sched} {a : Act} {w : World} {t e : TypeId} {len d : Nat} {ps : List (Nat × Operand)} {vs : List (Nat × Value)} {C : Array Value} (o : Oper) (ho : l[k]? = some o) (hg : o.guard = none) (hop : o.op = .buildSlice t len ps.toArray) (hd : o.dst = some d)
  (hv : ps.map (fun (i,x) => (i,a.eval x)) = vs) (hb : ∀ W,(Instr.buildSlice t len vs.toArray).run P W = .ok (.slice (some ⟨W.heap.size,0,none⟩) len len) (W.alloc (.cells C e)))
  (h : ∀ g W,w.heap.size ≤ g → W.heap[g]? = some (.cells C e (0,0)) → Ext w W → wpSched P l Q n r (a.put (some d) (.slice (some ⟨g,0,none⟩) len len)) W) : wpSched P l Q n ((false,[k]) :: r) a w:=by
 refine zdk o ho hg fun W hW => ?_
 unfold Oper.wp execOp
 simp only [hop,List.map_toArray]
 rw [show ps.map (fun x => match x with | (i,x) => (i,a.eval x)) = vs from hv]
 simp only [Sem.run_bind,hb W,Result.andThen_ok,Sem.run_pure]
 show (k < n → Ext W _) ∧ _
 rw [hd]
 exact ⟨fun _ => Ext.alloc W _,h _ _ (Below.size hW) (zae W _) (hW.trans (Ext.alloc W _))⟩
theorem sched_end {l : List Oper} {n : Nat} {a : Act} {w : World} {R : Exit → Act → World → Prop} (hQ : Hid (Q = NoPanic R)) (h : ∀ W,Ext w W → R .normal a W) : wpSched P l Q n [] a w:=fun W hW => by
 rw [hQ.out]
 exact h W hW
end
section
variable {α : Type} {sz : Nat} {cs : α → List Value} {w w' : World} {v : Value} {l : List α} {P : Program}
def Ls (sz : Nat) (cs : α → List Value) (w : World) (v : Value) (l : List α) : Prop :=
 ∃ A c,v = .slice A l.length c ∧ l.length ≤ c ∧ (l.length = 0 ∨ ∃ b o,A = some ⟨b,o,none⟩ ∧ b < w.heap.size ∧ ∀ i x,l[i]? = some x → w.rangeAt b (o + i * sz) (cs x))
theorem range_ext (h : Ext w w') {b o : Nat} {L : List Value} (hb : b < w.heap.size) (hr : w.rangeAt b o L) : w'.rangeAt b o L:=fun j u hu => (h.cell hb).trans (hr j u hu)
theorem Ls.ext (h : Ls sz cs w v l) (k : Ext w w') : Ls sz cs w' v l:=by
 obtain ⟨A,c,e,hc,hx⟩:=h
 exact ⟨A,c,e,hc,hx.imp id fun ⟨b,o,ha,hb,hr⟩ => ⟨b,o,ha,Nat.lt_of_lt_of_le hb (Below.size k),fun i x hi => range_ext k hb (hr i x hi)⟩⟩
theorem Ls.nil (w : World) (A : Option Addr) (c : Nat) : Ls sz cs w (.slice A 0 c) ([] : List α):=⟨A,c,rfl,Nat.zero_le _,.inl rfl⟩
theorem Ls.at (h : Ls sz cs w v l) {i : Nat} (hi : i < l.length) : ∃ b o c,v = .slice (some ⟨b,o,none⟩) l.length c ∧ l.length ≤ c ∧ b < w.heap.size ∧ ∀ i x,l[i]? = some x → w.rangeAt b (o + i * sz) (cs x):=by
 obtain ⟨A,c,e,hc,hx⟩:=h
 rcases hx with h0 | ⟨b,o,rfl,hb,hr⟩
 ·
  omega
 ·
  exact ⟨b,o,c,e,hc,hb,hr⟩
def OwnL (sz : Nat) (cs : α → List Value) (w : World) (base ty : Nat) (v : Value) (l : List α) : Prop:=w.ownsRow base ty sz v l.length (l.flatMap cs)
variable {base ty : Nat}
theorem OwnL.nil (w : World) (base ty : Nat) : OwnL sz cs w base ty (.slice none 0 0) ([] : List α):=World.ownsRow_nil _ _ _ _
theorem OwnL.keep (o : OwnL sz cs w base ty v l) (h : Ext w w') : OwnL sz cs w' base ty v l :=
 ⟨o.1,o.2.imp id fun ⟨g,cap,cur,e,hg,hh,r⟩ => ⟨g,cap,cur,e,hg,h.block hh,r⟩⟩
theorem OwnL.lt (o : OwnL sz cs w base ty v l) {k : Nat} (hk : v.ownBlock = some k) : base ≤ k ∧ k < w.heap.size:=World.ownsRow.lt o k hk
theorem flat_at (hcs : ∀ x,(cs x).length = sz) : ∀ {l : List α} {i j : Nat} {x : α} {u : Value},l[i]? = some x → (cs x)[j]? = some u → (l.flatMap cs)[i * sz + j]? = some u
 | [],_,_,_,_,h,_ => by simp at h
 | a :: l,0,j,x,u,h,hu => by
  obtain rfl : a = x:=by simpa using h
  have hj : j < (cs a).length:=(List.getElem?_eq_some_iff.1 hu).1
  rw [List.flatMap_cons,Nat.zero_mul,Nat.zero_add,List.getElem?_append_left hj]
  exact hu
 | a :: l,i + 1,j,x,u,h,hu => by
  rw [List.flatMap_cons,List.getElem?_append_right (by rw [hcs,Nat.add_mul]; omega),hcs,show (i + 1) * sz + j - sz = i * sz + j by rw [Nat.add_mul]; omega]
  exact flat_at hcs (by simpa using h) hu
theorem flat_len (hcs : ∀ x,(cs x).length = sz) : ∀ (l : List α),(l.flatMap cs).length = l.length * sz
 | [] => by simp
 | a :: l => by rw [List.flatMap_cons,List.length_append,hcs,flat_len hcs l,List.length_cons,Nat.add_mul]; omega
theorem OwnL.ls (hcs : ∀ x,(cs x).length = sz) (o : OwnL sz cs w base ty v l) : Ls sz cs w v l:=by
 rcases o.2 with ⟨rfl,h0⟩ | ⟨g,cap,cur,rfl,hbg,hh,hn,hm,hs,ht⟩
 ·
  exact ⟨none,0,by rw [h0],by omega,.inl h0⟩
 ·
  refine ⟨_,cap,rfl,hn,.inr ⟨g,0,rfl,(Array.getElem?_eq_some_iff.1 hh).1,fun i x hi j u hu => ?_⟩⟩
  have h1:=flat_at hcs hi hu
  rw [← ht] at h1
  have hlt : i * sz + j < l.length * sz:=by
   have:=(List.getElem?_eq_some_iff.1 h1).1
   rw [List.length_take] at this
   omega
  rw [List.getElem?_take_of_lt hlt] at h1
  rw [Nat.zero_add,cell_of_row w g _ cur _ _ hh]
  simpa using h1
theorem zfb {i : TypeInfo} {z : Value} {bytes t : Nat} (ht : P.underlying t = some (.slice ty)) (hi : P.info? ty = some i) (hz : i.zero = some z) (hsize : i.size = sz) (hby : i.bytes = bytes) (hzs : z.cells.size = sz) (hsz : 0 < sz)
  (hcs : ∀ x,(cs x).length = sz) (h1 : ∀ x,∀ u ∈ cs x,u.oneCell' = true) (rt : TypeId) (o : OwnL sz cs w base ty v l) {ys : List α} {A : Option Addr} {m c : Nat} (hm : m = ys.length) (hy : Ls sz cs w (.slice A m c) ys)
  (h63 : l.length + m ≤ maxLen) (hbytes : (l.length + m) * bytes ≤ 140737488355328) (hbase : base ≤ w.heap.size) :
  ∃ v' w',(Builtin.append_ #[t,t] rt #[v,.slice A m c]).run P w = .ok v' w' ∧ OwnL sz cs w' base ty v' (l ++ ys) ∧ w.grownBy w' v.ownBlock ∧ (v'.ownBlock = v.ownBlock ∨ v'.ownBlock = some w.heap.size):=by
 subst hm
 obtain ⟨A',c',e,hc,hx⟩:=hy
 injection e with e1 _ e3
 subst e1 e3
 rcases A with _ | a
 ·
  have h0 : ys = []:=by
   rcases hx with h | ⟨_,_,h,_⟩
   ·
    exact List.length_eq_zero_iff.1 h
   ·
    cases h
  subst h0
  refine ⟨v,w,?_,by rw [List.append_nil]; exact o,World.grownBy.refl w _,.inl rfl⟩
  rcases o.2 with ⟨rfl,h0⟩ | ⟨g,cap,cur,rfl,_,_,hnc,_⟩
  ·
   simp [Builtin.append_,run_underlying ht,sizeOf,typeInfo,hi,Builtin.lenOf,Builtin.firstCells]
  ·
   simp [Builtin.append_,run_underlying ht,sizeOf,typeInfo,hi,Builtin.lenOf,Builtin.firstCells,hnc,storeCells]
 ·
  have hcell : ∀ j u,(ys.flatMap cs)[j]? = some u → w.cell? (a.add j) = some u:=by
   intro j u hu
   have hj:=(List.getElem?_eq_some_iff.1 hu).1
   rw [flat_len hcs] at hj
   rcases hx with h | ⟨b,off,ha,_,hr⟩
   ·
    rw [h] at hj; omega
   ·
    obtain rfl:=Option.some.inj ha
    have hq : j / sz < ys.length:=(Nat.div_lt_iff_lt_mul hsz).2 hj
    have hr2:=hr (j / sz) _ (List.getElem?_eq_getElem hq)
    have hd : j / sz * sz + j % sz = j:=by rw [Nat.mul_comm]; exact Nat.div_add_mod j sz
    have hlt : j % sz < (cs ys[j / sz]).length:=by rw [hcs]; exact Nat.mod_lt _ hsz
    have h3:=flat_at hcs (List.getElem?_eq_getElem hq) (List.getElem?_eq_getElem hlt)
    rw [hd,hu] at h3
    obtain rfl:=Option.some.inj h3
    have h4:=hr2 _ _ (List.getElem?_eq_getElem hlt)
    rw [Nat.add_assoc,hd] at h4
    rw [Addr.add_mid]
    exact h4
  obtain ⟨v',w',hr,h2,h3,_,h5⟩:=run_append_own_at (P:=P) w base t rt ty i z sz bytes ht hi hz hsize hby hzs hsz v l.length _ o a ys.length c (ys.flatMap cs) (flat_len hcs ys) hcell
   (fun u hu => by obtain ⟨x,_,hx⟩:=List.mem_flatMap.1 hu; exact h1 x u hx) h63 hbytes hbase
  refine ⟨v',w',hr,?_,h3,h5⟩
  unfold OwnL
  rw [List.flatMap_append,List.length_append]
  exact h2
theorem ls_one {g c : Nat} {x : α} {fr : Nat × Nat} (hg : w.heap[g]? = some (.cells (cs x).toArray ty fr)) (hc : 1 ≤ c:=by decide) : Ls sz cs w (.slice (some ⟨g,0,none⟩) 1 c) [x] :=
 ⟨_,c,rfl,hc,.inr ⟨g,0,rfl,(Array.getElem?_eq_some_iff.1 hg).1,fun i y hi j u hu => by
  match i,hi with
  | 0,hi =>
   obtain rfl : x = y:=by simpa using hi
   simp only [Nat.zero_mul,Nat.zero_add]
   rw [cell_of_row w g j _ _ _ hg]
   simpa using hu⟩⟩
theorem ls_of {H : Type} {enc : TypeId × Value → H} {t e fuel base : Nat} {sp : Nat → Bool} {hd : Bool} {d : DataW H} {p : List MemPlace} (ht : P.underlying t = some (.slice e)) (hsz : P.cellsOf e = sz) (h0 : 0 < sz)
  (he : ∀ n cs' y,DataW.trod enc P w base sp hd n e cs' = some y → ∃ x,cs' = cs x) (hf : DataW.trod enc P w base sp hd fuel t [v] = some (d,p)) : ∃ l : List α,Ls sz cs w v l:=by
 rcases Go.Deep.open_slice ht hf with ⟨h,_⟩ | ⟨a,len,cap,m,n,D,Pl,h,_,hlc,_,hm,_,hx⟩
 ·
  simp only [List.cons.injEq,and_true] at h
  rw [h]
  exact ⟨[],Ls.nil _ _ _⟩
 ·
  simp only [List.cons.injEq,and_true] at h
  have hlm : len ≤ m:=by rw [hm]; split <;> omega
  have each : ∀ i,i < len → ∃ x : α,(cs x).length = sz ∧ ∀ j u,(cs x)[j]? = some u → w.cell? ((a.add (i * sz)).add j) = some u:=by
   intro i hi
   obtain ⟨cs',h1,h2⟩:=hx i (by omega)
   rw [hsz] at h1
   obtain ⟨_,hlen,hcell⟩:=World.cells?_some h1
   obtain ⟨x,rfl⟩:=he _ _ _ h2
   refine ⟨x,hlen,fun j u hu => ?_⟩
   have hj:=(List.getElem?_eq_some_iff.1 hu).1
   rw [hcell j (by omega),hu]
  by_cases hl0 : len = 0
  ·
   rw [h,hl0]
   exact ⟨[],Ls.nil _ _ _⟩
  ·
   obtain ⟨x0,_⟩:=each 0 (by omega)
   haveI : Inhabited α:=⟨x0⟩
   obtain ⟨q,hq⟩:=Go.Deep.choose_lt each
   refine ⟨(List.range len).map q,some a,cap,by rw [h]; simp,by simpa using hlc,.inr ?_⟩
   obtain ⟨b,off,spot⟩:=a
   have h00 : ∃ u,(cs (q 0))[0]? = some u:=⟨_,List.getElem?_eq_getElem (by rw [(hq 0 (by omega)).1]; exact h0)⟩
   obtain ⟨u0,hu0⟩:=h00
   have hc0:=(hq 0 (by omega)).2 0 u0 hu0
   have hspot : spot = none:=by simpa [Addr.add] using World.cell?_spot hc0
   subst hspot
   have hblk : b < w.heap.size:=by
    have:=World.block_lt_of_cell? w _ hc0
    simpa [Addr.add] using this
   refine ⟨b,off,rfl,hblk,fun i x hi j u hu => ?_⟩
   have hil : i < len:=by
    have:=(List.getElem?_eq_some_iff.1 hi).1
    simpa using this
   obtain rfl : q i = x:=by simpa [hil] using hi
   have:=(hq i hil).2 j u hu
   rw [Addr.add_mid,Addr.add_mid] at this
   exact this
end
abbrev pb (r : Rc) (j : Nat) : Value:=.int .u8 (r.pv.getD j 0 : Nat)
def rcC (r : Rc) (v : Value) : Array Value:=#[.int .i64 r.dv,.int .i64 r.sq,.int .i64 r.mi,.int .i64 r.kd,.int .i64 r.st,.int .i64 r.zn,.int .i64 r.sr,.int .i64 r.vd,
 pb r 0,pb r 1,pb r 2,pb r 3,pb r 4,pb r 5,pb r 6,pb r 7,pb r 8,pb r 9,pb r 10,pb r 11,pb r 12,pb r 13,pb r 14,pb r 15,pb r 16,pb r 17,pb r 18,pb r 19,pb r 20,pb r 21,pb r 22,pb r 23,pb r 24,pb r 25,pb r 26,pb r 27,pb r 28,pb r 29,pb r 30,pb r 31,v]
theorem rcC_size (r : Rc) (v : Value) : (rcC r v).size = 41:=rfl
theorem rcC_one (r : Rc) {A : Option Addr} {n c : Nat} : (rcC r (.slice A n c)).all (·.oneCell') = true:=by simp [rcC,Value.oneCell']
theorem iRc (r : Rc) (v : Value) : (Tryd.prog.info? 35).map (·.size) = some (rcC r v).size:=by
 rw [rcC_size]
 kernel_rfl
theorem rcC_pv (r : Rc) (v : Value) {j : Nat} (hj : j < 32) : (rcC r v)[8 + j]? = some (pb r j):=by
 match j,hj with
 | 0,_ => rfl
 | 1,_ => rfl
 | 2,_ => rfl
 | 3,_ => rfl
 | 4,_ => rfl
 | 5,_ => rfl
 | 6,_ => rfl
 | 7,_ => rfl
 | 8,_ => rfl
 | 9,_ => rfl
 | 10,_ => rfl
 | 11,_ => rfl
 | 12,_ => rfl
 | 13,_ => rfl
 | 14,_ => rfl
 | 15,_ => rfl
 | 16,_ => rfl
 | 17,_ => rfl
 | 18,_ => rfl
 | 19,_ => rfl
 | 20,_ => rfl
 | 21,_ => rfl
 | 22,_ => rfl
 | 23,_ => rfl
 | 24,_ => rfl
 | 25,_ => rfl
 | 26,_ => rfl
 | 27,_ => rfl
 | 28,_ => rfl
 | 29,_ => rfl
 | 30,_ => rfl
 | 31,_ => rfl
 | j + 32,h => exact absurd h (by omega)
def Rv17 (w : World) (X : Array Value) (r : Rc) : Prop:=WfC r ∧ ∃ A c,X = rcC r (.slice A r.bs.length c) ∧ r.bs.length ≤ c ∧ Bs w A r.bs
section
variable {w w' : World} {X : Array Value} {r : Rc}
theorem Rv17.ext (h : Rv17 w X r) (k : Ext w w') : Rv17 w' X r:=by
 obtain ⟨h0,A,c,e,hc,hB⟩:=h
 exact ⟨h0,A,c,e,hc,hB.ext k⟩
theorem Rv17.size (h : Rv17 w X r) : X.size = 41:=by
 obtain ⟨_,A,c,e,_⟩:=h
 rw [e,rcC_size]
theorem Rv17.info (h : Rv17 w X r) : (Tryd.prog.info? 35).map (·.size) = some X.size:=by
 obtain ⟨_,A,c,e,_⟩:=h
 rw [e]
 exact iRc _ _
theorem Rv17.one (h : Rv17 w X r) : X.all (·.oneCell') = true:=by
 obtain ⟨_,A,c,e,_⟩:=h
 rw [e]
 exact rcC_one r
def RcAt (w : World) (g : Nat) (X : Array Value) : Prop:=w.heap[g]? = some (.cells X 35 (0,0))
theorem RcAt.ext {g : Nat} (h : RcAt w g X) (k : Ext w w') : RcAt w' g X:=k.block h
theorem RcAt.new (w : World) (X : Array Value) : RcAt (w.alloc (.cells X 35)) w.heap.size X:=zae w _
theorem RcAt.cell {g : Nat} (h : RcAt w g X) {j : Nat} {u : Value} (hX : X[j]? = some u) : w.cell? ⟨g,j,none⟩ = some u:=by
 rw [cell_of_row w g j _ _ _ h]
 exact hX
theorem RcAt.cells {g : Nat} {A : Option Addr} {n c : Nat} (h : RcAt w g (rcC r (.slice A n c))) :
  w.cell? ⟨g,0,none⟩ = some (.int .i64 r.dv) ∧ w.cell? ⟨g,1,none⟩ = some (.int .i64 r.sq) ∧ w.cell? ⟨g,2,none⟩ = some (.int .i64 r.mi) ∧ w.cell? ⟨g,3,none⟩ = some (.int .i64 r.kd) ∧ w.cell? ⟨g,4,none⟩ = some (.int .i64 r.st) ∧ w.cell? ⟨g,5,none⟩ = some (.int .i64 r.zn) ∧ w.cell? ⟨g,6,none⟩ = some (.int .i64 r.sr) ∧ w.cell? ⟨g,7,none⟩ = some (.int .i64 r.vd) ∧ w.cell? ⟨g,40,none⟩ = some (.slice A n c) :=
 ⟨h.cell rfl,h.cell rfl,h.cell rfl,h.cell rfl,h.cell rfl,h.cell rfl,h.cell rfl,h.cell rfl,h.cell rfl⟩
theorem RcAt.prev {g : Nat} {v : Value} (h : RcAt w g (rcC r v)) (hw : WfC r) : Bs w (some ⟨g,8,none⟩) r.pv :=
 ⟨hw.2.1,.inr ⟨g,8,rfl,(Array.getElem?_eq_some_iff.1 h).1,fun j hj => h.cell (rcC_pv r v (by rw [hw.1] at hj; exact hj))⟩⟩
end
theorem kdC_1 {r : Rc} (h : r.kd = 1) : kdC r = decide (1 ≤ r.vd ∧ r.vd ≤ 7 ∧ r.bs.length ≤ 500):=by unfold kdC; rw [if_pos h]
theorem kdC_2 {r : Rc} (h : ¬ r.kd = 1) : kdC r = decide ((r.kd = 2 ∨ r.kd = 3) ∧ r.vd = 0 ∧ r.bs.length = 0):=by unfold kdC; rw [if_neg h]
theorem mayFs_false {fs : List Fd} {i : Nat} (hi : i < fs.length) (h : ¬ okF fs i) : mayFs fs = false:=decide_eq_false fun hh => h (hh.2 i hi)
theorem mayFs_len {fs : List Fd} (h : ∀ i,i < fs.length → okF fs i) : mayFs fs = decide (fs.length ≤ 64):=by
 unfold mayFs
 by_cases hc : fs.length ≤ 64
 ·
  rw [decide_eq_true hc,decide_eq_true ⟨hc,h⟩]
 ·
  rw [decide_eq_false hc,decide_eq_false fun hh => hc hh.1]
theorem mayFs_ok {fs : List Fd} (h : mayFs fs = true) {i : Nat} (hi : i < fs.length) : okF fs i:=(of_decide_eq_true h).2 i hi
theorem mayFs_64 {fs : List Fd} (h : mayFs fs = true) : fs.length ≤ 64:=(of_decide_eq_true h).1
theorem zdx {fs : List Fd} (h : mayFs fs = true) (i : Nat) : (encF (fs.take i)).length ≤ 4194432:=by
 have h1:=zem (fs.take i) 65535 fun f hf => (mayFs_each h f (List.mem_of_mem_take hf)).2.2
 have h2:=mayFs_64 h
 have h3 : (fs.take i).length ≤ 64:=by rw [List.length_take]; omega
 omega
theorem hdr3 {w : World} {g : Nat} {T : Int} {D0 : List Nat} {L : Nat} (h : w.heap[g]? = some (.cells #[.int .u8 T,.int .u8 ((L : Int) / 256),.int .u8 ((L : Int) % 256)] 5 (0,0))) (h1 : 1 ≤ T) (h2 : T ≤ 255) (h3 : L ≤ 65535) (hL : L = D0.length) : Bs w (some ⟨g,0,none⟩) (hdr (T,D0)):=by
 refine ⟨hdr_byt _,.inr ⟨g,0,rfl,(Array.getElem?_eq_some_iff.1 h).1,fun j hj => ?_⟩⟩
 rw [Nat.zero_add,cell_of_row w g j _ _ _ h]
 subst hL
 have e0 : (((T % 256).toNat : Nat) : Int) = T:=by omega
 have e1 : (((D0.length / 256 % 256 : Nat) : Nat) : Int) = (D0.length : Int) / 256:=by omega
 have e2 : (((D0.length % 256 : Nat) : Nat) : Int) = (D0.length : Int) % 256:=by omega
 match j,hj with
 | 0,_ => show some (Value.int .u8 T) = some (.int .u8 (((T % 256).toNat : Nat) : Int)); rw [e0]
 | 1,_ => show some (Value.int .u8 _) = some (.int .u8 ((D0.length / 256 % 256 : Nat) : Int)); rw [e1]
 | 2,_ => show some (Value.int .u8 _) = some (.int .u8 ((D0.length % 256 : Nat) : Int)); rw [e2]
def cellsFs : List Fd → List (Option Addr × Nat) → List Value
 | f :: fs,a :: al => [.int .i64 f.1,.slice a.1 f.2.length a.2] ++ cellsFs fs al
 | _,_ => []
theorem zdc : ∀ {fs : List Fd} {al : List (Option Addr × Nat)} (f : Fd) (a : Option Addr × Nat),al.length = fs.length → cellsFs (fs ++ [f]) (al ++ [a]) = cellsFs fs al ++ [.int .i64 f.1,.slice a.1 f.2.length a.2]
 | [],[],_,_,_ => rfl
 | [],_ :: _,_,_,h => by simp at h
 | _ :: _,[],_,_,h => by simp at h
 | g :: fs,b :: al,f,a,h => by
  show [_,_] ++ cellsFs (fs ++ [f]) (al ++ [a]) = ([_,_] ++ cellsFs fs al) ++ _
  rw [zdc f a (by simpa using h),List.append_assoc]
theorem zfp : ∀ {fs : List Fd} {al : List (Option Addr × Nat)} {i : Nat},al.length = fs.length → i < fs.length →
  (cellsFs fs al)[i * 2]? = some (.int .i64 (tgF fs i)) ∧ (cellsFs fs al)[i * 2 + 1]? = some (.slice (al.getD i (none,0)).1 (bsF fs i).length (al.getD i (none,0)).2)
 | [],_,_,_,h => by simp at h
 | _ :: _,[],_,h,_ => by simp at h
 | f :: fs,a :: al,0,_,_ => ⟨rfl,rfl⟩
 | f :: fs,a :: al,i + 1,h,hi => by
  have ih:=zfp (fs:=fs) (al:=al) (i:=i) (by simpa using h) (by simpa using hi)
  have e : (i + 1) * 2 = i * 2 + 1 + 1:=by omega
  rw [e]
  exact ih
def Off (A : Option Addr) (bs : List Nat) (row : Option Nat) : Prop:=bs.length = 0 ∨ ∀ b o,A = some ⟨b,o,none⟩ → row ≠ some b
def OwnFs (w : World) (base : Nat) (v : Value) (fs : List Fd) : Prop:=BytF fs ∧ ∃ al : List (Option Addr × Nat),al.length = fs.length ∧ w.ownsRow base 71 2 v fs.length (cellsFs fs al) ∧
 ∀ i,i < fs.length → (bsF fs i).length ≤ (al.getD i (none,0)).2 ∧ Bs w (al.getD i (none,0)).1 (bsF fs i) ∧ Off (al.getD i (none,0)).1 (bsF fs i) v.ownBlock
theorem Bs.but {w w' : World} {A : Option Addr} {bs : List Nat} {row : Option Nat} (h : Bs w A bs) (k : w.grownBy w' row) (hne : Off A bs row) : Bs w' A bs:=by
 rcases hne with h0 | hne
 ·
  exact ⟨h.1,.inl h0⟩
 ·
  exact ⟨h.1,h.2.imp id fun ⟨b,o,e,hb,hc⟩ => ⟨b,o,e,Nat.lt_of_lt_of_le hb k.size,fun j hj => (World.cell?_of_block (a:=⟨b,o + j,none⟩) (k.block b hb (fun e2 => hne b o e e2.symm))).trans (hc j hj)⟩⟩
theorem OwnFs.nil (w : World) (base : Nat) : OwnFs w base (.slice none 0 0) []:=⟨fun _ h => (by cases h),[],rfl,World.ownsRow_nil _ _ _ _,fun i hi => by simp at hi⟩
theorem OwnFs.keep {w w' : World} {base : Nat} {v : Value} {fs : List Fd} (o : OwnFs w base v fs) (h : Ext w w') : OwnFs w' base v fs:=by
 obtain ⟨hB,al,hl,hr,hx⟩:=o
 refine ⟨hB,al,hl,⟨hr.1,?_⟩,fun i hi => ⟨(hx i hi).1,(hx i hi).2.1.ext h,(hx i hi).2.2⟩⟩
 rcases hr.2 with hn | ⟨g,cap,cur,rfl,hbg,hh,rest⟩
 ·
  exact .inl hn
 ·
  exact .inr ⟨g,cap,cur,rfl,hbg,h.block hh,rest⟩
theorem OwnFs.lt {w : World} {base : Nat} {v : Value} {fs : List Fd} (o : OwnFs w base v fs) {k : Nat} (hk : v.ownBlock = some k) : base ≤ k ∧ k < w.heap.size:=by
 obtain ⟨_,al,_,hr,_⟩:=o
 exact World.ownsRow.lt hr k hk
theorem OwnFs.fl {w : World} {base : Nat} {v : Value} {fs : List Fd} (o : OwnFs w base v fs) : Fl w v fs:=by
 obtain ⟨hB,al,hl,hr,hx⟩:=o
 rcases hr.2 with ⟨rfl,h0⟩ | ⟨g,cap,cur,rfl,hbg,hh,hn,hm,hs,ht⟩
 ·
  exact ⟨hB,none,0,by rw [h0],by omega,.inl h0⟩
 ·
  refine ⟨hB,_,cap,rfl,hn,?_⟩
  by_cases h0 : fs.length = 0
  ·
   exact .inl h0
  ·
   refine .inr ⟨g,0,rfl,(Array.getElem?_eq_some_iff.1 hh).1,fun i hi => ?_⟩
   have hcell : ∀ k,k < fs.length * 2 → w.cell? ⟨g,k,none⟩ = (cellsFs fs al)[k]?:=fun k hk => by
    rw [cell_of_row w g k cur _ _ hh,← ht,List.getElem?_take_of_lt hk]
    simp
   obtain ⟨c0,c1⟩:=zfp hl hi
   refine ⟨by rw [Nat.zero_add,hcell _ (by omega)]; exact c0,_,_,by rw [Nat.zero_add,hcell _ (by omega)]; exact c1,(hx i hi).1,(hx i hi).2.1⟩
theorem infoF16 : (Tryd.prog.info? 71).map (fun i => (i.zero,i.size,i.bytes)) = some (some (.agg #[.int .i64 0,.slice none 0 0]),2,32):=by kernel_rfl
theorem zek {i : Option TypeInfo} {z : Value} {n b : Nat} (h : i.map (fun i => (i.zero,i.size,i.bytes)) = some (some z,n,b)) : ∃ j,i = some j ∧ j.zero = some z ∧ j.size = n ∧ j.bytes = b:=by
 cases i with
 | none => simp at h
 | some j =>
  simp only [Option.map_some,Option.some.injEq,Prod.mk.injEq] at h
  exact ⟨j,rfl,h.1,h.2.1,h.2.2⟩
theorem tgF_lt {fs : List Fd} {f : Fd} {i : Nat} (h : i < fs.length) : tgF (fs ++ [f]) i = tgF fs i ∧ bsF (fs ++ [f]) i = bsF fs i:=by
 unfold tgF bsF
 simp only [List.getD_eq_getElem?_getD,List.getElem?_append_left h,and_self]
theorem tgF_last (fs : List Fd) (f : Fd) : tgF (fs ++ [f]) fs.length = f.1 ∧ bsF (fs ++ [f]) fs.length = f.2:=by
 unfold tgF bsF
 simp
theorem run_append_fd {w : World} {base : Nat} {v : Value} {fs : List Fd} (ty : TypeId) (hown : OwnFs w base v fs) (g : Nat) (f : Fd) (a : Option Addr × Nat) (c1 : Nat)
  (hg : w.heap[g]? = some (.cells #[.int .i64 f.1,.slice a.1 f.2.length a.2] 71 (0,0))) (hc : f.2.length ≤ a.2) (hb : Bs w a.1 f.2) (hne : Off a.1 f.2 v.ownBlock)
  (hn : fs.length ≤ 1000000000) (hbase : base ≤ w.heap.size) :
  ∃ v' w',(Builtin.append_ #[67,67] ty #[v,.slice (some ⟨g,0,none⟩) 1 c1]).run Tryd.prog w = .ok v' w' ∧ OwnFs w' base v' (fs ++ [f]) ∧ w.grownBy w' v.ownBlock:=by
 obtain ⟨i,hi,hz,hsz,hby⟩:=zek infoF16
 obtain ⟨hB,al,hl,hr,hx⟩:=hown
 obtain ⟨v',w',hrun,h2,h3,_,h5⟩:=run_append_own_at (P:=Tryd.prog) w base 67 ty 71 i _ 2 32 Tryd.underlying67 hi hz hsz hby rfl (by decide) v fs.length (cellsFs fs al) hr ⟨g,0,none⟩ 1 c1 [.int .i64 f.1,.slice a.1 f.2.length a.2] rfl
  (fun j u hu => by
   rw [Addr.add_mid,Nat.zero_add,cell_of_row w g j _ _ _ hg]
   simpa using hu)
  (fun u hu => by
   simp only [List.mem_cons,List.not_mem_nil,or_false] at hu
   rcases hu with rfl | rfl <;> rfl) (by unfold maxLen; omega) (by omega) hbase
 refine ⟨v',w',hrun,⟨?_,al ++ [a],by simp [hl],?_,fun k hk => ?_⟩,h3⟩
 ·
  intro x hx'
  rcases List.mem_append.1 hx' with h | h
  ·
   exact hB x h
  ·
   rw [List.mem_singleton.1 h]; exact hb.1
 ·
  rw [zdc f a hl,List.length_append]
  exact h2
 ·
  have hout : ∀ (A : Option Addr) (bs : List Nat),Bs w A bs → Off A bs v.ownBlock → Off A bs v'.ownBlock:=by
   intro A bs hA hn1
   rcases hn1 with h0 | hn1
   ·
    exact .inl h0
   ·
    rcases hA.2 with h | ⟨b',o',e',hb',_⟩
    ·
     exact .inl h
    ·
     refine .inr fun b o e e2 => ?_
     rw [e] at e'
     injection e' with e'
     injection e' with e4
     rcases h5 with h5 | h5
     ·
      rw [h5] at e2; exact hn1 b o e e2
     ·
      rw [h5] at e2
      have e3 : w.heap.size = b:=by injection e2
      omega
  rw [List.length_append,List.length_singleton] at hk
  by_cases hlt : k < fs.length
  ·
   obtain ⟨e1,e2⟩:=tgF_lt (f:=f) hlt
   have e3 : (al ++ [a]).getD k (none,0) = al.getD k (none,0):=by
    simp only [List.getD_eq_getElem?_getD,List.getElem?_append_left (show k < al.length by omega)]
   obtain ⟨x1,x2,x3⟩:=hx k hlt
   rw [e2,e3]
   exact ⟨x1,x2.but h3 x3,hout _ _ x2 x3⟩
  ·
   obtain rfl : k = fs.length:=by omega
   obtain ⟨e1,e2⟩:=tgF_last fs f
   have e3 : (al ++ [a]).getD fs.length (none,0) = a:=by
    rw [← hl]
    simp
   rw [e2,e3]
   exact ⟨hc,hb.but h3 hne,hout _ _ hb hne⟩
theorem infoT1 : (Tryd.prog.info? 5).map (fun i => (i.zero,i.size,i.bytes)) = some (some (.int .u8 0),1,1):=by kernel_rfl
def Fresh (w : World) (A : Option Addr) (bs : List Nat) : Prop:=bs.length = 0 ∨ ∀ b o,A = some ⟨b,o,none⟩ → w.heap.size ≤ b
theorem Fresh.off {w : World} {A : Option Addr} {bs : List Nat} {row : Option Nat} (h : Fresh w A bs) (hr : ∀ k,row = some k → k < w.heap.size) : Off A bs row :=
 h.imp id fun h b o e e2 => by have:=h b o e; have:=hr b e2; omega
theorem append_empty {w : World} (ty : TypeId) {g m c : Nat} {A : Option Addr} {bs : List Nat} (hg : w.heap[g]? = some (.cells #[] 5 (0,0))) (hb : Bs w A bs) (hm : m = bs.length) (hle : m ≤ 1000000000) :
  ∃ A' c' w',(Builtin.append_ #[29,29] ty #[.slice (some ⟨g,0,none⟩) 0 0,.slice A m c]).run Tryd.prog w = .ok (.slice A' m c') w' ∧ Ext w w' ∧ m ≤ c' ∧ Bs w' A' bs ∧ Fresh w A' bs:=by
 subst hm
 obtain ⟨i,hi,hz,hsz,hby⟩:=info_parts infoT1
 have hgl : g < w.heap.size:=(Array.getElem?_eq_some_iff.1 hg).1
 have o0 : Own w g 5 (.slice (some ⟨g,0,none⟩) 0 0) 0 (fun j => .int .u8 (bs.getD j 0 : Nat)) :=
  ⟨by simp,.inr ⟨g,0,#[],rfl,Nat.le_refl _,hg,Nat.le_refl _,by unfold maxLen; omega,by simp,by simp⟩⟩
 obtain ⟨v',w',hr,h2,h3,h5,_⟩:=own_append (P:=Tryd.prog) w g 29 ty 5 i _ 1 Tryd.underlying29 hi hz hsz hby rfl _ 0 _ o0 A bs.length c (fun j => .int .u8 (bs.getD j 0 : Nat)) hb.from (fun _ => rfl) (by unfold maxLen; omega) (by omega) (by omega)
 rw [Nat.zero_add] at h2
 have hO : OwnB w' g v' bs:=OwnB.of h2 hb.1 rfl fun j hj => by rw [if_neg (by omega),Nat.sub_zero]
 obtain ⟨A',c',rfl,hc',hB'⟩:=hO.bs
 by_cases h0 : bs.length = 0
 ·
  rcases A with _ | ad
  ·
   have hw : w' = w:=by
    have : (Builtin.append_ #[29,29] ty #[.slice (some ⟨g,0,none⟩) 0 0,.slice none bs.length c]).run Tryd.prog w = .ok (.slice (some ⟨g,0,none⟩) 0 0) w:=by
     rw [h0]
     simp [Builtin.append_,run_underlying Tryd.underlying29,sizeOf,typeInfo,hi,Builtin.lenOf,Builtin.firstCells,storeCells]
    rw [hr] at this
    injection this
   subst hw
   exact ⟨A',c',w',hr,Ext.refl _,hc',hB',.inl h0⟩
  ·
   have hr2:=run_append_room_cells (P:=Tryd.prog) (w:=w) 29 ty 5 i Tryd.underlying29 hi g 0 0 0 ad bs.length c [] (by rw [h0]; simp) (fun j u hu => by simp at hu) (fun u hu => by simp at hu) (by omega) (fun j hj => by simp at hj) (fun j hj => by simp at hj)
   rw [hr] at hr2
   injection hr2 with _ hw
   have hw' : w' = w:=hw
   subst hw'
   exact ⟨A',c',w',hr,Ext.refl _,hc',hB',.inl h0⟩
 ·
  rcases hb.2 with h | ⟨b,o,rfl,hbl,hcl⟩
  ·
   exact absurd h h0
  ·
   have hr2:=run_append_grow (P:=Tryd.prog) w 29 ty 5 i _ Tryd.underlying29 hi hz ⟨g,0,none⟩ 0 0 [] (by simp) (fun j u hu => by simp at hu) ⟨b,o,none⟩ bs.length c ((List.range bs.length).map fun j => .int .u8 (bs.getD j 0 : Nat)) (by simp [hsz]) (fun j u hu => by
    have hj : j < bs.length:=by have:=(List.getElem?_eq_some_iff.1 hu).1; simpa using this
    rw [Addr.add_mid,hcl j hj,← hu]; simp [hj]) (by omega) (by omega) (growslice_fits (by omega) (by rw [hby]; omega))
   rw [hr] at hr2
   injection hr2 with hv hw
   injection hv with hA _ _
   subst hA
   exact ⟨_,c',w',hr,by rw [hw]; exact (Ext.drew w).trans (Ext.alloc _ _),hc',hB',.inr fun b' o' e => by injection e with e; injection e with e; omega⟩
/-! ### in schedules -/
section
variable {Q : Exit → Act → World → Prop} {l : List Oper} {n k d : Nat} {r : Sched} {a : Act} {w : World}
theorem sched_val {v : Value} (o : Oper) (ho : l[k]? = some o) (hg : o.guard = none) (hd : o.dst = some d) (hm : ∀ W,Ext w W → (execOp a.eval o).run Tryd.prog W = .ok (.value v) W)
  (h : ∀ W,Ext w W → wpSched Tryd.prog l Q n r (a.put (some d) v) W) : wpSched Tryd.prog l Q n ((false,[k]) :: r) a w:=by
 refine zdk o ho hg fun W hW => ?_
 unfold Oper.wp
 rw [hm W hW,Oper.upon_value,hd]
 exact ⟨fun _ => Ext.refl W,h W hW⟩
theorem run_assign_v {o : Oper} {x : Operand} {v : Value} (ho : o.op = .assign x) (hx : a.eval x = v) (W : World) : (execOp a.eval o).run Tryd.prog W = .ok (.value v) W:=by
 unfold execOp
 simp only [ho,hx,Sem.run_pure]
theorem zfx {x : Operand} (v : Value) (o : Oper) (ho : l[k]? = some o) (hg : o.guard = none) (hd : o.dst = some d) (hop : o.op = .assign x) (hx : a.eval x = v)
  (h : ∀ W,Ext w W → wpSched Tryd.prog l Q n r (a.put (some d) v) W) : wpSched Tryd.prog l Q n ((false,[k]) :: r) a w:=sched_val o ho hg hd (fun W _ => run_assign_v hop hx W) h
theorem sched_append_fd {s x : Operand} {base g c : Nat} {v : Value} {fs : List Fd} {f : Fd} {al : Option Addr × Nat} (o : Oper) (ho : l[k]? = some o) (hgd : o.guard = none) (hop : o.op = .call { callee:=.builtin .append,args:=#[s,x],argTypes:=#[67,67] }) (hd : o.dst = some d)
  (hs : a.eval s = v) (hx : a.eval x = .slice (some ⟨g,0,none⟩) 1 c) (hkn : ¬ k < n) (hown : OwnFs w base v fs) (hg : w.heap[g]? = some (.cells #[.int .i64 f.1,.slice al.1 f.2.length al.2] 71 (0,0)))
  (hc : f.2.length ≤ al.2) (hb : Bs w al.1 f.2) (hne : Off al.1 f.2 v.ownBlock) (hn : fs.length ≤ 1000000000) (hbase : base ≤ w.heap.size)
  (h : ∀ v' W W',Ext w W → OwnFs W' base v' (fs ++ [f]) → W.grownBy W' v.ownBlock → wpSched Tryd.prog l Q n r (a.put (some d) v') W') : wpSched Tryd.prog l Q n ((false,[k]) :: r) a w:=by
 refine zdk o ho hgd fun W hW => ?_
 obtain ⟨v',w',hr,hO,hG⟩:=run_append_fd (c1:=c) o.type (hown.keep hW) g f al (hW.block hg) hc (hb.ext hW) hne hn (Nat.le_trans hbase (Below.size hW))
 unfold Oper.wp execOp
 simp only [hop,resolve,invoke,builtin,Sem.run_bind,Sem.run_pure,Result.andThen_ok,List.map_toArray,List.map_cons,List.map_nil,hs,hx,hr]
 show (k < n → Ext W w') ∧ _
 rw [hd]
 exact ⟨fun h => absurd h hkn,h v' W w' hW hO hG⟩
end
theorem wpl_append0 {Q : Exit → Act → World → Prop} {ops : Array Oper} {rest : List Oper} {a : Act} {w : World} {s x : Operand} {g m c : Nat} {A : Option Addr} {bs : List Nat} {o : Oper} (hgd : o.guard = none) (hop : o.op = .call { callee:=.builtin .append,args:=#[s,x],argTypes:=#[29,29] })
  (hs : a.eval s = .slice (some ⟨g,0,none⟩) 0 0) (hx : a.eval x = .slice A m c) (hg : w.heap[g]? = some (.cells #[] 5 (0,0))) (hb : Bs w A bs) (hm : m = bs.length) (hle : m ≤ 1000000000)
  (h : ∀ A' c' W,Ext w W → m ≤ c' → Bs W A' bs → Fresh w A' bs → wpList Tryd.prog ops Q rest (a.put o.dst (.slice A' m c')) W) : wpList Tryd.prog ops Q (o :: rest) a w:=by
 refine wpList_plain hgd fun K hK => ?_
 obtain ⟨A',c',w',hr,hE,hc,hB,hF⟩:=append_empty (c:=c) o.type hg hb hm hle
 unfold Oper.wp execOp
 simp only [hop,resolve,invoke,builtin,Sem.run_bind,Sem.run_pure,Result.andThen_ok,List.map_toArray,List.map_cons,List.map_nil,hs,hx,hr]
 exact hK _ _ (h A' c' w' hE hc hB hF)
theorem cut_mid (A : Option Addr) (r c p n : Nat) (hp : p + n ≤ c) (w : World) {x y : Int} (hx : x = (p : Int)) (hy : y = ((p + n : Nat) : Int)) : (Instr.sliceAt 29 (.slice A r c) (some (.int .i64 x)) (some (.int .i64 y)) none).run Tryd.prog w = .ok (.slice (cutA A p c) n (c - p)) w:=by
 subst hx hy
 have e2 : ((sizeOf (Tryd.prog.elem 29)).run Tryd.prog w) = .ok 1 w:=by kernel_rfl
 rw [run_sliceAt_slice w 29 _ _ _ _ (by kernel_rfl),run_slice_lh w 29 A r c (by kernel_rfl) .i64 .i64 (p : Int) ((p + n : Nat) : Int) (by omega) (by omega) (by omega),e2]
 simp [sliced,Result.andThen,cutA]
 omega
theorem wpl_val {P : Program} {ops : Array Oper} {Q : Exit → Act → World → Prop} {rest : List Oper} {a : Act} {w : World} {o : Oper} (v : Value) (hg : o.guard = none) (hr : (execOp a.eval o).run P w = .ok (.value v) w) (h : wpList P ops Q rest (a.put o.dst v) w) : wpList P ops Q (o :: rest) a w:=by
 refine wpList_plain hg fun K hK => ?_
 unfold Oper.wp
 rw [hr,Oper.upon_value]
 exact hK _ _ h
theorem cutA_zero (A : Option Addr) (c : Nat) : cutA A 0 c = A:=by
 unfold cutA
 split
 ·
  rfl
 ·
  cases A with
  | none => rfl
  | some a => simp [Addr.add]
theorem Fl.take {w : World} {A : Option Addr} {n c : Nat} {fs : List Fd} (h : Fl w (.slice A n c) fs) {m : Nat} (hm : m ≤ n) : Fl w (.slice A m c) (fs.take m):=by
 obtain ⟨hB,AL,c',he,hc,hx⟩:=h
 injection he with e1 e2 e3
 subst e1 e3
 have hl : (fs.take m).length = m:=by rw [List.length_take]; omega
 have hg : ∀ i,i < m → tgF (fs.take m) i = tgF fs i ∧ bsF (fs.take m) i = bsF fs i:=fun i hi => by
  unfold tgF bsF
  simp only [List.getD_eq_getElem?_getD,List.getElem?_take_of_lt hi,and_self]
 refine ⟨fun f hf => hB f (List.mem_of_mem_take hf),A,c,by rw [hl],by rw [hl]; omega,?_⟩
 rw [hl]
 by_cases h0 : m = 0
 ·
  exact .inl h0
 ·
  refine .inr ?_
  obtain ⟨b,o,e,hb,hcl⟩:=hx.resolve_left (by omega)
  refine ⟨b,o,e,hb,fun i hi => ?_⟩
  obtain ⟨g1,g2⟩:=hg i hi
  rw [g1,g2]
  exact hcl i (by omega)
theorem zbh {bs : List Nat} : getFs bs = match parse bs with | some fs => if mayFs fs = true then some fs else none | none => none:=by
 unfold getFs
 cases parse bs with
 | none => rfl
 | some fs => cases h : mayFs fs <;> simp [Option.filter,h]
def PutA (w' : World) (fs : List Fd) (x ev : Value) : Prop :=
 (mayFs fs = false ∧ (∃ A c,x = .slice A 0 c) ∧ ev = .iface 44 (.int .i64 1)) ∨
 (mayFs fs = true ∧ ev = .nilIface ∧ ∃ A c,x = .slice A (encF fs).length c ∧ (encF fs).length ≤ c ∧ Bs w' A (encF fs))
def GetA (w' : World) (bs : List Nat) (x ev : Value) : Prop :=
 (getFs bs = none ∧ (∃ A c,x = .slice A 0 c) ∧ ev = .iface 44 (.int .i64 2)) ∨ (∃ fs,getFs bs = some fs ∧ ev = .nilIface ∧ Fl w' x fs)
def OfA (bs : List Nat) (x ev : Value) : Prop:=(ofB bs < 0 ∧ x = .int .i64 0 ∧ ev = .iface 44 (.int .i64 2)) ∨ (0 ≤ ofB bs ∧ x = .int .i64 (ofB bs) ∧ ev = .nilIface)
structure Code8 : Prop where
 may : ∀ (v : Value) (fs : List Fd) (w : World),Fl w v fs → fs.length ≤ 1000000000 → Calls Tryd.prog 52 #[v] w fun e w' => e = .returned (.bool (mayFs fs)) ∧ Ext w w'
 put : ∀ (v : Value) (fs : List Fd) (w : World),Fl w v fs → fs.length ≤ 1000000000 → Calls Tryd.prog 32 #[v] w fun e w' => ∃ x ev,e = .returned (.tuple #[x,ev]) ∧ Ext w w' ∧ PutA w' fs x ev
 get : ∀ (A : Option Addr) (m c : Nat) (bs : List Nat) (w : World),m = bs.length → m ≤ c → m ≤ 100000000 → Bs w A bs → Calls Tryd.prog 24 #[.slice A m c] w fun e w' => ∃ x ev,e = .returned (.tuple #[x,ev]) ∧ Ext w w' ∧ GetA w' bs x ev
 number : ∀ (n : Int) (w : World),-9223372036854775808 ≤ n → n ≤ 9223372036854775807 → Calls Tryd.prog 14 #[.int .i64 n] w fun e w' => ∃ A c,e = .returned (.slice A 8 c) ∧ 8 ≤ c ∧ Bs w' A (numB n) ∧ Ext w w'
 of : ∀ (A : Option Addr) (m c : Nat) (bs : List Nat) (w : World),m = bs.length → m ≤ c → Bs w A bs → Calls Tryd.prog 25 #[.slice A m c] w fun e w' => ∃ x ev,e = .returned (.tuple #[x,ev]) ∧ Ext w w' ∧ OfA bs x ev
theorem run_items (d : Nat) (xs ys : Array Value) (A B : Nat → Int) (w : World) : ∀ is : List Nat,(∀ i ∈ is,xs[i]? = some (vI vU (A i))) → (∀ i ∈ is,ys[i]? = some (vI vU (B i))) →
  (Op.eqItems (d + 1) 23 1 xs ys is).run Tryd.prog w = .ok (is.all fun i => A i == B i) w
 | [],_,_ => by simp [Op.eqItems]
 | i :: is,hx,hy => by
  have e1:=run_part_plain (P:=Tryd.prog) w (e:=23) (by kernel_rfl) (xs:=xs) (off:=i * 1) (v:=.int .u64 (A i)) (by rw [Nat.mul_one]; exact hx i (by simp))
  have e2:=run_part_plain (P:=Tryd.prog) w (e:=23) (by kernel_rfl) (xs:=ys) (off:=i * 1) (v:=.int .u64 (B i)) (by rw [Nat.mul_one]; exact hy i (by simp))
  have e3:=run_equalIn_int (P:=Tryd.prog) w d 23 .u64 .u64 (A i) (B i) Tryd.underlying23
  have ih:=run_items d xs ys A B w is (fun j hj => hx j (by simp [hj])) (fun j hj => hy j (by simp [hj]))
  simp only [Op.eqItems,Sem.run_bind,e1,e2,e3,Result.andThen_ok]
  by_cases h : A i = B i
  ·
   simp [h,ih]
  ·
   simp [h]
theorem eql4 (f g : Nat → Int) (w : World) : (binOp .eql 25 (.agg #[vI vU (f 0),vI vU (f 1),vI vU (f 2),vI vU (f 3)]) (.agg #[vI vU (g 0),vI vU (g 1),vI vU (g 2),vI vU (g 3)])).run Tryd.prog w = .ok (.bool ((List.range 4).all fun i => f i == g i)) w:=by
 obtain ⟨i,hi⟩ : ∃ i,Tryd.prog.info? 23 = some i:=Option.isSome_iff_exists.1 (by kernel_rfl)
 have hc : Tryd.prog.cellsOf 23 = 1:=by kernel_rfl
 rw [run_eql_struct,run_equalIn_array (P:=Tryd.prog) w 9999 _ _ Tryd.underlying25 hi,hc]
 rw [run_items 9998 _ _ f g w _ (fun j hj => arr4 (fun j => .int .u64 (f j)) j (by simpa using hj)) (fun j hj => arr4 (fun j => .int .u64 (g j)) j (by simpa using hj))]
 rfl
theorem all_wd (n X Y : Nat) : ((List.range n).all fun i => wd X i == wd Y i) = decide (X % w64 ^ n = Y % w64 ^ n):=by
 rw [Bool.eq_iff_iff]
 simp only [List.all_eq_true,List.mem_range,beq_iff_eq,decide_eq_true_eq]
 constructor
 ·
  intro h
  exact zgg zam n fun i hi => by have:=h i hi; unfold wd at this; omega
 ·
  intro h i hi
  unfold wd
  rw [← zcn X n i hi,← zcn Y n i hi,h]
theorem eql_num {X Y : Nat} (hX : X < top) (hY : Y < top) (w : World) : (binOp .eql 25 (.agg #[vI vU (wd X 0),vI vU (wd X 1),vI vU (wd X 2),vI vU (wd X 3)]) (.agg #[vI vU (wd Y 0),vI vU (wd Y 1),vI vU (wd Y 2),vI vU (wd Y 3)])).run Tryd.prog w = .ok (.bool (decide (X = Y))) w:=by
 have h:=eql4 (wd X) (wd Y) w
 rw [all_wd 4 X Y] at h
 have e : (X % w64 ^ 4 = Y % w64 ^ 4) = (X = Y):=by rw [Nat.mod_eq_of_lt (show X < w64 ^ 4 from hX),Nat.mod_eq_of_lt (show Y < w64 ^ 4 from hY)]
 simpa [e] using h
theorem infoN4 : (Tryd.prog.info? 25).map (·.size) = some 4:=by kernel_rfl
def nc (x : Nat) : Array Value:=#[vI vU (wd x 0),vI vU (wd x 1),vI vU (wd x 2),vI vU (wd x 3)]
def nv (x : Nat) : Value:=.agg (nc x)
theorem nc_one (x : Nat) : (nc x).all (·.oneCell') = true:=by simp [nc,Value.oneCell']
theorem iN (x : Nat) : (Tryd.prog.info? 25).map (·.size) = some (nc x).size:=by exact infoN4
theorem uN : Tryd.prog.underlying 25 = some (.array 4 23):=Tryd.underlying25
section
variable {P : Program} {o : Oper} {a : Act} {w : World}
theorem zcm {f : FuncId} {fn : Func} {c : Code} (hf : P.funcs[f]? = some fn) (hname : (fn.name == "runtime.NumGoroutine") = false) (hb : fn.body = some c) (args : Array Value) (w : World) :
  (callFunc f args).run P w = .ok (.enter f args) w:=by
 have hn : ¬ fn.name = "runtime.NumGoroutine":=by simpa using hname
 simp [callFunc,go_sem,hf,hb,hn]
theorem made_fun {k : FuncId} {xs : List Operand} {ts : Array TypeId} {args : List Value} {v : Value} (ho : o.op = .call { callee:=.value (.func k),args:=xs.toArray,argTypes:=ts }) (hx : xs.map a.eval = args)
  (he : ∀ W,(callFunc k args.toArray).run P W = .ok (.enter k args.toArray) W) (hc : ∀ W,Ext w W → Calls P k args.toArray W fun e W' => e = .returned v ∧ Ext W W') : Made P o v a w :=
 made_call (fun W => by
  have h1 : execOp a.eval o = callFunc k (#[] ++ xs.toArray.map a.eval ++ #[]):=by
   cases o
   subst ho
   rfl
  rw [h1,List.map_toArray,hx]
  simpa using he W) hc
theorem made_slice {ty : TypeId} {x : Operand} {lo hi mx : Option Operand} {u v : Value} (ho : o.op = .slice ty x lo hi mx) (hx : a.eval x = u)
  (h : ∀ W,(Instr.sliceAt ty u (lo.map a.eval) (hi.map a.eval) (mx.map a.eval)).run P W = .ok v W) : Made P o v a w:=zba fun W _ => by
 unfold execOp
 simp only [ho,hx,Sem.run_bind,h W,Result.andThen_ok,Sem.run_pure]
theorem neq_of {t : TypeId} {c d : Array Value} {b r : Bool} {W : World} (h : (binOp .eql t (.agg c) (.agg d)).run P W = .ok (.bool b) W) (hr : (!b) = r) : (binOp .neq t (.agg c) (.agg d)).run P W = .ok (.bool r) W:=by
 subst hr
 have h1 : (do pure (Value.bool (← Op.equal t (.agg c) (.agg d))) : Sem Value).run P W = .ok (.bool b) W:=h
 show (do pure (Value.bool (!(← Op.equal t (.agg c) (.agg d)))) : Sem Value).run P W = .ok (.bool (!b)) W
 simp only [Sem.run_bind,Sem.run_pure] at h1 ⊢
 generalize (Op.equal t (.agg c) (.agg d)).run P W = r at h1 ⊢
 cases r with
 | ok v w' =>
  simp only [Result.andThen_ok,Result.ok.injEq,Value.bool.injEq] at h1 ⊢
  exact ⟨by rw [h1.1],h1.2⟩
 | halt x w' => simp [Result.andThen] at h1
end
section
variable (W : World)
theorem hzN : (Instr.alloc 25 true (.tuple #[])).run Tryd.prog W = .ok (ptrTo W.heap.size) (W.alloc (.cells #[vI vU 0,vI vU 0,vI vU 0,vI vU 0] 25)):=by simp [Instr.alloc,go_sem]
theorem wd_z : wd 0 0 = 0 ∧ wd 0 1 = 0 ∧ wd 0 2 = 0 ∧ wd 0 3 = 0:=by decide
end
theorem heap_is {w : World} {o : Obj} {k : Nat} (hk : k = w.heap.size) : (w.alloc o).heap[k]? = some o:=by subst hk; exact zae w o
theorem blocks1 (w : World) (A : Obj) : Ext w (w.alloc A) ∧ (w.alloc A).heap[w.heap.size]? = some A:=⟨Ext.alloc _ _,heap_is rfl⟩
theorem blocks2 (w : World) (A B : Obj) : Ext w ((w.alloc A).alloc B) ∧ ((w.alloc A).alloc B).heap[w.heap.size]? = some A ∧ ((w.alloc A).alloc B).heap[w.heap.size + 1]? = some B :=
 ⟨(Ext.alloc _ _).trans (Ext.alloc _ _),(Ext.alloc _ _).block (heap_is rfl),heap_is (by simp)⟩
theorem wp_via1 {P : Program} {c : Code} {Q : Exit → Act → World → Prop} {a : Act} {w : World} {A : Obj} (h : ∀ w1,Ext w w1 → w1.heap[w.heap.size]? = some A → c.wp P Q a w1) : c.wp P Q a (w.alloc A):=h _ (blocks1 w A).1 (blocks1 w A).2
theorem wp_via2 {P : Program} {c : Code} {Q : Exit → Act → World → Prop} {a : Act} {w : World} {A B : Obj} (h : ∀ w1,Ext w w1 → w1.heap[w.heap.size]? = some A → w1.heap[w.heap.size + 1]? = some B → c.wp P Q a w1) : c.wp P Q a ((w.alloc A).alloc B):=h _ (blocks2 w A B).1 (blocks2 w A B).2.1 (blocks2 w A B).2.2
theorem Ext.new {w w1 W : World} {r : Nat} (h : Ext w w1) (k : But r w1 W) (hr : w.heap.size ≤ r) : Ext w W:=Below.trans h (k.new hr (Below.size h))
theorem gN (X Y : Nat) (op : BinOp) (x y : Operand) (W : World) : (eqGuard op 25 x y (nv X) (nv Y)).run Tryd.prog W = .ok () W:=by
 unfold nv nc
 cases op <;> simp [eqGuard,go_sem]
end Go.Proofs.YtihophdbkjhopaaDoor
