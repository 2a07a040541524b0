/-
  Of KB KC KD KE KG KF Made2 SMath SSpec SBits HBase SWords.
-/
import Derived.WalkKit
import Derived.Test.YtedehdbajiaaiaaGreatDoorRows
import Derived.Deep.MidRow
import Derived.Deep.WholeRow
import Derived.ChangeKeysEq
import Derived.WalkSpells
import Derived.WalkLawsBesides
import Derived.Deep.LoopGhost
import Derived.BigQuiet
import Derived.Test.YtedehdbajiaaiaaGreatDoorZB6
import Derived.Test.YtedehdbajiaaiaaGreatDoorZB2
import Derived.Test.YtedehdbajiaaiaaGreatDoorZB1
set_option maxRecDepth 1000000
set_option maxHeartbeats 20000000
namespace Go.Proofs.YtedehdbajiaaiaaGreatDoor
open Go.RowKit
open Go.Value renaming int → vI
open Go.IntKind renaming u64 → vU
open Go.Act renaming put → aP
open List renaming setIfInBounds_toArray → lA, set_cons_zero → lZ, set_cons_succ → lS
theorem eqCode22 (w : World) : (binOp .eql 31 (.iface 35 (.int .i64 2)) (.iface 35 (.int .i64 2))).run Tryz.prog w = .ok (.bool true) w:=by kernel_rfl
theorem up9 {L : Low} {I : World → Prop} (C : Code9 L I) (w : World) : Calls Tryz.prog 6 #[] w fun e w' => e = .returned (.bool true) ∧ Ext w w':=by
 have KO:=veil (fun W => C.open_nil W)
 have KB:=veil (fun W => C.body ⟨1,1,1,0,1⟩ W)
 unfold tkV tkC at KB
 simp only [] at KB
 have h22:=eqCode22
 have hnn:=eqNilNil
 go_enter Tryz.func6,Tryz.ntmps6
 go_upto_region 2 with (first
  | (go_at_call 16; refine (KO.out _).mono ?_; rintro e w1 ⟨rfl,hE1⟩)
  | ((with_reducible refine zbb ?_); refine wpList_store_row rfl 23 _ _ rfl w1.heap.size (tkC ⟨0,0,0,0,0⟩) rfl rfl 23 _ (zem w1 _ _).1 (iTk _) rfl (tkC_one _) ?_)
  | ((with_reducible refine zbb ?_); refine wpList_store_row rfl 39 _ _ rfl (w1.heap.size + 1) (gc 0 0) rfl rfl 39 _ (two_far _ (zem w1 _ _).2 (Nat.lt_succ_self _)) (iSg 0 0) rfl (zcp 0 0) ?_))
 have hF:=two_rows (T:=tkC ⟨0,0,0,0,0⟩) (G:=gc 0 0) (two_ext w1 (.cells TZ 23) (.cells Z8 39)) (zem w1 _ _).1 (zem w1 _ _).2 ⟨Nat.le_refl _,Nat.lt_succ_self _⟩
 have hE2:=hE1.trans hF.1
 clear hF hE1
 obtain ⟨w2,hw2⟩ : ∃ W,W = (((w1.alloc (.cells TZ 23)).alloc (.cells Z8 39)).setRow w1.heap.size (tkC ⟨0,0,0,0,0⟩)).setRow (w1.heap.size + 1) (gc 0 0):=⟨_,rfl⟩
 rw [← hw2] at hE2
 unfold TZ Z8 at hw2
 rw [← hw2]
 clear hw2
 have HE2:=veil hE2
 clear hE2
 go_upto_region 3 with (go_at_call 8; refine (KB.out _).mono ?_; rintro e w3 ⟨x,ev,rfl,hE3,hA⟩)
 rcases hA with ⟨hm,_⟩ | ⟨_,⟨A,c,rfl,hc,hB⟩,rfl⟩
 ·
  rw [mayT_up] at hm; cases hm
 ·
  obtain ⟨b,o,rfl,hb,hcell⟩:=hB.cell (j:=0) (by rw [zbv]; decide)
  rw [tkB_up] at hcell
  have hcell' : w3.cell? ⟨b,o,none⟩ = some (.int .u8 1):=hcell
  have HE3:=veil (HE2.out.trans hE3)
  clear hE3 hB hcell KO KB
  go_wp2
  go_ret
  exact ⟨rfl,HE3.out⟩
theorem neNilNil (w : World) : (binOp .neq 31 .nilIface .nilIface).run Tryz.prog w = .ok (.bool false) w:=by kernel_rfl
theorem bodyA_may {w' : World} {t : Tk} {x ev : Value} (h : BodyA w' t x ev) (hm : mayT t = true) : (∃ A c,x = .slice A 55 c ∧ 55 ≤ c ∧ Bs w' A (tkB t)) ∧ ev = .nilIface:=by
 rcases h with ⟨h,_⟩ | ⟨_,h⟩
 ·
  rw [hm] at h
  cases h
 ·
  exact h
section
variable {P : Program} {Q : Exit → Act → World → Prop}
theorem zka {l : List Oper} {is : List Nat} {R : Act → Prop} {a A : Act} {w : World} (os : List Oper) (ho : pickI l is = os) (hB : ownB a.tmps.size os = true)
  (h : ∀ D,Up w D → Nonempty (Gw D) → wpQuiet P l.toArray (fun W => ∃ x : Gw D,W = x.val) (fun a' => a' = A) os a) (h2 : R A) : wpMk P l.toArray w R (pickI l is) a:=by
 subst ho
 exact zhj (fun a' e => by subst e; exact h2) (zgd hB fun D hD => h D hD hD.ne)
end
section
variable {P : Program} {ops : Array Oper} {Q : Exit → Act → World → Prop} {md : Region.Mode}
def lateC (md : Region.Mode) (ops : Array Oper) (n : Nat) : Nat → Nat → Bool
 | 0,i => i == n
 | f + 1,i => i == n || (List.range (n + 1)).any fun j => decide (i < j) && Region.waitsFor md ops j i && lateC md ops n f j
def lateI (md : Region.Mode) (ops : Array Oper) (n i : Nat) : Bool :=
 decide (i < n) && lateC md ops n n i && (List.range ops.size).all fun t => decide (t ≤ n) || Region.waitsFor md ops t n
theorem lateC_spec {n : Nat} {listed : Array Bool} (inv : Closed md ops listed) : ∀ (f i : Nat),lateC md ops n f i = true → listed.getD i false = false → listed.getD n false = false ∧ (i ≠ n → n ∉ Region.ready md ops listed)
 | 0,i,h,hun => by
  have e : i = n:=by simpa [lateC] using h
  subst e
  exact ⟨hun,fun h => absurd rfl h⟩
 | f + 1,i,h,hun => by
  by_cases e : i = n
  ·
   subst e
   exact ⟨hun,fun h => absurd rfl h⟩
  ·
   unfold lateC at h
   simp only [Bool.or_eq_true,beq_iff_eq,e,false_or,List.any_eq_true,Bool.and_eq_true,decide_eq_true_eq] at h
   obtain ⟨j,_,⟨hij,hw⟩,hc⟩:=h
   obtain ⟨oj,hoj,e',he,hb,hon⟩:=Region.waitsFor_spec hw
   have hlj : listed.getD j false = false:=by
    cases h2 : listed.getD j false with
    | false => rfl
    | true =>
     have h3:=inv.2 j oj hoj h2 e' he hb
     rw [hon,hun] at h3
     cases h3
   obtain ⟨h1,h2⟩:=lateC_spec inv f j hc hlj
   refine ⟨h1,fun _ => ?_⟩
   by_cases hl : j = n
   ·
    subst hl
    intro hr
    obtain ⟨_,oj',hoj',hall⟩:=mem_ready.1 hr
    have : oj = oj':=Option.some.inj (hoj.symm.trans hoj')
    subst this
    have h3:=hall e' he hb
    rw [hon,hun] at h3
    cases h3
   ·
    exact h2 hl
theorem lateI_spec {n i : Nat} {listed : Array Bool} (hB : lateI md ops n i = true) (inv : Closed md ops listed) (hun : listed.getD i false = false)
  {t : Nat} (ht : t ∈ Region.ready md ops listed) : t < n:=by
 simp only [lateI,Bool.and_eq_true,decide_eq_true_eq] at hB
 obtain ⟨⟨him,hc⟩,hall⟩:=hB
 obtain ⟨_,ot,hot,hallt⟩:=mem_ready.1 ht
 have htl : t < ops.size:=(Array.getElem?_eq_some_iff.1 hot).1
 obtain ⟨hn1,hn2⟩:=lateC_spec inv n i hc hun
 have hn2:=hn2 (by omega)
 have h1:=List.all_eq_true.1 hall t (List.mem_range.2 htl)
 simp only [Bool.or_eq_true,decide_eq_true_eq] at h1
 rcases h1 with h1 | h1
 ·
  have : t ≠ n:=fun e => hn2 (e ▸ ht)
  omega
 ·
  obtain ⟨o',ho',e,he,hb,hon⟩:=Region.waitsFor_spec h1
  have : o' = ot:=Option.some.inj (ho'.symm.trans hot)
  subst this
  have h2:=hallt e he hb
  rw [hon,hn1] at h2
  cases h2
theorem S_first2 {i n : Nat} {oi : Oper} {v : Value} (hi : ops[i]? = some oi) (hsel : ∀ (j : Nat) (o : Oper) cs b,ops[j]? = some o → o.op ≠ .select cs b)
  (hQ : ∀ c a w,Q (.panic c) (a.put oi.dst v) w → Q (.panic c) a w) (hB : lateI md ops n i = true) :
  ∀ (fuel : Nat) (listed : Array Bool) (a : Act) (w : World),Closed md ops listed →
   (∀ j oj,ops[j]? = some oj → j ≠ i → listed.getD j true = false → (∀ e ∈ oj.after,Region.binds md e = true → e.on ≠ i) → oi.apart ops oj = true) →
   i ∈ Region.ready md ops listed → YieldsE P ops oi v a w →
   wpG P md ops Q n fuel (listed.setIfInBounds i true) (a.put oi.dst v) w → wpG P md ops Q n (fuel + 1) listed a w:=by
 intro fuel
 induction fuel with
 | zero =>
  intro listed a w _ _ hr hy H
  refine ⟨fun h => (by rw [h] at hr; cases hr),fun j hj W hW => ?_⟩
  by_cases hji : j = i
  ·
   subst hji; exact hy.wpOp hi hW fun W' hW' => ⟨fun _ => hW',H.ext (hW.trans hW')⟩
  ·
   have:=ready_mono hj hji
   rw [H.1] at this
   cases this
 | succ fuel ih =>
  intro listed a w inv hfree hr hy H
  refine ⟨fun h => (by rw [h] at hr; cases hr),fun j hj W hW => ?_⟩
  by_cases hji : j = i
  ·
   subst hji; exact hy.wpOp hi hW fun W' hW' => ⟨fun _ => hW',H.ext (hW.trans hW')⟩
  ·
   have hun:=getD_both (mem_ready.1 hr).1
   have hjn : j < n:=lateI_spec hB inv hun hj
   have h1:=H.2 j (ready_mono hj hji) W hW
   obtain ⟨hjun,oj,hoj,hall⟩:=mem_ready.1 hj
   have hnot : ∀ e ∈ oj.after,Region.binds md e = true → e.on ≠ i:=fun e he hb heq => by
    have h2:=hall e he hb
    rw [heq,hun] at h2
    cases h2
   have h2:=wpOp_putE hoj (hfree j oj hoj hji hjun hnot) (fun cs b => hsel i oi cs b hi) (fun cs b => hsel j oj cs b hoj) hQ (fun a' w' hk => hk.1 hjn)
    (hy.of_same hW rfl rfl) h1
   have hfree' : ∀ k ok,ops[k]? = some ok → k ≠ i → (listed.setIfInBounds j true).getD k true = false →
     (∀ e ∈ ok.after,Region.binds md e = true → e.on ≠ i) → oi.apart ops ok = true:=fun k ok hk hki hunk hno => by
    refine hfree k ok hk hki ?_ hno
    by_cases hjk : j = k
    ·
     subst hjk; exact hjun
    ·
     rw [getD_set_ne true hjk] at hunk; exact hunk
   refine wpOp_mono (fun a' w' h3 => ⟨h3.2.1,ih (listed.setIfInBounds j true) a' w' (inv.set hj) hfree' (ready_mono hr (Ne.symm hji)) h3.1 ?_⟩) h2
   rw [Array.setIfInBounds_comm _ _ hji]
   exact h3.2.2
inductive Tr
 | done
 | row (is : List Nat) (t : Tr)
 | one (k : Nat) (t : Tr)
 | two (i : Nat) (s : Tr) (j : Nat) (t : Tr)
def lenT : Tr → Nat
 | .done => 0
 | .row is t => is.length + lenT t
 | .one _ t => lenT t + 1
 | .two _ s _ _ => lenT s + 1
def takeT (md : Region.Mode) (ops : Array Oper) (n : Nat) : List Nat → Array Bool → Bool
 | [],_ => true
 | k :: r,listed => (Region.ready md ops listed).contains k && Region.free md ops listed k && lateI md ops n k && takeT md ops n r (listed.setIfInBounds k true)
def trI (md : Region.Mode) (ops : Array Oper) (n : Nat) : Tr → Array Bool → Bool
 | .done,listed => (Region.ready md ops listed).isEmpty
 | .row is t,listed => takeT md ops n is listed && trI md ops n t (markI is listed)
 | .one k t,listed => (Region.ready md ops listed == [k]) && trI md ops n t (listed.setIfInBounds k true)
 | .two i s j t,listed => (Region.ready md ops listed == [i,j]) && (lenT s == lenT t) && trI md ops n s (listed.setIfInBounds i true) && trI md ops n t (listed.setIfInBounds j true)
abbrev One (P : Program) (ops : Array Oper) (Q : Exit → Act → World → Prop) (n k : Nat) (K : Act → World → Prop) (a : Act) (w : World) : Prop :=
 ∀ W,Ext w W → wpOp P ops Q k (fun a' W' => (k < n → Ext W W') ∧ K a' W') a W
def wpTr (P : Program) (l : List Oper) (Q : Exit → Act → World → Prop) (n : Nat) : Tr → Act → World → Prop
 | .done,a,w => ∀ W,Ext w W → Q .normal a W
 | .row is t,a,w => wpMk P l.toArray w (fun a' => wpTr P l Q n t a' w) (pickI l is) a
 | .one k t,a,w => One P l.toArray Q n k (wpTr P l Q n t) a w
 | .two i s j t,a,w => One P l.toArray Q n i (wpTr P l Q n s) a w ∧ One P l.toArray Q n j (wpTr P l Q n t) a w
theorem T_take {n g : Nat} {l : List Oper} (hsel : Region.noSelect l.toArray = true) (hQ : ∀ (o : Oper) v c a w,Q (.panic c) (a.put o.dst v) w → Q (.panic c) a w) {w : World} {R : Act → Prop} {L : Array Bool}
  (hR : ∀ a,R a → Closed md l.toArray L → wpG P md l.toArray Q n g L a w) : ∀ (is : List Nat) (listed : Array Bool) (a : Act),Closed md l.toArray listed →
  takeT md l.toArray n is listed = true → markI is listed = L → wpMk P l.toArray w R (pickI l is) a → wpG P md l.toArray Q n (is.length + g) listed a w
 | [],listed,a,inv,_,hL,h => by
  have hL' : listed = L:=hL
  subst hL'
  simpa using hR a h inv
 | k :: r,listed,a,inv,hX,hL,h => by
  simp only [takeT,Bool.and_eq_true] at hX
  obtain ⟨⟨⟨hr,hf⟩,hkn⟩,hX'⟩:=hX
  have hr' : k ∈ Region.ready md l.toArray listed:=by simpa using hr
  obtain ⟨_,o,h0,_⟩:=mem_ready.1 hr'
  have h0' : l[k]? = some o:=by simpa using h0
  unfold pickI at h
  rw [h0'] at h
  obtain ⟨v,hy,hK⟩:=h
  rw [List.length_cons,show r.length + 1 + g = (r.length + g) + 1 by omega]
  exact S_first2 h0 (Region.noSelect_spec hsel) (hQ o v) hkn _ listed a w inv (Region.free_spec h0 hf) hr' hy
   (T_take hsel hQ hR r _ _ (inv.set hr') hX' hL hK)
theorem T_all {n : Nat} {l : List Oper} (hsel : Region.noSelect l.toArray = true) (hQ : ∀ (o : Oper) v c a w,Q (.panic c) (a.put o.dst v) w → Q (.panic c) a w) :
  ∀ (t : Tr) (listed : Array Bool) (a : Act) (w : World),Closed md l.toArray listed → trI md l.toArray n t listed = true → wpTr P l Q n t a w → wpG P md l.toArray Q n (lenT t) listed a w
 | .done,listed,a,w,_,hX,h => ⟨by simpa [trI] using hX,h⟩
 | .row is t,listed,a,w,inv,hX,h => by
  simp only [trI,Bool.and_eq_true] at hX
  exact T_take (g:=lenT t) hsel hQ (R:=fun a' => wpTr P l Q n t a' w) (L:=markI is listed) (fun a' h' inv' => T_all hsel hQ t _ _ _ inv' hX.2 h') is listed a inv hX.1 rfl h
 | .one k t,listed,a,w,inv,hX,h => by
  simp only [trI,Bool.and_eq_true,beq_iff_eq] at hX
  refine ⟨fun h0 => (by rw [hX.1] at h0; cases h0),fun i hi W hW => ?_⟩
  have e : i = k:=by rw [hX.1] at hi; simpa using hi
  subst e
  exact wpOp_mono (fun a'' W' hk => ⟨hk.1,T_all hsel hQ t _ _ _ (inv.set hi) hX.2 hk.2⟩) (h W hW)
 | .two i s j t,listed,a,w,inv,hX,h => by
  simp only [trI,Bool.and_eq_true,beq_iff_eq] at hX
  obtain ⟨⟨⟨hr,hst⟩,hs⟩,ht⟩:=hX
  refine ⟨fun h0 => (by rw [hr] at h0; cases h0),fun k hk W hW => ?_⟩
  have e : k = i ∨ k = j:=by rw [hr] at hk; simpa using hk
  rcases e with e | e
  ·
   subst e
   exact wpOp_mono (fun a'' W' hk' => ⟨hk'.1,T_all hsel hQ s _ _ _ (inv.set hk) hs hk'.2⟩) (h.1 W hW)
  ·
   subst e
   refine wpOp_mono (fun a'' W' hk' => ⟨hk'.1,?_⟩) (h.2 W hW)
   rw [hst]
   exact T_all hsel hQ t _ _ _ (inv.set hk) ht hk'.2
def treeB (l : List Oper) (n : Nat) (t : Tr) : Bool :=
 Region.noSelect l.toArray && (lenT t == l.length) && trI .any l.toArray n t (Array.replicate l.length false)
theorem ziw {id : Nat} (n : Nat) (t : Tr) {a : Act} {w : World} {l : List Oper} (hm : P.follows .mixedOrders = true) (hB : treeB l n t = true)
  (h : ∀ Q',Hid (Q' = NoPanic Q) → wpTr P l Q' n t a w) : (Code.region id l.toArray true).wp P Q a w:=by
 simp only [treeB,Bool.and_eq_true,beq_iff_eq] at hB
 obtain ⟨⟨hsel,hlen⟩,hs⟩:=hB
 refine wp_region_noPanic ?_
 have inv0 : Closed .any l.toArray (Array.replicate l.length false) :=
  ⟨by simp,fun j oj _ hl => (by rw [getD_replicate_false] at hl; cases hl)⟩
 have H:=T_all (P:=P) (md:=.any) (Q:=NoPanic Q) hsel (fun _ _ _ _ _ h => h) t _ a w inv0 hs (h _ (veil rfl))
 rw [hlen] at H
 refine wp_region_any hm (zgz (n:=n) _ _ _ _ ?_)
 have:=wpG.ext H (Ext.drew w)
 simpa using this
/-! ### its parts -/
variable {n k d : Nat} {K : Act → World → Prop} {a : Act} {w : World}
theorem zgq {t : TypeId} {C : Array Value} (o : Oper) (ho : ops[k]? = some o) (hg : o.guard = none) (hd : o.dst = some d)
  (hb : ∀ W,(execOp a.eval o).run P W = .ok (.value (ptrTo W.heap.size)) (W.alloc (.cells C t)))
  (h : ∀ g W,w.heap.size ≤ g → W.heap[g]? = some (.cells C t (0,0)) → Ext w W → K (a.put (some d) (ptrTo g)) W) : One P ops Q n k K a w:=fun W hW => zbi ho hg (by
 unfold Oper.wp
 rw [hb W]
 show (k < n → Ext W _) ∧ _
 rw [hd]
 exact ⟨fun _ => Ext.alloc W _,h _ _ (Below.size hW) (zaz W _) (hW.trans (Ext.alloc W _))⟩)
theorem zct {v : Value} (o : Oper) (ho : ops[k]? = some o) (hg : o.guard = none) (hd : o.dst = some d) (hm : ∀ W,Ext w W → (execOp a.eval o).run P W = .ok (.value v) W)
  (h : ∀ W,Ext w W → K (a.put (some d) v) W) : One P ops Q n k K a w:=fun W hW => zbi ho hg (by
 unfold Oper.wp
 rw [hm W hW,Oper.upon_value,hd]
 exact ⟨fun _ => Ext.refl W,h W hW⟩)
theorem zdw {ty t : TypeId} {x y : Operand} {g : Nat} {cells old : Array Value} (o : Oper) (ho : ops[k]? = some o) (hgd : o.guard = none) (hop : o.op = .store ty x y) (hd : o.dst = none) (hkn : ¬ k < n)
  (hx : a.eval x = ptrTo g) (hy : a.eval y = .agg cells) (hb : w.heap[g]? = some (.cells old t (0,0))) (hi : (P.info? ty).map (·.size) = some cells.size) (hold : old.size = cells.size) (h1 : cells.all (·.oneCell') = true)
  (h : ∀ W,But g w W → W.heap[g]? = some (.cells cells t (0,0)) → K a W) : One P ops Q n k K a w:=fun W hW =>
 zbi ho hgd (wp_store_row ty x y hop g cells hx hy t old (hW.block hb) hi hold h1 ⟨fun h => absurd h hkn,by
  rw [hd]
  exact h _ (zda (but_ext hW) cells) (setRow_heap W g old cells t (0,0) (hW.block hb))⟩)
theorem zhr {l : List Oper} {R : Exit → Act → World → Prop} (hQ : Hid (Q = NoPanic R)) (h : ∀ W,Ext w W → R .normal a W) : wpTr P l Q n .done a w:=fun W hW => by
 rw [hQ.out]
 exact h W hW
end
theorem one_bytes {ops : Array Oper} {Q : Exit → Act → World → Prop} {n k d : Nat} {K : Act → World → Prop} {a : Act} {w : World} {x : Operand} {bs : List Nat} (o : Oper) (ho : ops[k]? = some o) (hgd : o.guard = none) (hop : o.op = .convert 9 29 x) (hd : o.dst = some d) (hx : a.eval x = .string (strL bs)) (hb : Byt bs)
  (h : ∀ A' c' W,Ext w W → bs.length ≤ c' → Bs W A' bs → K (a.put (some d) (.slice A' bs.length c')) W) : One Tryz.prog ops Q n k K a w:=fun W hW => zbi ho hgd (by
 obtain ⟨A',c',w',hr,hE,hc,hB,_⟩:=zkf hb W
 unfold Oper.wp execOp
 simp only [hop,hx,Sem.run_bind,hr,Result.andThen_ok,Sem.run_pure]
 show (k < n → Ext W _) ∧ _
 rw [hd]
 exact ⟨fun _ => hE,h _ _ _ (hW.trans hE) hc hB⟩)
theorem eqCode11 (w : World) : (binOp .eql 31 (.iface 35 (.int .i64 1)) (.iface 35 (.int .i64 1))).run Tryz.prog w = .ok (.bool true) w:=by kernel_rfl
theorem eqCode44 (w : World) : (binOp .eql 31 (.iface 35 (.int .i64 4)) (.iface 35 (.int .i64 4))).run Tryz.prog w = .ok (.bool true) w:=by kernel_rfl
theorem bodyA_not {w' : World} {t : Tk} {x ev : Value} (h : BodyA w' t x ev) (hm : mayT t = false) : (∃ A c,x = .slice A 0 c) ∧ ev = .iface 35 (.int .i64 1):=by
 rcases h with ⟨_,h⟩ | ⟨h,_⟩
 ·
  exact h
 ·
  rw [hm] at h
  cases h
theorem issueA_not {L : Low} {w' : World} {t : Tk} {D : Nat} {x ev : Value} (h : IssueA L w' t D x ev) (hm : (mayT t && L.md D) = false) : (∃ A c,x = .slice A 0 c) ∧ ev = .iface 35 (.int .i64 1):=by
 rcases h with ⟨_,h⟩ | ⟨h,h2,_⟩ | ⟨h,h2,_⟩
 ·
  exact h
 ·
  rw [h,h2] at hm; cases hm
 ·
  rw [h,h2] at hm; cases hm
theorem issueA_may {L : Low} {w' : World} {t : Tk} {D : Nat} {x ev : Value} (h : IssueA L w' t D x ev) (hm : mayT t = true) (hd : L.md D = true) :
  (L.sg D (L.dg (tkB t)) = none ∧ (∃ A c,x = .slice A 0 c) ∧ ev = .iface 35 (.int .i64 4)) ∨
  (∃ r s,L.sg D (L.dg (tkB t)) = some (r,s) ∧ (∃ A c,x = .slice A (signedB (tkB t) r s).length c ∧ (signedB (tkB t) r s).length ≤ c ∧ Bs w' A (signedB (tkB t) r s)) ∧ ev = .nilIface):=by
 rcases h with ⟨h,_⟩ | ⟨_,_,h⟩ | ⟨_,_,h⟩
 ·
  rw [hm,hd] at h; cases h
 ·
  exact .inl h
 ·
  exact .inr h
theorem sign_ways {L : Low} {w' : World} {t : Tk} {D : Nat} {x ev : Value} (h : IssueA L w' t D x ev) (hm : mayT t = true) (hd : L.md D = true) :
  ∃ r s b,sgw (L.sg D (L.dg (tkB t))) = gv r s ∧ (L.sg D (L.dg (tkB t))).isSome = b ∧
   ((b = false ∧ (∃ A c,x = .slice A 0 c) ∧ ev = .iface 35 (.int .i64 4)) ∨ (b = true ∧ (∃ A c,x = .slice A (signedB (tkB t) r s).length c ∧ Bs w' A (signedB (tkB t) r s)) ∧ ev = .nilIface)):=by
 rcases issueA_may h hm hd with ⟨h1,h2,h3⟩ | ⟨r,s,h1,⟨A,c,h2,_,h4⟩,h3⟩
 ·
  exact ⟨0,0,false,by rw [h1]; rfl,by rw [h1]; rfl,.inl ⟨rfl,h2,h3⟩⟩
 ·
  exact ⟨r,s,true,by rw [h1]; rfl,by rw [h1]; rfl,.inr ⟨rfl,⟨A,c,h2,h4⟩,h3⟩⟩
theorem bodies_walk {L : Low} {I : World → Prop} (R : LowR L) (C : Code9 L I) (t : Tk) (D : Nat) (hD : D < top) (w : World) (hI : I w) :
  Calls Tryz.prog 3 #[tkV t,nv D] w fun e w' => e = .returned (.bool true) ∧ Ext w w':=by
 have HS:=veil (And.intro hI hD)
 have HC:=veil C
 have HR:=veil R
 unfold tkV nv
 clear hI C R hD
 go_enter Tryz.func3,Tryz.ntmps3
 go_upto_region 1 with (fail)
 obtain ⟨g3,hg3⟩ : ∃ g,g = w.heap.size:=⟨_,rfl⟩
 obtain ⟨g4,hg4⟩ : ∃ g,g = w.heap.size + 1:=⟨_,rfl⟩
 have h3:=(zem w (.cells (tkC t) 23) (.cells (nc D) 26)).1
 have h4:=(zem w (.cells (tkC t) 23) (.cells (nc D) 26)).2
 have hE0:=two_ext w (.cells (tkC t) 23) (.cells (nc D) 26)
 rw [← hg4,← hg3]
 rw [← hg3] at h3
 rw [← hg4] at h4
 generalize (w.alloc (.cells (tkC t) 23)).alloc (.cells (nc D) 26) = w0 at *
 have KU:=veil (up9 HC.out w0)
 have H0:=veil (And.intro hE0 (And.intro h3 h4))
 clear hE0 h3 h4 hg3 hg4
 go_upto_region 2 with (go_at_call 6; refine KU.out.mono ?_; rintro e w1 ⟨rfl,hE1⟩)
 have H1:=veil (And.intro (H0.out.1.trans hE1) (And.intro (hE1.block H0.out.2.1) (hE1.block H0.out.2.2)))
 have KM : Hid (∀ W,Calls Tryz.prog 7 #[.agg (tkC t)] W fun e w' => e = .returned (.bool (mayT t)) ∧ Ext W w'):=veil (fun W => rmay9_calls t W)
 have KN : Hid (∀ W,Calls Tryz.prog 10 #[.agg (tkC t)] W fun e w' => e = .returned (.bool (mayT t)) ∧ Ext W w'):=veil (fun W => HC.out.may t W)
 have KB : Hid (∀ W,Calls Tryz.prog 8 #[.agg (tkC t)] W fun e w' => ∃ x ev,e = .returned (.tuple #[x,ev]) ∧ Ext W w' ∧ BodyA w' t x ev):=veil (fun W => HC.out.body t W)
 have KI : Hid (∀ W,Ext w W → Calls Tryz.prog 9 #[.agg (tkC t),.agg (nc D)] W fun e w' => ∃ x ev,e = .returned (.tuple #[x,ev]) ∧ Ext W w' ∧ IssueA L w' t D x ev):=veil (fun W hW => HC.out.issue t D W (HC.out.keep _ _ HS.out.1 hW) HS.out.2)
 clear hE1 H0 KU
 go_upto_region 3 with (first
  | ((with_reducible refine zar 16 ?_); refine wpList_load_row rfl 23 _ rfl g3 rfl 23 (tkC t) (0,0) _ H1.out.2.1 Tryz.underlying23 rfl (iTk t) ?_)
  | (go_at_call 7; refine (KM.out _).mono ?_; rintro e w2 ⟨rfl,hE2⟩))
 have H2:=veil (And.intro (H1.out.1.trans hE2) (And.intro (hE2.block H1.out.2.1) (hE2.block H1.out.2.2)))
 clear hE2 H1 KM
 go_upto_region 4 with (first
  | ((with_reducible refine zar 19 ?_); refine wpList_load_row rfl 23 _ rfl g3 rfl 23 (tkC t) (0,0) _ H2.out.2.1 Tryz.underlying23 rfl (iTk t) ?_)
  | (go_at_call 8; refine (KB.out _).mono ?_; rintro e w3 ⟨x,ev,rfl,hE3,hA⟩))
 have H3:=veil (And.intro (H2.out.1.trans hE3) (And.intro (hE3.block H2.out.2.1) (hE3.block H2.out.2.2)))
 have HA:=veil hA
 clear hE3 H2 KB hA
 go_upto_region 5 with (first
  | ((with_reducible refine zar 24 ?_); refine wpList_load_row rfl 23 _ rfl g3 rfl 23 (tkC t) (0,0) _ H3.out.2.1 Tryz.underlying23 rfl (iTk t) ?_)
  | ((with_reducible refine zar 25 ?_); refine wpList_load_row rfl 26 _ rfl g4 rfl 26 (nc D) (0,0) _ H3.out.2.2 Tryz.underlying26 rfl (iN D) ?_)
  | (go_at_call 9; refine (KI.out _ H3.out.1).mono ?_; rintro e w4 ⟨y,ew,rfl,hE4,hJ⟩))
 have H4:=veil (And.intro (H3.out.1.trans hE4) (And.intro (hE4.block H3.out.2.1) (And.intro (hE4.block H3.out.2.2) hE4)))
 have e1:=eqCode11
 have e2:=eqCode44
 have e3:=eqNilNil
 have e4:=neNilNil
 cases hm : mayT t with
 | false =>
  obtain ⟨⟨A2,c2,rfl⟩,rfl⟩:=bodyA_not HA.out hm
  obtain ⟨⟨A3,c3,rfl⟩,rfl⟩:=issueA_not hJ (by rw [hm]; rfl)
  rw [hm] at KN
  clear hE4 H3 KI HA hJ hm
  go_wp2_with (first
   | ((with_reducible refine zar 33 ?_); refine wpl_rowG rfl 23 _ rfl g3 rfl 23 (tkC t) (0,0) _ H4.out.2.1 Tryz.underlying23 rfl (iTk t) ?_)
   | (go_at_call 10; refine (KN.out _).mono ?_; rintro e w5 ⟨rfl,hE5⟩))
  go_ret
  exact ⟨rfl,H4.out.1.trans hE5⟩
 | true =>
  obtain ⟨⟨A2,c2,rfl,hc2,hB2⟩,rfl⟩:=bodyA_may HA.out hm
  rw [hm] at KN
  have HB:=veil (And.intro hm (And.intro (hB2.ext hE4) hJ))
  have KR : Hid (∀ W,Calls Tryz.prog 11 #[.agg (tkC t)] W fun e w' => e = .returned (.string (strL (tkB t))) ∧ Ext W w'):=veil (fun W => rbody9_calls t hm W)
  clear hE4 H3 KI HA hJ hm hB2
  go_upto_region 8 with (first
   | ((with_reducible refine zar 57 ?_); refine wpList_load_row rfl 23 _ rfl g3 rfl 23 (tkC t) (0,0) _ H4.out.2.1 Tryz.underlying23 rfl (iTk t) ?_)
   | (go_at_call 11; refine (KR.out _).mono ?_; rintro e w5 ⟨rfl,hE5⟩))
  have H5:=veil (And.intro (H4.out.1.trans hE5) (And.intro (hE5.block H4.out.2.1) (And.intro (hE5.block H4.out.2.2.1) hE5)))
  clear hE5 KR
  go_upto_region 10 with (first
   | ((with_reducible refine zar 59 ?_); refine wpList_load_row rfl 23 _ rfl g3 rfl 23 (tkC t) (0,0) _ H5.out.2.1 Tryz.underlying23 rfl (iTk t) ?_)
   | (go_at_call 10; refine (KN.out _).mono ?_; rintro e w6 ⟨rfl,hE6⟩; have k1:=zhe ((HB.out.2.1.ext H5.out.2.2.2).ext hE6) (zbv t).symm (c:=c2)))
  have H6:=veil (And.intro (H5.out.1.trans hE6) (And.intro (hE6.block H5.out.2.1) (And.intro (hE6.block H5.out.2.2.1) (H5.out.2.2.2.trans hE6))))
  have KD : Hid (∀ W,Calls Tryz.prog 12 #[.agg (nc D)] W fun e w' => e = .returned (.bool (L.md D)) ∧ Ext W w'):=veil (fun W => HR.out.may D W HS.out.2)
  clear hE6 k1 H5 KN
  go_upto_region 11 with (first
   | ((with_reducible refine zar 72 ?_); refine wpList_load_row rfl 26 _ rfl g4 rfl 26 (nc D) (0,0) _ H6.out.2.2.1 Tryz.underlying26 rfl (iN D) ?_)
   | (go_at_call 12; refine (KD.out _).mono ?_; rintro e w7 ⟨rfl,hE7⟩))
  have H7:=veil (And.intro (H6.out.1.trans hE7) (And.intro (hE7.block H6.out.2.2.1) (H6.out.2.2.2.trans hE7)))
  clear hE7 H6 KD H4
  cases hd : L.md D with
  | false =>
   obtain ⟨⟨A3,c3,rfl⟩,rfl⟩:=issueA_not HB.out.2.2 (by rw [hd,Bool.and_false])
   clear HB hd
   go_wp2
   go_ret
   exact ⟨rfl,H7.out.1⟩
  | true =>
   obtain ⟨r,s,b,hs1,hs2,hw⟩:=sign_ways HB.out.2.2 HB.out.1 hd
   have HG : Hid (∀ W,Calls Tryz.prog 13 #[.agg (nc D),dgv (L.dg (tkB t))] W fun e w' => e = .returned (.tuple #[.agg (gc r s),.bool b]) ∧ Ext W w'):=veil (fun W => by
    have h:=HR.out.sign D (L.dg (tkB t)) W hd (L.dgb _)
    rw [hs1,hs2] at h
    exact h)
   have HW:=veil hw
   clear hs1 hs2 hw hd
   go_upto_region 13 with (fail)
   refine ziw 9 (.row [0,1] (.two 2 (.row [3,4,5,6] (.two 7 (.one 8 (.one 9 (.one 10 .done))) 8 (.two 7 (.one 9 (.one 10 .done)) 9 (.one 7 (.one 10 .done))))) 8 (.one 2 (.row [3,4,5,6] (.two 7 (.one 9 (.one 10 .done)) 9 (.one 7 (.one 10 .done))))))) (by kernel_rfl) (by decide +kernel) fun Q' hQ' => ?_
   refine' zka (A:=_) _ rfl (by kernel_rfl) ?_ ?_
   rotate_left
   ·
    intro D' hD hN
    simp only [pickI,consO,List.getElem?_cons_zero,List.getElem?_cons_succ]
    go_big_quiet_want
    refine zdv (.agg (nc D)) (fun v => zdr rfl rfl (hD.block H7.out.2.1 v) Tryz.underlying26 rfl (iN D)) ?_
    simp only [aP,lA,lZ,lS]
    go_big_quiet_on
    repeat (go_big_quiet_step (fail))
    exact zcy
   have hX0 : Ext w7 w7:=Ext.refl w7
   show One _ _ _ _ _ _ _ _ ∧ One _ _ _ _ _ _ _ _
   refine ⟨?_,?_⟩
   ·
    show One _ _ _ _ _ _ _ _
    refine one_bytes (bs:=tkB t) _ rfl rfl rfl rfl rfl (zhc t) ?_
    intro A5 c5 wv1 hE2 hc5 hB5
    simp only [aP,lA,lZ,lS]
    have hX3:=hX0.trans hE2
    refine' zka (A:=_) _ rfl (by kernel_rfl) ?_ ?_
    rotate_left
    ·
     intro D' hD hN
     have KS:=veil (fun v : Gw D' => hD.calls (v:=dgv (L.dg (tkB t))) (fun W hW => HR.out.sum A5 (tkB t).length c5 (tkB t) W rfl (by rw [zbv]; decide) (hB5.ext hW)) v)
     have KG:=veil (fun v : Gw D' => hD.calls (v:=.tuple #[.agg (gc r s),.bool b]) (fun W _ => HG.out W) v)
     simp only [pickI,consO,List.getElem?_cons_zero,List.getElem?_cons_succ]
     repeat (go_big_quiet_step (first | exact KS.out _ | exact KG.out _))
     exact zcy
    show One _ _ _ _ _ _ _ _ ∧ One _ _ _ _ _ _ _ _
    refine ⟨?_,?_⟩
    ·
     show One _ _ _ _ _ _ _ _
     refine zct (v:=.bool b) _ rfl rfl rfl (fun W _ => rfl) ?_
     intro wv4 hE5
     simp only [aP,lA,lZ,lS]
     have hX6:=hX3.trans hE5
     show One _ _ _ _ _ _ _ _
     refine zgq (C:=Z8) (t:=39) _ rfl rfl rfl (fun _ => rfl) ?_
     intro g13 wv7 hh11 hK10 hE8
     simp only [aP,lA,lZ,lS]
     have hX9:=hX6.trans hE8
     have hG12 : w7.heap.size ≤ g13:=Nat.le_trans (Below.size hX6) hh11
     show One _ _ _ _ _ _ _ _
     refine zdw (cells:=gc r s) _ rfl rfl rfl rfl (by decide) rfl rfl hK10 (iSg r s) rfl (zcp r s) ?_
     intro wv13 hB14 hK16
     have hX15 : Ext w7 wv13:=Below.trans hX9 (hB14.new hG12 (Below.size hX9))
     show One _ _ _ _ _ _ _ _
     refine zct (v:=.bool b) _ rfl rfl rfl (fun W _ => rfl) ?_
     intro wv17 hE18
     simp only [aP,lA,lZ,lS]
     have hX19:=hX15.trans hE18
     have hK20:=hE18.block hK16
     refine zhr hQ' fun wz hEz => ?_
     have H8:=veil (And.intro (H7.out.1.trans (hX19.trans hEz)) (And.intro (hEz.block hK20) (H7.out.2.2.trans (hX19.trans hEz))))
     clear hEz hK20 hX19 hE18 hK16 hX15 hB14 hG12 hh11 hK10 hX9 hE8 hX6 hE5 hX3 hE2 hB5 hc5 hX0
     clear hQ' HG H7
     go_upto_region 14 with (fail)
     rcases HW.out with ⟨rfl,⟨A3,c3,rfl⟩,rfl⟩ | ⟨rfl,⟨A3,c3,rfl,hB3⟩,rfl⟩
     ·
      clear HW
      go_wp2
      go_ret
      exact ⟨rfl,H8.out.1⟩
     ·
      obtain ⟨l,hl⟩ : ∃ l,l = (signedB (tkB t) r s).length:=⟨_,rfl⟩
      rw [← hl]
      have HL:=veil (And.intro hl (hB3.ext H8.out.2.2))
      clear hl hB3 HW
      go_upto_region 16 with (fail)
      refine zeu 14 [(true,List.range 14)] (by kernel_rfl) (by kernel_rfl) fun Q' hQ' => ?_
      refine' zcv (A:=_) _ rfl (by kernel_rfl) ?p21 ?q21
      case p21 =>
       intro D' hD hN
       have k1 : ∀ v : Gw D',(convert 29 9 (.slice A3 l c3)).run Tryz.prog v.val = .ok (.string (strL (signedB (tkB t) r s))) v.val:=fun v => zhe (HL.out.2.ext (hD.grown _ v.property)) HL.out.1
       have KS:=veil (fun v : Gw D' => hD.calls (f:=15) (args:=#[.string (strL (tkB t)),.agg (gc r s)]) (v:=.string (strL (signedB (tkB t) r s))) (fun W _ => zdh HR.out (tkB t) (zhc t) (by rw [zbv]; decide) r s W) v)
       simp only [List.range,List.range.loop,pickI,consO,List.getElem?_cons_zero,List.getElem?_cons_succ]
       iterate 9 (go_big_quiet_step (fail))
       go_big_quiet_want
       refine zdv (.agg (gc r s)) (fun v => zdr rfl rfl (hD.block H8.out.2.1 v) Tryz.underlying39 rfl (iSg r s)) ?_
       simp only [aP,lA,lZ,lS]
       go_big_quiet_on
       repeat (go_big_quiet_step (exact KS.out _))
       exact zcy
      refine zdu hQ' fun wd hEd => ?_
      have hEy:=H8.out.1.trans hEd
      clear hQ' hEd H8 HL
      go_wp2
      go_ret
      exact ⟨rfl,hEy⟩
    ·
     show One _ _ _ _ _ _ _ _
     refine zgq (C:=Z8) (t:=39) _ rfl rfl rfl (fun _ => rfl) ?_
     intro g13 wv22 hh26 hK25 hE23
     simp only [aP,lA,lZ,lS]
     have hX24:=hX3.trans hE23
     have hG27 : w7.heap.size ≤ g13:=Nat.le_trans (Below.size hX3) hh26
     show One _ _ _ _ _ _ _ _ ∧ One _ _ _ _ _ _ _ _
     refine ⟨?_,?_⟩
     ·
      show One _ _ _ _ _ _ _ _
      refine zct (v:=.bool b) _ rfl rfl rfl (fun W _ => rfl) ?_
      intro wv28 hE29
      simp only [aP,lA,lZ,lS]
      have hX30:=hX24.trans hE29
      have hK31:=hE29.block hK25
      show One _ _ _ _ _ _ _ _
      refine zdw (cells:=gc r s) _ rfl rfl rfl rfl (by decide) rfl rfl hK31 (iSg r s) rfl (zcp r s) ?_
      intro wv32 hB33 hK35
      have hX34 : Ext w7 wv32:=Below.trans hX30 (hB33.new hG27 (Below.size hX30))
      show One _ _ _ _ _ _ _ _
      refine zct (v:=.bool b) _ rfl rfl rfl (fun W _ => rfl) ?_
      intro wv36 hE37
      simp only [aP,lA,lZ,lS]
      have hX38:=hX34.trans hE37
      have hK39:=hE37.block hK35
      refine zhr hQ' fun wz hEz => ?_
      have H8:=veil (And.intro (H7.out.1.trans (hX38.trans hEz)) (And.intro (hEz.block hK39) (H7.out.2.2.trans (hX38.trans hEz))))
      clear hEz hK39 hX38 hE37 hK35 hX34 hB33 hK31 hX30 hE29 hG27 hh26 hK25 hX24 hE23 hX3 hE2 hB5 hc5 hX0
      clear hQ' HG H7
      go_upto_region 14 with (fail)
      rcases HW.out with ⟨rfl,⟨A3,c3,rfl⟩,rfl⟩ | ⟨rfl,⟨A3,c3,rfl,hB3⟩,rfl⟩
      ·
       clear HW
       go_wp2
       go_ret
       exact ⟨rfl,H8.out.1⟩
      ·
       obtain ⟨l,hl⟩ : ∃ l,l = (signedB (tkB t) r s).length:=⟨_,rfl⟩
       rw [← hl]
       have HL:=veil (And.intro hl (hB3.ext H8.out.2.2))
       clear hl hB3 HW
       go_upto_region 16 with (fail)
       refine zeu 14 [(true,List.range 14)] (by kernel_rfl) (by kernel_rfl) fun Q' hQ' => ?_
       refine' zcv (A:=_) _ rfl (by kernel_rfl) ?p40 ?q40
       case p40 =>
        intro D' hD hN
        have k1 : ∀ v : Gw D',(convert 29 9 (.slice A3 l c3)).run Tryz.prog v.val = .ok (.string (strL (signedB (tkB t) r s))) v.val:=fun v => zhe (HL.out.2.ext (hD.grown _ v.property)) HL.out.1
        have KS:=veil (fun v : Gw D' => hD.calls (f:=15) (args:=#[.string (strL (tkB t)),.agg (gc r s)]) (v:=.string (strL (signedB (tkB t) r s))) (fun W _ => zdh HR.out (tkB t) (zhc t) (by rw [zbv]; decide) r s W) v)
        simp only [List.range,List.range.loop,pickI,consO,List.getElem?_cons_zero,List.getElem?_cons_succ]
        iterate 9 (go_big_quiet_step (fail))
        go_big_quiet_want
        refine zdv (.agg (gc r s)) (fun v => zdr rfl rfl (hD.block H8.out.2.1 v) Tryz.underlying39 rfl (iSg r s)) ?_
        simp only [aP,lA,lZ,lS]
        go_big_quiet_on
        repeat (go_big_quiet_step (exact KS.out _))
        exact zcy
       refine zdu hQ' fun wd hEd => ?_
       have hEy:=H8.out.1.trans hEd
       clear hQ' hEd H8 HL
       go_wp2
       go_ret
       exact ⟨rfl,hEy⟩
     ·
      show One _ _ _ _ _ _ _ _
      refine zdw (cells:=gc r s) _ rfl rfl rfl rfl (by decide) rfl rfl hK25 (iSg r s) rfl (zcp r s) ?_
      intro wv41 hB42 hK44
      have hX43 : Ext w7 wv41:=Below.trans hX24 (hB42.new hG27 (Below.size hX24))
      show One _ _ _ _ _ _ _ _
      refine zct (v:=.bool b) _ rfl rfl rfl (fun W _ => rfl) ?_
      intro wv45 hE46
      simp only [aP,lA,lZ,lS]
      have hX47:=hX43.trans hE46
      have hK48:=hE46.block hK44
      show One _ _ _ _ _ _ _ _
      refine zct (v:=.bool b) _ rfl rfl rfl (fun W _ => rfl) ?_
      intro wv49 hE50
      simp only [aP,lA,lZ,lS]
      have hX51:=hX47.trans hE50
      have hK52:=hE50.block hK48
      refine zhr hQ' fun wz hEz => ?_
      have H8:=veil (And.intro (H7.out.1.trans (hX51.trans hEz)) (And.intro (hEz.block hK52) (H7.out.2.2.trans (hX51.trans hEz))))
      clear hEz hK52 hX51 hE50 hK48 hX47 hE46 hK44 hX43 hB42 hG27 hh26 hK25 hX24 hE23 hX3 hE2 hB5 hc5 hX0
      clear hQ' HG H7
      go_upto_region 14 with (fail)
      rcases HW.out with ⟨rfl,⟨A3,c3,rfl⟩,rfl⟩ | ⟨rfl,⟨A3,c3,rfl,hB3⟩,rfl⟩
      ·
       clear HW
       go_wp2
       go_ret
       exact ⟨rfl,H8.out.1⟩
      ·
       obtain ⟨l,hl⟩ : ∃ l,l = (signedB (tkB t) r s).length:=⟨_,rfl⟩
       rw [← hl]
       have HL:=veil (And.intro hl (hB3.ext H8.out.2.2))
       clear hl hB3 HW
       go_upto_region 16 with (fail)
       refine zeu 14 [(true,List.range 14)] (by kernel_rfl) (by kernel_rfl) fun Q' hQ' => ?_
       refine' zcv (A:=_) _ rfl (by kernel_rfl) ?p53 ?q53
       case p53 =>
        intro D' hD hN
        have k1 : ∀ v : Gw D',(convert 29 9 (.slice A3 l c3)).run Tryz.prog v.val = .ok (.string (strL (signedB (tkB t) r s))) v.val:=fun v => zhe (HL.out.2.ext (hD.grown _ v.property)) HL.out.1
        have KS:=veil (fun v : Gw D' => hD.calls (f:=15) (args:=#[.string (strL (tkB t)),.agg (gc r s)]) (v:=.string (strL (signedB (tkB t) r s))) (fun W _ => zdh HR.out (tkB t) (zhc t) (by rw [zbv]; decide) r s W) v)
        simp only [List.range,List.range.loop,pickI,consO,List.getElem?_cons_zero,List.getElem?_cons_succ]
        iterate 9 (go_big_quiet_step (fail))
        go_big_quiet_want
        refine zdv (.agg (gc r s)) (fun v => zdr rfl rfl (hD.block H8.out.2.1 v) Tryz.underlying39 rfl (iSg r s)) ?_
        simp only [aP,lA,lZ,lS]
        go_big_quiet_on
        repeat (go_big_quiet_step (exact KS.out _))
        exact zcy
       refine zdu hQ' fun wd hEd => ?_
       have hEy:=H8.out.1.trans hEd
       clear hQ' hEd H8 HL
       go_wp2
       go_ret
       exact ⟨rfl,hEy⟩
   ·
    show One _ _ _ _ _ _ _ _
    refine zgq (C:=Z8) (t:=39) _ rfl rfl rfl (fun _ => rfl) ?_
    intro g13 wv54 hh58 hK57 hE55
    simp only [aP,lA,lZ,lS]
    have hX56:=hX0.trans hE55
    have hG59 : w7.heap.size ≤ g13:=Nat.le_trans (Below.size hX0) hh58
    show One _ _ _ _ _ _ _ _
    refine one_bytes (bs:=tkB t) _ rfl rfl rfl rfl rfl (zhc t) ?_
    intro A5 c5 wv60 hE61 hc5 hB5
    simp only [aP,lA,lZ,lS]
    have hX62:=hX56.trans hE61
    have hK63:=hE61.block hK57
    refine' zka (A:=_) _ rfl (by kernel_rfl) ?_ ?_
    rotate_left
    ·
     intro D' hD hN
     have KS:=veil (fun v : Gw D' => hD.calls (v:=dgv (L.dg (tkB t))) (fun W hW => HR.out.sum A5 (tkB t).length c5 (tkB t) W rfl (by rw [zbv]; decide) (hB5.ext hW)) v)
     have KG:=veil (fun v : Gw D' => hD.calls (v:=.tuple #[.agg (gc r s),.bool b]) (fun W _ => HG.out W) v)
     simp only [pickI,consO,List.getElem?_cons_zero,List.getElem?_cons_succ]
     repeat (go_big_quiet_step (first | exact KS.out _ | exact KG.out _))
     exact zcy
    show One _ _ _ _ _ _ _ _ ∧ One _ _ _ _ _ _ _ _
    refine ⟨?_,?_⟩
    ·
     show One _ _ _ _ _ _ _ _
     refine zct (v:=.bool b) _ rfl rfl rfl (fun W _ => rfl) ?_
     intro wv64 hE65
     simp only [aP,lA,lZ,lS]
     have hX66:=hX62.trans hE65
     have hK67:=hE65.block hK63
     show One _ _ _ _ _ _ _ _
     refine zdw (cells:=gc r s) _ rfl rfl rfl rfl (by decide) rfl rfl hK67 (iSg r s) rfl (zcp r s) ?_
     intro wv68 hB69 hK71
     have hX70 : Ext w7 wv68:=Below.trans hX66 (hB69.new hG59 (Below.size hX66))
     show One _ _ _ _ _ _ _ _
     refine zct (v:=.bool b) _ rfl rfl rfl (fun W _ => rfl) ?_
     intro wv72 hE73
     simp only [aP,lA,lZ,lS]
     have hX74:=hX70.trans hE73
     have hK75:=hE73.block hK71
     refine zhr hQ' fun wz hEz => ?_
     have H8:=veil (And.intro (H7.out.1.trans (hX74.trans hEz)) (And.intro (hEz.block hK75) (H7.out.2.2.trans (hX74.trans hEz))))
     clear hEz hK75 hX74 hE73 hK71 hX70 hB69 hK67 hX66 hE65 hK63 hX62 hE61 hB5 hc5 hG59 hh58 hK57 hX56 hE55 hX0
     clear hQ' HG H7
     go_upto_region 14 with (fail)
     rcases HW.out with ⟨rfl,⟨A3,c3,rfl⟩,rfl⟩ | ⟨rfl,⟨A3,c3,rfl,hB3⟩,rfl⟩
     ·
      clear HW
      go_wp2
      go_ret
      exact ⟨rfl,H8.out.1⟩
     ·
      obtain ⟨l,hl⟩ : ∃ l,l = (signedB (tkB t) r s).length:=⟨_,rfl⟩
      rw [← hl]
      have HL:=veil (And.intro hl (hB3.ext H8.out.2.2))
      clear hl hB3 HW
      go_upto_region 16 with (fail)
      refine zeu 14 [(true,List.range 14)] (by kernel_rfl) (by kernel_rfl) fun Q' hQ' => ?_
      refine' zcv (A:=_) _ rfl (by kernel_rfl) ?p76 ?q76
      case p76 =>
       intro D' hD hN
       have k1 : ∀ v : Gw D',(convert 29 9 (.slice A3 l c3)).run Tryz.prog v.val = .ok (.string (strL (signedB (tkB t) r s))) v.val:=fun v => zhe (HL.out.2.ext (hD.grown _ v.property)) HL.out.1
       have KS:=veil (fun v : Gw D' => hD.calls (f:=15) (args:=#[.string (strL (tkB t)),.agg (gc r s)]) (v:=.string (strL (signedB (tkB t) r s))) (fun W _ => zdh HR.out (tkB t) (zhc t) (by rw [zbv]; decide) r s W) v)
       simp only [List.range,List.range.loop,pickI,consO,List.getElem?_cons_zero,List.getElem?_cons_succ]
       iterate 9 (go_big_quiet_step (fail))
       go_big_quiet_want
       refine zdv (.agg (gc r s)) (fun v => zdr rfl rfl (hD.block H8.out.2.1 v) Tryz.underlying39 rfl (iSg r s)) ?_
       simp only [aP,lA,lZ,lS]
       go_big_quiet_on
       repeat (go_big_quiet_step (exact KS.out _))
       exact zcy
      refine zdu hQ' fun wd hEd => ?_
      have hEy:=H8.out.1.trans hEd
      clear hQ' hEd H8 HL
      go_wp2
      go_ret
      exact ⟨rfl,hEy⟩
    ·
     show One _ _ _ _ _ _ _ _
     refine zdw (cells:=gc r s) _ rfl rfl rfl rfl (by decide) rfl rfl hK63 (iSg r s) rfl (zcp r s) ?_
     intro wv77 hB78 hK80
     have hX79 : Ext w7 wv77:=Below.trans hX62 (hB78.new hG59 (Below.size hX62))
     show One _ _ _ _ _ _ _ _
     refine zct (v:=.bool b) _ rfl rfl rfl (fun W _ => rfl) ?_
     intro wv81 hE82
     simp only [aP,lA,lZ,lS]
     have hX83:=hX79.trans hE82
     have hK84:=hE82.block hK80
     show One _ _ _ _ _ _ _ _
     refine zct (v:=.bool b) _ rfl rfl rfl (fun W _ => rfl) ?_
     intro wv85 hE86
     simp only [aP,lA,lZ,lS]
     have hX87:=hX83.trans hE86
     have hK88:=hE86.block hK84
     refine zhr hQ' fun wz hEz => ?_
     have H8:=veil (And.intro (H7.out.1.trans (hX87.trans hEz)) (And.intro (hEz.block hK88) (H7.out.2.2.trans (hX87.trans hEz))))
     clear hEz hK88 hX87 hE86 hK84 hX83 hE82 hK80 hX79 hB78 hK63 hX62 hE61 hB5 hc5 hG59 hh58 hK57 hX56 hE55 hX0
     clear hQ' HG H7
     go_upto_region 14 with (fail)
     rcases HW.out with ⟨rfl,⟨A3,c3,rfl⟩,rfl⟩ | ⟨rfl,⟨A3,c3,rfl,hB3⟩,rfl⟩
     ·
      clear HW
      go_wp2
      go_ret
      exact ⟨rfl,H8.out.1⟩
     ·
      obtain ⟨l,hl⟩ : ∃ l,l = (signedB (tkB t) r s).length:=⟨_,rfl⟩
      rw [← hl]
      have HL:=veil (And.intro hl (hB3.ext H8.out.2.2))
      clear hl hB3 HW
      go_upto_region 16 with (fail)
      refine zeu 14 [(true,List.range 14)] (by kernel_rfl) (by kernel_rfl) fun Q' hQ' => ?_
      refine' zcv (A:=_) _ rfl (by kernel_rfl) ?p89 ?q89
      case p89 =>
       intro D' hD hN
       have k1 : ∀ v : Gw D',(convert 29 9 (.slice A3 l c3)).run Tryz.prog v.val = .ok (.string (strL (signedB (tkB t) r s))) v.val:=fun v => zhe (HL.out.2.ext (hD.grown _ v.property)) HL.out.1
       have KS:=veil (fun v : Gw D' => hD.calls (f:=15) (args:=#[.string (strL (tkB t)),.agg (gc r s)]) (v:=.string (strL (signedB (tkB t) r s))) (fun W _ => zdh HR.out (tkB t) (zhc t) (by rw [zbv]; decide) r s W) v)
       simp only [List.range,List.range.loop,pickI,consO,List.getElem?_cons_zero,List.getElem?_cons_succ]
       iterate 9 (go_big_quiet_step (fail))
       go_big_quiet_want
       refine zdv (.agg (gc r s)) (fun v => zdr rfl rfl (hD.block H8.out.2.1 v) Tryz.underlying39 rfl (iSg r s)) ?_
       simp only [aP,lA,lZ,lS]
       go_big_quiet_on
       repeat (go_big_quiet_step (exact KS.out _))
       exact zcy
      refine zdu hQ' fun wd hEd => ?_
      have hEy:=H8.out.1.trans hEd
      clear hQ' hEd H8 HL
      go_wp2
      go_ret
      exact ⟨rfl,hEy⟩
section
variable {P : Program} {Q : Exit → Act → World → Prop} {l : List Oper} {m : Nat} {a : Act} {w : World} {ty t : TypeId} {zs cells : Array Value} {d de : Tmp} {y : Operand}
theorem run_ext {o : Oper} {x : Operand} {i : Nat} {vs : Array Value} {v : Value} (ho : o.op = .extract x i) (hx : a.eval x = .tuple vs) (hv : vs[i]? = some v) (W : World) : (execOp a.eval o).run P W = .ok (.value v) W:=by
 unfold execOp
 simp only [ho]
 generalize a.eval = ρ at *
 rw [hx]
 simp [Instr.extract,go_sem,hv]
theorem zjn {i : Nat} {o : Oper} {ops : Array Oper} {v : Value} {K : Act → World → Prop} {a : Act} {w : World} (ho : ops[i]? = some o) (hg : o.guard = none) (he : (execOp a.eval o).run P w = .ok (.value v) w) (h : K (a.put o.dst v) w) : wpOp P ops Q i K a w:=by
 refine zbi ho hg ?_
 unfold Oper.wp
 rw [he,Oper.upon_value]
 exact h
theorem rest_var2 {v vx : Value} {z : Operand} {dx : Tmp} (ox oa os oe : Oper) (hlen : l.length = m + 4) (hox : l.toArray[m]? = some ox) (hoa : l.toArray[m + 1]? = some oa) (hos : l.toArray[m + 2]? = some os) (hoe : l.toArray[m + 3]? = some oe) (hoa2 : oa.op = .alloc ty) (ho : os.op = .store ty (.tmp d) y) (hoe2 : oe.op = .assign z)
  (hdx : ox.dst = some dx) (hda : oa.dst = some d) (hd : os.dst = none) (hde : oe.dst = some de) (hgx : ox.guard = none) (hga : oa.guard = none) (hg : os.guard = none) (hge : oe.guard = none) (hne : dx ≠ d)
  (hr : Region.ready .any l.toArray (marked m 0 (Array.replicate l.length false)) = [m,m + 1]) (hr1 : Region.ready .any l.toArray (marked (m + 1) 0 (Array.replicate l.length false)) = [m + 1]) (hr2 : Region.ready .any l.toArray (marked (m + 2) 0 (Array.replicate l.length false)) = [m + 2]) (hr3 : Region.ready .any l.toArray (marked (m + 3) 0 (Array.replicate l.length false)) = [m + 3]) (hr4 : Region.ready .any l.toArray (marked (m + 4) 0 (Array.replicate l.length false)) = [])
  (hrb : Region.ready .any l.toArray ((marked m 0 (Array.replicate l.length false)).setIfInBounds (m + 1) true) = [m,m + 2])
  (hrc : Region.ready .any l.toArray (((marked m 0 (Array.replicate l.length false)).setIfInBounds (m + 1) true).setIfInBounds (m + 2) true) = [m])
  (hmk : (marked m 0 (Array.replicate l.length false)).setIfInBounds m true = marked (m + 1) 0 (Array.replicate l.length false))
  (hmk1 : (marked (m + 1) 0 (Array.replicate l.length false)).setIfInBounds (m + 1) true = marked (m + 2) 0 (Array.replicate l.length false))
  (hmkb : ((marked m 0 (Array.replicate l.length false)).setIfInBounds (m + 1) true).setIfInBounds m true = marked (m + 2) 0 (Array.replicate l.length false))
  (hmk2 : (marked (m + 2) 0 (Array.replicate l.length false)).setIfInBounds (m + 2) true = marked (m + 3) 0 (Array.replicate l.length false))
  (hmkc : (((marked m 0 (Array.replicate l.length false)).setIfInBounds (m + 1) true).setIfInBounds (m + 2) true).setIfInBounds m true = marked (m + 3) 0 (Array.replicate l.length false))
  (hmk3 : (marked (m + 3) 0 (Array.replicate l.length false)).setIfInBounds (m + 3) true = marked (m + 4) 0 (Array.replicate l.length false))
  (hz : ∀ W,(Instr.alloc ty true (.tuple #[])).run P W = .ok (ptrTo W.heap.size) (W.alloc (.cells zs t)))
  (hxv : ∀ W,(execOp a.eval ox).run P W = .ok (.value vx) W) (hxv2 : ∀ g W,(execOp (a.put (some d) (ptrTo g)).eval ox).run P W = .ok (.value vx) W)
  (hx : ∀ g,(a.put (some d) (ptrTo g)).eval (.tmp d) = ptrTo g) (hx2 : ∀ g,((a.put (some dx) vx).put (some d) (ptrTo g)).eval (.tmp d) = ptrTo g)
  (hy : ∀ g,(a.put (some d) (ptrTo g)).eval y = .agg cells) (hy2 : ∀ g,((a.put (some dx) vx).put (some d) (ptrTo g)).eval y = .agg cells) (hze : ∀ g,((a.put (some dx) vx).put (some d) (ptrTo g)).eval z = v)
  (hi : (P.info? ty).map (·.size) = some cells.size) (hold : zs.size = cells.size) (h1 : cells.all (·.oneCell') = true)
  (h : ∀ g W,w.heap.size ≤ g → W.heap[g]? = some (.cells cells t (0,0)) → Ext w W → Q .normal (((a.put (some dx) vx).put (some d) (ptrTo g)).put (some de) v) W) : Rest P l Q m (m + 2) a w:=by
 have comm : ∀ g,(a.put (some d) (ptrTo g)).put (some dx) vx = (a.put (some dx) vx).put (some d) (ptrTo g):=fun g => (Act.put_comm a vx (ptrTo g) (by simpa using hne.symm)).symm
 -- the assign,at last
 have fin : ∀ (f : Nat) (g : Nat) (W : World),w.heap.size ≤ g → W.heap[g]? = some (.cells cells t (0,0)) → Ext w W → wpG P .any l.toArray Q (m + 2) (f + 1) (marked (m + 3) 0 (Array.replicate l.length false)) ((a.put (some dx) vx).put (some d) (ptrTo g)) W:=fun f g W hg' hb hE => by
  refine ⟨fun h0 => (by rw [hr3] at h0; cases h0),fun j hj W3 hW3 => ?_⟩
  rw [hr3] at hj
  obtain rfl : j = m + 3:=by simpa using hj
  refine zjn (v:=v) hoe hge (by unfold execOp; simp only [hoe2,hze,Sem.run_pure]) ⟨fun h0 => by omega,?_⟩
  rw [hmk3,hde]
  cases f with
  | zero => exact ⟨hr4,fun W4 hW4 => h g W4 hg' ((hW3.trans hW4).block hb) (hE.trans (hW3.trans hW4))⟩
  | succ f => exact ⟨fun _ W4 hW4 => h g W4 hg' ((hW3.trans hW4).block hb) (hE.trans (hW3.trans hW4)),fun j hj => by rw [hr4] at hj; cases hj⟩
 unfold Rest
 rw [show l.length - m = 0 + 1 + 1 + 1 + 1 by omega]
 refine ⟨fun h0 => (by rw [hr] at h0; cases h0),fun i hi' W hW => ?_⟩
 rw [hr] at hi'
 obtain rfl | rfl : i = m ∨ i = m + 1:=by simpa using hi'
 ·
  -- the result first
  refine zjn hox hgx (hxv W) ⟨fun _ => Ext.refl _,?_⟩
  rw [hmk,hdx]
  refine ⟨fun h0 => (by rw [hr1] at h0; cases h0),fun j hj W1 hW1 => ?_⟩
  rw [hr1] at hj
  obtain rfl : j = i + 1:=by simpa using hj
  refine zbi hoa hga (zcc hoa2 hz ⟨fun _ => Ext.alloc _ _,?_⟩)
  rw [hmk1,hda]
  refine ⟨fun h0 => (by rw [hr2] at h0; cases h0),fun j hj W2 hW2 => ?_⟩
  rw [hr2] at hj
  obtain rfl : j = i + 2:=by simpa using hj
  refine zbi hos hg (wp_store_row ty _ y ho W1.heap.size cells (hx2 _) (hy2 _) t zs (hW2.block (zaz _ _)) hi hold h1 ⟨fun h0 => absurd h0 (Nat.lt_irrefl _),?_⟩)
  rw [hmk2,hd]
  exact fin _ _ _ (Nat.le_trans (Below.size hW) (Below.size hW1)) (setRow_heap W2 _ zs cells t (0,0) (hW2.block (zaz _ _))) (zca ((hW.trans hW1).trans ((Ext.alloc _ _).trans hW2)) (Nat.le_trans (Below.size hW) (Below.size hW1)) cells)
 ·
  -- the variable first
  refine zbi hoa hga (zcc hoa2 hz ⟨fun _ => Ext.alloc _ _,?_⟩)
  rw [hda]
  refine ⟨fun h0 => (by rw [hrb] at h0; cases h0),fun j hj W1 hW1 => ?_⟩
  rw [hrb] at hj
  obtain rfl | rfl : j = m ∨ j = m + 2:=by simpa using hj
  ·
   refine zjn hox hgx (hxv2 _ W1) ⟨fun _ => Ext.refl _,?_⟩
   rw [hmkb,hdx,comm]
   refine ⟨fun h0 => (by rw [hr2] at h0; cases h0),fun k hk W2 hW2 => ?_⟩
   rw [hr2] at hk
   obtain rfl : k = j + 2:=by simpa using hk
   refine zbi hos hg (wp_store_row ty _ y ho W.heap.size cells (hx2 _) (hy2 _) t zs ((hW1.trans hW2).block (zaz _ _)) hi hold h1 ⟨fun h0 => absurd h0 (Nat.lt_irrefl _),?_⟩)
   rw [hmk2,hd]
   exact fin _ _ _ (Below.size hW) (setRow_heap W2 _ zs cells t (0,0) ((hW1.trans hW2).block (zaz _ _))) (zca (hW.trans ((Ext.alloc _ _).trans (hW1.trans hW2))) (Below.size hW) cells)
  ·
   refine zbi hos hg (wp_store_row ty _ y ho W.heap.size cells (hx _) (hy _) t zs (hW1.block (zaz _ _)) hi hold h1 ⟨fun h0 => absurd h0 (Nat.lt_irrefl _),?_⟩)
   rw [hd]
   have hb2:=setRow_heap W1 W.heap.size zs cells t (0,0) (hW1.block (zaz _ _))
   have hE2 : Ext w (W1.setRow W.heap.size cells):=zca (hW.trans ((Ext.alloc _ _).trans hW1)) (Below.size hW) cells
   refine ⟨fun h0 => (by rw [hrc] at h0; cases h0),fun k hk W2 hW2 => ?_⟩
   rw [hrc] at hk
   obtain rfl : k = m:=by simpa using hk
   refine zjn hox hgx (hxv2 _ W2) ⟨fun _ => Ext.refl _,?_⟩
   rw [hmkc,hdx]
   show wpG P .any l.toArray Q (k + 2) (0 + 1) _ ((a.put (some d) (ptrTo W.heap.size)).put (some dx) vx) W2
   rw [comm]
   exact fin _ _ _ (Below.size hW) (hW2.block hb2) (hE2.trans hW2)
theorem zjd {o : Oper} {ty e : TypeId} {x k : Operand} {g n cap i sz : Nat} (ho : o.op = .indexAddr ty x k) (hx : a.eval x = .slice (some ⟨g,0,none⟩) n cap) (hk : a.eval k = .int .i64 (i : Int)) (hi : i < n) (hu : P.underlying ty = some (.slice e)) (hs : (P.info? e).map (·.size) = some sz) : Made P o (.pointer (some ⟨g,i * sz,none⟩)) a w:=zch fun W _ => by
 obtain ⟨inf,h1,h2⟩ : ∃ inf,P.info? e = some inf ∧ inf.size = sz:=by
  cases h : P.info? e with
  | none => simp [h] at hs
  | some inf => exact ⟨inf,rfl,by simpa [h] using hs⟩
 unfold execOp
 simp only [ho,hx,hk]
 simp [Instr.indexAt,asIntOf,run_underlying hu,sizeOf,typeInfo,h1,h2,hi,Result.andThen_ok,Addr.add_mid]
end
end Go.Proofs.YtedehdbajiaaiaaGreatDoor
namespace Go.Proofs.YtedehdbajiaaiaaGreatDoor
def rot (x n : Nat) : Nat:=x / 2 ^ n + 2 ^ (32 - n) * (x % 2 ^ n)
theorem rot_zero {x : Nat} : rot x 0 = x:=by unfold rot; rw [Nat.pow_zero,Nat.div_one,Nat.mod_one,Nat.mul_zero,Nat.add_zero]
theorem rot_step {x n : Nat} (hn : n < 32) : rot x n / 2 + 2147483648 * (rot x n % 2) = rot x (n + 1):=by
 obtain ⟨m,hm⟩ : ∃ m,32 - n = m + 1:=⟨31 - n,by omega⟩
 have hm2 : 32 - (n + 1) = m:=by omega
 have h31 : 2 ^ m * 2 ^ n = 2147483648:=by rw [← Nat.pow_add,show m + n = 31 by omega]
 unfold rot
 rw [hm,hm2,Nat.pow_succ 2 m,Nat.pow_succ 2 n,← Nat.div_div_eq_div_mul,Nat.mod_mul,Nat.mul_add,← Nat.mul_assoc (2 ^ m),h31,Nat.mul_comm (2 ^ m) 2,Nat.mul_assoc]
 generalize x / 2 ^ n = q
 generalize 2 ^ m * (x % 2 ^ n) = p
 omega
theorem zby {x n : Nat} (hn : n ≤ 32) (hx : x < 2 ^ 32) : rot x n < 2 ^ 32:=by
 have hp : 0 < 2 ^ n:=Nat.pow_pos (by omega)
 have e : 2 ^ 32 = 2 ^ (32 - n) * 2 ^ n:=by rw [← Nat.pow_add]; congr 1; omega
 have hq : x / 2 ^ n < 2 ^ (32 - n):=by rw [Nat.div_lt_iff_lt_mul hp,← e]; exact hx
 have hr:=Nat.mod_lt x hp
 unfold rot
 rw [e]
 have : 2 ^ (32 - n) * (x % 2 ^ n + 1) ≤ 2 ^ (32 - n) * 2 ^ n:=Nat.mul_le_mul_left _ hr
 rw [Nat.mul_add] at this
 omega
end Go.Proofs.YtedehdbajiaaiaaGreatDoor
namespace Go.Proofs.YtedehdbajiaaiaaGreatDoor
def kList : List Nat:=[1116352408,1899447441,3049323471,3921009573,961987163,1508970993,2453635748,2870763221,3624381080,310598401,607225278,1426881987,1925078388,2162078206,2614888103,3248222580,3835390401,4022224774,264347078,604807628,770255983,1249150122,1555081692,1996064986,2554220882,2821834349,2952996808,3210313671,3336571891,3584528711,113926993,338241895,666307205,773529912,1294757372,1396182291,1695183700,1986661051,2177026350,2456956037,2730485921,2820302411,3259730800,3345764771,3516065817,3600352804,4094571909,275423344,430227734,506948616,659060556,883997877,958139571,1322822218,1537002063,1747873779,1955562222,2024104815,2227730452,2361852424,2428436474,2756734187,3204031479,3329325298]
def kc (t : Nat) : Nat:=kList.getD t 0
def ad (x y : Nat) : Nat:=(x + y) % 4294967296
def sg0 (x : Nat) : Nat:=rot x 7 ^^^ rot x 18 ^^^ (x / 2 ^ 3)
def sg1 (x : Nat) : Nat:=rot x 17 ^^^ rot x 19 ^^^ (x / 2 ^ 10)
def bs0 (x : Nat) : Nat:=rot x 2 ^^^ rot x 13 ^^^ rot x 22
def bs1 (x : Nat) : Nat:=rot x 6 ^^^ rot x 11 ^^^ rot x 25
def chN (x y z : Nat) : Nat:=(x &&& y) ^^^ ((4294967295 - x) &&& z)
def majN (x y z : Nat) : Nat:=(x &&& y) ^^^ (x &&& z) ^^^ (y &&& z)
theorem getD_lo (l r : List Nat) {t : Nat} (h : t < l.length) : (l ++ r).getD t 0 = l.getD t 0:=by simp [List.getD,List.getElem?_append_left h]
theorem getD_at (l : List Nat) (x : Nat) {t : Nat} (h : l.length = t) : (l ++ [x]).getD t 0 = x:=by subst h; simp [List.getD]
def sched (m : Nat → Nat) : Nat → List Nat
 | 0 => []
 | t + 1 => let l:=sched m t
  l ++ [if t < 16 then m t else ad (ad (ad (sg1 (l.getD (t - 2) 0)) (l.getD (t - 7) 0)) (sg0 (l.getD (t - 15) 0))) (l.getD (t - 16) 0)]
theorem zim (m : Nat → Nat) : ∀ t,(sched m t).length = t
 | 0 => rfl
 | t + 1 => by simp [sched,zim m t]
def wt (m : Nat → Nat) (t : Nat) : Nat:=(sched m (t + 1)).getD t 0
theorem zfm (m : Nat → Nat) (t : Nat) : ∀ n,t < n → (sched m n).getD t 0 = wt m t
 | 0,h => by omega
 | n + 1,h => by
  by_cases e : t = n
  ·
   subst e; rfl
  ·
   have ih:=zfm m t n (by omega)
   rw [← ih]
   show (sched m n ++ _).getD t 0 = _
   rw [getD_lo _ _ (by rw [zim]; omega)]
theorem wt_lo (m : Nat → Nat) {t : Nat} (h : t < 16) : wt m t = m t:=by
 unfold wt
 show (sched m t ++ _).getD t 0 = _
 rw [getD_at _ _ (zim m t),if_pos h]
theorem wt_hi (m : Nat → Nat) {t : Nat} (h : ¬ t < 16) : wt m t = ad (ad (ad (sg1 (wt m (t - 2))) (wt m (t - 7))) (sg0 (wt m (t - 15)))) (wt m (t - 16)):=by
 conv => lhs; unfold wt
 show (sched m t ++ _).getD t 0 = _
 rw [getD_at _ _ (zim m t),if_neg h,zfm m _ t (by omega),zfm m _ t (by omega),zfm m _ t (by omega),zfm m _ t (by omega)]
structure St where
 a : Nat
 b : Nat
 c : Nat
 d : Nat
 e : Nat
 f : Nat
 g : Nat
 h : Nat
def t1N (s : St) (k w : Nat) : Nat:=ad (ad (ad (ad s.h (bs1 s.e)) (chN s.e s.f s.g)) k) w
def t2N (s : St) : Nat:=ad (bs0 s.a) (majN s.a s.b s.c)
def stepN (s : St) (k w : Nat) : St:=⟨ad (t1N s k w) (t2N s),s.a,s.b,s.c,ad s.d (t1N s k w),s.e,s.f,s.g⟩
def roundsN (m : Nat → Nat) (s : St) : Nat → St
 | 0 => s
 | t + 1 => stepN (roundsN m s t) (kc t) (wt m t)
def addSt (x y : St) : St:=⟨ad x.a y.a,ad x.b y.b,ad x.c y.c,ad x.d y.d,ad x.e y.e,ad x.f y.f,ad x.g y.g,ad x.h y.h⟩
def blockN (m : Nat → Nat) (s : St) : St:=addSt s (roundsN m s 64)
def word (text : Nat → Nat) (i : Nat) : Nat:=text i * 16777216 + text (i + 1) * 65536 + text (i + 2) * 256 + text (i + 3)
def blocksN (text : Nat → Nat) : Nat → St
 | 0 => ⟨1779033703,3144134277,1013904242,2773480762,1359893119,2600822924,528734635,1541459225⟩
 | n + 1 => blockN (fun t => word text (64 * n + 4 * t)) (blocksN text n)
def nBlocks (len : Nat) : Nat:=(len + 9 + 63) / 64
def padded (b : Nat → Nat) (len : Nat) : Nat → Nat:=fun i =>
 if i < len then b i else if i = len then 128 else if i < 64 * nBlocks len - 8 then 0 else 8 * len / 256 ^ (64 * nBlocks len - 1 - i) % 256
def shaSt (b : Nat → Nat) (len : Nat) : St:=blocksN (padded b len) (nBlocks len)
end Go.Proofs.YtedehdbajiaaiaaGreatDoor
namespace Go.Proofs.YtedehdbajiaaiaaGreatDoor
theorem wrap32 (n : Int) : IntKind.u32.wrap n = n % 4294967296:=by simp [IntKind.wrap,IntKind.signed,IntKind.bits]
section
variable (a b : Nat) (ha : a < 4294967296) (hb : b < 4294967296)
include ha hb
theorem ofInt32 : (BitVec.ofInt 32 (a : Int)).toNat = a ∧ (BitVec.ofInt 32 (b : Int)).toNat = b:=by
 constructor <;> (rw [BitVec.ofInt_natCast,BitVec.toNat_ofNat]; exact Nat.mod_eq_of_lt (by omega))
theorem and32 : bits .and .u32 (a : Int) (b : Int) = ((a &&& b : Nat) : Int):=by
 have hx : a &&& b < 2 ^ 32:=Nat.and_lt_two_pow _ (by omega)
 show IntKind.u32.wrap ((BitVec.ofInt 32 (a : Int) &&& BitVec.ofInt 32 (b : Int)).toNat : Int) = _
 rw [BitVec.toNat_and,(ofInt32 a b ha hb).1,(ofInt32 a b ha hb).2,wrap32]
 omega
theorem or32 : bits .or .u32 (a : Int) (b : Int) = ((a ||| b : Nat) : Int):=by
 have hx : a ||| b < 2 ^ 32:=Nat.or_lt_two_pow (by omega) (by omega)
 show IntKind.u32.wrap ((BitVec.ofInt 32 (a : Int) ||| BitVec.ofInt 32 (b : Int)).toNat : Int) = _
 rw [BitVec.toNat_or,(ofInt32 a b ha hb).1,(ofInt32 a b ha hb).2,wrap32]
 omega
theorem xor32 : bits .xor .u32 (a : Int) (b : Int) = ((a ^^^ b : Nat) : Int):=by
 have hx : a ^^^ b < 2 ^ 32:=Nat.xor_lt_two_pow (by omega) (by omega)
 show IntKind.u32.wrap ((BitVec.ofInt 32 (a : Int) ^^^ BitVec.ofInt 32 (b : Int)).toNat : Int) = _
 rw [BitVec.toNat_xor,(ofInt32 a b ha hb).1,(ofInt32 a b ha hb).2,wrap32]
 omega
end
theorem not_bit {x : Nat} (hx : x < 2 ^ 32) (i : Nat) : (4294967295 - x).testBit i = (decide (i < 32) && !x.testBit i):=by
 have h:=Nat.testBit_two_pow_sub_succ hx i
 rwa [show 2 ^ 32 - (x + 1) = 4294967295 - x by omega] at h
theorem ch_or {x y z : Nat} (hx : x < 2 ^ 32) : chN x y z = (x &&& y) ||| ((4294967295 - x) &&& z):=by
 unfold chN
 apply Nat.eq_of_testBit_eq
 intro i
 simp only [Nat.testBit_xor,Nat.testBit_or,Nat.testBit_and,not_bit hx]
 cases x.testBit i <;> simp
theorem maj_or (x y z : Nat) : majN x y z = (x &&& y) ||| (x &&& z) ||| (y &&& z):=by
 unfold majN
 apply Nat.eq_of_testBit_eq
 intro i
 simp only [Nat.testBit_xor,Nat.testBit_or,Nat.testBit_and]
 cases x.testBit i <;> cases y.testBit i <;> cases z.testBit i <;> rfl
theorem rot_or {x n : Nat} (hn : n ≤ 32) (hx : x < 2 ^ 32) : rot x n = (x / 2 ^ n) ||| (x * 2 ^ (32 - n) % 2 ^ 32):=by
 have hp : 0 < 2 ^ n:=Nat.pow_pos (by omega)
 have e : 2 ^ 32 = 2 ^ (32 - n) * 2 ^ n:=by rw [← Nat.pow_add]; congr 1; omega
 have hq : x / 2 ^ n < 2 ^ (32 - n):=by rw [Nat.div_lt_iff_lt_mul hp,← e]; exact hx
 have h1 : x * 2 ^ (32 - n) % 2 ^ 32 = 2 ^ (32 - n) * (x % 2 ^ n):=by rw [e,Nat.mul_comm x,Nat.mul_mod_mul_left]
 rw [h1,Nat.or_comm,← Nat.two_pow_add_eq_or_of_lt hq]
 unfold rot
 omega
/-! ### all is below 2^32 -/
theorem ad_lt (x y : Nat) : ad x y < 2 ^ 32:=Nat.mod_lt _ (by decide)
theorem shr_lt {x : Nat} (n : Nat) (hx : x < 2 ^ 32) : x / 2 ^ n < 2 ^ 32:=Nat.lt_of_le_of_lt (Nat.div_le_self _ _) hx
theorem wt_lt {m : Nat → Nat} (hm : ∀ t,t < 16 → m t < 2 ^ 32) (t : Nat) : wt m t < 2 ^ 32:=by
 by_cases h : t < 16
 ·
  rw [wt_lo m h]; exact hm t h
 ·
  rw [wt_hi m h]; exact ad_lt _ _
structure St.Ok (s : St) : Prop where
 a : s.a < 2 ^ 32
 b : s.b < 2 ^ 32
 c : s.c < 2 ^ 32
 d : s.d < 2 ^ 32
 e : s.e < 2 ^ 32
 f : s.f < 2 ^ 32
 g : s.g < 2 ^ 32
 h : s.h < 2 ^ 32
theorem stepN_ok {s : St} (h : s.Ok) (k w : Nat) : (stepN s k w).Ok:=⟨ad_lt _ _,h.a,h.b,h.c,ad_lt _ _,h.e,h.f,h.g⟩
theorem zja {m : Nat → Nat} {s : St} (h : s.Ok) : ∀ t,(roundsN m s t).Ok
 | 0 => h
 | t + 1 => stepN_ok (zja h t) _ _
theorem blockN_ok (m : Nat → Nat) (s : St) : (blockN m s).Ok:=⟨ad_lt _ _,ad_lt _ _,ad_lt _ _,ad_lt _ _,ad_lt _ _,ad_lt _ _,ad_lt _ _,ad_lt _ _⟩
theorem zjk (text : Nat → Nat) : ∀ n,(blocksN text n).Ok
 | 0 => by constructor <;> (show _ < _; simp [blocksN])
 | n + 1 => blockN_ok _ _
theorem ziy {f g : Nat → Nat} : ∀ n,(∀ i,i < 64 * n → f i = g i) → blocksN f n = blocksN g n
 | 0,_ => rfl
 | n + 1,h => by
  have ih:=ziy n fun i hi => h i (by omega)
  have hw : ∀ t,t < 16 → word f (64 * n + 4 * t) = word g (64 * n + 4 * t):=by
   intro t ht
   unfold word
   rw [h _ (by omega),h _ (by omega),h _ (by omega),h _ (by omega)]
  have hs : ∀ k,sched (fun t => word f (64 * n + 4 * t)) k = sched (fun t => word g (64 * n + 4 * t)) k:=by
   intro k
   induction k with
   | zero => simp only [sched]
   | succ k ihk =>
    simp only [sched]
    rw [ihk]
    by_cases hk : k < 16
    ·
     simp only [if_pos hk]; rw [hw k hk]
    ·
     simp only [if_neg hk]
  have hr : ∀ s k,roundsN (fun t => word f (64 * n + 4 * t)) s k = roundsN (fun t => word g (64 * n + 4 * t)) s k:=by
   intro s k
   induction k with
   | zero => simp only [roundsN]
   | succ k ihk =>
    simp only [roundsN]
    rw [ihk]; unfold wt; rw [hs]
  simp only [blocksN]
  rw [ih]; unfold blockN; rw [hr]
end Go.Proofs.YtedehdbajiaaiaaGreatDoor
namespace Go.Proofs.YtedehdbajiaaiaaGreatDoor
open Go.RowKit
open Go.Value renaming int → vI
open Go.IntKind renaming u64 → vU
open Go.Act renaming put → aP
open List renaming setIfInBounds_toArray → lA, set_cons_zero → lZ, set_cons_succ → lS
def St.at (s : St) (j : Nat) : Nat:=match j with | 0 => s.a | 1 => s.b | 2 => s.c | 3 => s.d | 4 => s.e | 5 => s.f | 6 => s.g | _ => s.h
theorem St.at_lt {s : St} (h : s.Ok) (j : Nat) : s.at j < 2 ^ 32:=by
 unfold St.at
 split
 ·
  exact h.a
 ·
  exact h.b
 ·
  exact h.c
 ·
  exact h.d
 ·
  exact h.e
 ·
  exact h.f
 ·
  exact h.g
 ·
  exact h.h
def hcells (s : St) (blk : Nat → Nat) (len : Nat) : Nat → Value:=fun j => if j < 8 then .int .u32 (s.at j : Nat) else if j < 72 then .int .u8 (blk (j - 8) : Nat) else .int .i64 (len : Int)
def HRow (w : World) (g : Nat) (s : St) (blk : Nat → Nat) (len : Nat) : Prop:=w.rowIs g 163 73 (hcells s blk len)
section
variable {w w' : World} {g B len : Nat} {s : St} {blk : Nat → Nat}
theorem HRow.lt (h : HRow w g s blk len) : g < w.heap.size:=World.rowIs.lt h
theorem HRow.below (h : HRow w g s blk len) (hb : Below B w w') (hlt : g < B) : HRow w' g s blk len:=zab h hb hlt
theorem HRow.call (h : HRow w g s blk len) (hb : Below w.heap.size w w') : HRow w' g s blk len:=zab h hb h.lt
theorem HRow.alloc (h : HRow w g s blk len) (o : Obj) : HRow (w.alloc o) g s blk len:=World.rowIs.alloc h o
theorem HRow.drew (h : HRow w g s blk len) : HRow w.drew g s blk len:=h
theorem HRow.drewN (h : HRow w g s blk len) (k : Nat) : HRow (w.drewN k) g s blk len:=h
theorem HRow.of_block (h : HRow w g s blk len) (e : w'.heap[g]? = w.heap[g]?) : HRow w' g s blk len:=World.rowIs.of_block h e
theorem HRow.state (h : HRow w g s blk len) {j : Nat} (hj : j < 8) : w.cell? ⟨g,j,none⟩ = some (.int .u32 (s.at j : Nat)):=by
 rw [World.rowIs.cell h (show j < 73 by omega),hcells,if_pos hj]
theorem HRow.byte (h : HRow w g s blk len) {j : Nat} (hj : j < 64) : w.cell? ⟨g,8 + j,none⟩ = some (.int .u8 (blk j : Nat)):=by
 rw [World.rowIs.cell h (show 8 + j < 73 by omega),hcells,if_neg (by omega),if_pos (by omega),show 8 + j - 8 = j by omega]
theorem HRow.length (h : HRow w g s blk len) : w.cell? ⟨g,72,none⟩ = some (.int .i64 (len : Int)):=by
 rw [World.rowIs.cell h (show 72 < 73 by omega),hcells,if_neg (by omega),if_neg (by omega)]
theorem HRow.block (h : HRow w g s blk len) : w.rangeAt g 8 ((List.range 64).map fun j => Value.int .u8 (blk j : Nat)):=by
 intro j v hv
 have hj : j < 64:=by simpa using (List.getElem?_eq_some_iff.1 hv).1
 rw [h.byte hj,← hv]
 simp [hj]
theorem HRow.words (h : HRow w g s blk len) : w.rangeAt g 0 ((List.range 8).map fun j => Value.int .u32 (s.at j : Nat)):=by
 intro j v hv
 have hj : j < 8:=by simpa using (List.getElem?_eq_some_iff.1 hv).1
 rw [Nat.zero_add,h.state hj,← hv]
 simp [hj]
end
structure KT (w : World) : Prop where
 lt : 0 < w.heap.size
 cell : ∀ j,j < 64 → w.cell? ⟨0,j,none⟩ = some (.int .u32 (kc j : Nat))
section
variable {w w' : World} {B : Nat}
theorem KT.of_block (h : KT w) (e : w'.heap[0]? = w.heap[0]?) (hs : w.heap.size ≤ w'.heap.size) : KT w' :=
 ⟨Nat.lt_of_lt_of_le h.lt hs,fun j hj => (World.cell?_of_block (w:=w) (a:=⟨0,j,none⟩) e).trans (h.cell j hj)⟩
theorem KT.below (h : KT w) (hb : Below B w w') (hB : 0 < B) : KT w':=h.of_block (hb.block 0 hB) hb.size
theorem KT.call (h : KT w) (hb : Below w.heap.size w w') : KT w':=h.below hb h.lt
theorem KT.alloc (h : KT w) (o : Obj) : KT (w.alloc o):=h.of_block (Below.heap_alloc _ _ _ h.lt) (by simp)
theorem KT.drew (h : KT w) : KT w.drew:=⟨h.lt,h.cell⟩
theorem KT.drewN (h : KT w) (k : Nat) : KT (w.drewN k):=⟨h.lt,h.cell⟩
theorem KT.far {b i : Nat} (h : KT w) (hne : 0 ≠ b) (v : Value) : KT (w.setCell ⟨b,i,none⟩ v):=h.of_block (Below.heap_setCell _ _ _ _ hne) (by simp [World.setCell])
theorem KT.grown {r : Nat} (h : KT w) (hg : w.grownBy w' (some r)) (hne : 0 ≠ r) : KT w':=h.of_block (hg.block 0 h.lt (by simpa using hne)) hg.size
end
theorem veil32 {p : Prop} (h : p) : Hid p:=h
theorem zev (x n : Nat) (hx : x < 2 ^ 32) (hn : n ≤ 32) (w : World) :
  Calls Tryz.prog 41 #[.int .u32 (x : Int),.int .i64 (n : Int)] w fun e w' => e = .returned (.int .u32 (rot x n : Nat)) ∧ w' = w:=by
 have HX:=veil32 hx
 clear hx
 have hni : (n : Int) ≤ 32:=by omega
 go_enter Tryz.func41,Tryz.ntmps41
 go_wp2
 go_loopw [0,5] (fun y i wr => ∃ k : Nat,k ≤ n ∧ i = .int .i64 (k : Int) ∧ y = .int .u32 (rot x k : Nat) ∧ wr = w)
  (fun _ i _ => n - (intOf i).toNat)
 case atStart => exact ⟨0,by omega,rfl,by rw [rot_zero],rfl⟩
 case round =>
  obtain ⟨k,hk,rfl,rfl,rfl⟩:=hrel
  by_cases hlt : k < n
  ·
   have hlti : (k : Int) < (n : Int):=by omega
   have hs:=rot_step (x:=x) (n:=k) (by omega)
   have hl:=zby (x:=x) (n:=k) (by omega) HX.out
   have hl2:=zby (x:=x) (n:=k + 1) (by omega) HX.out
   obtain ⟨y,hy⟩ : ∃ y : Int,y = ((rot x k : Nat) : Int):=⟨_,rfl⟩
   obtain ⟨z,hz⟩ : ∃ z : Int,z = ((rot x (k + 1) : Nat) : Int):=⟨_,rfl⟩
   have e : y / 2 + 2147483648 * (y % 2) = z:=by omega
   have y0 : 0 ≤ y:=by omega
   have y1 : y ≤ 4294967295:=by omega
   have z1 : z ≤ 4294967295:=by omega
   rw [← hy]
   have HZ:=veil32 hz
   clear hs hl hl2 hy hz
   have hd : y % 2 = 1 ∨ y % 2 = 0:=by omega
   rcases hd with h | h
   ·
    rw [h] at e
    have e2 : y / 2 + 2147483648 = z:=by omega
    clear e
    go_wp2
    go_roundw
    case rel => exact ⟨k + 1,by omega,by go_num,by rw [← HZ.out],trivial⟩
    case measure => simp [intOf]; omega
   ·
    rw [h] at e
    have e2 : y / 2 = z:=by omega
    clear e
    go_wp2
    go_roundw
    case rel => exact ⟨k + 1,by omega,by go_num,by rw [← HZ.out,e2],trivial⟩
    case measure => simp [intOf]; omega
  ·
   obtain rfl : k = n:=by omega
   go_wp2
   go_ret
   exact ⟨rfl,rfl⟩
theorem shift_calls (x n : Nat) (hx : x < 2 ^ 32) (hn : n ≤ 32) (w : World) :
  Calls Tryz.prog 42 #[.int .u32 (x : Int),.int .i64 (n : Int)] w fun e w' => e = .returned (.int .u32 (x / 2 ^ n : Nat)) ∧ w' = w:=by
 have HX:=veil32 hx
 clear hx
 have hni : (n : Int) ≤ 32:=by omega
 go_enter Tryz.func42,Tryz.ntmps42
 go_wp2
 go_loopw [0,5] (fun y i wr => ∃ k : Nat,k ≤ n ∧ i = .int .i64 (k : Int) ∧ y = .int .u32 (x / 2 ^ k : Nat) ∧ wr = w)
  (fun _ i _ => n - (intOf i).toNat)
 case atStart => exact ⟨0,by omega,rfl,by rw [Nat.pow_zero,Nat.div_one],rfl⟩
 case round =>
  obtain ⟨k,hk,rfl,rfl,rfl⟩:=hrel
  by_cases hlt : k < n
  ·
   have hlti : (k : Int) < (n : Int):=by omega
   have hs : x / 2 ^ (k + 1) = x / 2 ^ k / 2:=by rw [Nat.pow_succ,Nat.div_div_eq_div_mul]
   have hl : x / 2 ^ k < 2 ^ 32:=Nat.lt_of_le_of_lt (Nat.div_le_self _ _) HX.out
   obtain ⟨y,hy⟩ : ∃ y : Int,y = ((x / 2 ^ k : Nat) : Int):=⟨_,rfl⟩
   obtain ⟨z,hz⟩ : ∃ z : Int,z = ((x / 2 ^ (k + 1) : Nat) : Int):=⟨_,rfl⟩
   have HZ:=veil32 hz
   rw [hs] at hz
   rw [← hy]
   generalize x / 2 ^ k = q at *
   have e2 : y / 2 = z:=by omega
   have y0 : 0 ≤ y:=by omega
   have y1 : y ≤ 4294967295:=by omega
   clear hs hl hy hz
   go_wp2
   go_roundw
   case rel => exact ⟨k + 1,by omega,by go_num,by rw [← HZ.out,e2],trivial⟩
   case measure => simp [intOf]; omega
  ·
   obtain rfl : k = n:=by omega
   go_wp2
   go_ret
   exact ⟨rfl,rfl⟩
end Go.Proofs.YtedehdbajiaaiaaGreatDoor
