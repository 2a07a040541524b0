/-
  Of Sch T5 Add Sub Cmp G1 G2 G3.
-/
import Derived.BigQuiet
import Derived.ArgAppend
import Derived.Deep.MidRow
import Derived.Laws.OwnMore
import Derived.Maps.AppendAt
import Derived.Laws.Concat
import Derived.Test.YthlbemnbmbmjhaaGreatDoorRows
import Derived.WalkKit
import Derived.WalkSpells
import Derived.WalkLawsBesides
import Derived.Deep.LoopGhost
import Derived.Deep.RegionWith
import Derived.Deep.QuietTactic
import Derived.Deep.CutRange
import Derived.Deep.RegionHeld3
import Derived.Test.YthlbemnbmbmjhaaGreatDoorZF1
set_option maxRecDepth 1000000
set_option maxHeartbeats 20000000
namespace Go.Proofs.YthlbemnbmbmjhaaGreatDoor
open Go.RowKit
open Go.Value renaming int → vI
open Go.IntKind renaming u64 → vU
open Go.Act renaming put → aP
open List renaming setIfInBounds_toArray → lA, set_cons_zero → lZ, set_cons_succ → lS
structure Gw (D : World → Prop) where
 val : World
 property : D val
abbrev Sub (D : World → Prop) : World → Prop:=fun W => ∃ x : Gw D,W = x.val
section
variable {P : Program} {ops : Array Oper} {Q : Exit → Act → World → Prop} {md : Region.Mode}
/-! ### the quiet walk in every class of grown worlds is a walk of made values -/
def dstsB : List Oper → List Nat
 | [] => []
 | o :: r => (match o.dst with | some d => [d] | none => []) ++ dstsB r
def ownB (size : Nat) : List Oper → Bool
 | [] => true
 | o :: r => (match o.dst with | some d => decide (d < size) && !(dstsB r).contains d | none => false) && ownB size r
theorem put_tmps (a : Act) (d : Nat) (v : Value) : (a.put (some d) v).tmps = a.tmps.setIfInBounds d v:=rfl
theorem zcv {C : World → Prop} {A : Act} : ∀ {l : List Oper} {a : Act} {d : Nat},d ∉ dstsB l → wpQuiet P ops C (fun a' => a' = A) l a → A.tmps[d]? = a.tmps[d]?
 | [],a,d,_,h => by
  have h' : a = A:=h
  rw [h']
 | o :: r,a,d,hd,h => by
  have hr : d ∉ dstsB r:=fun hh => hd (by unfold dstsB; exact List.mem_append_right _ hh)
  have hne : ∀ v,(a.put o.dst v).tmps[d]? = a.tmps[d]?:=fun v => by
   cases ho : o.dst with
   | none => rfl
   | some e =>
    have : e ≠ d:=fun hh => hd (by unfold dstsB; rw [ho]; simp [hh])
    rw [put_tmps,Array.getElem?_setIfInBounds_ne this]
  unfold wpQuiet at h
  split at h
  ·
   obtain ⟨v,_,hK⟩:=h
   rw [zcv hr hK,hne]
  ·
   rw [zcv hr h,hne]
theorem made_of_quiet {o : Oper} {v : Value} {a : Act} {w : World} (h : ∀ W,Ext w W → o.quietAt P a (Sub (Ext W)) W v) : Made P o v a w:=fun W hW => by
 have h1:=h W hW
 unfold Oper.quietAt at h1
 generalize (execOp a.eval o).run P W = r at *
 cases r with
 | ok n w' =>
  cases n <;> simp only [Oper.quietUpon] at h1 <;> simp only [madeUpon]
  case value u => obtain ⟨rfl,rfl⟩:=h1; exact ⟨rfl,Ext.refl _⟩
  case skip => obtain ⟨rfl,rfl⟩:=h1; exact ⟨rfl,Ext.refl _⟩
  case enter f args =>
   obtain ⟨rfl,hc⟩:=h1
   exact hc.mono fun e w'' ⟨he,x,hx⟩ => ⟨he,by rw [hx]; exact x.property⟩
 | halt x w' => simp only [Oper.quietUpon] at h1
structure Up (w : World) (D : World → Prop) : Prop where
 ne : Nonempty (Gw D)
 grown : ∀ W,D W → Ext w W
 up : ∀ W W',D W → Ext W W' → D W'
theorem Up.ext {w : World} (W : World) (h : Ext w W) : Up w (Ext W):=⟨⟨⟨W,Ext.refl W⟩⟩,fun _ k => h.trans k,fun _ _ k k' => k.trans k'⟩
theorem Up.cell {w : World} {D : World → Prop} (h : Up w D) {b o : Nat} {v : Value} (hc : w.cell? ⟨b,o,none⟩ = some v) : ∀ x : Gw D,x.val.cell? ⟨b,o,none⟩ = some v:=fun x => by
 have hb : b < w.heap.size:=World.block_lt_of_cell? w ⟨b,o,none⟩ hc
 exact (Below.cell (h.grown _ x.property) (p:=⟨b,o,none⟩) hb).trans hc
theorem zcw {w : World} {A : Act} : ∀ {l : List Oper} {a : Act},ownB a.tmps.size l = true → (∀ D,Up w D → wpQuiet P ops (Sub D) (fun a' => a' = A) l a) → wpMk P ops w (fun a' => a' = A) l a
 | [],a,_,h => h (Ext w) (Up.ext w (Ext.refl w))
 | o :: r,a,hB,h => by
  unfold ownB at hB
  cases ho : o.dst with
  | none => rw [ho] at hB; simp at hB
  | some d =>
   rw [ho] at hB
   simp only [Bool.and_eq_true,decide_eq_true_eq,Bool.not_eq_true'] at hB
   obtain ⟨⟨hd,hnot⟩,hr⟩:=hB
   have hnot' : d ∉ dstsB r:=fun hh => by
    have : (dstsB r).contains d = true:=by simpa using hh
    rw [hnot] at this; cases this
   have hsz : ∀ v,(a.put o.dst v).tmps.size = a.tmps.size:=fun v => by rw [ho,put_tmps]; simp
   by_cases hw : Region.wanted o (yielded ops a.tmps) = true
   ·
    have each : ∀ D,Up w D → (∀ W,Sub D W → o.quietAt P a (Sub D) W (A.tmps.getD d undef)) ∧ wpQuiet P ops (Sub D) (fun a' => a' = A) r (a.put o.dst (A.tmps.getD d undef)):=fun D hD => by
     have h1:=h D hD
     unfold wpQuiet at h1
     rw [if_pos hw] at h1
     obtain ⟨v,h2,h3⟩:=h1
     have h4:=zcv hnot' h3
     rw [ho,put_tmps,Array.getElem?_setIfInBounds_self_of_lt hd] at h4
     have hv : A.tmps.getD d undef = v:=by simp [h4]
     rw [hv]
     exact ⟨h2,h3⟩
    refine ⟨A.tmps.getD d undef,.inl ⟨hw,made_of_quiet fun W hW => ?_⟩,zcw (by rw [hsz]; exact hr) fun D hD => (each D hD).2⟩
    exact (each (Ext W) (Up.ext W hW)).1 W ⟨⟨W,Ext.refl W⟩,rfl⟩
   ·
    have hw' : Region.wanted o (yielded ops a.tmps) = false:=by simpa using hw
    refine ⟨undef,.inr ⟨hw',rfl⟩,zcw (by rw [hsz]; exact hr) fun D hD => ?_⟩
    have h1:=h D hD
    unfold wpQuiet at h1
    rwa [if_neg hw] at h1
theorem quiet_val {o : Oper} {a : Act} {D : World → Prop} {K : Act → Prop} (v : Value) (h : ∀ x : Gw D,(execOp a.eval o).run P x.val = .ok (.value v) x.val) (hK : K (a.put o.dst v)) : o.quiet P a (fun W => ∃ x : Gw D,W = x.val) K :=
 ⟨v,fun W hW => by
  obtain ⟨x,rfl⟩:=hW
  unfold Oper.quietAt
  rw [h x]
  exact ⟨rfl,rfl⟩,hK⟩
/-! ### schedules -/
def lateS (md : Region.Mode) (ops : Array Oper) (n : Nat) : Bool :=
 decide (ops.size ≤ n) || (((List.range n).all fun i => (List.range (n + 1)).any fun j => decide (i < j) && Region.waitsFor md ops j i) && (List.range ops.size).all fun t => decide (t ≤ n) || Region.waitsFor md ops t n)
theorem lateS_one {n : Nat} {listed : Array Bool} (hB : ((List.range n).all fun i => (List.range (n + 1)).any fun j => decide (i < j) && Region.waitsFor md ops j i) = true) (inv : Closed md ops listed) :
  ∀ (d i : Nat),n - i = d → i < n → listed.getD i false = false → listed.getD n false = false ∧ n ∉ Region.ready md ops listed:=by
 intro d
 induction d using Nat.strongRecOn with
 | _ d ih =>
  intro i hd hi hun
  have h1:=List.all_eq_true.1 hB i (List.mem_range.2 hi)
  obtain ⟨j,hj,hj2⟩:=List.any_eq_true.1 h1
  simp only [Bool.and_eq_true,decide_eq_true_eq] at hj2
  have hjn:=List.mem_range.1 hj
  obtain ⟨oj,hoj,e,he,hb,hon⟩:=Region.waitsFor_spec hj2.2
  have hlj : listed.getD j false = false:=by
   cases h2 : listed.getD j false with
   | false => rfl
   | true =>
    have h3:=inv.2 j oj hoj h2 e he hb
    rw [hon,hun] at h3
    cases h3
  by_cases hl : j = n
  ·
   subst hl
   refine ⟨hlj,fun hr => ?_⟩
   obtain ⟨_,oj',hoj',hall⟩:=mem_ready.1 hr
   have : oj = oj':=Option.some.inj (hoj.symm.trans hoj')
   subst this
   have h3:=hall e he hb
   rw [hon,hun] at h3
   cases h3
  ·
   exact ih (n - j) (by omega) j rfl (by omega) hlj
theorem lateS_spec {n i : Nat} {listed : Array Bool} (hB : lateS md ops n = true) (inv : Closed md ops listed) (hi : i < n) (hun : listed.getD i false = false)
  {t : Nat} (ht : t ∈ Region.ready md ops listed) : t < n:=by
 obtain ⟨_,ot,hot,hall⟩:=mem_ready.1 ht
 have htl : t < ops.size:=(Array.getElem?_eq_some_iff.1 hot).1
 unfold lateS at hB
 simp only [Bool.or_eq_true,decide_eq_true_eq,Bool.and_eq_true] at hB
 rcases hB with hB | ⟨hB1,hB2⟩
 ·
  omega
 ·
  obtain ⟨hn1,hn2⟩:=lateS_one hB1 inv _ i rfl hi hun
  have h1:=List.all_eq_true.1 hB2 t (List.mem_range.2 htl)
  simp only [Bool.or_eq_true,decide_eq_true_eq] at h1
  rcases h1 with h1 | h1
  ·
   have : t ≠ n:=fun e => hn2 (e ▸ ht)
   omega
  ·
   obtain ⟨o',ho',e,he,hb,hon⟩:=Region.waitsFor_spec h1
   have : o' = ot:=Option.some.inj (ho'.symm.trans hot)
   subst this
   have h2:=hall e he hb
   rw [hon,hn1] at h2
   cases h2
theorem S_first {i n : Nat} {oi : Oper} {v : Value} (hi : ops[i]? = some oi) (hsel : ∀ (j : Nat) (o : Oper) cs b,ops[j]? = some o → o.op ≠ .select cs b)
  (hQ : ∀ c a w,Q (.panic c) (a.put oi.dst v) w → Q (.panic c) a w) (hB : lateS md ops n = true) (him : i < n) :
  ∀ (fuel : Nat) (listed : Array Bool) (a : Act) (w : World),Closed md ops listed →
   (∀ j oj,ops[j]? = some oj → j ≠ i → listed.getD j true = false → (∀ e ∈ oj.after,Region.binds md e = true → e.on ≠ i) → oi.apart ops oj = true) →
   i ∈ Region.ready md ops listed → YieldsE P ops oi v a w →
   wpG P md ops Q n fuel (listed.setIfInBounds i true) (a.put oi.dst v) w → wpG P md ops Q n (fuel + 1) listed a w:=by
 intro fuel
 induction fuel with
 | zero =>
  intro listed a w _ _ hr hy H
  refine ⟨fun h => (by rw [h] at hr; cases hr),fun j hj W hW => ?_⟩
  by_cases hji : j = i
  ·
   subst hji; exact hy.wpOp hi hW fun W' hW' => ⟨fun _ => hW',H.ext (hW.trans hW')⟩
  ·
   have:=ready_mono hj hji
   rw [H.1] at this
   cases this
 | succ fuel ih =>
  intro listed a w inv hfree hr hy H
  refine ⟨fun h => (by rw [h] at hr; cases hr),fun j hj W hW => ?_⟩
  by_cases hji : j = i
  ·
   subst hji; exact hy.wpOp hi hW fun W' hW' => ⟨fun _ => hW',H.ext (hW.trans hW')⟩
  ·
   have hun:=getD_both (mem_ready.1 hr).1
   have hjn : j < n:=lateS_spec hB inv him hun hj
   have h1:=H.2 j (ready_mono hj hji) W hW
   obtain ⟨hjun,oj,hoj,hall⟩:=mem_ready.1 hj
   have hnot : ∀ e ∈ oj.after,Region.binds md e = true → e.on ≠ i:=fun e he hb heq => by
    have h2:=hall e he hb
    rw [heq,hun] at h2
    cases h2
   have h2:=wpOp_putE hoj (hfree j oj hoj hji hjun hnot) (fun cs b => hsel i oi cs b hi) (fun cs b => hsel j oj cs b hoj) hQ (fun a' w' hk => hk.1 hjn)
    (hy.of_same hW rfl rfl) h1
   have hfree' : ∀ k ok,ops[k]? = some ok → k ≠ i → (listed.setIfInBounds j true).getD k true = false →
     (∀ e ∈ ok.after,Region.binds md e = true → e.on ≠ i) → oi.apart ops ok = true:=fun k ok hk hki hunk hno => by
    refine hfree k ok hk hki ?_ hno
    by_cases hjk : j = k
    ·
     subst hjk; exact hjun
    ·
     rw [getD_set_ne true hjk] at hunk; exact hunk
   refine wpOp_mono (fun a' w' h3 => ⟨h3.2.1,ih (listed.setIfInBounds j true) a' w' (inv.set hj) hfree' (ready_mono hr (Ne.symm hji)) h3.1 ?_⟩) h2
   rw [Array.setIfInBounds_comm _ _ hji]
   exact h3.2.2
abbrev Sched:=List (Bool × List Nat)
def takeI (md : Region.Mode) (ops : Array Oper) (n : Nat) : List Nat → Array Bool → Bool
 | [],_ => true
 | k :: r,listed => (Region.ready md ops listed).contains k && Region.free md ops listed k && decide (k < n) && takeI md ops n r (listed.setIfInBounds k true)
def oneI (md : Region.Mode) (ops : Array Oper) : List Nat → Array Bool → Bool
 | [],_ => true
 | k :: r,listed => (Region.ready md ops listed == [k]) && oneI md ops r (listed.setIfInBounds k true)
def markI : List Nat → Array Bool → Array Bool
 | [],listed => listed
 | k :: r,listed => markI r (listed.setIfInBounds k true)
def schedI (md : Region.Mode) (ops : Array Oper) (n : Nat) : Sched → Array Bool → Bool
 | [],listed => (Region.ready md ops listed).isEmpty
 | (true,is) :: r,listed => takeI md ops n is listed && schedI md ops n r (markI is listed)
 | (false,is) :: r,listed => oneI md ops is listed && schedI md ops n r (markI is listed)
def consO : Option Oper → List Oper → List Oper
 | some o,r => o :: r
 | none,r => r
def pickI (l : List Oper) : List Nat → List Oper
 | [] => []
 | k :: r => consO l[k]? (pickI l r)
def wpOne (P : Program) (ops : Array Oper) (Q : Exit → Act → World → Prop) (n : Nat) (R : Act → World → Prop) : List Nat → Act → World → Prop
 | [],a,w => R a w
 | k :: r,a,w => ∀ W,Ext w W → wpOp P ops Q k (fun a' W' => (k < n → Ext W W') ∧ wpOne P ops Q n R r a' W') a W
def wpSched (P : Program) (l : List Oper) (Q : Exit → Act → World → Prop) (n : Nat) : Sched → Act → World → Prop
 | [],a,w => ∀ W,Ext w W → Q .normal a W
 | (true,is) :: r,a,w => wpMk P l.toArray w (fun a' => wpSched P l Q n r a' w) (pickI l is) a
 | (false,is) :: r,a,w => wpOne P l.toArray Q n (fun a' w' => wpSched P l Q n r a' w') is a w
def lenI : Sched → Nat
 | [] => 0
 | (_,is) :: r => is.length + lenI r
theorem S_take {n g : Nat} {l : List Oper} (hsel : Region.noSelect l.toArray = true) (hQ : ∀ (o : Oper) v c a w,Q (.panic c) (a.put o.dst v) w → Q (.panic c) a w) (hB : lateS md l.toArray n = true) {w : World} {R : Act → Prop} {L : Array Bool}
  (hR : ∀ a,R a → Closed md l.toArray L → wpG P md l.toArray Q n g L a w) : ∀ (is : List Nat) (listed : Array Bool) (a : Act),Closed md l.toArray listed →
  takeI md l.toArray n is listed = true → markI is listed = L → wpMk P l.toArray w R (pickI l is) a → wpG P md l.toArray Q n (is.length + g) listed a w
 | [],listed,a,inv,_,hL,h => by
  have hL' : listed = L:=hL
  subst hL'
  simpa using hR a h inv
 | k :: r,listed,a,inv,hX,hL,h => by
  simp only [takeI,Bool.and_eq_true,decide_eq_true_eq] at hX
  obtain ⟨⟨⟨hr,hf⟩,hkn⟩,hX'⟩:=hX
  have hr' : k ∈ Region.ready md l.toArray listed:=by simpa using hr
  obtain ⟨_,o,h0,_⟩:=mem_ready.1 hr'
  have h0' : l[k]? = some o:=by simpa using h0
  unfold pickI at h
  rw [h0'] at h
  obtain ⟨v,hy,hK⟩:=h
  rw [List.length_cons,show r.length + 1 + g = (r.length + g) + 1 by omega]
  exact S_first h0 (Region.noSelect_spec hsel) (hQ o v) hB hkn _ listed a w inv (Region.free_spec h0 hf) hr' hy
   (S_take hsel hQ hB hR r _ _ (inv.set hr') hX' hL hK)
theorem S_one {n g : Nat} {l : List Oper} {R : Act → World → Prop} {L : Array Bool} (hRx : ∀ a w w',R a w → Ext w w' → R a w')
  (hR : ∀ a w,R a w → Closed md l.toArray L → wpG P md l.toArray Q n g L a w) : ∀ (is : List Nat) (listed : Array Bool) (a : Act) (w : World),Closed md l.toArray listed →
  oneI md l.toArray is listed = true → markI is listed = L → wpOne P l.toArray Q n R is a w → wpG P md l.toArray Q n (is.length + g) listed a w
 | [],listed,a,w,inv,_,hL,h => by
  have hL' : listed = L:=hL
  subst hL'
  simpa using hR a w h inv
 | k :: r,listed,a,w,inv,hX,hL,h => by
  simp only [oneI,Bool.and_eq_true,beq_iff_eq] at hX
  obtain ⟨hr,hX'⟩:=hX
  rw [List.length_cons,show r.length + 1 + g = (r.length + g) + 1 by omega]
  refine ⟨fun h0 => (by rw [hr] at h0; cases h0),fun i hi W hW => ?_⟩
  have hik : i = k:=by rw [hr] at hi; simpa using hi
  subst hik
  refine wpOp_mono (fun a' W' hk => ⟨hk.1,S_one hRx hR r _ _ _ (inv.set hi) hX' hL hk.2⟩) (h W hW)
theorem wpMk_ext {w w' : World} {R R' : Act → Prop} (hE : Ext w w') (hR : ∀ a,R a → R' a) : ∀ {l : List Oper} {a : Act},wpMk P ops w R l a → wpMk P ops w' R' l a
 | [],_,hh => hR _ hh
 | _ :: _,_,⟨v,hy,hK⟩ => ⟨v,hy.of_same hE rfl rfl,wpMk_ext hE hR hK⟩
theorem wpOne_ext {n : Nat} {R : Act → World → Prop} {w w' : World} (hE : Ext w w') (hRx : ∀ a w w',R a w → Ext w w' → R a w') : ∀ {is : List Nat} {a : Act},wpOne P ops Q n R is a w → wpOne P ops Q n R is a w'
 | [],_,h => hRx _ _ _ h hE
 | _ :: _,_,h => fun W hW => h W (hE.trans hW)
theorem zct {l : List Oper} {n : Nat} : ∀ {s : Sched} {a : Act} {w w' : World},wpSched P l Q n s a w → Ext w w' → wpSched P l Q n s a w'
 | [],_,_,_,h,hE => fun W hW => h W (hE.trans hW)
 | (true,_) :: _,_,_,_,h,hE => wpMk_ext hE (fun _ h => zct h hE) h
 | (false,is) :: r,_,_,_,h,hE => wpOne_ext (R:=fun a' w' => wpSched P l Q n r a' w') (is:=is) hE (fun _ _ _ h k => zct h k) h
theorem S_all {n : Nat} {l : List Oper} (hsel : Region.noSelect l.toArray = true) (hQ : ∀ (o : Oper) v c a w,Q (.panic c) (a.put o.dst v) w → Q (.panic c) a w) (hB : lateS md l.toArray n = true) :
  ∀ (s : Sched) (listed : Array Bool) (a : Act) (w : World),Closed md l.toArray listed → schedI md l.toArray n s listed = true → wpSched P l Q n s a w → wpG P md l.toArray Q n (lenI s) listed a w
 | [],listed,a,w,_,hX,h => ⟨by simpa [schedI] using hX,h⟩
 | (true,is) :: r,listed,a,w,inv,hX,h => by
  simp only [schedI,Bool.and_eq_true] at hX
  exact S_take (g:=lenI r) hsel hQ hB (R:=fun a' => wpSched P l Q n r a' w) (L:=markI is listed) (fun a' h' inv' => S_all hsel hQ hB r _ _ _ inv' hX.2 h') is listed a inv hX.1 rfl h
 | (false,is) :: r,listed,a,w,inv,hX,h => by
  simp only [schedI,Bool.and_eq_true] at hX
  exact S_one (g:=lenI r) (R:=fun a' w' => wpSched P l Q n r a' w') (L:=markI is listed) (fun _ _ _ h k => zct h k) (fun a' w' h' inv' => S_all hsel hQ hB r _ _ _ inv' hX.2 h') is listed a w inv hX.1 rfl h
def schedB (l : List Oper) (n : Nat) (s : Sched) : Bool :=
 Region.noSelect l.toArray && lateS .any l.toArray n && (lenI s == l.length) && schedI .any l.toArray n s (Array.replicate l.length false)
theorem wp_sched {id : Nat} (n : Nat) (s : Sched) {a : Act} {w : World} {l : List Oper} (hm : P.follows .mixedOrders = true) (hB : schedB l n s = true)
  (h : ∀ Q',Hid (Q' = NoPanic Q) → wpSched P l Q' n s a w) : (Code.region id l.toArray true).wp P Q a w:=by
 simp only [schedB,Bool.and_eq_true,beq_iff_eq] at hB
 obtain ⟨⟨⟨hsel,hlate⟩,hlen⟩,hs⟩:=hB
 refine wp_region_noPanic ?_
 have inv0 : Closed .any l.toArray (Array.replicate l.length false) :=
  ⟨by simp,fun j oj _ hl => (by rw [getD_replicate_false] at hl; cases hl)⟩
 have H:=S_all (P:=P) (md:=.any) (Q:=NoPanic Q) hsel (fun _ _ _ _ _ h => h) hlate s _ a w inv0 hs (h _ (veil rfl))
 rw [hlen] at H
 refine wp_region_any hm (zdr (n:=n) _ _ _ _ ?_)
 have:=wpG.ext H (Ext.drew w)
 simpa using this
/-! ### how its parts are walked -/
theorem wpq_end {C : World → Prop} {a : Act} : wpQuiet P ops C (fun a' => a' = a) [] a:=rfl
theorem sched_row {l : List Oper} {n : Nat} {is : List Nat} {r : Sched} {a A : Act} {w : World} (os : List Oper) (ho : pickI l is = os) (hB : ownB a.tmps.size os = true)
  (h : ∀ D,Up w D → Nonempty (Gw D) → wpQuiet P l.toArray (fun W => ∃ x : Gw D,W = x.val) (fun a' => a' = A) os a) (h2 : wpSched P l Q n r A w) : wpSched P l Q n ((true,is) :: r) a w:=by
 subst ho
 exact zdk (fun a' e => by subst e; exact h2) (zcw hB fun D hD => h D hD hD.ne)
theorem sched_end {l : List Oper} {n : Nat} {a : Act} {w : World} {R : Exit → Act → World → Prop} (hQ : Hid (Q = NoPanic R)) (h : ∀ W,Ext w W → R .normal a W) : wpSched P l Q n [] a w:=fun W hW => by
 rw [hQ.out]
 exact h W hW
end
/-! ### in schedules -/
section
variable {Q : Exit → Act → World → Prop} {l : List Oper} {n k d : Nat} {r : Sched} {a : Act} {w : World}
end
theorem zbt {P : Program} {ops : Array Oper} {Q : Exit → Act → World → Prop} {rest : List Oper} {a : Act} {w : World} {o : Oper} (v : Value) (hg : o.guard = none) (hr : (execOp a.eval o).run P w = .ok (.value v) w) (h : wpList P ops Q rest (a.put o.dst v) w) : wpList P ops Q (o :: rest) a w:=by
 refine wpList_plain hg fun K hK => ?_
 unfold Oper.wp
 rw [hr,Oper.upon_value]
 exact hK _ _ h
theorem Fl.take {w : World} {A : Option Addr} {n c : Nat} {fs : List Fd} (h : Fl w (.slice A n c) fs) {m : Nat} (hm : m ≤ n) : Fl w (.slice A m c) (fs.take m):=by
 obtain ⟨hB,AL,c',he,hc,hx⟩:=h
 injection he with e1 e2 e3
 subst e1 e3
 have hl : (fs.take m).length = m:=by rw [List.length_take]; omega
 have hg : ∀ i,i < m → tgF (fs.take m) i = tgF fs i ∧ bsF (fs.take m) i = bsF fs i:=fun i hi => by
  unfold tgF bsF
  simp only [List.getD_eq_getElem?_getD,List.getElem?_take_of_lt hi,and_self]
 refine ⟨fun f hf => hB f (List.mem_of_mem_take hf),A,c,by rw [hl],by rw [hl]; omega,?_⟩
 rw [hl]
 by_cases h0 : m = 0
 ·
  exact .inl h0
 ·
  refine .inr ?_
  obtain ⟨b,o,e,hb,hcl⟩:=hx.resolve_left (by omega)
  refine ⟨b,o,e,hb,fun i hi => ?_⟩
  obtain ⟨g1,g2⟩:=hg i hi
  rw [g1,g2]
  exact hcl i (by omega)
theorem add64 (x y c : Int) (hx : 0 ≤ x) (hy : 0 ≤ y) (hc0 : 0 ≤ c) (hc : c ≤ 1) (w : World) :
  (callFunc 158 #[vI vU x,vI vU y,vI vU c]).run Tryz.prog w = .ok (.value (.tuple #[vI vU ((x + y + c) % 18446744073709551616),vI vU ((x + y + c) / 18446744073709551616)])) w:=by
 rw [run_callFunc_extern Tryz.func158 (by kernel_rfl) (by kernel_rfl) (by kernel_rfl) (e:=add64Entry) (by kernel_rfl),run_add64 x y c hx hy hc0 hc]
 rfl
def cyI (X Y i : Nat) : Int:=(cy w64 X Y i : Nat)
theorem add64_at (X Y k : Nat) (w : World) :
  (callFunc 158 #[vI vU (wd X k),vI vU (wd Y k),vI vU (cyI X Y k)]).run Tryz.prog w = .ok (.value (.tuple #[vI vU (wd (X + Y) k),vI vU (cyI X Y (k + 1))])) w:=by
 have hc:=cy_le zaj X Y k
 rw [add64 _ _ _ (wd_lo _ _) (wd_lo _ _) (by unfold cyI; omega) (by unfold cyI; omega)]
 unfold wd cyI
 rw [cy_succ zaj,dg_add zaj]
 unfold w64
 simp
theorem cyI_top {X Y : Nat} (hX : X < top) (hY : Y < top) : (cyI X Y 4 != 0) = decide (top ≤ X + Y):=by
 unfold cyI
 rw [cy_top (n:=4) hX hY]
 show _ = decide (w64 ^ 4 ≤ X + Y)
 by_cases h : w64 ^ 4 ≤ X + Y <;> simp [h]
theorem add_any (X Y : Nat) (hX : X < top) (hY : Y < top) (w : World) :
  Calls Tryz.prog 142 #[.agg #[vI vU (wd X 0),vI vU (wd X 1),vI vU (wd X 2),vI vU (wd X 3)],.agg #[vI vU (wd Y 0),vI vU (wd Y 1),vI vU (wd Y 2),vI vU (wd Y 3)]] w fun e w' =>
   e = .returned (.tuple #[.agg #[vI vU (wd (X + Y) 0),vI vU (wd (X + Y) 1),vI vU (wd (X + Y) 2),vI vU (wd (X + Y) 3)],.bool (decide (top ≤ X + Y))]) ∧ Below w.heap.size w w':=by
 have h29:=fun (k : Nat) (W : World) => add64_at X Y k W
 go_enter Tryz.func142,Tryz.ntmps142
 go_wp2
 go_loopw [7,9] (fun c i wr => ∃ k : Nat,k ≤ 4 ∧ i = .int .i64 k ∧ c = .int .u64 (cyI X Y k) ∧ wr.rowIs w.heap.size 27 4 (fun j => .int .u64 (wd X j))
   ∧ wr.rowIs (w.heap.size + 1) 27 4 (fun j => .int .u64 (wd Y j)) ∧ wr.rowIs (w.heap.size + 1 + 1) 27 4 (fun _ => .int .u64 0)
   ∧ wr.rowIs (w.heap.size + 1 + 1 + 1) 27 4 (fun j => .int .u64 (if j < k then wd (X + Y) j else 0)) ∧ Below w.heap.size w wr)
  (fun _ i _ => 4 - (intOf i).toNat)
 case atStart => exact ⟨0,by omega,rfl,by simp [cyI,cy_zero],(((zac (n:=4) (by simp) rfl (arr4 fun j => .int .u64 (wd X j))).alloc _).alloc _).alloc _,((zac (n:=4) (by simp) rfl (arr4 fun j => .int .u64 (wd Y j))).alloc _).alloc _,(zac (n:=4) (by simp) rfl (arr4 fun _ => .int .u64 0)).alloc _,zac (n:=4) (by simp) rfl (arr4 fun _ => .int .u64 0),((((Below.refl _ _).alloc (by simp) _).alloc (by simp) _).alloc (by simp; omega) _).alloc (by simp; omega) _⟩
 case round =>
  obtain ⟨k,hk,rfl,rfl,hRX,hRY,hRZ,hRS,hbel⟩:=hrel
  by_cases hlt : k < 4
  ·
   have c1:=hRX.cell hlt
   have c2:=hRY.cell hlt
   have c3:=hRS.cell hlt
   have f3:=hRS.frozen k
   go_wp2
   go_region_with (fail)
   all_goals
    go_wp2
    go_roundw
    case rel => exact ⟨k + 1,by omega,by go_num,rfl,(zaq hRX (by omega) _).drew,(zaq hRY (by omega) _).drew,(zaq hRZ (by omega) _).drew,((hRS.set k _).congr (row_step hlt)).drew,(zai hbel (by omega) _).drew⟩
    case measure => simp [intOf]; omega
  ·
   obtain rfl : k = 4:=by omega
   obtain ⟨c0,c1,c2,c3⟩:=zab hRS
   obtain ⟨d0,d1,d2,d3⟩:=zab hRZ
   obtain ⟨f0,f1,f2,f3⟩:=zag hRZ
   simp only [show (0 : Nat) < 4 from by omega,show (1 : Nat) < 4 from by omega,show (2 : Nat) < 4 from by omega,show (3 : Nat) < 4 from by omega,if_true] at c0 c1 c2 c3
   clear hRX hRY hRS
   have hz:=cyI_top hX hY
   go_wp2
   refine bodyPost_ret (zbm rfl _ _ (w.heap.size + 1 + 1) 27 #[vI vU (wd (X + Y) 0),vI vU (wd (X + Y) 1),vI vU (wd (X + Y) 2),vI vU (wd (X + Y) 3)] (0,0) 4 25 rfl (blk4 (put4 hRZ fun j => .int .u64 (wd (X + Y) j))) Tryz.underlying27 (by kernel_rfl)) rfl ⟨?_,zae hbel (by omega) _ _ _ _⟩
   rfl
theorem add_calls (X Y : Nat) (hX : X < top) (hY : Y < top) (w : World) :
  Calls Tryz.prog 142 #[.agg #[vI vU (wd X 0),vI vU (wd X 1),vI vU (wd X 2),vI vU (wd X 3)],.agg #[vI vU (wd Y 0),vI vU (wd Y 1),vI vU (wd Y 2),vI vU (wd Y 3)]] w fun e w' => e = .returned (.tuple #[.agg #[vI vU (wd ((X + Y) % top) 0),vI vU (wd ((X + Y) % top) 1),vI vU (wd ((X + Y) % top) 2),vI vU (wd ((X + Y) % top) 3)],.bool (decide (top ≤ X + Y))]) ∧ Below w.heap.size w w':=by
 rw [zbw _ 0 (by omega),zbw _ 1 (by omega),zbw _ 2 (by omega),zbw _ 3 (by omega)]
 exact add_any X Y hX hY w
def sub64Entry : Array Value → Sem Value:=fun args => do
 let (x,y,b) ← Extern.MathBitsCarry.three "Sub64" args
 pure (Extern.MathBitsCarry.pair ((x + Extern.MathBitsCarry.m64 - y - b) % Extern.MathBitsCarry.m64) (if x < y + b then 1 else 0))
theorem run_sub64 (x y b : Nat) (hb : b ≤ 1) (w : World) :
  (sub64Entry #[vI vU (x : Int),vI vU (y : Int),vI vU (b : Int)]).run Tryz.prog w =
   .ok (.tuple #[vI vU (((x + w64 - y - b) % w64 : Nat) : Int),vI vU ((if x < y + b then 1 else 0 : Nat) : Int)]) w:=by
 have : b = 0 ∨ b = 1:=by omega
 rcases this with rfl | rfl <;> rfl
theorem sub64 (x y b : Nat) (hb : b ≤ 1) (w : World) :
  (callFunc 143 #[vI vU (x : Int),vI vU (y : Int),vI vU (b : Int)]).run Tryz.prog w = .ok (.value (.tuple #[vI vU (((x + w64 - y - b) % w64 : Nat) : Int),vI vU ((if x < y + b then 1 else 0 : Nat) : Int)])) w:=by
 rw [run_callFunc_extern Tryz.func143 (by kernel_rfl) (by kernel_rfl) (by kernel_rfl) (e:=sub64Entry) (by kernel_rfl),run_sub64 x y b hb]
 rfl
def bwI (X Y i : Nat) : Int:=(bw w64 X Y i : Nat)
theorem sub64_at (X Y k : Nat) (hk : k < 4) (hY : Y ≤ top) (w : World) :
  (callFunc 143 #[vI vU (wd X k),vI vU (wd Y k),vI vU (bwI X Y k)]).run Tryz.prog w = .ok (.value (.tuple #[vI vU (wd (X + top - Y) k),vI vU (bwI X Y (k + 1))])) w:=by
 unfold wd bwI
 rw [sub64 _ _ _ (bw_le w64 X Y k)]
 unfold top at hY ⊢
 rw [bw_succ zaj,dg_sub zaj X Y 4 k hk hY]
theorem bwI_top {X Y : Nat} (hX : X < top) (hY : Y < top) : (bwI X Y 4 != 0) = decide (X < Y):=by
 unfold bwI
 rw [bw_top (n:=4) hX hY]
 by_cases h : X < Y <;> simp [h]
theorem sub_any (X Y : Nat) (hX : X < top) (hY : Y < top) (w : World) :
  Calls Tryz.prog 123 #[.agg #[vI vU (wd X 0),vI vU (wd X 1),vI vU (wd X 2),vI vU (wd X 3)],.agg #[vI vU (wd Y 0),vI vU (wd Y 1),vI vU (wd Y 2),vI vU (wd Y 3)]] w fun e w' =>
   e = .returned (.tuple #[.agg #[vI vU (wd (X + top - Y) 0),vI vU (wd (X + top - Y) 1),vI vU (wd (X + top - Y) 2),vI vU (wd (X + top - Y) 3)],.bool (decide (X < Y))]) ∧ Below w.heap.size w w':=by
 go_enter Tryz.func123,Tryz.ntmps123
 go_wp2
 go_loopw [7,9] (fun c i wr => ∃ k : Nat,k ≤ 4 ∧ i = .int .i64 k ∧ c = .int .u64 (bwI X Y k) ∧ wr.rowIs w.heap.size 27 4 (fun j => .int .u64 (wd X j))
   ∧ wr.rowIs (w.heap.size + 1) 27 4 (fun j => .int .u64 (wd Y j)) ∧ wr.rowIs (w.heap.size + 1 + 1) 27 4 (fun _ => .int .u64 0)
   ∧ wr.rowIs (w.heap.size + 1 + 1 + 1) 27 4 (fun j => .int .u64 (if j < k then wd (X + top - Y) j else 0)) ∧ Below w.heap.size w wr)
  (fun _ i _ => 4 - (intOf i).toNat)
 case atStart => exact ⟨0,by omega,rfl,by simp [bwI,bw_zero],(((zac (n:=4) (by simp) rfl (arr4 fun j => .int .u64 (wd X j))).alloc _).alloc _).alloc _,((zac (n:=4) (by simp) rfl (arr4 fun j => .int .u64 (wd Y j))).alloc _).alloc _,(zac (n:=4) (by simp) rfl (arr4 fun _ => .int .u64 0)).alloc _,zac (n:=4) (by simp) rfl (arr4 fun _ => .int .u64 0),((((Below.refl _ _).alloc (by simp) _).alloc (by simp) _).alloc (by simp; omega) _).alloc (by simp; omega) _⟩
 case round =>
  obtain ⟨k,hk,rfl,rfl,hRX,hRY,hRZ,hRS,hbel⟩:=hrel
  by_cases hlt : k < 4
  ·
   have c1:=hRX.cell hlt
   have c2:=hRY.cell hlt
   have c3:=hRS.cell hlt
   have f3:=hRS.frozen k
   have h30:=fun (W : World) => sub64_at X Y k hlt (Nat.le_of_lt hY) W
   go_wp2
   go_region_with (fail)
   all_goals
    go_wp2
    go_roundw
    case rel => exact ⟨k + 1,by omega,by go_num,rfl,(zaq hRX (by omega) _).drew,(zaq hRY (by omega) _).drew,(zaq hRZ (by omega) _).drew,((hRS.set k _).congr (row_step hlt)).drew,(zai hbel (by omega) _).drew⟩
    case measure => simp [intOf]; omega
  ·
   obtain rfl : k = 4:=by omega
   obtain ⟨c0,c1,c2,c3⟩:=zab hRS
   obtain ⟨d0,d1,d2,d3⟩:=zab hRZ
   obtain ⟨f0,f1,f2,f3⟩:=zag hRZ
   simp only [show (0 : Nat) < 4 from by omega,show (1 : Nat) < 4 from by omega,show (2 : Nat) < 4 from by omega,show (3 : Nat) < 4 from by omega,if_true] at c0 c1 c2 c3
   clear hRX hRY hRS
   have hz:=bwI_top hX hY
   go_wp2
   refine bodyPost_ret (zbm rfl _ _ (w.heap.size + 1 + 1) 27 #[vI vU (wd (X + top - Y) 0),vI vU (wd (X + top - Y) 1),vI vU (wd (X + top - Y) 2),vI vU (wd (X + top - Y) 3)] (0,0) 4 25 rfl (blk4 (put4 hRZ fun j => .int .u64 (wd (X + top - Y) j))) Tryz.underlying27 (by kernel_rfl)) rfl ⟨?_,zae hbel (by omega) _ _ _ _⟩
   rfl
theorem sub_calls (X Y : Nat) (hX : X < top) (hY : Y < top) (w : World) :
  Calls Tryz.prog 123 #[.agg #[vI vU (wd X 0),vI vU (wd X 1),vI vU (wd X 2),vI vU (wd X 3)],.agg #[vI vU (wd Y 0),vI vU (wd Y 1),vI vU (wd Y 2),vI vU (wd Y 3)]] w fun e w' => e = .returned (.tuple #[.agg #[vI vU (wd ((X + top - Y) % top) 0),vI vU (wd ((X + top - Y) % top) 1),vI vU (wd ((X + top - Y) % top) 2),vI vU (wd ((X + top - Y) % top) 3)],.bool (decide (X < Y))]) ∧ Below w.heap.size w w':=by
 rw [zbw _ 0 (by omega),zbw _ 1 (by omega),zbw _ 2 (by omega),zbw _ 3 (by omega)]
 exact sub_any X Y hX hY w
def cmpN (X Y : Nat) : Int:=if X < Y then -1 else if Y < X then 1 else 0
theorem zen (B X Y k : Nat) (hB : 0 < B) : cmpN (X % B ^ (k + 1)) (Y % B ^ (k + 1)) = if dg B X k < dg B Y k then -1 else if dg B Y k < dg B X k then 1 else cmpN (X % B ^ k) (Y % B ^ k):=by
 have hp : 0 < B ^ k:=Nat.pow_pos hB
 have h1:=Nat.mod_lt X hp
 have h2:=Nat.mod_lt Y hp
 unfold cmpN
 rw [zaz,zaz]
 generalize dg B X k = x
 generalize dg B Y k = y
 generalize X % B ^ k = r at *
 generalize Y % B ^ k = s at *
 generalize B ^ k = P at *
 by_cases hxy : x < y
 ·
  have : P * x + P ≤ P * y:=by rw [← Nat.mul_succ]; exact Nat.mul_le_mul_left _ hxy
  rw [if_pos (by omega),if_pos hxy]
 ·
  by_cases hyx : y < x
  ·
   have : P * y + P ≤ P * x:=by rw [← Nat.mul_succ]; exact Nat.mul_le_mul_left _ hyx
   rw [if_neg (by omega),if_pos (by omega),if_neg hxy,if_pos hyx]
  ·
   have hxy' : x = y:=by omega
   subst hxy'
   simp
theorem cmp_high (B X Y n m : Nat) (hB : 0 < B) (hX : X < B ^ n) (hY : Y < B ^ n) (hm : m < n) (h : ∀ j,m < j → j < n → dg B X j = dg B Y j) (hne : dg B X m ≠ dg B Y m) :
  cmpN X Y = if dg B X m < dg B Y m then -1 else 1:=by
 have e : X / B ^ (m + 1) = Y / B ^ (m + 1):=by
  have hn : B ^ n = B ^ (m + 1) * B ^ (n - (m + 1)):=by rw [← Nat.pow_add]; congr 1; omega
  refine zdd hB (n:=n - (m + 1)) ?_ ?_ fun i hi => ?_
  ·
   rw [Nat.div_lt_iff_lt_mul (Nat.pow_pos hB),Nat.mul_comm,← hn]; exact hX
  ·
   rw [Nat.div_lt_iff_lt_mul (Nat.pow_pos hB),Nat.mul_comm,← hn]; exact hY
  ·
   have:=h (m + 1 + i) (by omega) (by omega)
   unfold dg at *
   rwa [Nat.div_div_eq_div_mul,Nat.div_div_eq_div_mul,← Nat.pow_add]
 have c : cmpN X Y = cmpN (X % B ^ (m + 1)) (Y % B ^ (m + 1)):=by
  have hx:=Nat.mod_add_div X (B ^ (m + 1))
  have hy:=Nat.mod_add_div Y (B ^ (m + 1))
  rw [e] at hx
  unfold cmpN
  generalize B ^ (m + 1) * (Y / B ^ (m + 1)) = q at *
  generalize X % B ^ (m + 1) = r at *
  generalize Y % B ^ (m + 1) = s at *
  subst hx; subst hy
  simp
 rw [c,zen B X Y m hB]
 by_cases hlt : dg B X m < dg B Y m
 ·
  rw [if_pos hlt,if_pos hlt]
 ·
  rw [if_neg hlt,if_neg hlt,if_pos (by omega)]
theorem compare_lt (x y : Int) (h : x < y) (w : World) : Calls Tryz.prog 140 #[vI vU x,vI vU y] w fun e w' => e = .returned (.int .i64 (-1)) ∧ w' = w:=by
 go_enter Tryz.func140,Tryz.ntmps140
 go_wp2
 go_ret
 exact ⟨rfl,rfl⟩
theorem compare_gt (x y : Int) (h : y < x) (w : World) : Calls Tryz.prog 140 #[vI vU x,vI vU y] w fun e w' => e = .returned (.int .i64 1) ∧ w' = w:=by
 go_enter Tryz.func140,Tryz.ntmps140
 go_wp2
 go_ret
 exact ⟨rfl,rfl⟩
theorem wd_cmp {X Y k : Nat} (h : dg w64 X k < dg w64 Y k) : wd X k < wd Y k:=by unfold wd; omega
theorem cmp_calls (X Y : Nat) (hX : X < top) (hY : Y < top) (w : World) :
  Calls Tryz.prog 113 #[.agg #[vI vU (wd X 0),vI vU (wd X 1),vI vU (wd X 2),vI vU (wd X 3)],.agg #[vI vU (wd Y 0),vI vU (wd Y 1),vI vU (wd Y 2),vI vU (wd Y 3)]] w fun e w' => e = .returned (.int .i64 (cmpN X Y)) ∧ Below w.heap.size w w':=by
 go_enter Tryz.func113,Tryz.ntmps113
 go_wp2
 go_loopw [5] (fun i wr => ∃ k : Nat,k ≤ 4 ∧ i = .int .i64 ((k : Int) - 1) ∧ (∀ j,k ≤ j → j < 4 → dg w64 X j = dg w64 Y j) ∧ wr.rowIs w.heap.size 27 4 (fun j => .int .u64 (wd X j))
   ∧ wr.rowIs (w.heap.size + 1) 27 4 (fun j => .int .u64 (wd Y j)) ∧ Below w.heap.size w wr)
  (fun i _ => (intOf i + 1).toNat)
 case atStart => exact ⟨4,by omega,rfl,by intro j h1 h2; omega,(zac (n:=4) (by simp) rfl (arr4 fun j => .int .u64 (wd X j))).alloc _,zac (n:=4) (by simp) rfl (arr4 fun j => .int .u64 (wd Y j)),((Below.refl _ _).alloc (by simp) _).alloc (by simp) _⟩
 case round =>
  obtain ⟨k,hk,hi,hall,hRX,hRY,hbel⟩:=hrel
  have HALL:=veil hall
  clear hall
  cases k with
  | zero =>
   subst hi
   have hXY : X = Y:=zdd zaj hX hY fun j hj => HALL.out j (Nat.zero_le _) hj
   go_wp2
   go_ret
   have hc : cmpN X Y = 0:=by unfold cmpN; rw [if_neg (by omega),if_neg (by omega)]
   rw [hc]
   exact ⟨rfl,hbel⟩
  | succ m =>
   obtain rfl : _ = Value.int .i64 (m : Int):=hi.trans (by congr 1; omega)
   have hm : m < 4:=by omega
   go_wp2
   have c1:=hRX.cell hm
   have c2:=hRY.cell hm
   rcases Nat.lt_trichotomy (dg w64 X m) (dg w64 Y m) with h | h | h
   ·
    have hlt:=wd_cmp h
    have hne : (wd X m != wd Y m) = true:=by rw [bne_iff_ne]; omega
    have hc : cmpN X Y = -1:=by rw [cmp_high w64 X Y 4 m zaj hX hY hm (fun j h1 h2 => HALL.out j (by omega) h2) (by omega),if_pos h]
    have HC:=veil hc
    clear hc
    go_quiet (fail)
    go_wp2
    go_quiet ((go_at_call 140; exact quiet_more (compare_lt _ _ hlt _)))
    go_wp2
    go_ret
    rw [HC.out]
    exact ⟨rfl,zan (zan hbel _) _⟩
   ·
    have hne : (wd X m != wd Y m) = false:=by unfold wd; rw [h]; simp
    go_quiet (fail)
    go_wp2
    go_roundw
    case rel => exact ⟨m,by omega,by go_num,fun j h1 h2 => by
     by_cases e : j = m
     ·
      rw [e]; exact h
     ·
      exact HALL.out j (by omega) h2,zaw hRX _,zaw hRY _,zan hbel _⟩
    case measure => simp [intOf]
   ·
    have hlt:=wd_cmp h
    have hne : (wd X m != wd Y m) = true:=by rw [bne_iff_ne]; omega
    have hc : cmpN X Y = 1:=by rw [cmp_high w64 X Y 4 m zaj hX hY hm (fun j h1 h2 => HALL.out j (by omega) h2) (by omega),if_neg (by omega)]
    have HC:=veil hc
    clear hc
    go_quiet (fail)
    go_wp2
    go_quiet ((go_at_call 140; exact quiet_more (compare_gt _ _ hlt _)))
    go_wp2
    go_ret
    rw [HC.out]
    exact ⟨rfl,zan (zan hbel _) _⟩
theorem ret_u2' {a b c d : Int} (h : a = b) (h2 : c = d) : Ending.returned (.tuple #[vI vU a,vI vU c]) = .returned (.tuple #[vI vU b,vI vU d]):=by rw [h,h2]
theorem gadd_core (x y c : Int) (hx : 0 ≤ x) (hx2 : x ≤ 18446744073709551615) (hy : 0 ≤ y) (hy2 : y ≤ 18446744073709551615) (hc : 0 ≤ c) (hc2 : c ≤ 1) (w : World) :
  Calls Tryz.prog 107 #[vI vU x,vI vU y,vI vU c] w fun e w' => e = .returned (.tuple #[vI vU ((x + y + c) % 18446744073709551616),vI vU ((x + y + c) / 18446744073709551616)]) ∧ w' = w:=by
 obtain ⟨s,hs⟩ : ∃ s,s = (x + y) % 18446744073709551616:=⟨_,rfl⟩
 obtain ⟨t,ht⟩ : ∃ t,t = (s + c) % 18446744073709551616:=⟨_,rfl⟩
 have e1 : IntKind.u64.wrap (x + y) = s:=by rw [IntKind.wrap_u64,hs]
 have e2 : IntKind.u64.wrap (s + c) = t:=by rw [IntKind.wrap_u64,ht]
 have et : t = (x + y + c) % 18446744073709551616:=by omega
 have E:=veil et
 by_cases h1 : s < x
 ·
  have h2 : ¬ t < s:=by omega
  have eo : (x + y + c) / 18446744073709551616 = 1:=by omega
  have EO:=veil eo
  clear et eo hs ht hx hx2 hy hy2 hc hc2
  go_enter Tryz.func107,Tryz.ntmps107
  go_wp2
  go_ret2
  rw [EO.out,← E.out]
  exact ⟨ret_u2' (by first | rfl | (rw [e1,e2]) | (rw [e2])) rfl,rfl⟩
 ·
  by_cases h2 : t < s
  ·
   have eo : (x + y + c) / 18446744073709551616 = 1:=by omega
   have EO:=veil eo
   clear et eo hs ht hx hx2 hy hy2 hc hc2
   go_enter Tryz.func107,Tryz.ntmps107
   go_wp2
   go_ret2
   rw [EO.out,← E.out]
   exact ⟨ret_u2' (by first | rfl | (rw [e1,e2]) | (rw [e2])) rfl,rfl⟩
  ·
   have eo : (x + y + c) / 18446744073709551616 = 0:=by omega
   have EO:=veil eo
   clear et eo hs ht hx hx2 hy hy2 hc hc2
   go_enter Tryz.func107,Tryz.ntmps107
   go_wp2
   go_ret2
   rw [EO.out,← E.out]
   exact ⟨ret_u2' (by first | rfl | (rw [e1,e2]) | (rw [e2])) rfl,rfl⟩
theorem gadd_at (X Y k : Nat) (w : World) :
  Calls Tryz.prog 107 #[vI vU (wd X k),vI vU (wd Y k),vI vU (cyI X Y k)] w fun e w' => e = .returned (.tuple #[vI vU (wd (X + Y) k),vI vU (cyI X Y (k + 1))]) ∧ w = w':=by
 have hc:=cy_le zaj X Y k
 have h:=gadd_core (wd X k) (wd Y k) (cyI X Y k) (wd_lo _ _) (wd_le _ _) (wd_lo _ _) (wd_le _ _) (by unfold cyI; omega) (by unfold cyI; omega) w
 have e1 : (wd X k + wd Y k + cyI X Y k) % 18446744073709551616 = wd (X + Y) k:=by
  unfold wd cyI; rw [dg_add zaj]; unfold w64; simp
 have e2 : (wd X k + wd Y k + cyI X Y k) / 18446744073709551616 = cyI X Y (k + 1):=by
  unfold wd cyI; rw [cy_succ zaj]; unfold w64; simp
 rw [e1,e2] at h
 exact h.mono fun _ _ ⟨a,b⟩ => ⟨a,b.symm⟩
theorem row_mix {X Z k : Nat} (_hk : k < 4) : ∀ i,i < 4 → (if i = k then Value.int .u64 (wd Z k) else Value.int .u64 (if i < k then wd Z i else wd X i)) = Value.int .u64 (if i < k + 1 then wd Z i else wd X i):=by
 intro i _
 by_cases h : i = k
 ·
  subst h; simp
 ·
  rw [if_neg h]; by_cases h2 : i < k
  ·
   rw [if_pos h2,if_pos (by omega)]
  ·
   rw [if_neg h2,if_neg (by omega)]
theorem cyI_one {X Y : Nat} (hX : X < top) (hY : Y < top) : (cyI X Y 4 == 1) = decide (top ≤ X + Y):=by
 unfold cyI
 rw [cy_top (n:=4) hX hY]
 show _ = decide (w64 ^ 4 ≤ X + Y)
 by_cases h : w64 ^ 4 ≤ X + Y <;> simp [h]
theorem plus_any (X Y : Nat) (hX : X < top) (hY : Y < top) (w : World) :
  Calls Tryz.prog 73 #[.agg #[vI vU (wd X 0),vI vU (wd X 1),vI vU (wd X 2),vI vU (wd X 3)],.agg #[vI vU (wd Y 0),vI vU (wd Y 1),vI vU (wd Y 2),vI vU (wd Y 3)]] w fun e w' => e = .returned (.tuple #[.agg #[vI vU (wd (X + Y) 0),vI vU (wd (X + Y) 1),vI vU (wd (X + Y) 2),vI vU (wd (X + Y) 3)],.bool (decide (top ≤ X + Y))]) ∧ Below w.heap.size w w':=by
 have HG:=veil (fun (k : Nat) (W : World) => gadd_at X Y k W)
 go_enter Tryz.func73,Tryz.ntmps73
 go_wp2
 go_loopw [6,7] (fun c i wr => ∃ k : Nat,k ≤ 4 ∧ i = .int .i64 k ∧ c = .int .u64 (cyI X Y k) ∧ wr.rowIs w.heap.size 27 4 (fun j => .int .u64 (if j < k then wd (X + Y) j else wd X j))
   ∧ wr.rowIs (w.heap.size + 1) 27 4 (fun j => .int .u64 (wd Y j)) ∧ wr.rowIs (w.heap.size + 1 + 1) 27 4 (fun _ => .int .u64 0) ∧ Below w.heap.size w wr)
  (fun _ i _ => 4 - (intOf i).toNat)
 case atStart => exact ⟨0,by omega,rfl,by simp [cyI,cy_zero],(((zac (n:=4) (by simp) rfl (arr4 fun j => .int .u64 (wd X j))).alloc _).alloc _).congr (fun j _ => by simp),(zac (n:=4) (by simp) rfl (arr4 fun j => .int .u64 (wd Y j))).alloc _,zac (n:=4) (by simp) rfl (arr4 fun _ => .int .u64 0),(((Below.refl _ _).alloc (by simp) _).alloc (by simp) _).alloc (by simp; omega) _⟩
 case round =>
  obtain ⟨k,hk,rfl,rfl,hRX,hRY,hRZ,hbel⟩:=hrel
  by_cases hlt : k < 4
  ·
   have c1:=hRX.cell hlt
   have c2:=hRY.cell hlt
   have f1:=hRX.frozen k
   rw [if_neg (by omega)] at c1
   go_wp2
   go_region_with (go_at_call 107; refine (HG.out _ _).mono ?_; rintro e w' ⟨rfl,rfl⟩)
   all_goals
    go_wp2
    go_roundw
    case rel => exact ⟨k + 1,by omega,by go_num,rfl,((hRX.set k _).congr (row_mix hlt)).drew,(zaq hRY (by omega) _).drew,(zaq hRZ (by omega) _).drew,(zai hbel (by omega) _).drew⟩
    case measure => simp [intOf]; omega
  ·
   obtain rfl : k = 4:=by omega
   obtain ⟨c0,c1,c2,c3⟩:=zab hRX
   obtain ⟨d0,d1,d2,d3⟩:=zab hRZ
   obtain ⟨f0,f1,f2,f3⟩:=zag hRZ
   simp only [show (0 : Nat) < 4 from by omega,show (1 : Nat) < 4 from by omega,show (2 : Nat) < 4 from by omega,show (3 : Nat) < 4 from by omega,if_true] at c0 c1 c2 c3
   have hz:=cyI_one hX hY
   clear hRX hRY
   go_wp2
   refine bodyPost_ret (zbm rfl _ _ (w.heap.size + 1 + 1) 27 #[vI vU (wd (X + Y) 0),vI vU (wd (X + Y) 1),vI vU (wd (X + Y) 2),vI vU (wd (X + Y) 3)] (0,0) 4 25 rfl (blk4 (put4 hRZ fun j => .int .u64 (wd (X + Y) j))) Tryz.underlying27 (by kernel_rfl)) rfl ⟨?_,zae hbel (by omega) _ _ _ _⟩
   rfl
theorem zdv (X Y : Nat) (hX : X < top) (hY : Y < top) (w : World) :
  Calls Tryz.prog 73 #[.agg #[vI vU (wd X 0),vI vU (wd X 1),vI vU (wd X 2),vI vU (wd X 3)],.agg #[vI vU (wd Y 0),vI vU (wd Y 1),vI vU (wd Y 2),vI vU (wd Y 3)]] w fun e w' => e = .returned (.tuple #[.agg #[vI vU (wd ((X + Y) % top) 0),vI vU (wd ((X + Y) % top) 1),vI vU (wd ((X + Y) % top) 2),vI vU (wd ((X + Y) % top) 3)],.bool (decide (top ≤ X + Y))]) ∧ Below w.heap.size w w':=by
 rw [zbw _ 0 (by omega),zbw _ 1 (by omega),zbw _ 2 (by omega),zbw _ 3 (by omega)]
 exact plus_any X Y hX hY w
theorem lt_high {X Y m : Nat} (hX : X < top) (hY : Y < top) (hm : m < 4) (h : ∀ j,m < j → j < 4 → dg w64 X j = dg w64 Y j) (hne : dg w64 X m ≠ dg w64 Y m) : decide (X < Y) = decide (wd X m < wd Y m):=by
 have hc:=cmp_high w64 X Y 4 m zaj hX hY hm h hne
 unfold cmpN at hc
 unfold wd
 by_cases h1 : dg w64 X m < dg w64 Y m
 ·
  rw [if_pos h1] at hc
  by_cases h2 : X < Y
  ·
   simp [h1,h2]
  ·
   rw [if_neg h2] at hc; split at hc <;> omega
 ·
  rw [if_neg h1] at hc
  by_cases h2 : X < Y
  ·
   rw [if_pos h2] at hc; omega
  ·
   simp [h1,h2]
theorem less_calls (X Y : Nat) (hX : X < top) (hY : Y < top) (w : World) :
  Calls Tryz.prog 74 #[.agg #[vI vU (wd X 0),vI vU (wd X 1),vI vU (wd X 2),vI vU (wd X 3)],.agg #[vI vU (wd Y 0),vI vU (wd Y 1),vI vU (wd Y 2),vI vU (wd Y 3)]] w fun e w' => e = .returned (.bool (decide (X < Y))) ∧ Below w.heap.size w w':=by
 go_enter Tryz.func74,Tryz.ntmps74
 go_wp2
 go_loopw [5] (fun i wr => ∃ k : Nat,k ≤ 4 ∧ i = .int .i64 ((k : Int) - 1) ∧ (∀ j,k ≤ j → j < 4 → dg w64 X j = dg w64 Y j) ∧ wr.rowIs w.heap.size 27 4 (fun j => .int .u64 (wd X j))
   ∧ wr.rowIs (w.heap.size + 1) 27 4 (fun j => .int .u64 (wd Y j)) ∧ Below w.heap.size w wr)
  (fun i _ => (intOf i + 1).toNat)
 case atStart => exact ⟨4,by omega,rfl,by intro j h1 h2; omega,(zac (n:=4) (by simp) rfl (arr4 fun j => .int .u64 (wd X j))).alloc _,zac (n:=4) (by simp) rfl (arr4 fun j => .int .u64 (wd Y j)),((Below.refl _ _).alloc (by simp) _).alloc (by simp) _⟩
 case round =>
  obtain ⟨k,hk,hi,hall,hRX,hRY,hbel⟩:=hrel
  have HALL:=veil hall
  clear hall
  cases k with
  | zero =>
   subst hi
   have hXY : X = Y:=zdd zaj hX hY fun j hj => HALL.out j (Nat.zero_le _) hj
   have HXY:=veil hXY
   clear hXY
   go_wp2
   go_ret
   rw [show decide (X < Y) = false by rw [HXY.out]; simp]
   exact ⟨rfl,hbel⟩
  | succ m =>
   obtain rfl : _ = Value.int .i64 (m : Int):=hi.trans (by congr 1; omega)
   have hm : m < 4:=by omega
   go_wp2
   have c1:=hRX.cell hm
   have c2:=hRY.cell hm
   by_cases h : dg w64 X m = dg w64 Y m
   ·
    have hne : (wd X m != wd Y m) = false:=by unfold wd; rw [h]; simp
    go_quiet (fail)
    go_wp2
    go_roundw
    case rel => exact ⟨m,by omega,by go_num,fun j h1 h2 => by
     by_cases e : j = m
     ·
      rw [e]; exact h
     ·
      exact HALL.out j (by omega) h2,zaw hRX _,zaw hRY _,zan hbel _⟩
    case measure => simp [intOf]
   ·
    have hne : (wd X m != wd Y m) = true:=by rw [bne_iff_ne]; unfold wd; omega
    have HC:=veil (lt_high hX hY hm (fun j h1 h2 => HALL.out j (by omega) h2) h)
    clear h
    go_quiet (fail)
    go_wp2
    go_quiet (fail)
    go_wp2
    go_ret
    rw [HC.out]
    exact ⟨rfl,zan (zan hbel _) _⟩
theorem dg_ones {B : Nat} (hB : 0 < B) (n i : Nat) (hi : i < n) : dg B (B ^ n - 1) i = B - 1:=by
 obtain ⟨d,rfl⟩ : ∃ d,n = i + (d + 1):=⟨n - i - 1,by omega⟩
 have hp : 0 < B ^ i:=Nat.pow_pos hB
 have hd : 0 < B ^ d:=Nat.pow_pos hB
 have e : B ^ (i + (d + 1)) - 1 = (B ^ i - 1) + B ^ i * (B ^ (d + 1) - 1):=by
  rw [Nat.pow_add,Nat.mul_sub,Nat.mul_one]
  have : B ^ i ≤ B ^ i * B ^ (d + 1):=Nat.le_mul_of_pos_right _ (Nat.pow_pos hB)
  omega
 have e2 : B ^ (d + 1) - 1 = (B - 1) + B * (B ^ d - 1):=by
  rw [Nat.pow_succ,Nat.mul_comm,Nat.mul_sub,Nat.mul_one]
  have : B ≤ B * B ^ d:=Nat.le_mul_of_pos_right _ hd
  omega
 unfold dg
 rw [e,Nat.add_mul_div_left _ _ hp,Nat.div_eq_of_lt (by omega),Nat.zero_add,e2,Nat.add_mul_mod_self_left,Nat.mod_eq_of_lt (by omega)]
theorem dg_comp {B : Nat} (hB : 0 < B) (Y n i : Nat) (hi : i < n) (hY : Y < B ^ n) : dg B (B ^ n - 1 - Y) i = B - 1 - dg B Y i:=by
 have h:=dg_sub hB (B ^ n - 1) Y n i hi (Nat.le_of_lt hY)
 have e : dg B (B ^ n - 1 + B ^ n - Y) i = dg B (B ^ n - 1 - Y) i:=by
  rw [show B ^ n - 1 + B ^ n - Y = (B ^ n - 1 - Y) + B ^ n by omega,← zbx _ n i hi,Nat.add_mod_right,zbx _ n i hi]
 have hb : bw B (B ^ n - 1) Y i = 0:=by
  have hp : 0 < B ^ i:=Nat.pow_pos hB
  unfold bw
  have e2 : (B ^ n - 1) % B ^ i = B ^ i - 1:=by
   obtain ⟨d,rfl⟩ : ∃ d,n = i + d:=⟨n - i,by omega⟩
   have : B ^ i ≤ B ^ i * B ^ d:=Nat.le_mul_of_pos_right _ (Nat.pow_pos hB)
   rw [Nat.pow_add,show B ^ i * B ^ d - 1 = (B ^ i - 1) + B ^ i * (B ^ d - 1) by rw [Nat.mul_sub,Nat.mul_one]; omega,Nat.add_mul_mod_self_left,Nat.mod_eq_of_lt (by omega)]
  have h1:=Nat.mod_lt Y hp
  rw [e2,if_neg (by omega)]
 have hl:=dg_lt hB Y i
 rw [e,hb,dg_ones hB n i hi] at h
 rw [h,Nat.mod_eq_sub_mod (by omega),Nat.mod_eq_of_lt (by omega)]
 omega
theorem wd_comp {Y i : Nat} (hY : Y < top) (hi : i < 4) : 18446744073709551615 - wd Y i = wd (top - 1 - Y) i:=by
 have h:=dg_comp zaj Y 4 i hi hY
 have hl:=dg_lt zaj Y i
 unfold wd top
 rw [h]
 unfold w64 at *
 omega
theorem minus_num {X Y : Nat} (hY : Y < top) : ((X + (top - 1 - Y)) % top + 1) % top = (X + top - Y) % top:=by
 rw [Nat.mod_add_mod,show X + (top - 1 - Y) + 1 = X + top - Y by omega]
theorem minus_calls (X Y : Nat) (hX : X < top) (hY : Y < top) (w : World) :
  Calls Tryz.prog 75 #[.agg #[vI vU (wd X 0),vI vU (wd X 1),vI vU (wd X 2),vI vU (wd X 3)],.agg #[vI vU (wd Y 0),vI vU (wd Y 1),vI vU (wd Y 2),vI vU (wd Y 3)]] w fun e w' => e = .returned (.agg #[vI vU (wd ((X + top - Y) % top) 0),vI vU (wd ((X + top - Y) % top) 1),vI vU (wd ((X + top - Y) % top) 2),vI vU (wd ((X + top - Y) % top) 3)]) ∧ Below w.heap.size w w':=by
 obtain ⟨D,hD⟩ : ∃ D,D = (X + top - Y) % top:=⟨_,rfl⟩
 rw [← hD]
 have HD:=veil hD
 clear hD
 go_enter Tryz.func75,Tryz.ntmps75
 go_wp2
 go_loopw [5] (fun i wr => ∃ k : Nat,k ≤ 4 ∧ i = .int .i64 k ∧ wr.rowIs w.heap.size 27 4 (fun j => .int .u64 (wd X j))
   ∧ wr.rowIs (w.heap.size + 1) 27 4 (fun j => .int .u64 (if j < k then wd (top - 1 - Y) j else wd Y j)) ∧ wr.rowIs (w.heap.size + 1 + 1) 27 4 (fun _ => .int .u64 0) ∧ Below w.heap.size w wr)
  (fun i _ => 4 - (intOf i).toNat)
 case atStart => exact ⟨0,by omega,rfl,((zac (n:=4) (by simp) rfl (arr4 fun j => .int .u64 (wd X j))).alloc _).alloc _,((zac (n:=4) (by simp) rfl (arr4 fun j => .int .u64 (wd Y j))).alloc _).congr (fun j _ => by simp),zac (n:=4) (by simp) rfl (arr4 fun _ => .int .u64 0),(((Below.refl _ _).alloc (by simp) _).alloc (by simp) _).alloc (by simp; omega) _⟩
 case round =>
  obtain ⟨k,hk,rfl,hRX,hRY,hRZ,hbel⟩:=hrel
  by_cases hlt : k < 4
  ·
   have c2:=hRY.cell hlt
   have f2:=hRY.frozen k
   rw [if_neg (by omega)] at c2
   have l1:=wd_lo Y k
   have u1:=wd_le Y k
   have HC:=veil (wd_comp hY hlt)
   go_wp2
   go_roundw
   case rel =>
    rw [HC.out]
    exact ⟨k + 1,by omega,by go_num,zaq hRX (by omega) _,(hRY.set k _).congr (row_mix hlt),zaq hRZ (by omega) _,zai hbel (by omega) _⟩
   case measure => simp [intOf]; omega
  ·
   obtain rfl : k = 4:=by omega
   have hRY:=hRY.congr (g:=fun j => .int .u64 (wd (top - 1 - Y) j)) (fun j hj => by rw [if_pos hj])
   obtain ⟨c0,c1,c2,c3⟩:=zab hRX
   obtain ⟨b0,b1,b2,b3⟩:=zab hRY
   obtain ⟨S,hS⟩ : ∃ S,S = (X + (top - 1 - Y)) % top:=⟨_,rfl⟩
   have hSt : S < top:=by rw [hS]; exact Nat.mod_lt _ zbe
   have h1:=fun W => zdv X (top - 1 - Y) hX (by omega) W
   have h2:=fun W => zdv S 1 hSt (by decide) W
   rw [← hS] at h1
   rw [hS,minus_num hY,← hS,← HD.out] at h2
   have H1:=veil h1
   have o0 : wd 1 0 = 1:=by decide
   have o1 : wd 1 1 = 0:=by decide
   have o2 : wd 1 2 = 0:=by decide
   have o3 : wd 1 3 = 0:=by decide
   rw [o0,o1,o2,o3] at h2
   have H2:=veil h2
   clear h1 h2 hS o0 o1 o2 o3
   go_wp2_with fail
   refine (H1.out _).mono ?_
   rintro e w3 ⟨rfl,hb3⟩
   clear c0 c1 c2 c3 b0 b1 b2 b3
   have hRZ3:=zaa hRZ hb3 hRZ.lt
   have hB3:=hbel.trans (hb3.mono hbel.size)
   have hS4 : (w3.alloc (.cells #[vI vU (wd S 0),vI vU (wd S 1),vI vU (wd S 2),vI vU (wd S 3)] 27)).rowIs w3.heap.size 27 4 (fun j => .int .u64 (wd S j)):=zac (n:=4) rfl rfl (arr4 fun j => .int .u64 (wd S j))
   have hRZ4:=hRZ3.alloc (.cells #[vI vU (wd S 0),vI vU (wd S 1),vI vU (wd S 2),vI vU (wd S 3)] 27)
   have hB4:=hB3.alloc hB3.size (.cells #[vI vU (wd S 0),vI vU (wd S 1),vI vU (wd S 2),vI vU (wd S 3)] 27)
   have nz:=hRZ3.lt
   clear hRX hRY hRZ hbel hb3 hRZ3 hB3
   go_wp2_with fail
   refine (H2.out _).mono ?_
   rintro e w5 ⟨rfl,hb5⟩
   have hS5:=zaa hS4 hb5 hS4.lt
   have hRZ5:=zaa hRZ4 hb5 hRZ4.lt
   have hB5:=hB4.trans (hb5.mono hB4.size)
   clear hS4 hRZ4 hB4 hb5
   obtain ⟨t0,t1,t2,t3⟩:=zag hS5
   obtain ⟨v0,v1,v2,v3⟩:=zab hS5
   go_upto_region 7 with (fail)
   have hTz:=put4 hS5 (fun j => .int .u64 (wd D j))
   have hZz:=zam hRZ5 (Nat.ne_of_lt nz) (.int .u64 (wd D 0)) (.int .u64 (wd D 1)) (.int .u64 (wd D 2)) (.int .u64 (wd D 3))
   have hBz:=zae (b:=w3.heap.size) hB5 (by omega) (.int .u64 (wd D 0)) (.int .u64 (wd D 1)) (.int .u64 (wd D 2)) (.int .u64 (wd D 3))
   clear v0 v1 v2 v3 t0 t1 t2 t3 hS5 hRZ5 hB5
   generalize ((((w5.setCell ⟨w3.heap.size,0,none⟩ (.int .u64 (wd D 0))).setCell ⟨w3.heap.size,1,none⟩ (.int .u64 (wd D 1))).setCell ⟨w3.heap.size,2,none⟩ (.int .u64 (wd D 2))).setCell ⟨w3.heap.size,3,none⟩ (.int .u64 (wd D 3))) = wz at *
   obtain ⟨p0,p1,p2,p3⟩:=zab hTz
   obtain ⟨d0,d1,d2,d3⟩:=zab hZz
   obtain ⟨f0,f1,f2,f3⟩:=zag hZz
   go_wp2
   refine bodyPost_ret (results_cell_row rfl _ _ (w.heap.size + 1 + 1) 27 #[vI vU (wd D 0),vI vU (wd D 1),vI vU (wd D 2),vI vU (wd D 3)] (0,0) _ rfl (blk4 (put4 hZz fun j => .int .u64 (wd D j))) Tryz.underlying27 rfl (by kernel_rfl)) rfl ⟨rfl,zae hBz (by omega) _ _ _ _⟩
theorem gsum_num {X Y M : Nat} (hX : X < M) (hY : Y < M) (hM : M ≤ top) : (X + Y) % M = if top ≤ X + Y ∨ ¬ (X + Y) % top < M then ((X + Y) % top + top - M) % top else (X + Y) % top:=by
 generalize top = t at *
 by_cases h : t ≤ X + Y
 ·
  rw [if_pos (Or.inl h),Nat.mod_eq_sub_mod (show t ≤ X + Y from h),Nat.mod_eq_of_lt (show X + Y - t < t by omega),show X + Y - t + t - M = X + Y - M by omega,Nat.mod_eq_of_lt (show X + Y - M < t by omega)]
  rw [Nat.mod_eq_sub_mod (by omega),Nat.mod_eq_of_lt (by omega)]
 ·
  rw [Nat.mod_eq_of_lt (show X + Y < t by omega)]
  by_cases h2 : X + Y < M
  ·
   rw [if_neg (by omega),Nat.mod_eq_of_lt h2]
  ·
   rw [if_pos (Or.inr h2),Nat.mod_eq_sub_mod (show M ≤ X + Y by omega),Nat.mod_eq_of_lt (show X + Y - M < M by omega),show X + Y + t - M = (X + Y - M) + t by omega,Nat.add_mod_right,Nat.mod_eq_of_lt (by omega)]
theorem plus_is (X Y Z : Nat) (u : Bool) (h : (X + Y) % top = Z) (h2 : decide (top ≤ X + Y) = u) (hX : X < top) (hY : Y < top) (w : World) :
  Calls Tryz.prog 73 #[.agg #[vI vU (wd X 0),vI vU (wd X 1),vI vU (wd X 2),vI vU (wd X 3)],.agg #[vI vU (wd Y 0),vI vU (wd Y 1),vI vU (wd Y 2),vI vU (wd Y 3)]] w fun e w' => e = .returned (.tuple #[.agg #[vI vU (wd Z 0),vI vU (wd Z 1),vI vU (wd Z 2),vI vU (wd Z 3)],.bool u]) ∧ Below w.heap.size w w':=by
 subst h; subst h2; exact zdv X Y hX hY w
theorem less_is (X Y : Nat) (u : Bool) (h : decide (X < Y) = u) (hX : X < top) (hY : Y < top) (w : World) :
  Calls Tryz.prog 74 #[.agg #[vI vU (wd X 0),vI vU (wd X 1),vI vU (wd X 2),vI vU (wd X 3)],.agg #[vI vU (wd Y 0),vI vU (wd Y 1),vI vU (wd Y 2),vI vU (wd Y 3)]] w fun e w' => e = .returned (.bool u) ∧ Below w.heap.size w w':=by
 subst h; exact less_calls X Y hX hY w
theorem zei (X Y Z : Nat) (h : (X + top - Y) % top = Z) (hX : X < top) (hY : Y < top) (w : World) :
  Calls Tryz.prog 75 #[.agg #[vI vU (wd X 0),vI vU (wd X 1),vI vU (wd X 2),vI vU (wd X 3)],.agg #[vI vU (wd Y 0),vI vU (wd Y 1),vI vU (wd Y 2),vI vU (wd Y 3)]] w fun e w' => e = .returned (.agg #[vI vU (wd Z 0),vI vU (wd Z 1),vI vU (wd Z 2),vI vU (wd Z 3)]) ∧ Below w.heap.size w w':=by
 subst h; exact minus_calls X Y hX hY w
theorem gadd_over (X Y M S D : Nat) (hX : X < top) (hY : Y < top) (hM : M < top) (hS : (X + Y) % top = S) (hu : decide (top ≤ X + Y) = true) (hD : (S + top - M) % top = D) (w : World) :
  Calls Tryz.prog 43 #[.agg #[vI vU (wd X 0),vI vU (wd X 1),vI vU (wd X 2),vI vU (wd X 3)],.agg #[vI vU (wd Y 0),vI vU (wd Y 1),vI vU (wd Y 2),vI vU (wd Y 3)],.agg #[vI vU (wd M 0),vI vU (wd M 1),vI vU (wd M 2),vI vU (wd M 3)]] w fun e w' => e = .returned (.agg #[vI vU (wd D 0),vI vU (wd D 1),vI vU (wd D 2),vI vU (wd D 3)]) ∧ Below w.heap.size w w':=by
 have hSt : S < top:=by rw [← hS]; exact Nat.mod_lt _ zbe
 have HS:=veil hS
 have HU:=veil hu
 have HD:=veil hD
 clear hS hu hD
 have hX0 : ((((w.alloc (.cells #[vI vU (wd X 0),vI vU (wd X 1),vI vU (wd X 2),vI vU (wd X 3)] 27)).alloc (.cells #[vI vU (wd Y 0),vI vU (wd Y 1),vI vU (wd Y 2),vI vU (wd Y 3)] 27)).alloc (.cells #[vI vU (wd M 0),vI vU (wd M 1),vI vU (wd M 2),vI vU (wd M 3)] 27)).alloc (.cells #[vI vU 0,vI vU 0,vI vU 0,vI vU 0] 27)).rowIs w.heap.size 27 4 (fun j => .int .u64 (wd X j)):=(((zac (n:=4) (by simp) rfl (arr4 fun j => .int .u64 (wd X j))).alloc _).alloc _).alloc _
 have hY0 : ((((w.alloc (.cells #[vI vU (wd X 0),vI vU (wd X 1),vI vU (wd X 2),vI vU (wd X 3)] 27)).alloc (.cells #[vI vU (wd Y 0),vI vU (wd Y 1),vI vU (wd Y 2),vI vU (wd Y 3)] 27)).alloc (.cells #[vI vU (wd M 0),vI vU (wd M 1),vI vU (wd M 2),vI vU (wd M 3)] 27)).alloc (.cells #[vI vU 0,vI vU 0,vI vU 0,vI vU 0] 27)).rowIs (w.heap.size + 1) 27 4 (fun j => .int .u64 (wd Y j)):=((zac (n:=4) (by simp) rfl (arr4 fun j => .int .u64 (wd Y j))).alloc _).alloc _
 have hM0 : ((((w.alloc (.cells #[vI vU (wd X 0),vI vU (wd X 1),vI vU (wd X 2),vI vU (wd X 3)] 27)).alloc (.cells #[vI vU (wd Y 0),vI vU (wd Y 1),vI vU (wd Y 2),vI vU (wd Y 3)] 27)).alloc (.cells #[vI vU (wd M 0),vI vU (wd M 1),vI vU (wd M 2),vI vU (wd M 3)] 27)).alloc (.cells #[vI vU 0,vI vU 0,vI vU 0,vI vU 0] 27)).rowIs (w.heap.size + 1 + 1) 27 4 (fun j => .int .u64 (wd M j)):=(zac (n:=4) (by simp) rfl (arr4 fun j => .int .u64 (wd M j))).alloc _
 have hZ0 : ((((w.alloc (.cells #[vI vU (wd X 0),vI vU (wd X 1),vI vU (wd X 2),vI vU (wd X 3)] 27)).alloc (.cells #[vI vU (wd Y 0),vI vU (wd Y 1),vI vU (wd Y 2),vI vU (wd Y 3)] 27)).alloc (.cells #[vI vU (wd M 0),vI vU (wd M 1),vI vU (wd M 2),vI vU (wd M 3)] 27)).alloc (.cells #[vI vU 0,vI vU 0,vI vU 0,vI vU 0] 27)).rowIs (w.heap.size + 1 + 1 + 1) 27 4 (fun _ => .int .u64 0):=zac (n:=4) (by simp) rfl (arr4 fun _ => .int .u64 0)
 have hB0 : Below w.heap.size w ((((w.alloc (.cells #[vI vU (wd X 0),vI vU (wd X 1),vI vU (wd X 2),vI vU (wd X 3)] 27)).alloc (.cells #[vI vU (wd Y 0),vI vU (wd Y 1),vI vU (wd Y 2),vI vU (wd Y 3)] 27)).alloc (.cells #[vI vU (wd M 0),vI vU (wd M 1),vI vU (wd M 2),vI vU (wd M 3)] 27)).alloc (.cells #[vI vU 0,vI vU 0,vI vU 0,vI vU 0] 27)):=((((Below.refl _ _).alloc (by simp) _).alloc (by simp) _).alloc (by simp; omega) _).alloc (by simp; omega) _
 go_enter Tryz.func43,Tryz.ntmps43
 obtain ⟨a0,a1,a2,a3⟩:=zab hX0
 obtain ⟨b0,b1,b2,b3⟩:=zab hY0
 go_wp2_with fail
 refine (plus_is X Y S true HS.out HU.out hX hY _).mono ?_
 rintro e w1 ⟨rfl,hb1⟩
 clear a0 a1 a2 a3 b0 b1 b2 b3
 have hM1:=zaa hM0 hb1 hM0.lt
 have hZ1:=zaa hZ0 hb1 hZ0.lt
 have hB1:=hB0.trans (hb1.mono hB0.size)
 have hS2 : (w1.alloc (.cells #[vI vU (wd S 0),vI vU (wd S 1),vI vU (wd S 2),vI vU (wd S 3)] 27)).rowIs w1.heap.size 27 4 (fun j => .int .u64 (wd S j)):=zac (n:=4) rfl rfl (arr4 fun j => .int .u64 (wd S j))
 have hM2:=hM1.alloc (.cells #[vI vU (wd S 0),vI vU (wd S 1),vI vU (wd S 2),vI vU (wd S 3)] 27)
 have hZ2:=hZ1.alloc (.cells #[vI vU (wd S 0),vI vU (wd S 1),vI vU (wd S 2),vI vU (wd S 3)] 27)
 have hB2:=hB1.alloc hB1.size (.cells #[vI vU (wd S 0),vI vU (wd S 1),vI vU (wd S 2),vI vU (wd S 3)] 27)
 have nz:=hZ1.lt
 have nm:=hM1.lt
 clear hX0 hY0 hM0 hZ0 hB0 hb1 hM1 hZ1 hB1
 obtain ⟨s0,s1,s2,s3⟩:=zab hS2
 obtain ⟨m0,m1,m2,m3⟩:=zab hM2
 go_wp2_with fail
 refine (zei S M D HD.out hSt hM _).mono ?_
 rintro e w5 ⟨rfl,hb5⟩
 clear s0 s1 s2 s3 m0 m1 m2 m3
 have hS5:=zaa hS2 hb5 hS2.lt
 have hZ5:=zaa hZ2 hb5 hZ2.lt
 have hB5:=hB2.trans (hb5.mono hB2.size)
 clear hS2 hM2 hZ2 hB2 hb5
 obtain ⟨t0,t1,t2,t3⟩:=zag hS5
 obtain ⟨v0,v1,v2,v3⟩:=zab hS5
 go_upto_region 4 with (fail)
 have hTz:=put4 hS5 (fun j => .int .u64 (wd D j))
 have hZz:=zam hZ5 (Nat.ne_of_lt nz) (.int .u64 (wd D 0)) (.int .u64 (wd D 1)) (.int .u64 (wd D 2)) (.int .u64 (wd D 3))
 have hBz:=zae (b:=w1.heap.size) hB5 (by omega) (.int .u64 (wd D 0)) (.int .u64 (wd D 1)) (.int .u64 (wd D 2)) (.int .u64 (wd D 3))
 clear v0 v1 v2 v3 t0 t1 t2 t3 hS5 hZ5 hB5
 generalize ((((w5.setCell ⟨w1.heap.size,0,none⟩ (.int .u64 (wd D 0))).setCell ⟨w1.heap.size,1,none⟩ (.int .u64 (wd D 1))).setCell ⟨w1.heap.size,2,none⟩ (.int .u64 (wd D 2))).setCell ⟨w1.heap.size,3,none⟩ (.int .u64 (wd D 3))) = wz at *
 obtain ⟨p0,p1,p2,p3⟩:=zab hTz
 obtain ⟨d0,d1,d2,d3⟩:=zab hZz
 obtain ⟨f0,f1,f2,f3⟩:=zag hZz
 go_wp2
 refine bodyPost_ret (results_cell_row rfl _ _ (w.heap.size + 1 + 1 + 1) 27 #[vI vU (wd D 0),vI vU (wd D 1),vI vU (wd D 2),vI vU (wd D 3)] (0,0) _ rfl (blk4 (put4 hZz fun j => .int .u64 (wd D j))) Tryz.underlying27 rfl (by kernel_rfl)) rfl ⟨rfl,zae hBz (by omega) _ _ _ _⟩
theorem gadd_less (X Y M S : Nat) (hX : X < top) (hY : Y < top) (hM : M < top) (hS : (X + Y) % top = S) (hu : decide (top ≤ X + Y) = false) (hl : decide (S < M) = true) (w : World) :
  Calls Tryz.prog 43 #[.agg #[vI vU (wd X 0),vI vU (wd X 1),vI vU (wd X 2),vI vU (wd X 3)],.agg #[vI vU (wd Y 0),vI vU (wd Y 1),vI vU (wd Y 2),vI vU (wd Y 3)],.agg #[vI vU (wd M 0),vI vU (wd M 1),vI vU (wd M 2),vI vU (wd M 3)]] w fun e w' => e = .returned (.agg #[vI vU (wd S 0),vI vU (wd S 1),vI vU (wd S 2),vI vU (wd S 3)]) ∧ Below w.heap.size w w':=by
 have hSt : S < top:=by rw [← hS]; exact Nat.mod_lt _ zbe
 have HS:=veil hS
 have HU:=veil hu
 have HL:=veil hl
 clear hS hu hl
 have hX0 : ((((w.alloc (.cells #[vI vU (wd X 0),vI vU (wd X 1),vI vU (wd X 2),vI vU (wd X 3)] 27)).alloc (.cells #[vI vU (wd Y 0),vI vU (wd Y 1),vI vU (wd Y 2),vI vU (wd Y 3)] 27)).alloc (.cells #[vI vU (wd M 0),vI vU (wd M 1),vI vU (wd M 2),vI vU (wd M 3)] 27)).alloc (.cells #[vI vU 0,vI vU 0,vI vU 0,vI vU 0] 27)).rowIs w.heap.size 27 4 (fun j => .int .u64 (wd X j)):=(((zac (n:=4) (by simp) rfl (arr4 fun j => .int .u64 (wd X j))).alloc _).alloc _).alloc _
 have hY0 : ((((w.alloc (.cells #[vI vU (wd X 0),vI vU (wd X 1),vI vU (wd X 2),vI vU (wd X 3)] 27)).alloc (.cells #[vI vU (wd Y 0),vI vU (wd Y 1),vI vU (wd Y 2),vI vU (wd Y 3)] 27)).alloc (.cells #[vI vU (wd M 0),vI vU (wd M 1),vI vU (wd M 2),vI vU (wd M 3)] 27)).alloc (.cells #[vI vU 0,vI vU 0,vI vU 0,vI vU 0] 27)).rowIs (w.heap.size + 1) 27 4 (fun j => .int .u64 (wd Y j)):=((zac (n:=4) (by simp) rfl (arr4 fun j => .int .u64 (wd Y j))).alloc _).alloc _
 have hM0 : ((((w.alloc (.cells #[vI vU (wd X 0),vI vU (wd X 1),vI vU (wd X 2),vI vU (wd X 3)] 27)).alloc (.cells #[vI vU (wd Y 0),vI vU (wd Y 1),vI vU (wd Y 2),vI vU (wd Y 3)] 27)).alloc (.cells #[vI vU (wd M 0),vI vU (wd M 1),vI vU (wd M 2),vI vU (wd M 3)] 27)).alloc (.cells #[vI vU 0,vI vU 0,vI vU 0,vI vU 0] 27)).rowIs (w.heap.size + 1 + 1) 27 4 (fun j => .int .u64 (wd M j)):=(zac (n:=4) (by simp) rfl (arr4 fun j => .int .u64 (wd M j))).alloc _
 have hZ0 : ((((w.alloc (.cells #[vI vU (wd X 0),vI vU (wd X 1),vI vU (wd X 2),vI vU (wd X 3)] 27)).alloc (.cells #[vI vU (wd Y 0),vI vU (wd Y 1),vI vU (wd Y 2),vI vU (wd Y 3)] 27)).alloc (.cells #[vI vU (wd M 0),vI vU (wd M 1),vI vU (wd M 2),vI vU (wd M 3)] 27)).alloc (.cells #[vI vU 0,vI vU 0,vI vU 0,vI vU 0] 27)).rowIs (w.heap.size + 1 + 1 + 1) 27 4 (fun _ => .int .u64 0):=zac (n:=4) (by simp) rfl (arr4 fun _ => .int .u64 0)
 have hB0 : Below w.heap.size w ((((w.alloc (.cells #[vI vU (wd X 0),vI vU (wd X 1),vI vU (wd X 2),vI vU (wd X 3)] 27)).alloc (.cells #[vI vU (wd Y 0),vI vU (wd Y 1),vI vU (wd Y 2),vI vU (wd Y 3)] 27)).alloc (.cells #[vI vU (wd M 0),vI vU (wd M 1),vI vU (wd M 2),vI vU (wd M 3)] 27)).alloc (.cells #[vI vU 0,vI vU 0,vI vU 0,vI vU 0] 27)):=((((Below.refl _ _).alloc (by simp) _).alloc (by simp) _).alloc (by simp; omega) _).alloc (by simp; omega) _
 go_enter Tryz.func43,Tryz.ntmps43
 obtain ⟨a0,a1,a2,a3⟩:=zab hX0
 obtain ⟨b0,b1,b2,b3⟩:=zab hY0
 go_wp2_with fail
 refine (plus_is X Y S false HS.out HU.out hX hY _).mono ?_
 rintro e w1 ⟨rfl,hb1⟩
 clear a0 a1 a2 a3 b0 b1 b2 b3
 have hM1:=zaa hM0 hb1 hM0.lt
 have hZ1:=zaa hZ0 hb1 hZ0.lt
 have hB1:=hB0.trans (hb1.mono hB0.size)
 have hS2 : (w1.alloc (.cells #[vI vU (wd S 0),vI vU (wd S 1),vI vU (wd S 2),vI vU (wd S 3)] 27)).rowIs w1.heap.size 27 4 (fun j => .int .u64 (wd S j)):=zac (n:=4) rfl rfl (arr4 fun j => .int .u64 (wd S j))
 have hM2:=hM1.alloc (.cells #[vI vU (wd S 0),vI vU (wd S 1),vI vU (wd S 2),vI vU (wd S 3)] 27)
 have hZ2:=hZ1.alloc (.cells #[vI vU (wd S 0),vI vU (wd S 1),vI vU (wd S 2),vI vU (wd S 3)] 27)
 have hB2:=hB1.alloc hB1.size (.cells #[vI vU (wd S 0),vI vU (wd S 1),vI vU (wd S 2),vI vU (wd S 3)] 27)
 have nz:=hZ1.lt
 have nm:=hM1.lt
 clear hX0 hY0 hM0 hZ0 hB0 hb1 hM1 hZ1 hB1
 obtain ⟨s0,s1,s2,s3⟩:=zab hS2
 obtain ⟨m0,m1,m2,m3⟩:=zab hM2
 go_wp2_with fail
 refine (less_is S M true HL.out hSt hM _).mono ?_
 rintro e w3 ⟨rfl,hb3⟩
 clear s0 s1 s2 s3 m0 m1 m2 m3
 have hS3:=zaa hS2 hb3 hS2.lt
 have hM3:=zaa hM2 hb3 hM2.lt
 have hZ3:=zaa hZ2 hb3 hZ2.lt
 have hB3:=hB2.trans (hb3.mono hB2.size)
 clear hS2 hM2 hZ2 hB2 hb3
 obtain ⟨s0,s1,s2,s3⟩:=zab hS3
 obtain ⟨m0,m1,m2,m3⟩:=zab hM3
 obtain ⟨d0,d1,d2,d3⟩:=zab hZ3
 obtain ⟨f0,f1,f2,f3⟩:=zag hZ3
 go_wp2
 refine bodyPost_ret (results_cell_row rfl _ _ (w.heap.size + 1 + 1 + 1) 27 #[vI vU (wd S 0),vI vU (wd S 1),vI vU (wd S 2),vI vU (wd S 3)] (0,0) _ rfl (blk4 (put4 hZ3 fun j => .int .u64 (wd S j))) Tryz.underlying27 rfl (by kernel_rfl)) rfl ⟨rfl,zae hB3 (by omega) _ _ _ _⟩
theorem gadd_more (X Y M S D : Nat) (hX : X < top) (hY : Y < top) (hM : M < top) (hS : (X + Y) % top = S) (hu : decide (top ≤ X + Y) = false) (hl : decide (S < M) = false) (hD : (S + top - M) % top = D) (w : World) :
  Calls Tryz.prog 43 #[.agg #[vI vU (wd X 0),vI vU (wd X 1),vI vU (wd X 2),vI vU (wd X 3)],.agg #[vI vU (wd Y 0),vI vU (wd Y 1),vI vU (wd Y 2),vI vU (wd Y 3)],.agg #[vI vU (wd M 0),vI vU (wd M 1),vI vU (wd M 2),vI vU (wd M 3)]] w fun e w' => e = .returned (.agg #[vI vU (wd D 0),vI vU (wd D 1),vI vU (wd D 2),vI vU (wd D 3)]) ∧ Below w.heap.size w w':=by
 have hSt : S < top:=by rw [← hS]; exact Nat.mod_lt _ zbe
 have HS:=veil hS
 have HU:=veil hu
 have HL:=veil hl
 have HD:=veil hD
 clear hS hu hl hD
 have hX0 : ((((w.alloc (.cells #[vI vU (wd X 0),vI vU (wd X 1),vI vU (wd X 2),vI vU (wd X 3)] 27)).alloc (.cells #[vI vU (wd Y 0),vI vU (wd Y 1),vI vU (wd Y 2),vI vU (wd Y 3)] 27)).alloc (.cells #[vI vU (wd M 0),vI vU (wd M 1),vI vU (wd M 2),vI vU (wd M 3)] 27)).alloc (.cells #[vI vU 0,vI vU 0,vI vU 0,vI vU 0] 27)).rowIs w.heap.size 27 4 (fun j => .int .u64 (wd X j)):=(((zac (n:=4) (by simp) rfl (arr4 fun j => .int .u64 (wd X j))).alloc _).alloc _).alloc _
 have hY0 : ((((w.alloc (.cells #[vI vU (wd X 0),vI vU (wd X 1),vI vU (wd X 2),vI vU (wd X 3)] 27)).alloc (.cells #[vI vU (wd Y 0),vI vU (wd Y 1),vI vU (wd Y 2),vI vU (wd Y 3)] 27)).alloc (.cells #[vI vU (wd M 0),vI vU (wd M 1),vI vU (wd M 2),vI vU (wd M 3)] 27)).alloc (.cells #[vI vU 0,vI vU 0,vI vU 0,vI vU 0] 27)).rowIs (w.heap.size + 1) 27 4 (fun j => .int .u64 (wd Y j)):=((zac (n:=4) (by simp) rfl (arr4 fun j => .int .u64 (wd Y j))).alloc _).alloc _
 have hM0 : ((((w.alloc (.cells #[vI vU (wd X 0),vI vU (wd X 1),vI vU (wd X 2),vI vU (wd X 3)] 27)).alloc (.cells #[vI vU (wd Y 0),vI vU (wd Y 1),vI vU (wd Y 2),vI vU (wd Y 3)] 27)).alloc (.cells #[vI vU (wd M 0),vI vU (wd M 1),vI vU (wd M 2),vI vU (wd M 3)] 27)).alloc (.cells #[vI vU 0,vI vU 0,vI vU 0,vI vU 0] 27)).rowIs (w.heap.size + 1 + 1) 27 4 (fun j => .int .u64 (wd M j)):=(zac (n:=4) (by simp) rfl (arr4 fun j => .int .u64 (wd M j))).alloc _
 have hZ0 : ((((w.alloc (.cells #[vI vU (wd X 0),vI vU (wd X 1),vI vU (wd X 2),vI vU (wd X 3)] 27)).alloc (.cells #[vI vU (wd Y 0),vI vU (wd Y 1),vI vU (wd Y 2),vI vU (wd Y 3)] 27)).alloc (.cells #[vI vU (wd M 0),vI vU (wd M 1),vI vU (wd M 2),vI vU (wd M 3)] 27)).alloc (.cells #[vI vU 0,vI vU 0,vI vU 0,vI vU 0] 27)).rowIs (w.heap.size + 1 + 1 + 1) 27 4 (fun _ => .int .u64 0):=zac (n:=4) (by simp) rfl (arr4 fun _ => .int .u64 0)
 have hB0 : Below w.heap.size w ((((w.alloc (.cells #[vI vU (wd X 0),vI vU (wd X 1),vI vU (wd X 2),vI vU (wd X 3)] 27)).alloc (.cells #[vI vU (wd Y 0),vI vU (wd Y 1),vI vU (wd Y 2),vI vU (wd Y 3)] 27)).alloc (.cells #[vI vU (wd M 0),vI vU (wd M 1),vI vU (wd M 2),vI vU (wd M 3)] 27)).alloc (.cells #[vI vU 0,vI vU 0,vI vU 0,vI vU 0] 27)):=((((Below.refl _ _).alloc (by simp) _).alloc (by simp) _).alloc (by simp; omega) _).alloc (by simp; omega) _
 go_enter Tryz.func43,Tryz.ntmps43
 obtain ⟨a0,a1,a2,a3⟩:=zab hX0
 obtain ⟨b0,b1,b2,b3⟩:=zab hY0
 go_wp2_with fail
 refine (plus_is X Y S false HS.out HU.out hX hY _).mono ?_
 rintro e w1 ⟨rfl,hb1⟩
 clear a0 a1 a2 a3 b0 b1 b2 b3
 have hM1:=zaa hM0 hb1 hM0.lt
 have hZ1:=zaa hZ0 hb1 hZ0.lt
 have hB1:=hB0.trans (hb1.mono hB0.size)
 have hS2 : (w1.alloc (.cells #[vI vU (wd S 0),vI vU (wd S 1),vI vU (wd S 2),vI vU (wd S 3)] 27)).rowIs w1.heap.size 27 4 (fun j => .int .u64 (wd S j)):=zac (n:=4) rfl rfl (arr4 fun j => .int .u64 (wd S j))
 have hM2:=hM1.alloc (.cells #[vI vU (wd S 0),vI vU (wd S 1),vI vU (wd S 2),vI vU (wd S 3)] 27)
 have hZ2:=hZ1.alloc (.cells #[vI vU (wd S 0),vI vU (wd S 1),vI vU (wd S 2),vI vU (wd S 3)] 27)
 have hB2:=hB1.alloc hB1.size (.cells #[vI vU (wd S 0),vI vU (wd S 1),vI vU (wd S 2),vI vU (wd S 3)] 27)
 have nz:=hZ1.lt
 have nm:=hM1.lt
 clear hX0 hY0 hM0 hZ0 hB0 hb1 hM1 hZ1 hB1
 obtain ⟨s0,s1,s2,s3⟩:=zab hS2
 obtain ⟨m0,m1,m2,m3⟩:=zab hM2
 go_wp2_with fail
 refine (less_is S M false HL.out hSt hM _).mono ?_
 rintro e w3 ⟨rfl,hb3⟩
 clear s0 s1 s2 s3 m0 m1 m2 m3
 have hS3:=zaa hS2 hb3 hS2.lt
 have hM3:=zaa hM2 hb3 hM2.lt
 have hZ3:=zaa hZ2 hb3 hZ2.lt
 have hB3:=hB2.trans (hb3.mono hB2.size)
 clear hS2 hM2 hZ2 hB2 hb3
 obtain ⟨s0,s1,s2,s3⟩:=zab hS3
 obtain ⟨m0,m1,m2,m3⟩:=zab hM3
 go_wp2_with fail
 refine (zei S M D HD.out hSt hM _).mono ?_
 rintro e w5 ⟨rfl,hb5⟩
 clear s0 s1 s2 s3 m0 m1 m2 m3
 have hS5:=zaa hS3 hb5 hS3.lt
 have hZ5:=zaa hZ3 hb5 hZ3.lt
 have hB5:=hB3.trans (hb5.mono hB3.size)
 clear hS3 hM3 hZ3 hB3 hb5
 obtain ⟨t0,t1,t2,t3⟩:=zag hS5
 obtain ⟨v0,v1,v2,v3⟩:=zab hS5
 go_upto_region 4 with (fail)
 have hTz:=put4 hS5 (fun j => .int .u64 (wd D j))
 have hZz:=zam hZ5 (Nat.ne_of_lt nz) (.int .u64 (wd D 0)) (.int .u64 (wd D 1)) (.int .u64 (wd D 2)) (.int .u64 (wd D 3))
 have hBz:=zae (b:=w1.heap.size) hB5 (by omega) (.int .u64 (wd D 0)) (.int .u64 (wd D 1)) (.int .u64 (wd D 2)) (.int .u64 (wd D 3))
 clear v0 v1 v2 v3 t0 t1 t2 t3 hS5 hZ5 hB5
 generalize ((((w5.setCell ⟨w1.heap.size,0,none⟩ (.int .u64 (wd D 0))).setCell ⟨w1.heap.size,1,none⟩ (.int .u64 (wd D 1))).setCell ⟨w1.heap.size,2,none⟩ (.int .u64 (wd D 2))).setCell ⟨w1.heap.size,3,none⟩ (.int .u64 (wd D 3))) = wz at *
 obtain ⟨p0,p1,p2,p3⟩:=zab hTz
 obtain ⟨d0,d1,d2,d3⟩:=zab hZz
 obtain ⟨f0,f1,f2,f3⟩:=zag hZz
 go_wp2
 refine bodyPost_ret (results_cell_row rfl _ _ (w.heap.size + 1 + 1 + 1) 27 #[vI vU (wd D 0),vI vU (wd D 1),vI vU (wd D 2),vI vU (wd D 3)] (0,0) _ rfl (blk4 (put4 hZz fun j => .int .u64 (wd D j))) Tryz.underlying27 rfl (by kernel_rfl)) rfl ⟨rfl,zae hBz (by omega) _ _ _ _⟩
theorem zeb (X Y M : Nat) (hX : X < M) (hY : Y < M) (hM : M < top) (w : World) :
  Calls Tryz.prog 43 #[.agg #[vI vU (wd X 0),vI vU (wd X 1),vI vU (wd X 2),vI vU (wd X 3)],.agg #[vI vU (wd Y 0),vI vU (wd Y 1),vI vU (wd Y 2),vI vU (wd Y 3)],.agg #[vI vU (wd M 0),vI vU (wd M 1),vI vU (wd M 2),vI vU (wd M 3)]] w fun e w' => e = .returned (.agg #[vI vU (wd ((X + Y) % M) 0),vI vU (wd ((X + Y) % M) 1),vI vU (wd ((X + Y) % M) 2),vI vU (wd ((X + Y) % M) 3)]) ∧ Below w.heap.size w w':=by
 have h:=gsum_num hX hY (Nat.le_of_lt hM)
 by_cases h1 : top ≤ X + Y
 ·
  rw [h,if_pos (Or.inl h1)]
  exact gadd_over X Y M _ _ (by omega) (by omega) hM rfl (by simpa using h1) rfl w
 ·
  by_cases h2 : (X + Y) % top < M
  ·
   rw [h,if_neg (by omega)]
   exact gadd_less X Y M _ (by omega) (by omega) hM rfl (by simpa using h1) (by simpa using h2) w
  ·
   rw [h,if_pos (Or.inr h2)]
   exact gadd_more X Y M _ _ (by omega) (by omega) hM rfl (by simpa using h1) (by simpa using h2) rfl w
end Go.Proofs.YthlbemnbmbmjhaaGreatDoor
