/-
  Of Sch T3 T4 T5 T9 K0 K1 K2 T6 TA K4.
-/
import Derived.BigQuiet
import Derived.Laws.Concat
import Derived.Deep.MidRow
import Derived.Laws.OwnMore
import Derived.Maps.AppendAt
import Derived.ArgAppend
import Derived.Great.BuildSlice
import Derived.Laws.IdiomStrings
import Derived.Lib.SmallJoins
import Derived.Test.YtedehdbajiaaiaaGreatDoorZB2
import Derived.Test.YtedehdbajiaaiaaGreatDoorZB1
set_option maxRecDepth 1000000
set_option maxHeartbeats 20000000
namespace Go.Proofs.YtedehdbajiaaiaaGreatDoor
open Go.RowKit
open Go.Value renaming int → vI
open Go.IntKind renaming u64 → vU
open Go.Act renaming put → aP
open List renaming setIfInBounds_toArray → lA, set_cons_zero → lZ, set_cons_succ → lS
structure Gw (D : World → Prop) where
 val : World
 property : D val
abbrev Sub (D : World → Prop) : World → Prop:=fun W => ∃ x : Gw D,W = x.val
section
variable {P : Program} {ops : Array Oper} {Q : Exit → Act → World → Prop} {md : Region.Mode}
/-! ### the quiet walk in every class of grown worlds is a walk of made values -/
def dstsB : List Oper → List Nat
 | [] => []
 | o :: r => (match o.dst with | some d => [d] | none => []) ++ dstsB r
def ownB (size : Nat) : List Oper → Bool
 | [] => true
 | o :: r => (match o.dst with | some d => decide (d < size) && !(dstsB r).contains d | none => false) && ownB size r
theorem put_tmps (a : Act) (d : Nat) (v : Value) : (a.put (some d) v).tmps = a.tmps.setIfInBounds d v:=rfl
theorem zht {C : World → Prop} {A : Act} : ∀ {l : List Oper} {a : Act} {d : Nat},d ∉ dstsB l → wpQuiet P ops C (fun a' => a' = A) l a → A.tmps[d]? = a.tmps[d]?
 | [],a,d,_,h => by
  have h' : a = A:=h
  rw [h']
 | o :: r,a,d,hd,h => by
  have hr : d ∉ dstsB r:=fun hh => hd (by unfold dstsB; exact List.mem_append_right _ hh)
  have hne : ∀ v,(a.put o.dst v).tmps[d]? = a.tmps[d]?:=fun v => by
   cases ho : o.dst with
   | none => rfl
   | some e =>
    have : e ≠ d:=fun hh => hd (by unfold dstsB; rw [ho]; simp [hh])
    rw [put_tmps,Array.getElem?_setIfInBounds_ne this]
  unfold wpQuiet at h
  split at h
  ·
   obtain ⟨v,_,hK⟩:=h
   rw [zht hr hK,hne]
  ·
   rw [zht hr h,hne]
theorem made_of_quiet {o : Oper} {v : Value} {a : Act} {w : World} (h : ∀ W,Ext w W → o.quietAt P a (Sub (Ext W)) W v) : Made P o v a w:=fun W hW => by
 have h1:=h W hW
 unfold Oper.quietAt at h1
 generalize (execOp a.eval o).run P W = r at *
 cases r with
 | ok n w' =>
  cases n <;> simp only [Oper.quietUpon] at h1 <;> simp only [madeUpon]
  case value u => obtain ⟨rfl,rfl⟩:=h1; exact ⟨rfl,Ext.refl _⟩
  case skip => obtain ⟨rfl,rfl⟩:=h1; exact ⟨rfl,Ext.refl _⟩
  case enter f args =>
   obtain ⟨rfl,hc⟩:=h1
   exact hc.mono fun e w'' ⟨he,x,hx⟩ => ⟨he,by rw [hx]; exact x.property⟩
 | halt x w' => simp only [Oper.quietUpon] at h1
structure Up (w : World) (D : World → Prop) : Prop where
 ne : Nonempty (Gw D)
 grown : ∀ W,D W → Ext w W
 up : ∀ W W',D W → Ext W W' → D W'
theorem Up.ext {w : World} (W : World) (h : Ext w W) : Up w (Ext W):=⟨⟨⟨W,Ext.refl W⟩⟩,fun _ k => h.trans k,fun _ _ k k' => k.trans k'⟩
theorem Up.cell {w : World} {D : World → Prop} (h : Up w D) {b o : Nat} {v : Value} (hc : w.cell? ⟨b,o,none⟩ = some v) : ∀ x : Gw D,x.val.cell? ⟨b,o,none⟩ = some v:=fun x => by
 have hb : b < w.heap.size:=World.block_lt_of_cell? w ⟨b,o,none⟩ hc
 exact (Below.cell (h.grown _ x.property) (p:=⟨b,o,none⟩) hb).trans hc
theorem zgd {w : World} {A : Act} : ∀ {l : List Oper} {a : Act},ownB a.tmps.size l = true → (∀ D,Up w D → wpQuiet P ops (Sub D) (fun a' => a' = A) l a) → wpMk P ops w (fun a' => a' = A) l a
 | [],a,_,h => h (Ext w) (Up.ext w (Ext.refl w))
 | o :: r,a,hB,h => by
  unfold ownB at hB
  cases ho : o.dst with
  | none => rw [ho] at hB; simp at hB
  | some d =>
   rw [ho] at hB
   simp only [Bool.and_eq_true,decide_eq_true_eq,Bool.not_eq_true'] at hB
   obtain ⟨⟨hd,hnot⟩,hr⟩:=hB
   have hnot' : d ∉ dstsB r:=fun hh => by
    have : (dstsB r).contains d = true:=by simpa using hh
    rw [hnot] at this; cases this
   have hsz : ∀ v,(a.put o.dst v).tmps.size = a.tmps.size:=fun v => by rw [ho,put_tmps]; simp
   by_cases hw : Region.wanted o (yielded ops a.tmps) = true
   ·
    have each : ∀ D,Up w D → (∀ W,Sub D W → o.quietAt P a (Sub D) W (A.tmps.getD d undef)) ∧ wpQuiet P ops (Sub D) (fun a' => a' = A) r (a.put o.dst (A.tmps.getD d undef)):=fun D hD => by
     have h1:=h D hD
     unfold wpQuiet at h1
     rw [if_pos hw] at h1
     obtain ⟨v,h2,h3⟩:=h1
     have h4:=zht hnot' h3
     rw [ho,put_tmps,Array.getElem?_setIfInBounds_self_of_lt hd] at h4
     have hv : A.tmps.getD d undef = v:=by simp [h4]
     rw [hv]
     exact ⟨h2,h3⟩
    refine ⟨A.tmps.getD d undef,.inl ⟨hw,made_of_quiet fun W hW => ?_⟩,zgd (by rw [hsz]; exact hr) fun D hD => (each D hD).2⟩
    exact (each (Ext W) (Up.ext W hW)).1 W ⟨⟨W,Ext.refl W⟩,rfl⟩
   ·
    have hw' : Region.wanted o (yielded ops a.tmps) = false:=by simpa using hw
    refine ⟨undef,.inr ⟨hw',rfl⟩,zgd (by rw [hsz]; exact hr) fun D hD => ?_⟩
    have h1:=h D hD
    unfold wpQuiet at h1
    rwa [if_neg hw] at h1
theorem zdv {o : Oper} {a : Act} {D : World → Prop} {K : Act → Prop} (v : Value) (h : ∀ x : Gw D,(execOp a.eval o).run P x.val = .ok (.value v) x.val) (hK : K (a.put o.dst v)) : o.quiet P a (fun W => ∃ x : Gw D,W = x.val) K :=
 ⟨v,fun W hW => by
  obtain ⟨x,rfl⟩:=hW
  unfold Oper.quietAt
  rw [h x]
  exact ⟨rfl,rfl⟩,hK⟩
theorem run_slice_v {o : Oper} {a : Act} {t : TypeId} {x y z : Operand} {v v' vy vz : Value} {W : World} (ho : o.op = .slice t x (some y) (some z) none) (hx : a.eval x = v) (hy : a.eval y = vy) (hz : a.eval z = vz)
  (h : (Instr.sliceAt t v (some vy) (some vz) none).run P W = .ok v' W) : (execOp a.eval o).run P W = .ok (.value v') W:=by
 unfold execOp
 simp only [ho,hx,hy,hz,Option.map_some,Option.map_none,Sem.run_bind,h,Result.andThen_ok,Sem.run_pure]
/-! ### schedules -/
def lateS (md : Region.Mode) (ops : Array Oper) (n : Nat) : Bool :=
 decide (ops.size ≤ n) || (((List.range n).all fun i => (List.range (n + 1)).any fun j => decide (i < j) && Region.waitsFor md ops j i) && (List.range ops.size).all fun t => decide (t ≤ n) || Region.waitsFor md ops t n)
theorem lateS_one {n : Nat} {listed : Array Bool} (hB : ((List.range n).all fun i => (List.range (n + 1)).any fun j => decide (i < j) && Region.waitsFor md ops j i) = true) (inv : Closed md ops listed) :
  ∀ (d i : Nat),n - i = d → i < n → listed.getD i false = false → listed.getD n false = false ∧ n ∉ Region.ready md ops listed:=by
 intro d
 induction d using Nat.strongRecOn with
 | _ d ih =>
  intro i hd hi hun
  have h1:=List.all_eq_true.1 hB i (List.mem_range.2 hi)
  obtain ⟨j,hj,hj2⟩:=List.any_eq_true.1 h1
  simp only [Bool.and_eq_true,decide_eq_true_eq] at hj2
  have hjn:=List.mem_range.1 hj
  obtain ⟨oj,hoj,e,he,hb,hon⟩:=Region.waitsFor_spec hj2.2
  have hlj : listed.getD j false = false:=by
   cases h2 : listed.getD j false with
   | false => rfl
   | true =>
    have h3:=inv.2 j oj hoj h2 e he hb
    rw [hon,hun] at h3
    cases h3
  by_cases hl : j = n
  ·
   subst hl
   refine ⟨hlj,fun hr => ?_⟩
   obtain ⟨_,oj',hoj',hall⟩:=mem_ready.1 hr
   have : oj = oj':=Option.some.inj (hoj.symm.trans hoj')
   subst this
   have h3:=hall e he hb
   rw [hon,hun] at h3
   cases h3
  ·
   exact ih (n - j) (by omega) j rfl (by omega) hlj
theorem lateS_spec {n i : Nat} {listed : Array Bool} (hB : lateS md ops n = true) (inv : Closed md ops listed) (hi : i < n) (hun : listed.getD i false = false)
  {t : Nat} (ht : t ∈ Region.ready md ops listed) : t < n:=by
 obtain ⟨_,ot,hot,hall⟩:=mem_ready.1 ht
 have htl : t < ops.size:=(Array.getElem?_eq_some_iff.1 hot).1
 unfold lateS at hB
 simp only [Bool.or_eq_true,decide_eq_true_eq,Bool.and_eq_true] at hB
 rcases hB with hB | ⟨hB1,hB2⟩
 ·
  omega
 ·
  obtain ⟨hn1,hn2⟩:=lateS_one hB1 inv _ i rfl hi hun
  have h1:=List.all_eq_true.1 hB2 t (List.mem_range.2 htl)
  simp only [Bool.or_eq_true,decide_eq_true_eq] at h1
  rcases h1 with h1 | h1
  ·
   have : t ≠ n:=fun e => hn2 (e ▸ ht)
   omega
  ·
   obtain ⟨o',ho',e,he,hb,hon⟩:=Region.waitsFor_spec h1
   have : o' = ot:=Option.some.inj (ho'.symm.trans hot)
   subst this
   have h2:=hall e he hb
   rw [hon,hn1] at h2
   cases h2
theorem S_first {i n : Nat} {oi : Oper} {v : Value} (hi : ops[i]? = some oi) (hsel : ∀ (j : Nat) (o : Oper) cs b,ops[j]? = some o → o.op ≠ .select cs b)
  (hQ : ∀ c a w,Q (.panic c) (a.put oi.dst v) w → Q (.panic c) a w) (hB : lateS md ops n = true) (him : i < n) :
  ∀ (fuel : Nat) (listed : Array Bool) (a : Act) (w : World),Closed md ops listed →
   (∀ j oj,ops[j]? = some oj → j ≠ i → listed.getD j true = false → (∀ e ∈ oj.after,Region.binds md e = true → e.on ≠ i) → oi.apart ops oj = true) →
   i ∈ Region.ready md ops listed → YieldsE P ops oi v a w →
   wpG P md ops Q n fuel (listed.setIfInBounds i true) (a.put oi.dst v) w → wpG P md ops Q n (fuel + 1) listed a w:=by
 intro fuel
 induction fuel with
 | zero =>
  intro listed a w _ _ hr hy H
  refine ⟨fun h => (by rw [h] at hr; cases hr),fun j hj W hW => ?_⟩
  by_cases hji : j = i
  ·
   subst hji; exact hy.wpOp hi hW fun W' hW' => ⟨fun _ => hW',H.ext (hW.trans hW')⟩
  ·
   have:=ready_mono hj hji
   rw [H.1] at this
   cases this
 | succ fuel ih =>
  intro listed a w inv hfree hr hy H
  refine ⟨fun h => (by rw [h] at hr; cases hr),fun j hj W hW => ?_⟩
  by_cases hji : j = i
  ·
   subst hji; exact hy.wpOp hi hW fun W' hW' => ⟨fun _ => hW',H.ext (hW.trans hW')⟩
  ·
   have hun:=getD_both (mem_ready.1 hr).1
   have hjn : j < n:=lateS_spec hB inv him hun hj
   have h1:=H.2 j (ready_mono hj hji) W hW
   obtain ⟨hjun,oj,hoj,hall⟩:=mem_ready.1 hj
   have hnot : ∀ e ∈ oj.after,Region.binds md e = true → e.on ≠ i:=fun e he hb heq => by
    have h2:=hall e he hb
    rw [heq,hun] at h2
    cases h2
   have h2:=wpOp_putE hoj (hfree j oj hoj hji hjun hnot) (fun cs b => hsel i oi cs b hi) (fun cs b => hsel j oj cs b hoj) hQ (fun a' w' hk => hk.1 hjn)
    (hy.of_same hW rfl rfl) h1
   have hfree' : ∀ k ok,ops[k]? = some ok → k ≠ i → (listed.setIfInBounds j true).getD k true = false →
     (∀ e ∈ ok.after,Region.binds md e = true → e.on ≠ i) → oi.apart ops ok = true:=fun k ok hk hki hunk hno => by
    refine hfree k ok hk hki ?_ hno
    by_cases hjk : j = k
    ·
     subst hjk; exact hjun
    ·
     rw [getD_set_ne true hjk] at hunk; exact hunk
   refine wpOp_mono (fun a' w' h3 => ⟨h3.2.1,ih (listed.setIfInBounds j true) a' w' (inv.set hj) hfree' (ready_mono hr (Ne.symm hji)) h3.1 ?_⟩) h2
   rw [Array.setIfInBounds_comm _ _ hji]
   exact h3.2.2
abbrev Sched:=List (Bool × List Nat)
def takeI (md : Region.Mode) (ops : Array Oper) (n : Nat) : List Nat → Array Bool → Bool
 | [],_ => true
 | k :: r,listed => (Region.ready md ops listed).contains k && Region.free md ops listed k && decide (k < n) && takeI md ops n r (listed.setIfInBounds k true)
def oneI (md : Region.Mode) (ops : Array Oper) : List Nat → Array Bool → Bool
 | [],_ => true
 | k :: r,listed => (Region.ready md ops listed == [k]) && oneI md ops r (listed.setIfInBounds k true)
def markI : List Nat → Array Bool → Array Bool
 | [],listed => listed
 | k :: r,listed => markI r (listed.setIfInBounds k true)
def schedI (md : Region.Mode) (ops : Array Oper) (n : Nat) : Sched → Array Bool → Bool
 | [],listed => (Region.ready md ops listed).isEmpty
 | (true,is) :: r,listed => takeI md ops n is listed && schedI md ops n r (markI is listed)
 | (false,is) :: r,listed => oneI md ops is listed && schedI md ops n r (markI is listed)
def consO : Option Oper → List Oper → List Oper
 | some o,r => o :: r
 | none,r => r
def pickI (l : List Oper) : List Nat → List Oper
 | [] => []
 | k :: r => consO l[k]? (pickI l r)
def wpOne (P : Program) (ops : Array Oper) (Q : Exit → Act → World → Prop) (n : Nat) (R : Act → World → Prop) : List Nat → Act → World → Prop
 | [],a,w => R a w
 | k :: r,a,w => ∀ W,Ext w W → wpOp P ops Q k (fun a' W' => (k < n → Ext W W') ∧ wpOne P ops Q n R r a' W') a W
def wpSched (P : Program) (l : List Oper) (Q : Exit → Act → World → Prop) (n : Nat) : Sched → Act → World → Prop
 | [],a,w => ∀ W,Ext w W → Q .normal a W
 | (true,is) :: r,a,w => wpMk P l.toArray w (fun a' => wpSched P l Q n r a' w) (pickI l is) a
 | (false,is) :: r,a,w => wpOne P l.toArray Q n (fun a' w' => wpSched P l Q n r a' w') is a w
def lenI : Sched → Nat
 | [] => 0
 | (_,is) :: r => is.length + lenI r
theorem S_take {n g : Nat} {l : List Oper} (hsel : Region.noSelect l.toArray = true) (hQ : ∀ (o : Oper) v c a w,Q (.panic c) (a.put o.dst v) w → Q (.panic c) a w) (hB : lateS md l.toArray n = true) {w : World} {R : Act → Prop} {L : Array Bool}
  (hR : ∀ a,R a → Closed md l.toArray L → wpG P md l.toArray Q n g L a w) : ∀ (is : List Nat) (listed : Array Bool) (a : Act),Closed md l.toArray listed →
  takeI md l.toArray n is listed = true → markI is listed = L → wpMk P l.toArray w R (pickI l is) a → wpG P md l.toArray Q n (is.length + g) listed a w
 | [],listed,a,inv,_,hL,h => by
  have hL' : listed = L:=hL
  subst hL'
  simpa using hR a h inv
 | k :: r,listed,a,inv,hX,hL,h => by
  simp only [takeI,Bool.and_eq_true,decide_eq_true_eq] at hX
  obtain ⟨⟨⟨hr,hf⟩,hkn⟩,hX'⟩:=hX
  have hr' : k ∈ Region.ready md l.toArray listed:=by simpa using hr
  obtain ⟨_,o,h0,_⟩:=mem_ready.1 hr'
  have h0' : l[k]? = some o:=by simpa using h0
  unfold pickI at h
  rw [h0'] at h
  obtain ⟨v,hy,hK⟩:=h
  rw [List.length_cons,show r.length + 1 + g = (r.length + g) + 1 by omega]
  exact S_first h0 (Region.noSelect_spec hsel) (hQ o v) hB hkn _ listed a w inv (Region.free_spec h0 hf) hr' hy
   (S_take hsel hQ hB hR r _ _ (inv.set hr') hX' hL hK)
theorem S_one {n g : Nat} {l : List Oper} {R : Act → World → Prop} {L : Array Bool} (hRx : ∀ a w w',R a w → Ext w w' → R a w')
  (hR : ∀ a w,R a w → Closed md l.toArray L → wpG P md l.toArray Q n g L a w) : ∀ (is : List Nat) (listed : Array Bool) (a : Act) (w : World),Closed md l.toArray listed →
  oneI md l.toArray is listed = true → markI is listed = L → wpOne P l.toArray Q n R is a w → wpG P md l.toArray Q n (is.length + g) listed a w
 | [],listed,a,w,inv,_,hL,h => by
  have hL' : listed = L:=hL
  subst hL'
  simpa using hR a w h inv
 | k :: r,listed,a,w,inv,hX,hL,h => by
  simp only [oneI,Bool.and_eq_true,beq_iff_eq] at hX
  obtain ⟨hr,hX'⟩:=hX
  rw [List.length_cons,show r.length + 1 + g = (r.length + g) + 1 by omega]
  refine ⟨fun h0 => (by rw [hr] at h0; cases h0),fun i hi W hW => ?_⟩
  have hik : i = k:=by rw [hr] at hi; simpa using hi
  subst hik
  refine wpOp_mono (fun a' W' hk => ⟨hk.1,S_one hRx hR r _ _ _ (inv.set hi) hX' hL hk.2⟩) (h W hW)
theorem wpMk_ext {w w' : World} {R R' : Act → Prop} (hE : Ext w w') (hR : ∀ a,R a → R' a) : ∀ {l : List Oper} {a : Act},wpMk P ops w R l a → wpMk P ops w' R' l a
 | [],_,hh => hR _ hh
 | _ :: _,_,⟨v,hy,hK⟩ => ⟨v,hy.of_same hE rfl rfl,wpMk_ext hE hR hK⟩
theorem wpOne_ext {n : Nat} {R : Act → World → Prop} {w w' : World} (hE : Ext w w') (hRx : ∀ a w w',R a w → Ext w w' → R a w') : ∀ {is : List Nat} {a : Act},wpOne P ops Q n R is a w → wpOne P ops Q n R is a w'
 | [],_,h => hRx _ _ _ h hE
 | _ :: _,_,h => fun W hW => h W (hE.trans hW)
theorem zhq {l : List Oper} {n : Nat} : ∀ {s : Sched} {a : Act} {w w' : World},wpSched P l Q n s a w → Ext w w' → wpSched P l Q n s a w'
 | [],_,_,_,h,hE => fun W hW => h W (hE.trans hW)
 | (true,_) :: _,_,_,_,h,hE => wpMk_ext hE (fun _ h => zhq h hE) h
 | (false,is) :: r,_,_,_,h,hE => wpOne_ext (R:=fun a' w' => wpSched P l Q n r a' w') (is:=is) hE (fun _ _ _ h k => zhq h k) h
theorem S_all {n : Nat} {l : List Oper} (hsel : Region.noSelect l.toArray = true) (hQ : ∀ (o : Oper) v c a w,Q (.panic c) (a.put o.dst v) w → Q (.panic c) a w) (hB : lateS md l.toArray n = true) :
  ∀ (s : Sched) (listed : Array Bool) (a : Act) (w : World),Closed md l.toArray listed → schedI md l.toArray n s listed = true → wpSched P l Q n s a w → wpG P md l.toArray Q n (lenI s) listed a w
 | [],listed,a,w,_,hX,h => ⟨by simpa [schedI] using hX,h⟩
 | (true,is) :: r,listed,a,w,inv,hX,h => by
  simp only [schedI,Bool.and_eq_true] at hX
  exact S_take (g:=lenI r) hsel hQ hB (R:=fun a' => wpSched P l Q n r a' w) (L:=markI is listed) (fun a' h' inv' => S_all hsel hQ hB r _ _ _ inv' hX.2 h') is listed a inv hX.1 rfl h
 | (false,is) :: r,listed,a,w,inv,hX,h => by
  simp only [schedI,Bool.and_eq_true] at hX
  exact S_one (g:=lenI r) (R:=fun a' w' => wpSched P l Q n r a' w') (L:=markI is listed) (fun _ _ _ h k => zhq h k) (fun a' w' h' inv' => S_all hsel hQ hB r _ _ _ inv' hX.2 h') is listed a w inv hX.1 rfl h
def schedB (l : List Oper) (n : Nat) (s : Sched) : Bool :=
 Region.noSelect l.toArray && lateS .any l.toArray n && (lenI s == l.length) && schedI .any l.toArray n s (Array.replicate l.length false)
theorem zeu {id : Nat} (n : Nat) (s : Sched) {a : Act} {w : World} {l : List Oper} (hm : P.follows .mixedOrders = true) (hB : schedB l n s = true)
  (h : ∀ Q',Hid (Q' = NoPanic Q) → wpSched P l Q' n s a w) : (Code.region id l.toArray true).wp P Q a w:=by
 simp only [schedB,Bool.and_eq_true,beq_iff_eq] at hB
 obtain ⟨⟨⟨hsel,hlate⟩,hlen⟩,hs⟩:=hB
 refine wp_region_noPanic ?_
 have inv0 : Closed .any l.toArray (Array.replicate l.length false) :=
  ⟨by simp,fun j oj _ hl => (by rw [getD_replicate_false] at hl; cases hl)⟩
 have H:=S_all (P:=P) (md:=.any) (Q:=NoPanic Q) hsel (fun _ _ _ _ _ h => h) hlate s _ a w inv0 hs (h _ (veil rfl))
 rw [hlen] at H
 refine wp_region_any hm (zgz (n:=n) _ _ _ _ ?_)
 have:=wpG.ext H (Ext.drew w)
 simpa using this
/-! ### how its parts are walked -/
theorem zcy {C : World → Prop} {a : Act} : wpQuiet P ops C (fun a' => a' = a) [] a:=rfl
theorem zcv {l : List Oper} {n : Nat} {is : List Nat} {r : Sched} {a A : Act} {w : World} (os : List Oper) (ho : pickI l is = os) (hB : ownB a.tmps.size os = true)
  (h : ∀ D,Up w D → Nonempty (Gw D) → wpQuiet P l.toArray (fun W => ∃ x : Gw D,W = x.val) (fun a' => a' = A) os a) (h2 : wpSched P l Q n r A w) : wpSched P l Q n ((true,is) :: r) a w:=by
 subst ho
 exact zhj (fun a' e => by subst e; exact h2) (zgd hB fun D hD => h D hD hD.ne)
theorem zik {l : List Oper} {n k : Nat} {r : Sched} {a : Act} {w : World} (o : Oper) (ho : l[k]? = some o) (hg : o.guard = none)
  (h : ∀ W,Ext w W → o.wp P a W (fun a' W' => (k < n → Ext W W') ∧ wpSched P l Q n r a' W') Q) : wpSched P l Q n ((false,[k]) :: r) a w:=fun W hW =>
 zbi (by simpa using ho) hg (h W hW)
theorem zhs {l : List Oper} {n k : Nat} {r : Sched} {a : Act} {w : World} {t e : TypeId} {len d : Nat} {ps : List (Nat × Operand)} {vs : List (Nat × Value)} {C : Array Value} (o : Oper) (ho : l[k]? = some o) (hg : o.guard = none) (hop : o.op = .buildSlice t len ps.toArray) (hd : o.dst = some d)
  (hv : ps.map (fun (i,x) => (i,a.eval x)) = vs) (hb : ∀ W,(Instr.buildSlice t len vs.toArray).run P W = .ok (.slice (some ⟨W.heap.size,0,none⟩) len len) (W.alloc (.cells C e)))
  (h : ∀ g W,w.heap.size ≤ g → W.heap[g]? = some (.cells C e (0,0)) → Ext w W → wpSched P l Q n r (a.put (some d) (.slice (some ⟨g,0,none⟩) len len)) W) : wpSched P l Q n ((false,[k]) :: r) a w:=by
 refine zik o ho hg fun W hW => ?_
 unfold Oper.wp execOp
 simp only [hop,List.map_toArray]
 rw [show ps.map (fun x => match x with | (i,x) => (i,a.eval x)) = vs from hv]
 simp only [Sem.run_bind,hb W,Result.andThen_ok,Sem.run_pure]
 show (k < n → Ext W _) ∧ _
 rw [hd]
 exact ⟨fun _ => Ext.alloc W _,h _ _ (Below.size hW) (zaz W _) (hW.trans (Ext.alloc W _))⟩
theorem zdu {l : List Oper} {n : Nat} {a : Act} {w : World} {R : Exit → Act → World → Prop} (hQ : Hid (Q = NoPanic R)) (h : ∀ W,Ext w W → R .normal a W) : wpSched P l Q n [] a w:=fun W hW => by
 rw [hQ.out]
 exact h W hW
end
theorem zgk (bs : List Nat) : (strL bs).size = bs.length:=by simp [strL,ByteArray.size]
theorem mayFs_ok {fs : List Fd} (h : mayFs fs = true) {i : Nat} (hi : i < fs.length) : okF fs i:=(of_decide_eq_true h).2 i hi
theorem zjv {fs : List Fd} (h : mayFs fs = true) : fs.length ≤ 64:=(of_decide_eq_true h).1
theorem zfe {fs : List Fd} (h : mayFs fs = true) (i : Nat) : (encF (fs.take i)).length ≤ 4194432:=by
 have h1:=zic (fs.take i) 65535 fun f hf => (mayFs_each h f (List.mem_of_mem_take hf)).2.2
 have h2:=zjv h
 have h3 : (fs.take i).length ≤ 64:=by rw [List.length_take]; omega
 omega
theorem hdr3 {w : World} {g : Nat} {T : Int} {D0 : List Nat} {L : Nat} (h : w.heap[g]? = some (.cells #[.int .u8 T,.int .u8 ((L : Int) / 256),.int .u8 ((L : Int) % 256)] 5 (0,0))) (h1 : 1 ≤ T) (h2 : T ≤ 255) (h3 : L ≤ 65535) (hL : L = D0.length) : Bs w (some ⟨g,0,none⟩) (hdr (T,D0)):=by
 refine ⟨hdr_byt _,.inr ⟨g,0,rfl,(Array.getElem?_eq_some_iff.1 h).1,fun j hj => ?_⟩⟩
 rw [Nat.zero_add,cell_of_row w g j _ _ _ h]
 subst hL
 have e0 : (((T % 256).toNat : Nat) : Int) = T:=by omega
 have e1 : (((D0.length / 256 % 256 : Nat) : Nat) : Int) = (D0.length : Int) / 256:=by omega
 have e2 : (((D0.length % 256 : Nat) : Nat) : Int) = (D0.length : Int) % 256:=by omega
 match j,hj with
 | 0,_ => show some (Value.int .u8 T) = some (.int .u8 (((T % 256).toNat : Nat) : Int)); rw [e0]
 | 1,_ => show some (Value.int .u8 _) = some (.int .u8 ((D0.length / 256 % 256 : Nat) : Int)); rw [e1]
 | 2,_ => show some (Value.int .u8 _) = some (.int .u8 ((D0.length % 256 : Nat) : Int)); rw [e2]
theorem rput8_calls (v : Value) (fs : List Fd) (w : World) (hF : Fl w v fs) (hM : mayFs fs = true) :
  Calls Tryz.prog 44 #[v] w fun e w' => e = .returned (.string (strL (encF fs))) ∧ Ext w w':=by
 obtain ⟨hB,AL,c,rfl,hc,hx⟩:=hF
 obtain ⟨n,hn⟩ : ∃ n,n = fs.length:=⟨_,rfl⟩
 rw [← hn] at hx hc ⊢
 have HR:=veil (And.intro hn (And.intro hM hB))
 have HX:=veil hx
 have hnL : n ≤ 64:=by rw [hn]; exact zjv hM
 clear hx hB hn hM
 go_enter Tryz.func44,Tryz.ntmps44
 go_wp2
 go_loopw [3,4,5] (fun s v _ wr => ∃ i : Nat,i ≤ n ∧ s = .string (strL (encF (fs.take i))) ∧ v = .int .i64 (i : Int) ∧ Ext w wr)
  (fun _ v _ _ => n - (intOf v).toNat)
 case atStart => exact ⟨0,by omega,rfl,rfl,Ext.refl _⟩
 case round =>
  obtain ⟨i,hi,rfl,rfl,hE⟩:=hrel
  by_cases hlt : i < n
  ·
   have hd1 : decide ((i : Int) < (n : Int)) = true:=by simp; omega
   have hii : (i : Int) < (n : Int):=by omega
   have hok:=mayFs_ok HR.out.2.1 (by have:=HR.out.1; omega : i < fs.length)
   have hst:=encF_take fs (by have:=HR.out.1; omega : i < fs.length)
   have hle:=zfe HR.out.2.1 i
   obtain ⟨b,o,hAL,hb,hcl⟩:=HX.out.resolve_left (by omega)
   obtain ⟨h1,A,c',h2,h3,h4⟩:=hcl i hlt
   have c0:=(hE.cell hb).trans h1
   have c1:=(hE.cell hb).trans h2
   have hS:=h4.ext hE
   obtain ⟨S,hSS⟩ : ∃ S,S = strL (encF (fs.take i)):=⟨_,rfl⟩
   rw [← hSS]
   have hs : (S.size : Int) ≤ 4194432:=by rw [hSS,zgk]; omega
   have HS:=veil (And.intro hSS hst)
   have hT1:=hok.1
   have hT2:=hok.2.1
   have hL1:=hok.2.2.1
   clear hcl h1 h2 hok hst hle hSS h4
   generalize tgF fs i = T at *
   generalize bsF fs i = D0 at *
   obtain ⟨L,hL⟩ : ∃ L,L = D0.length:=⟨_,rfl⟩
   rw [← hL] at c1 hL1 h3
   have HD:=veil (And.intro hL hS)
   clear hL hS
   subst hAL
   go_upto_region 6 with (fail)
   have hz:=HD.out.2
   refine zeu 24 [(true,[0,1,2,3,4,5,6,7,8,9,10,11,12,16,17,18,19,20,21]),(false,[13]),(true,[14,15,22,23])] (by kernel_rfl) (by kernel_rfl) fun Q' hQ' => ?_
   refine' zcv (A:=_) _ rfl (by kernel_rfl) ?h1 ?h2
   case h1 =>
    intro D hD hN
    have d0:=hD.cell c0
    have d1:=hD.cell c1
    have d2 : ∀ x : Gw D,(convert 29 9 (.slice A L c')).run Tryz.prog x.val = .ok (.string (strL D0)) x.val:=fun x => by
     exact zhe (hz.ext (hD.grown _ x.property)) HD.out.1
    simp only [pickI,consO,List.getElem?_cons_zero,List.getElem?_cons_succ]
    repeat (go_big_quiet_step (fail))
    exact zcy
   refine zhs (vs:=[(0,.int .u8 T),(1,.int .u8 ((L : Int) / 256)),(2,.int .u8 ((L : Int) % 256))]) (C:=#[.int .u8 T,.int .u8 ((L : Int) / 256),.int .u8 ((L : Int) % 256)]) (e:=5) _ rfl rfl rfl rfl rfl (fun W => by simp [Instr.buildSlice,go_sem]) ?_
   intro g W hg hgb hEW
   simp only [aP,lA,lZ,lS]
   have hh:=hdr3 hgb hT1 hT2 hL1 HD.out.1
   refine' zcv (A:=_) _ rfl (by kernel_rfl) ?k1 ?k2
   case k1 =>
    intro D hD hN
    have d2 : ∀ x : Gw D,(convert 29 9 (.slice (some ⟨g,0,none⟩) 3 3)).run Tryz.prog x.val = .ok (.string (strL (hdr (T,D0)))) x.val:=fun x => by
     exact zhe (hh.ext (hD.grown _ x.property)) rfl
    have s1 : ((strL (hdr (T,D0))).size : Int) ≤ 3:=by rw [zgk]; exact Int.le_refl _
    have s2 : ((strL D0).size : Int) ≤ 65535:=by rw [zgk,← HD.out.1]; omega
    have s3 : ((S ++ strL (hdr (T,D0))).size : Int) ≤ 4194435:=by rw [ByteArray.size_append]; omega
    simp only [pickI,consO,List.getElem?_cons_zero,List.getElem?_cons_succ]
    repeat (go_big_quiet_step (fail))
    exact zcy
   refine zdu hQ' fun W2 hE2 => ?_
   refine NoPanic.normal ?_
   go_wp2
   go_roundw
   case rel => exact ⟨i + 1,by omega,by rw [HS.out.2,strL_append,HS.out.1]; unfold enc1; rw [strL_append,ByteArray.append_assoc],by go_num,hE.trans (hEW.trans hE2)⟩
   case measure => simp [intOf]; omega
  ·
   obtain rfl : i = n:=by omega
   have e : encF (fs.take i) = encF fs:=by rw [HR.out.1,List.take_length]
   rw [e]
   go_wp2
   go_ret
   exact ⟨rfl,hE⟩
def cellsFs : List Fd → List (Option Addr × Nat) → List Value
 | f :: fs,a :: al => [.int .i64 f.1,.slice a.1 f.2.length a.2] ++ cellsFs fs al
 | _,_ => []
theorem zif : ∀ {fs : List Fd} {al : List (Option Addr × Nat)} (f : Fd) (a : Option Addr × Nat),al.length = fs.length → cellsFs (fs ++ [f]) (al ++ [a]) = cellsFs fs al ++ [.int .i64 f.1,.slice a.1 f.2.length a.2]
 | [],[],_,_,_ => rfl
 | [],_ :: _,_,_,h => by simp at h
 | _ :: _,[],_,_,h => by simp at h
 | g :: fs,b :: al,f,a,h => by
  show [_,_] ++ cellsFs (fs ++ [f]) (al ++ [a]) = ([_,_] ++ cellsFs fs al) ++ _
  rw [zif f a (by simpa using h),List.append_assoc]
theorem cellsFs_at : ∀ {fs : List Fd} {al : List (Option Addr × Nat)} {i : Nat},al.length = fs.length → i < fs.length →
  (cellsFs fs al)[i * 2]? = some (.int .i64 (tgF fs i)) ∧ (cellsFs fs al)[i * 2 + 1]? = some (.slice (al.getD i (none,0)).1 (bsF fs i).length (al.getD i (none,0)).2)
 | [],_,_,_,h => by simp at h
 | _ :: _,[],_,h,_ => by simp at h
 | f :: fs,a :: al,0,_,_ => ⟨rfl,rfl⟩
 | f :: fs,a :: al,i + 1,h,hi => by
  have ih:=cellsFs_at (fs:=fs) (al:=al) (i:=i) (by simpa using h) (by simpa using hi)
  have e : (i + 1) * 2 = i * 2 + 1 + 1:=by omega
  rw [e]
  exact ih
def Off (A : Option Addr) (bs : List Nat) (row : Option Nat) : Prop:=bs.length = 0 ∨ ∀ b o,A = some ⟨b,o,none⟩ → row ≠ some b
def OwnFs (w : World) (base : Nat) (v : Value) (fs : List Fd) : Prop:=BytF fs ∧ ∃ al : List (Option Addr × Nat),al.length = fs.length ∧ w.ownsRow base 88 2 v fs.length (cellsFs fs al) ∧
 ∀ i,i < fs.length → (bsF fs i).length ≤ (al.getD i (none,0)).2 ∧ Bs w (al.getD i (none,0)).1 (bsF fs i) ∧ Off (al.getD i (none,0)).1 (bsF fs i) v.ownBlock
theorem Bs.but {w w' : World} {A : Option Addr} {bs : List Nat} {row : Option Nat} (h : Bs w A bs) (k : w.grownBy w' row) (hne : Off A bs row) : Bs w' A bs:=by
 rcases hne with h0 | hne
 ·
  exact ⟨h.1,.inl h0⟩
 ·
  exact ⟨h.1,h.2.imp id fun ⟨b,o,e,hb,hc⟩ => ⟨b,o,e,Nat.lt_of_lt_of_le hb k.size,fun j hj => (World.cell?_of_block (a:=⟨b,o + j,none⟩) (k.block b hb (fun e2 => hne b o e e2.symm))).trans (hc j hj)⟩⟩
theorem OwnFs.nil (w : World) (base : Nat) : OwnFs w base (.slice none 0 0) []:=⟨fun _ h => (by cases h),[],rfl,World.ownsRow_nil _ _ _ _,fun i hi => by simp at hi⟩
theorem OwnFs.keep {w w' : World} {base : Nat} {v : Value} {fs : List Fd} (o : OwnFs w base v fs) (h : Ext w w') : OwnFs w' base v fs:=by
 obtain ⟨hB,al,hl,hr,hx⟩:=o
 refine ⟨hB,al,hl,⟨hr.1,?_⟩,fun i hi => ⟨(hx i hi).1,(hx i hi).2.1.ext h,(hx i hi).2.2⟩⟩
 rcases hr.2 with hn | ⟨g,cap,cur,rfl,hbg,hh,rest⟩
 ·
  exact .inl hn
 ·
  exact .inr ⟨g,cap,cur,rfl,hbg,h.block hh,rest⟩
theorem OwnFs.lt {w : World} {base : Nat} {v : Value} {fs : List Fd} (o : OwnFs w base v fs) {k : Nat} (hk : v.ownBlock = some k) : base ≤ k ∧ k < w.heap.size:=by
 obtain ⟨_,al,_,hr,_⟩:=o
 exact World.ownsRow.lt hr k hk
theorem OwnFs.fl {w : World} {base : Nat} {v : Value} {fs : List Fd} (o : OwnFs w base v fs) : Fl w v fs:=by
 obtain ⟨hB,al,hl,hr,hx⟩:=o
 rcases hr.2 with ⟨rfl,h0⟩ | ⟨g,cap,cur,rfl,hbg,hh,hn,hm,hs,ht⟩
 ·
  exact ⟨hB,none,0,by rw [h0],by omega,.inl h0⟩
 ·
  refine ⟨hB,_,cap,rfl,hn,?_⟩
  by_cases h0 : fs.length = 0
  ·
   exact .inl h0
  ·
   refine .inr ⟨g,0,rfl,(Array.getElem?_eq_some_iff.1 hh).1,fun i hi => ?_⟩
   have hcell : ∀ k,k < fs.length * 2 → w.cell? ⟨g,k,none⟩ = (cellsFs fs al)[k]?:=fun k hk => by
    rw [cell_of_row w g k cur _ _ hh,← ht,List.getElem?_take_of_lt hk]
    simp
   obtain ⟨c0,c1⟩:=cellsFs_at hl hi
   refine ⟨by rw [Nat.zero_add,hcell _ (by omega)]; exact c0,_,_,by rw [Nat.zero_add,hcell _ (by omega)]; exact c1,(hx i hi).1,(hx i hi).2.1⟩
theorem infoF16 : (Tryz.prog.info? 88).map (fun i => (i.zero,i.size,i.bytes)) = some (some (.agg #[.int .i64 0,.slice none 0 0]),2,32):=by kernel_rfl
theorem info_parts2 {i : Option TypeInfo} {z : Value} {n b : Nat} (h : i.map (fun i => (i.zero,i.size,i.bytes)) = some (some z,n,b)) : ∃ j,i = some j ∧ j.zero = some z ∧ j.size = n ∧ j.bytes = b:=by
 cases i with
 | none => simp at h
 | some j =>
  simp only [Option.map_some,Option.some.injEq,Prod.mk.injEq] at h
  exact ⟨j,rfl,h.1,h.2.1,h.2.2⟩
theorem tgF_lt {fs : List Fd} {f : Fd} {i : Nat} (h : i < fs.length) : tgF (fs ++ [f]) i = tgF fs i ∧ bsF (fs ++ [f]) i = bsF fs i:=by
 unfold tgF bsF
 simp only [List.getD_eq_getElem?_getD,List.getElem?_append_left h,and_self]
theorem tgF_last (fs : List Fd) (f : Fd) : tgF (fs ++ [f]) fs.length = f.1 ∧ bsF (fs ++ [f]) fs.length = f.2:=by
 unfold tgF bsF
 simp
theorem zix {w : World} {base : Nat} {v : Value} {fs : List Fd} (ty : TypeId) (hown : OwnFs w base v fs) (g : Nat) (f : Fd) (a : Option Addr × Nat) (c1 : Nat)
  (hg : w.heap[g]? = some (.cells #[.int .i64 f.1,.slice a.1 f.2.length a.2] 88 (0,0))) (hc : f.2.length ≤ a.2) (hb : Bs w a.1 f.2) (hne : Off a.1 f.2 v.ownBlock)
  (hn : fs.length ≤ 1000000000) (hbase : base ≤ w.heap.size) :
  ∃ v' w',(Builtin.append_ #[86,86] ty #[v,.slice (some ⟨g,0,none⟩) 1 c1]).run Tryz.prog w = .ok v' w' ∧ OwnFs w' base v' (fs ++ [f]) ∧ w.grownBy w' v.ownBlock:=by
 obtain ⟨i,hi,hz,hsz,hby⟩:=info_parts2 infoF16
 obtain ⟨hB,al,hl,hr,hx⟩:=hown
 obtain ⟨v',w',hrun,h2,h3,_,h5⟩:=run_append_own_at (P:=Tryz.prog) w base 86 ty 88 i _ 2 32 Tryz.underlying86 hi hz hsz hby rfl (by decide) v fs.length (cellsFs fs al) hr ⟨g,0,none⟩ 1 c1 [.int .i64 f.1,.slice a.1 f.2.length a.2] rfl
  (fun j u hu => by
   rw [Addr.add_mid,Nat.zero_add,cell_of_row w g j _ _ _ hg]
   simpa using hu)
  (fun u hu => by
   simp only [List.mem_cons,List.not_mem_nil,or_false] at hu
   rcases hu with rfl | rfl <;> rfl) (by unfold maxLen; omega) (by omega) hbase
 refine ⟨v',w',hrun,⟨?_,al ++ [a],by simp [hl],?_,fun k hk => ?_⟩,h3⟩
 ·
  intro x hx'
  rcases List.mem_append.1 hx' with h | h
  ·
   exact hB x h
  ·
   rw [List.mem_singleton.1 h]; exact hb.1
 ·
  rw [zif f a hl,List.length_append]
  exact h2
 ·
  have hout : ∀ (A : Option Addr) (bs : List Nat),Bs w A bs → Off A bs v.ownBlock → Off A bs v'.ownBlock:=by
   intro A bs hA hn1
   rcases hn1 with h0 | hn1
   ·
    exact .inl h0
   ·
    rcases hA.2 with h | ⟨b',o',e',hb',_⟩
    ·
     exact .inl h
    ·
     refine .inr fun b o e e2 => ?_
     rw [e] at e'
     injection e' with e'
     injection e' with e4
     rcases h5 with h5 | h5
     ·
      rw [h5] at e2; exact hn1 b o e e2
     ·
      rw [h5] at e2
      have e3 : w.heap.size = b:=by injection e2
      omega
  rw [List.length_append,List.length_singleton] at hk
  by_cases hlt : k < fs.length
  ·
   obtain ⟨e1,e2⟩:=tgF_lt (f:=f) hlt
   have e3 : (al ++ [a]).getD k (none,0) = al.getD k (none,0):=by
    simp only [List.getD_eq_getElem?_getD,List.getElem?_append_left (show k < al.length by omega)]
   obtain ⟨x1,x2,x3⟩:=hx k hlt
   rw [e2,e3]
   exact ⟨x1,x2.but h3 x3,hout _ _ x2 x3⟩
  ·
   obtain rfl : k = fs.length:=by omega
   obtain ⟨e1,e2⟩:=tgF_last fs f
   have e3 : (al ++ [a]).getD fs.length (none,0) = a:=by
    rw [← hl]
    simp
   rw [e2,e3]
   exact ⟨hc,hb.but h3 hne,hout _ _ hb hne⟩
theorem infoT1 : (Tryz.prog.info? 5).map (fun i => (i.zero,i.size,i.bytes)) = some (some (.int .u8 0),1,1):=by kernel_rfl
def Fresh (w : World) (A : Option Addr) (bs : List Nat) : Prop:=bs.length = 0 ∨ ∀ b o,A = some ⟨b,o,none⟩ → w.heap.size ≤ b
theorem Fresh.off {w : World} {A : Option Addr} {bs : List Nat} {row : Option Nat} (h : Fresh w A bs) (hr : ∀ k,row = some k → k < w.heap.size) : Off A bs row :=
 h.imp id fun h b o e e2 => by have:=h b o e; have:=hr b e2; omega
theorem append_empty {w : World} (ty : TypeId) {g m c : Nat} {A : Option Addr} {bs : List Nat} (hg : w.heap[g]? = some (.cells #[] 5 (0,0))) (hb : Bs w A bs) (hm : m = bs.length) (hle : m ≤ 1000000000) :
  ∃ A' c' w',(Builtin.append_ #[29,29] ty #[.slice (some ⟨g,0,none⟩) 0 0,.slice A m c]).run Tryz.prog w = .ok (.slice A' m c') w' ∧ Ext w w' ∧ m ≤ c' ∧ Bs w' A' bs ∧ Fresh w A' bs:=by
 subst hm
 obtain ⟨i,hi,hz,hsz,hby⟩:=info_parts infoT1
 have hgl : g < w.heap.size:=(Array.getElem?_eq_some_iff.1 hg).1
 have o0 : Own w g 5 (.slice (some ⟨g,0,none⟩) 0 0) 0 (fun j => .int .u8 (bs.getD j 0 : Nat)) :=
  ⟨by simp,.inr ⟨g,0,#[],rfl,Nat.le_refl _,hg,Nat.le_refl _,by unfold maxLen; omega,by simp,by simp⟩⟩
 obtain ⟨v',w',hr,h2,h3,h5,_⟩:=zjc (P:=Tryz.prog) w g 29 ty 5 i _ 1 Tryz.underlying29 hi hz hsz hby rfl _ 0 _ o0 A bs.length c (fun j => .int .u8 (bs.getD j 0 : Nat)) hb.from (fun _ => rfl) (by unfold maxLen; omega) (by omega) (by omega)
 rw [Nat.zero_add] at h2
 have hO : OwnB w' g v' bs:=OwnB.of h2 hb.1 rfl fun j hj => by rw [if_neg (by omega),Nat.sub_zero]
 obtain ⟨A',c',rfl,hc',hB'⟩:=hO.bs
 by_cases h0 : bs.length = 0
 ·
  rcases A with _ | ad
  ·
   have hw : w' = w:=by
    have : (Builtin.append_ #[29,29] ty #[.slice (some ⟨g,0,none⟩) 0 0,.slice none bs.length c]).run Tryz.prog w = .ok (.slice (some ⟨g,0,none⟩) 0 0) w:=by
     rw [h0]
     simp [Builtin.append_,run_underlying Tryz.underlying29,sizeOf,typeInfo,hi,Builtin.lenOf,Builtin.firstCells,storeCells]
    rw [hr] at this
    injection this
   subst hw
   exact ⟨A',c',w',hr,Ext.refl _,hc',hB',.inl h0⟩
  ·
   have hr2:=run_append_room_cells (P:=Tryz.prog) (w:=w) 29 ty 5 i Tryz.underlying29 hi g 0 0 0 ad bs.length c [] (by rw [h0]; simp) (fun j u hu => by simp at hu) (fun u hu => by simp at hu) (by omega) (fun j hj => by simp at hj) (fun j hj => by simp at hj)
   rw [hr] at hr2
   injection hr2 with _ hw
   have hw' : w' = w:=hw
   subst hw'
   exact ⟨A',c',w',hr,Ext.refl _,hc',hB',.inl h0⟩
 ·
  rcases hb.2 with h | ⟨b,o,rfl,hbl,hcl⟩
  ·
   exact absurd h h0
  ·
   have hr2:=run_append_grow (P:=Tryz.prog) w 29 ty 5 i _ Tryz.underlying29 hi hz ⟨g,0,none⟩ 0 0 [] (by simp) (fun j u hu => by simp at hu) ⟨b,o,none⟩ bs.length c ((List.range bs.length).map fun j => .int .u8 (bs.getD j 0 : Nat)) (by simp [hsz]) (fun j u hu => by
    have hj : j < bs.length:=by have:=(List.getElem?_eq_some_iff.1 hu).1; simpa using this
    rw [Addr.add_mid,hcl j hj,← hu]; simp [hj]) (by omega) (by omega) (growslice_fits (by omega) (by rw [hby]; omega))
   rw [hr] at hr2
   injection hr2 with hv hw
   injection hv with hA _ _
   subst hA
   exact ⟨_,c',w',hr,by rw [hw]; exact (Ext.drew w).trans (Ext.alloc _ _),hc',hB',.inr fun b' o' e => by injection e with e; injection e with e; omega⟩
/-! ### in schedules -/
section
variable {Q : Exit → Act → World → Prop} {l : List Oper} {n k d : Nat} {r : Sched} {a : Act} {w : World}
theorem sched_val {v : Value} (o : Oper) (ho : l[k]? = some o) (hg : o.guard = none) (hd : o.dst = some d) (hm : ∀ W,Ext w W → (execOp a.eval o).run Tryz.prog W = .ok (.value v) W)
  (h : ∀ W,Ext w W → wpSched Tryz.prog l Q n r (a.put (some d) v) W) : wpSched Tryz.prog l Q n ((false,[k]) :: r) a w:=by
 refine zik o ho hg fun W hW => ?_
 unfold Oper.wp
 rw [hm W hW,Oper.upon_value,hd]
 exact ⟨fun _ => Ext.refl W,h W hW⟩
theorem run_assign_v {o : Oper} {x : Operand} {v : Value} (ho : o.op = .assign x) (hx : a.eval x = v) (W : World) : (execOp a.eval o).run Tryz.prog W = .ok (.value v) W:=by
 unfold execOp
 simp only [ho,hx,Sem.run_pure]
theorem sched_assign {x : Operand} (v : Value) (o : Oper) (ho : l[k]? = some o) (hg : o.guard = none) (hd : o.dst = some d) (hop : o.op = .assign x) (hx : a.eval x = v)
  (h : ∀ W,Ext w W → wpSched Tryz.prog l Q n r (a.put (some d) v) W) : wpSched Tryz.prog l Q n ((false,[k]) :: r) a w:=sched_val o ho hg hd (fun W _ => run_assign_v hop hx W) h
theorem sched_append_fd {s x : Operand} {base g c : Nat} {v : Value} {fs : List Fd} {f : Fd} {al : Option Addr × Nat} (o : Oper) (ho : l[k]? = some o) (hgd : o.guard = none) (hop : o.op = .call { callee:=.builtin .append,args:=#[s,x],argTypes:=#[86,86] }) (hd : o.dst = some d)
  (hs : a.eval s = v) (hx : a.eval x = .slice (some ⟨g,0,none⟩) 1 c) (hkn : ¬ k < n) (hown : OwnFs w base v fs) (hg : w.heap[g]? = some (.cells #[.int .i64 f.1,.slice al.1 f.2.length al.2] 88 (0,0)))
  (hc : f.2.length ≤ al.2) (hb : Bs w al.1 f.2) (hne : Off al.1 f.2 v.ownBlock) (hn : fs.length ≤ 1000000000) (hbase : base ≤ w.heap.size)
  (h : ∀ v' W W',Ext w W → OwnFs W' base v' (fs ++ [f]) → W.grownBy W' v.ownBlock → wpSched Tryz.prog l Q n r (a.put (some d) v') W') : wpSched Tryz.prog l Q n ((false,[k]) :: r) a w:=by
 refine zik o ho hgd fun W hW => ?_
 obtain ⟨v',w',hr,hO,hG⟩:=zix (c1:=c) o.type (hown.keep hW) g f al (hW.block hg) hc (hb.ext hW) hne hn (Nat.le_trans hbase (Below.size hW))
 unfold Oper.wp execOp
 simp only [hop,resolve,invoke,builtin,Sem.run_bind,Sem.run_pure,Result.andThen_ok,List.map_toArray,List.map_cons,List.map_nil,hs,hx,hr]
 show (k < n → Ext W w') ∧ _
 rw [hd]
 exact ⟨fun h => absurd h hkn,h v' W w' hW hO hG⟩
end
theorem wpl_append0 {Q : Exit → Act → World → Prop} {ops : Array Oper} {rest : List Oper} {a : Act} {w : World} {s x : Operand} {g m c : Nat} {A : Option Addr} {bs : List Nat} {o : Oper} (hgd : o.guard = none) (hop : o.op = .call { callee:=.builtin .append,args:=#[s,x],argTypes:=#[29,29] })
  (hs : a.eval s = .slice (some ⟨g,0,none⟩) 0 0) (hx : a.eval x = .slice A m c) (hg : w.heap[g]? = some (.cells #[] 5 (0,0))) (hb : Bs w A bs) (hm : m = bs.length) (hle : m ≤ 1000000000)
  (h : ∀ A' c' W,Ext w W → m ≤ c' → Bs W A' bs → Fresh w A' bs → wpList Tryz.prog ops Q rest (a.put o.dst (.slice A' m c')) W) : wpList Tryz.prog ops Q (o :: rest) a w:=by
 refine wpList_plain hgd fun K hK => ?_
 obtain ⟨A',c',w',hr,hE,hc,hB,hF⟩:=append_empty (c:=c) o.type hg hb hm hle
 unfold Oper.wp execOp
 simp only [hop,resolve,invoke,builtin,Sem.run_bind,Sem.run_pure,Result.andThen_ok,List.map_toArray,List.map_cons,List.map_nil,hs,hx,hr]
 exact hK _ _ (h A' c' w' hE hc hB hF)
theorem cut_mid (A : Option Addr) (r c p n : Nat) (hp : p + n ≤ c) (w : World) {x y : Int} (hx : x = (p : Int)) (hy : y = ((p + n : Nat) : Int)) : (Instr.sliceAt 29 (.slice A r c) (some (.int .i64 x)) (some (.int .i64 y)) none).run Tryz.prog w = .ok (.slice (cutA A p c) n (c - p)) w:=by
 subst hx hy
 have e2 : ((sizeOf (Tryz.prog.elem 29)).run Tryz.prog w) = .ok 1 w:=by kernel_rfl
 rw [run_sliceAt_slice w 29 _ _ _ _ (by kernel_rfl),run_slice_lh w 29 A r c (by kernel_rfl) .i64 .i64 (p : Int) ((p + n : Nat) : Int) (by omega) (by omega) (by omega),e2]
 simp [sliced,Result.andThen,cutA]
 omega
theorem wpl_val {P : Program} {ops : Array Oper} {Q : Exit → Act → World → Prop} {rest : List Oper} {a : Act} {w : World} {o : Oper} (v : Value) (hg : o.guard = none) (hr : (execOp a.eval o).run P w = .ok (.value v) w) (h : wpList P ops Q rest (a.put o.dst v) w) : wpList P ops Q (o :: rest) a w:=by
 refine wpList_plain hg fun K hK => ?_
 unfold Oper.wp
 rw [hr,Oper.upon_value]
 exact hK _ _ h
theorem Fl.take {w : World} {A : Option Addr} {n c : Nat} {fs : List Fd} (h : Fl w (.slice A n c) fs) {m : Nat} (hm : m ≤ n) : Fl w (.slice A m c) (fs.take m):=by
 obtain ⟨hB,AL,c',he,hc,hx⟩:=h
 injection he with e1 e2 e3
 subst e1 e3
 have hl : (fs.take m).length = m:=by rw [List.length_take]; omega
 have hg : ∀ i,i < m → tgF (fs.take m) i = tgF fs i ∧ bsF (fs.take m) i = bsF fs i:=fun i hi => by
  unfold tgF bsF
  simp only [List.getD_eq_getElem?_getD,List.getElem?_take_of_lt hi,and_self]
 refine ⟨fun f hf => hB f (List.mem_of_mem_take hf),A,c,by rw [hl],by rw [hl]; omega,?_⟩
 rw [hl]
 by_cases h0 : m = 0
 ·
  exact .inl h0
 ·
  refine .inr ?_
  obtain ⟨b,o,e,hb,hcl⟩:=hx.resolve_left (by omega)
  refine ⟨b,o,e,hb,fun i hi => ?_⟩
  obtain ⟨g1,g2⟩:=hg i hi
  rw [g1,g2]
  exact hcl i (by omega)
def lowB (n i : Nat) : List Nat:=(List.range i).map fun j => n / 256 ^ (i - 1 - j) % 256
theorem zhy (n i : Nat) : (lowB n i).length = i:=by simp [lowB]
theorem lowB_succ (n i : Nat) : lowB n (i + 1) = [n / 256 ^ i % 256] ++ lowB n i:=by
 apply List.ext_getElem?
 intro j
 by_cases h0 : j = 0
 ·
  subst h0; simp [lowB]
 ·
  obtain ⟨k,rfl⟩ : ∃ k,j = k + 1:=⟨j - 1,by omega⟩
  rw [List.singleton_append,List.getElem?_cons_succ]
  by_cases hk : k < i
  ·
   simp [lowB,hk]
   congr 3
   omega
  ·
   rw [List.getElem?_eq_none (by rw [zhy]; omega),List.getElem?_eq_none (by rw [zhy]; omega)]
theorem lowB_num {n : Nat} (h : n ≤ 9223372036854775807) : lowB n 8 = numB n:=by
 unfold lowB numB
 rw [show ((n : Nat) : Int) % 18446744073709551616 = (n : Int) by omega]
 simp
theorem infoT9 : (Tryz.prog.info? 5).map (fun i => (i.zero,i.size,i.bytes)) = some (some (.int .u8 0),1,1):=by kernel_rfl
theorem rnum8_calls (n : Nat) (hn : n ≤ 9223372036854775807) (w : World) :
  Calls Tryz.prog 66 #[.int .i64 (n : Int)] w fun e w' => e = .returned (.string (strL (numB n))) ∧ Ext w w':=by
 have HN:=veil hn
 go_enter Tryz.func66,Tryz.ntmps66
 go_wp2_with fail
 go_loopw [0,3,4] (fun x v u wr => ∃ i : Nat,i ≤ 8 ∧ u = .int .i64 (i : Int) ∧ x = .int .i64 ((n / 256 ^ i : Nat) : Int) ∧ OwnB wr w.heap.size v (lowB n i) ∧ Ext w wr)
  (fun _ _ v _ => 8 - (intOf v).toNat)
 case atStart => exact ⟨0,by omega,rfl,by simp,OwnB.nil _ _,Ext.refl _⟩
 case round =>
  obtain ⟨i,hi,rfl,rfl,hO,hE⟩:=hrel
  by_cases hlt : i < 8
  ·
   have hii : (i : Int) < 8:=by omega
   have hq : n / 256 ^ i ≤ 9223372036854775807:=Nat.le_trans (Nat.div_le_self _ _) hn
   have hs : n / 256 ^ (i + 1) = n / 256 ^ i / 256:=by rw [Nat.pow_succ,← Nat.div_div_eq_div_mul]
   have hl:=lowB_succ n i
   have hlen:=zhy n i
   generalize n / 256 ^ i = q at *
   have HH:=veil (And.intro hs (And.intro hl hO))
   obtain ⟨L,hL⟩ : ∃ L,L = lowB n i:=⟨_,rfl⟩
   obtain ⟨A,c,hv,hc,hB⟩:=hO.bs
   rw [← hL] at hv hc hB hlen
   have HL:=veil (And.intro hL (And.intro hB hlen))
   have kq : (q : Int) ≤ 9223372036854775807:=by omega
   subst hv
   obtain ⟨i8,hi8,hz0,hz1,hz2⟩:=info_parts infoT9
   have HI:=veil (And.intro hi8 (And.intro hz0 (And.intro hz1 hz2)))
   have eq1 : (((q % 256 : Nat) : Nat) : Int) = (q : Int) % 256:=by omega
   have hmade : Own (wr.alloc (.cells #[.int .u8 ((q : Int) % 256)] 5)) w.heap.size 5 (.slice (some ⟨wr.heap.size,0,none⟩) 1 1) 1 (fun j => .int .u8 ([q % 256].getD j 0 : Nat)) :=
    (Own.made (f:=fun j => .int .u8 ([q % 256].getD j 0 : Nat)) wr (cs:=#[.int .u8 ((q : Int) % 256)]) (Nat.le_refl _) (by show 1 ≤ _; unfold maxLen; decide) fun j hj => by
     have h0 : j = 0:=by simp at hj; omega
     subst h0
     show some (Value.int .u8 ((q : Int) % 256)) = some (.int .u8 ((q % 256 : Nat) : Int))
     rw [eq1]).base_le (Below.size hE)
   have hfrom:=(HL.out.2.1.ext (Ext.alloc wr (.cells #[.int .u8 ((q : Int) % 256)] 5))).from
   have hEa:=hE.trans (Ext.alloc wr (.cells #[.int .u8 ((q : Int) % 256)] 5))
   have hbz : w.heap.size ≤ wr.heap.size + 1:=by have:=Below.size hE; omega
   have HM:=veil (And.intro hmade (And.intro hfrom hEa))
   have hLl : L.length ≤ 8:=by omega
   clear hi8 hz0 hz1 hz2 eq1 hmade hfrom hEa
   go_wp2_with ((with_reducible refine zar 14 ?_); refine zas _ rfl _ _ 29 rfl w.heap.size 5 i8 (.int .u8 0) 1 Tryz.underlying29 HI.out.1 HI.out.2.1 HI.out.2.2.1 HI.out.2.2.2 rfl _ 1 _ rfl HM.out.1 A L.length c rfl _ HM.out.2.1 (fun _ => rfl) (by unfold maxLen; omega) (by omega) (by simpa using hbz) ?_; intro v6 w6 hO6 hg6 hat6; clear hat6)
   go_roundw
   case rel =>
    refine ⟨i + 1,by omega,by go_num,?_,?_,?_⟩
    ·
     rw [HH.out.1]; simp
    ·
     rw [HH.out.2.1,← HL.out.1]
     exact OwnB.append hO6 (fun x hx => by rw [List.mem_singleton.1 hx]; exact Nat.mod_lt _ (by decide)) HL.out.2.1.1 rfl rfl
    ·
     exact HM.out.2.2.grown hg6 (by simpa using hbz) fun k hk => (HM.out.1.lt hk).1
   case measure => simp [intOf]; omega
  ·
   obtain rfl : i = 8:=by omega
   obtain ⟨A,c,rfl,hc,hB⟩:=hO.bs
   have k1 : (convert 29 9 (.slice A (lowB n 8).length c)).run Tryz.prog wr = .ok (.string (strL (lowB n 8))) wr:=zhe hB rfl
   rw [lowB_num hn] at *
   clear hO hB
   go_wp2_with fail
   go_ret
   exact ⟨rfl,hE⟩
end Go.Proofs.YtedehdbajiaaiaaGreatDoor
namespace Go.Proofs.YtedehdbajiaaiaaGreatDoor
/-! ### numbers as bytes,the highest first -/
def beB (k n : Nat) : List Nat:=(List.range k).map fun i => n / 256 ^ (k - 1 - i) % 256
theorem zhk (k n : Nat) : (beB k n).length = k:=by simp [beB]
theorem beB_byt (k n : Nat) : Byt (beB k n):=fun x hx => by
 simp only [beB,List.mem_map] at hx
 obtain ⟨i,_,rfl⟩:=hx
 exact Nat.mod_lt _ (by decide)
theorem beB_get (k n : Nat) {i : Nat} (hi : i < k) : (beB k n).getD i 0 = n / 256 ^ (k - 1 - i) % 256:=by
 rw [List.getD_eq_getElem?_getD]
 simp [beB,hi]
/-! ### signatures as bytes -/
def sigB (r s : Nat) : List Nat:=beB 32 r ++ beB 32 s
theorem zdt (r s : Nat) : (sigB r s).length = 64:=by simp [sigB,zhk]
theorem sigB_byt (r s : Nat) : Byt (sigB r s):=(beB_byt _ _).append (beB_byt _ _)
/-! ### fields of numbers -/
def numFs : Int → List Int → List Fd
 | _,[] => []
 | t,n :: r => (t,numB n) :: numFs (t + 1) r
theorem zfd : ∀ (t : Int) (l : List Int),(numFs t l).length = l.length
 | _,[] => rfl
 | t,n :: r => by
  show (numFs (t + 1) r).length + 1 = r.length + 1
  rw [zfd (t + 1) r]
theorem numFs_get : ∀ (t : Int) (l : List Int) (i : Nat),i < l.length → tgF (numFs t l) i = t + i ∧ bsF (numFs t l) i = numB (l.getD i 0)
 | _,[],_,h => by simp at h
 | t,n :: r,0,_ => ⟨by show t = t + ((0 : Nat) : Int); omega,rfl⟩
 | t,n :: r,i + 1,h => by
  obtain ⟨h1,h2⟩:=numFs_get (t + 1) r i (by simpa using h)
  refine ⟨?_,h2⟩
  show tgF (numFs (t + 1) r) i = _
  rw [h1]
  omega
theorem numFs_snoc : ∀ (t : Int) (l : List Int) (n : Int),numFs t (l ++ [n]) = numFs t l ++ [(t + (l.length : Int),numB n)]
 | t,[],n => by
  show [(t,numB n)] = [(t + ((0 : Nat) : Int),numB n)]
  rw [show t + ((0 : Nat) : Int) = t by omega]
 | t,m :: r,n => by
  show (t,numB m) :: numFs (t + 1) (r ++ [n]) = (t,numB m) :: (numFs (t + 1) r ++ _)
  rw [numFs_snoc (t + 1) r n]
  congr 3
  simp only [List.length_cons]
  congr 1
  omega
theorem numFs_may {l : List Int} (h : l.length ≤ 64) : mayFs (numFs 1 l) = true:=by
 refine decide_eq_true ⟨by rw [zfd]; exact h,fun i hi => ?_⟩
 rw [zfd] at hi
 obtain ⟨h1,h2⟩:=numFs_get 1 l i hi
 unfold okF
 rw [h1,h2,zcr]
 refine ⟨by omega,by omega,by omega,fun h0 => ?_⟩
 obtain ⟨h3,_⟩:=numFs_get 1 l (i - 1) (by omega)
 rw [h3]
 omega
theorem numFs_byt : ∀ (t : Int) (l : List Int),BytF (numFs t l)
 | _,[] => fun f hf => by cases hf
 | t,n :: r => fun f hf => by
  rcases List.mem_cons.1 hf with rfl | hf
  ·
   exact numB_byt n
  ·
   exact numFs_byt (t + 1) r f hf
def numsOk (fs : List Fd) (many : Nat) : Prop:=fs.length = many ∧ ∀ i,i < many → tgF fs i = (i : Int) + 1 ∧ 0 ≤ ofB (bsF fs i)
instance (fs : List Fd) (many : Nat) : Decidable (numsOk fs many):=by unfold numsOk; exact inferInstance
def bodyB (l : List Int) : List Nat:=encF (numFs 1 l)
end Go.Proofs.YtedehdbajiaaiaaGreatDoor
namespace Go.Proofs.YtedehdbajiaaiaaGreatDoor
structure Tk where
 s : Int
 p : Int
 z : Int
 f : Int
 k : Int
def Tk.list (t : Tk) : List Int:=[t.s,t.p,t.z,t.f,t.k]
def mayT (t : Tk) : Bool:=decide (1 ≤ t.s ∧ t.s ≤ 2147483647 ∧ 1 ≤ t.p ∧ t.p ≤ 16 ∧ 1 ≤ t.z ∧ t.z ≤ 255 ∧ 0 ≤ t.f ∧ t.f ≤ 1073741824 ∧ 1 ≤ t.k ∧ t.k ≤ 2147483647)
def tkB (t : Tk) : List Nat:=bodyB t.list
theorem mayT_each {t : Tk} (h : mayT t = true) : ∀ n ∈ t.list,0 ≤ n ∧ n ≤ 9223372036854775807:=by
 have h:=of_decide_eq_true h
 intro n hn
 simp only [Tk.list,List.mem_cons,List.not_mem_nil,or_false] at hn
 rcases hn with rfl | rfl | rfl | rfl | rfl <;> omega
theorem zbv (t : Tk) : (tkB t).length = 55:=by
 unfold tkB bodyB Tk.list numFs numFs numFs numFs numFs numFs encF encF encF encF encF encF
 simp only [List.length_append,zid,zcr,List.length_nil]
theorem zhc (t : Tk) : Byt (tkB t):=encF_byt (numFs_byt _ _)
def signedB (body : List Nat) (r s : Nat) : List Nat:=encF [(1,body),(2,sigB r s)]
def twoOk (fs : List Fd) : Prop:=fs.length = 2 ∧ tgF fs 0 = 1 ∧ tgF fs 1 = 2 ∧ (bsF fs 1).length = 64
instance (fs : List Fd) : Decidable (twoOk fs):=by unfold twoOk; exact inferInstance
theorem two_may {body : List Nat} {r s : Nat} (h : body.length ≤ 65535) : mayFs [(1,body),(2,sigB r s)] = true:=by
 refine decide_eq_true ⟨(by decide : (2 : Nat) ≤ 64),fun i hi => ?_⟩
 match i,hi with
 | 0,_ => exact ⟨(by decide : (1 : Int) ≤ 1),(by decide : (1 : Int) ≤ 255),h,fun h => absurd h (by decide)⟩
 | 1,_ => exact ⟨(by decide : (1 : Int) ≤ 2),(by decide : (2 : Int) ≤ 255),(zdt r s).symm ▸ (by decide : (64 : Nat) ≤ 65535),fun _ => (by decide : (1 : Int) < 2)⟩
end Go.Proofs.YtedehdbajiaaiaaGreatDoor
namespace Go.Proofs.YtedehdbajiaaiaaGreatDoor
open Go.RowKit
open Go.Value renaming int → vI
open Go.IntKind renaming u64 → vU
open Go.Act renaming put → aP
open List renaming setIfInBounds_toArray → lA, set_cons_zero → lZ, set_cons_succ → lS
theorem zkf {bs : List Nat} (hb : Byt bs) (w : World) : ∃ A' c' w',(convert 9 29 (.string (strL bs))).run Tryz.prog w = .ok (.slice A' bs.length c') w' ∧ Ext w w' ∧ bs.length ≤ c' ∧ Bs w' A' bs ∧ Fresh w A' bs:=by
 have h:=run_bytes_of_string (P:=Tryz.prog) w 9 29 5 (strL bs) Tryz.underlying9 Tryz.underlying29 Tryz.underlying5
 rw [zgk] at h
 refine ⟨_,_,_,h,(Ext.drew w).trans (Ext.alloc _ _),grownCap_ge _ _ _ _,⟨hb,.inr ⟨w.heap.size,0,rfl,by simp,fun j hj => ?_⟩⟩,.inr fun b o e => by injection e with e; injection e with e; omega⟩
 have hblk : (w.drew.alloc (.cells (bytesRow (strL bs) (grownCap w bs.length 0 5)) 5 ((bytesRow (strL bs) (grownCap w bs.length 0 5)).size,(bytesRow (strL bs) (grownCap w bs.length 0 5)).size + 1))).heap[w.heap.size]? = some (.cells (bytesRow (strL bs) (grownCap w bs.length 0 5)) 5 ((bytesRow (strL bs) (grownCap w bs.length 0 5)).size,(bytesRow (strL bs) (grownCap w bs.length 0 5)).size + 1)):=zaz _ _
 rw [Nat.zero_add,cell_of_row _ _ j _ _ _ hblk]
 unfold bytesRow
 have hlt : j < (strL bs).data.size:=by
  show j < (strL bs).size
  rw [zgk]; exact hj
 rw [Array.getElem?_append_left (by simpa using hlt)]
 have e : (strL bs).data[j]'hlt = UInt8.ofNat (bs.getD j 0):=by
  simp only [strL]
  rw [List.getD_eq_getElem?_getD,List.getElem?_eq_getElem hj]
  simp
 have hj2:=hb.getD j
 have e3 : (UInt8.ofNat (bs.getD j 0)).toNat = bs.getD j 0:=by
  generalize bs.getD j 0 = x at hj2 ⊢
  simp
  omega
 rw [Array.getElem?_map,Array.getElem?_eq_getElem hlt,Option.map_some,e,e3]
def Is (w : World) (v : Value) (l : List Int) : Prop:=∃ A c,v = .slice A l.length c ∧ l.length ≤ c ∧ (l.length = 0 ∨ ∃ b o,A = some ⟨b,o,none⟩ ∧ b < w.heap.size ∧ ∀ i,i < l.length → w.cell? ⟨b,o + i,none⟩ = some (.int .i64 (l.getD i 0)))
theorem Is.ext {w w' : World} {v : Value} {l : List Int} (h : Is w v l) (k : Ext w w') : Is w' v l:=by
 obtain ⟨A,c,e,hc,h⟩:=h
 exact ⟨A,c,e,hc,h.imp id fun ⟨b,o,e,hb,hx⟩ => ⟨b,o,e,Nat.lt_of_lt_of_le hb k.size,fun i hi => (k.cell hb).trans (hx i hi)⟩⟩
section
variable {Q : Exit → Act → World → Prop} {ops : Array Oper} {rest : List Oper} {a : Act} {w : World} {o : Oper}
theorem wpl_bytes {x : Operand} {bs : List Nat} (hgd : o.guard = none) (hop : o.op = .convert 9 29 x) (hx : a.eval x = .string (strL bs)) (hb : Byt bs)
  (h : ∀ A' c' W,Ext w W → bs.length ≤ c' → Bs W A' bs → Fresh w A' bs → wpList Tryz.prog ops Q rest (a.put o.dst (.slice A' bs.length c')) W) : wpList Tryz.prog ops Q (o :: rest) a w:=by
 refine wpList_plain hgd fun K hK => ?_
 obtain ⟨A',c',w',hr,hE,hc,hB,hF⟩:=zkf hb w
 unfold Oper.wp execOp
 simp only [hop,hx,Sem.run_bind,hr,Result.andThen_ok,Sem.run_pure]
 exact hK _ _ (h A' c' w' hE hc hB hF)
theorem zgg {s x : Operand} {base g c : Nat} {v : Value} {fs : List Fd} {f : Fd} {al : Option Addr × Nat} (hgd : o.guard = none) (hop : o.op = .call { callee:=.builtin .append,args:=#[s,x],argTypes:=#[86,86] })
  (hs : a.eval s = v) (hx : a.eval x = .slice (some ⟨g,0,none⟩) 1 c) (hown : OwnFs w base v fs) (hg : w.heap[g]? = some (.cells #[.int .i64 f.1,.slice al.1 f.2.length al.2] 88 (0,0)))
  (hc : f.2.length ≤ al.2) (hb : Bs w al.1 f.2) (hne : Off al.1 f.2 v.ownBlock) (hn : fs.length ≤ 1000000000) (hbase : base ≤ w.heap.size)
  (h : ∀ v' W,OwnFs W base v' (fs ++ [f]) → w.grownBy W v.ownBlock → wpList Tryz.prog ops Q rest (a.put o.dst v') W) : wpList Tryz.prog ops Q (o :: rest) a w:=by
 refine wpList_plain hgd fun K hK => ?_
 obtain ⟨v',w',hr,hO,hG⟩:=zix (c1:=c) o.type hown g f al hg hc hb hne hn hbase
 unfold Oper.wp execOp
 simp only [hop,resolve,invoke,builtin,Sem.run_bind,Sem.run_pure,Result.andThen_ok,List.map_toArray,List.map_cons,List.map_nil,hs,hx,hr]
 exact hK _ _ (h v' w' hO hG)
end
theorem rbody8_calls (v : Value) (l : List Int) (w : World) (hI : Is w v l) (hL : l.length ≤ 64) (hn : ∀ n ∈ l,0 ≤ n ∧ n ≤ 9223372036854775807) :
  Calls Tryz.prog 29 #[v] w fun e w' => e = .returned (.string (strL (bodyB l))) ∧ Ext w w':=by
 obtain ⟨A,c,rfl,hc,hx⟩:=hI
 obtain ⟨n,hnl⟩ : ∃ n,n = l.length:=⟨_,rfl⟩
 rw [← hnl] at hx hc ⊢
 have HX:=veil (And.intro hx (And.intro hnl hn))
 have hnL : n ≤ 64:=by omega
 clear hx hnl hn hL
 go_enter Tryz.func29,Tryz.ntmps29
 go_wp2
 go_loopw [3,4] (fun v u wr => ∃ i : Nat,i ≤ n ∧ u = .int .i64 (i : Int) ∧ OwnFs wr w.heap.size v (numFs 1 (l.take i)) ∧ Ext w wr)
  (fun _ v _ => n - (intOf v).toNat)
 case atStart => exact ⟨0,by omega,rfl,OwnFs.nil _ _,Ext.refl _⟩
 case round =>
  obtain ⟨i,hi,rfl,hO,hE⟩:=hrel
  by_cases hlt : i < n
  ·
   have hd1 : decide ((i : Int) < (n : Int)) = true:=by simp; omega
   have hii : (i : Int) < (n : Int):=by omega
   obtain ⟨b,o,hA,hb,hcl⟩:=HX.out.1.resolve_left (by omega)
   have c0:=(hE.cell hb).trans (hcl i hlt)
   have hil : i < l.length:=by have:=HX.out.2.1; omega
   obtain ⟨X,hX⟩ : ∃ X,X = l.getD i 0:=⟨_,rfl⟩
   rw [← hX] at c0
   have hX2 : 0 ≤ X ∧ X ≤ 9223372036854775807:=by
    rw [hX,List.getD_eq_getElem?_getD,List.getElem?_eq_getElem hil]
    exact HX.out.2.2 _ (List.getElem_mem hil)
   obtain ⟨k,hk⟩ : ∃ k : Nat,X = (k : Int):=⟨X.toNat,by omega⟩
   have htk : numFs 1 (l.take (i + 1)) = numFs 1 (l.take i) ++ [((i : Int) + 1,numB (k : Int))]:=by
    have e : l.take (i + 1) = l.take i ++ [X]:=by
     rw [List.take_add_one,List.getElem?_eq_getElem hil,hX,List.getD_eq_getElem?_getD,List.getElem?_eq_getElem hil]
     rfl
    rw [e,numFs_snoc,List.length_take,hk,show min i l.length = i by omega,show (1 : Int) + (i : Int) = (i : Int) + 1 by omega]
   have hfl : (numFs 1 (l.take i)).length ≤ 1000000000:=by rw [zfd,List.length_take]; omega
   subst hk
   have HH:=veil (And.intro htk (And.intro hO (And.intro hE hfl)))
   have KN:=veil (rnum8_calls k (by omega) wr)
   have hlen:=zcr (k : Int)
   subst hA
   clear hX hX2 htk hO hE hfl hcl
   go_wp2_with (first
    | (go_at_call 66; refine KN.out.mono ?_; rintro e w1 ⟨rfl,hE1⟩)
    | ((with_reducible refine zar 19 ?_); refine wpl_bytes rfl rfl rfl (numB_byt _) ?_; intro A' c' w2 hE2 hc' hB2 hF2)
    | ((with_reducible refine zar 22 ?_); refine zgg (f:=((i : Int) + 1,numB (k : Int))) (al:=(A',c')) rfl rfl rfl rfl (HH.out.2.1.keep ((hE1.trans hE2).trans (Ext.alloc w2 _))) (by rw [hlen]; exact zaz w2 _) hc' (hB2.ext (Ext.alloc w2 _)) (hF2.off fun j hj => Nat.lt_of_lt_of_le (HH.out.2.1.lt hj).2 (Below.size hE1)) HH.out.2.2.2 (Nat.le_trans (Below.size HH.out.2.2.1) (Below.size ((hE1.trans hE2).trans (Ext.alloc w2 _)))) ?_; intro v' w5 hO5 hG5))
   have hEw:=HH.out.2.2.1.trans ((hE1.trans hE2).trans (Ext.alloc w2 (.cells #[.int .i64 ((i : Int) + 1),.slice A' 8 c'] 88)))
   go_roundw
   case rel =>
    refine ⟨i + 1,by omega,by go_num,?_,hEw.grown hG5 (Below.size hEw) fun j hj => (HH.out.2.1.lt hj).1⟩
    rw [HH.out.1]
    exact hO5
   case measure => simp [intOf]; omega
  ·
   obtain rfl : i = n:=by omega
   have hd1 : decide ((i : Int) < (i : Int)) = false:=by simp
   have e : l.take i = l:=by rw [HX.out.2.1,List.take_length]
   rw [e] at hO
   have KP:=veil (rput8_calls _ (numFs 1 l) wr hO.fl (numFs_may (by have:=HX.out.2.1; omega)))
   clear hO e
   go_wp2_with (go_at_call 44; refine KP.out.mono ?_; rintro e w1 ⟨rfl,hE1⟩)
   go_ret
   exact ⟨rfl,hE.trans hE1⟩
theorem zgf {bs : List Nat} : getFs bs = match parse bs with | some fs => if mayFs fs = true then some fs else none | none => none:=by
 unfold getFs
 cases parse bs with
 | none => rfl
 | some fs => cases h : mayFs fs <;> simp [Option.filter,h]
def PutA (w' : World) (fs : List Fd) (x ev : Value) : Prop :=
 (mayFs fs = false ∧ (∃ A c,x = .slice A 0 c) ∧ ev = .iface 35 (.int .i64 1)) ∨
 (mayFs fs = true ∧ ev = .nilIface ∧ ∃ A c,x = .slice A (encF fs).length c ∧ (encF fs).length ≤ c ∧ Bs w' A (encF fs))
def GetA (w' : World) (bs : List Nat) (x ev : Value) : Prop :=
 (getFs bs = none ∧ (∃ A c,x = .slice A 0 c) ∧ ev = .iface 35 (.int .i64 2)) ∨ (∃ fs,getFs bs = some fs ∧ ev = .nilIface ∧ Fl w' x fs)
def OfA (bs : List Nat) (x ev : Value) : Prop:=(ofB bs < 0 ∧ x = .int .i64 0 ∧ ev = .iface 35 (.int .i64 2)) ∨ (0 ≤ ofB bs ∧ x = .int .i64 (ofB bs) ∧ ev = .nilIface)
structure Code8 : Prop where
 may : ∀ (v : Value) (fs : List Fd) (w : World),Fl w v fs → fs.length ≤ 1000000000 → Calls Tryz.prog 109 #[v] w fun e w' => e = .returned (.bool (mayFs fs)) ∧ Ext w w'
 put : ∀ (v : Value) (fs : List Fd) (w : World),Fl w v fs → fs.length ≤ 1000000000 → Calls Tryz.prog 57 #[v] w fun e w' => ∃ x ev,e = .returned (.tuple #[x,ev]) ∧ Ext w w' ∧ PutA w' fs x ev
 get : ∀ (A : Option Addr) (m c : Nat) (bs : List Nat) (w : World),m = bs.length → m ≤ c → m ≤ 100000000 → Bs w A bs → Calls Tryz.prog 81 #[.slice A m c] w fun e w' => ∃ x ev,e = .returned (.tuple #[x,ev]) ∧ Ext w w' ∧ GetA w' bs x ev
 number : ∀ (n : Int) (w : World),-9223372036854775808 ≤ n → n ≤ 9223372036854775807 → Calls Tryz.prog 24 #[.int .i64 n] w fun e w' => ∃ A c,e = .returned (.slice A 8 c) ∧ 8 ≤ c ∧ Bs w' A (numB n) ∧ Ext w w'
 of : ∀ (A : Option Addr) (m c : Nat) (bs : List Nat) (w : World),m = bs.length → m ≤ c → Bs w A bs → Calls Tryz.prog 82 #[.slice A m c] w fun e w' => ∃ x ev,e = .returned (.tuple #[x,ev]) ∧ Ext w w' ∧ OfA bs x ev
def tkC (t : Tk) : Array Value:=#[.int .i64 t.s,.int .i64 t.p,.int .i64 t.z,.int .i64 t.f,.int .i64 t.k]
def tkV (t : Tk) : Value:=.agg (tkC t)
theorem iTk (t : Tk) : (Tryz.prog.info? 23).map (·.size) = some (tkC t).size:=by
 show _ = some 5
 kernel_rfl
theorem tkC_one (t : Tk) : (tkC t).all (·.oneCell') = true:=by simp [tkC,Value.oneCell']
theorem zeq {t : Tk} (h : ¬ (1 ≤ t.s ∧ t.s ≤ 2147483647 ∧ 1 ≤ t.p ∧ t.p ≤ 16 ∧ 1 ≤ t.z ∧ t.z ≤ 255 ∧ 0 ≤ t.f ∧ t.f ≤ 1073741824 ∧ 1 ≤ t.k ∧ t.k ≤ 2147483647)) : mayT t = false:=decide_eq_false h
theorem rmay9_calls (t : Tk) (w : World) : Calls Tryz.prog 7 #[tkV t] w fun e w' => e = .returned (.bool (mayT t)) ∧ Ext w w':=by
 obtain ⟨s,p,z,f,k⟩:=t
 unfold tkV tkC
 have hE:=Ext.alloc w (.cells #[.int .i64 s,.int .i64 p,.int .i64 z,.int .i64 f,.int .i64 k] 23)
 have HE:=veil hE
 clear hE
 by_cases g0 : (1 : Int) ≤ s
 ·
  have d0 : decide ((1 : Int) ≤ s) = true:=decide_eq_true g0
  by_cases g1 : s ≤ 2147483647
  ·
   have d1 : decide (s ≤ 2147483647) = true:=decide_eq_true g1
   by_cases g2 : (1 : Int) ≤ p
   ·
    have d2 : decide ((1 : Int) ≤ p) = true:=decide_eq_true g2
    by_cases g3 : p ≤ 16
    ·
     have d3 : decide (p ≤ 16) = true:=decide_eq_true g3
     by_cases g4 : (1 : Int) ≤ z
     ·
      have d4 : decide ((1 : Int) ≤ z) = true:=decide_eq_true g4
      by_cases g5 : z ≤ 255
      ·
       have d5 : decide (z ≤ 255) = true:=decide_eq_true g5
       by_cases g6 : (0 : Int) ≤ f
       ·
        have d6 : decide ((0 : Int) ≤ f) = true:=decide_eq_true g6
        by_cases g7 : f ≤ 1073741824
        ·
         have d7 : decide (f ≤ 1073741824) = true:=decide_eq_true g7
         by_cases g8 : (1 : Int) ≤ k
         ·
          have d8 : decide ((1 : Int) ≤ k) = true:=decide_eq_true g8
          by_cases g9 : k ≤ 2147483647
          ·
           have d9 : decide (k ≤ 2147483647) = true:=decide_eq_true g9
           have hm : mayT ⟨s,p,z,f,k⟩ = true:=decide_eq_true ⟨g0,g1,g2,g3,g4,g5,g6,g7,g8,g9⟩
           rw [hm]
           clear hm
           go_enter Tryz.func7,Tryz.ntmps7
           go_wp2
           go_ret
           exact ⟨rfl,HE.out⟩
          ·
           have d9 : decide (k ≤ 2147483647) = false:=decide_eq_false g9
           have hm : mayT ⟨s,p,z,f,k⟩ = false:=zeq fun h => by
            have:=h
            simp only at this
            omega
           rw [hm]
           clear hm
           go_enter Tryz.func7,Tryz.ntmps7
           go_wp2
           go_ret
           exact ⟨rfl,HE.out⟩
         ·
          have d8 : decide ((1 : Int) ≤ k) = false:=decide_eq_false g8
          have hm : mayT ⟨s,p,z,f,k⟩ = false:=zeq fun h => by
           have:=h
           simp only at this
           omega
          rw [hm]
          clear hm
          go_enter Tryz.func7,Tryz.ntmps7
          go_wp2
          go_ret
          exact ⟨rfl,HE.out⟩
        ·
         have d7 : decide (f ≤ 1073741824) = false:=decide_eq_false g7
         have hm : mayT ⟨s,p,z,f,k⟩ = false:=zeq fun h => by
          have:=h
          simp only at this
          omega
         rw [hm]
         clear hm
         go_enter Tryz.func7,Tryz.ntmps7
         go_wp2
         go_ret
         exact ⟨rfl,HE.out⟩
       ·
        have d6 : decide ((0 : Int) ≤ f) = false:=decide_eq_false g6
        have hm : mayT ⟨s,p,z,f,k⟩ = false:=zeq fun h => by
         have:=h
         simp only at this
         omega
        rw [hm]
        clear hm
        go_enter Tryz.func7,Tryz.ntmps7
        go_wp2
        go_ret
        exact ⟨rfl,HE.out⟩
      ·
       have d5 : decide (z ≤ 255) = false:=decide_eq_false g5
       have hm : mayT ⟨s,p,z,f,k⟩ = false:=zeq fun h => by
        have:=h
        simp only at this
        omega
       rw [hm]
       clear hm
       go_enter Tryz.func7,Tryz.ntmps7
       go_wp2
       go_ret
       exact ⟨rfl,HE.out⟩
     ·
      have d4 : decide ((1 : Int) ≤ z) = false:=decide_eq_false g4
      have hm : mayT ⟨s,p,z,f,k⟩ = false:=zeq fun h => by
       have:=h
       simp only at this
       omega
      rw [hm]
      clear hm
      go_enter Tryz.func7,Tryz.ntmps7
      go_wp2
      go_ret
      exact ⟨rfl,HE.out⟩
    ·
     have d3 : decide (p ≤ 16) = false:=decide_eq_false g3
     have hm : mayT ⟨s,p,z,f,k⟩ = false:=zeq fun h => by
      have:=h
      simp only at this
      omega
     rw [hm]
     clear hm
     go_enter Tryz.func7,Tryz.ntmps7
     go_wp2
     go_ret
     exact ⟨rfl,HE.out⟩
   ·
    have d2 : decide ((1 : Int) ≤ p) = false:=decide_eq_false g2
    have hm : mayT ⟨s,p,z,f,k⟩ = false:=zeq fun h => by
     have:=h
     simp only at this
     omega
    rw [hm]
    clear hm
    go_enter Tryz.func7,Tryz.ntmps7
    go_wp2
    go_ret
    exact ⟨rfl,HE.out⟩
  ·
   have d1 : decide (s ≤ 2147483647) = false:=decide_eq_false g1
   have hm : mayT ⟨s,p,z,f,k⟩ = false:=zeq fun h => by
    have:=h
    simp only at this
    omega
   rw [hm]
   clear hm
   go_enter Tryz.func7,Tryz.ntmps7
   go_wp2
   go_ret
   exact ⟨rfl,HE.out⟩
 ·
  have d0 : decide ((1 : Int) ≤ s) = false:=decide_eq_false g0
  have hm : mayT ⟨s,p,z,f,k⟩ = false:=zeq fun h => by
   have:=h
   simp only at this
   omega
  rw [hm]
  clear hm
  go_enter Tryz.func7,Tryz.ntmps7
  go_wp2
  go_ret
  exact ⟨rfl,HE.out⟩
theorem rbody9_calls (t : Tk) (hm : mayT t = true) (w : World) : Calls Tryz.prog 11 #[tkV t] w fun e w' => e = .returned (.string (strL (tkB t))) ∧ Ext w w':=by
 have hl:=mayT_each hm
 have hL : t.list.length ≤ 64:=(by decide : (5 : Nat) ≤ 64)
 unfold tkB
 obtain ⟨s,p,z,f,k⟩:=t
 unfold tkV tkC
 have hE : Ext w ((w.alloc (.cells #[.int .i64 s,.int .i64 p,.int .i64 z,.int .i64 f,.int .i64 k] 23)).alloc (.cells #[.int .i64 s,.int .i64 p,.int .i64 z,.int .i64 f,.int .i64 k] 3)):=(Ext.alloc w _).trans (Ext.alloc _ _)
 have hI : Is ((w.alloc (.cells #[.int .i64 s,.int .i64 p,.int .i64 z,.int .i64 f,.int .i64 k] 23)).alloc (.cells #[.int .i64 s,.int .i64 p,.int .i64 z,.int .i64 f,.int .i64 k] 3)) (.slice (some ⟨w.heap.size + 1,0,none⟩) 5 5) (Tk.list ⟨s,p,z,f,k⟩):=by
  refine ⟨_,5,rfl,Nat.le_refl _,.inr ⟨w.heap.size + 1,0,rfl,by simp,fun i hi => ?_⟩⟩
  have hb : ((w.alloc (.cells #[.int .i64 s,.int .i64 p,.int .i64 z,.int .i64 f,.int .i64 k] 23)).alloc (.cells #[.int .i64 s,.int .i64 p,.int .i64 z,.int .i64 f,.int .i64 k] 3)).heap[w.heap.size + 1]? = some (.cells #[.int .i64 s,.int .i64 p,.int .i64 z,.int .i64 f,.int .i64 k] 3 (0,0)):=by
   have e : w.heap.size + 1 = (w.alloc (.cells #[.int .i64 s,.int .i64 p,.int .i64 z,.int .i64 f,.int .i64 k] 23)).heap.size:=by simp
   rw [e]
   exact zaz _ _
  rw [Nat.zero_add,cell_of_row _ _ i _ _ _ hb]
  match i,hi with
  | 0,_ => rfl
  | 1,_ => rfl
  | 2,_ => rfl
  | 3,_ => rfl
  | 4,_ => rfl
 have KB:=veil (And.intro (rbody8_calls _ _ _ hI hL hl) hE)
 clear hI hE hl hL hm
 go_enter Tryz.func11,Tryz.ntmps11
 go_wp2_with (go_at_call 29; refine KB.out.1.mono ?_; rintro e w1 ⟨rfl,hE1⟩)
 go_ret
 exact ⟨rfl,KB.out.2.trans hE1⟩
end Go.Proofs.YtedehdbajiaaiaaGreatDoor
