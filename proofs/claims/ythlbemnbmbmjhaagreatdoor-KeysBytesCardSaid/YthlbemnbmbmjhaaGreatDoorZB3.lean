/-
  Of Sch T3 T4 T5 Add Sub Cmp G1.
-/
import Derived.BigQuiet
import Derived.Laws.Concat
import Derived.Deep.MidRow
import Derived.Laws.OwnMore
import Derived.Maps.AppendAt
import Derived.ArgAppend
import Derived.Test.YthlbemnbmbmjhaaGreatDoorRows
import Derived.WalkKit
import Derived.WalkSpells
import Derived.WalkLawsBesides
import Derived.Deep.LoopGhost
import Derived.Deep.RegionWith
import Derived.Deep.QuietTactic
import Derived.Test.YthlbemnbmbmjhaaGreatDoorZB2
import Derived.Test.YthlbemnbmbmjhaaGreatDoorZB1
set_option maxRecDepth 1000000
set_option maxHeartbeats 20000000
namespace Go.Proofs.YthlbemnbmbmjhaaGreatDoor
open Go.RowKit
open Go.Value renaming int → vI
open Go.IntKind renaming u64 → vU
open Go.Act renaming put → aP
open List renaming setIfInBounds_toArray → lA, set_cons_zero → lZ, set_cons_succ → lS
structure Gw (D : World → Prop) where
 val : World
 property : D val
abbrev Sub (D : World → Prop) : World → Prop:=fun W => ∃ x : Gw D,W = x.val
section
variable {P : Program} {ops : Array Oper} {Q : Exit → Act → World → Prop} {md : Region.Mode}
/-! ### the quiet walk in every class of grown worlds is a walk of made values -/
def dstsB : List Oper → List Nat
 | [] => []
 | o :: r => (match o.dst with | some d => [d] | none => []) ++ dstsB r
def ownB (size : Nat) : List Oper → Bool
 | [] => true
 | o :: r => (match o.dst with | some d => decide (d < size) && !(dstsB r).contains d | none => false) && ownB size r
theorem put_tmps (a : Act) (d : Nat) (v : Value) : (a.put (some d) v).tmps = a.tmps.setIfInBounds d v:=rfl
theorem zew {C : World → Prop} {A : Act} : ∀ {l : List Oper} {a : Act} {d : Nat},d ∉ dstsB l → wpQuiet P ops C (fun a' => a' = A) l a → A.tmps[d]? = a.tmps[d]?
 | [],a,d,_,h => by
  have h' : a = A:=h
  rw [h']
 | o :: r,a,d,hd,h => by
  have hr : d ∉ dstsB r:=fun hh => hd (by unfold dstsB; exact List.mem_append_right _ hh)
  have hne : ∀ v,(a.put o.dst v).tmps[d]? = a.tmps[d]?:=fun v => by
   cases ho : o.dst with
   | none => rfl
   | some e =>
    have : e ≠ d:=fun hh => hd (by unfold dstsB; rw [ho]; simp [hh])
    rw [put_tmps,Array.getElem?_setIfInBounds_ne this]
  unfold wpQuiet at h
  split at h
  ·
   obtain ⟨v,_,hK⟩:=h
   rw [zew hr hK,hne]
  ·
   rw [zew hr h,hne]
theorem made_of_quiet {o : Oper} {v : Value} {a : Act} {w : World} (h : ∀ W,Ext w W → o.quietAt P a (Sub (Ext W)) W v) : Made P o v a w:=fun W hW => by
 have h1:=h W hW
 unfold Oper.quietAt at h1
 generalize (execOp a.eval o).run P W = r at *
 cases r with
 | ok n w' =>
  cases n <;> simp only [Oper.quietUpon] at h1 <;> simp only [madeUpon]
  case value u => obtain ⟨rfl,rfl⟩:=h1; exact ⟨rfl,Ext.refl _⟩
  case skip => obtain ⟨rfl,rfl⟩:=h1; exact ⟨rfl,Ext.refl _⟩
  case enter f args =>
   obtain ⟨rfl,hc⟩:=h1
   exact hc.mono fun e w'' ⟨he,x,hx⟩ => ⟨he,by rw [hx]; exact x.property⟩
 | halt x w' => simp only [Oper.quietUpon] at h1
structure Up (w : World) (D : World → Prop) : Prop where
 ne : Nonempty (Gw D)
 grown : ∀ W,D W → Ext w W
 up : ∀ W W',D W → Ext W W' → D W'
theorem Up.ext {w : World} (W : World) (h : Ext w W) : Up w (Ext W):=⟨⟨⟨W,Ext.refl W⟩⟩,fun _ k => h.trans k,fun _ _ k k' => k.trans k'⟩
theorem Up.cell {w : World} {D : World → Prop} (h : Up w D) {b o : Nat} {v : Value} (hc : w.cell? ⟨b,o,none⟩ = some v) : ∀ x : Gw D,x.val.cell? ⟨b,o,none⟩ = some v:=fun x => by
 have hb : b < w.heap.size:=World.block_lt_of_cell? w ⟨b,o,none⟩ hc
 exact (Below.cell (h.grown _ x.property) (p:=⟨b,o,none⟩) hb).trans hc
theorem zez {w : World} {A : Act} : ∀ {l : List Oper} {a : Act},ownB a.tmps.size l = true → (∀ D,Up w D → wpQuiet P ops (Sub D) (fun a' => a' = A) l a) → wpMk P ops w (fun a' => a' = A) l a
 | [],a,_,h => h (Ext w) (Up.ext w (Ext.refl w))
 | o :: r,a,hB,h => by
  unfold ownB at hB
  cases ho : o.dst with
  | none => rw [ho] at hB; simp at hB
  | some d =>
   rw [ho] at hB
   simp only [Bool.and_eq_true,decide_eq_true_eq,Bool.not_eq_true'] at hB
   obtain ⟨⟨hd,hnot⟩,hr⟩:=hB
   have hnot' : d ∉ dstsB r:=fun hh => by
    have : (dstsB r).contains d = true:=by simpa using hh
    rw [hnot] at this; cases this
   have hsz : ∀ v,(a.put o.dst v).tmps.size = a.tmps.size:=fun v => by rw [ho,put_tmps]; simp
   by_cases hw : Region.wanted o (yielded ops a.tmps) = true
   ·
    have each : ∀ D,Up w D → (∀ W,Sub D W → o.quietAt P a (Sub D) W (A.tmps.getD d undef)) ∧ wpQuiet P ops (Sub D) (fun a' => a' = A) r (a.put o.dst (A.tmps.getD d undef)):=fun D hD => by
     have h1:=h D hD
     unfold wpQuiet at h1
     rw [if_pos hw] at h1
     obtain ⟨v,h2,h3⟩:=h1
     have h4:=zew hnot' h3
     rw [ho,put_tmps,Array.getElem?_setIfInBounds_self_of_lt hd] at h4
     have hv : A.tmps.getD d undef = v:=by simp [h4]
     rw [hv]
     exact ⟨h2,h3⟩
    refine ⟨A.tmps.getD d undef,.inl ⟨hw,made_of_quiet fun W hW => ?_⟩,zez (by rw [hsz]; exact hr) fun D hD => (each D hD).2⟩
    exact (each (Ext W) (Up.ext W hW)).1 W ⟨⟨W,Ext.refl W⟩,rfl⟩
   ·
    have hw' : Region.wanted o (yielded ops a.tmps) = false:=by simpa using hw
    refine ⟨undef,.inr ⟨hw',rfl⟩,zez (by rw [hsz]; exact hr) fun D hD => ?_⟩
    have h1:=h D hD
    unfold wpQuiet at h1
    rwa [if_neg hw] at h1
theorem zdg {o : Oper} {a : Act} {D : World → Prop} {K : Act → Prop} (v : Value) (h : ∀ x : Gw D,(execOp a.eval o).run P x.val = .ok (.value v) x.val) (hK : K (a.put o.dst v)) : o.quiet P a (fun W => ∃ x : Gw D,W = x.val) K :=
 ⟨v,fun W hW => by
  obtain ⟨x,rfl⟩:=hW
  unfold Oper.quietAt
  rw [h x]
  exact ⟨rfl,rfl⟩,hK⟩
theorem zbw {o : Oper} {a : Act} {t : TypeId} {x y z : Operand} {v v' vy vz : Value} {W : World} (ho : o.op = .slice t x (some y) (some z) none) (hx : a.eval x = v) (hy : a.eval y = vy) (hz : a.eval z = vz)
  (h : (Instr.sliceAt t v (some vy) (some vz) none).run P W = .ok v' W) : (execOp a.eval o).run P W = .ok (.value v') W:=by
 unfold execOp
 simp only [ho,hx,hy,hz,Option.map_some,Option.map_none,Sem.run_bind,h,Result.andThen_ok,Sem.run_pure]
/-! ### schedules -/
def lateS (md : Region.Mode) (ops : Array Oper) (n : Nat) : Bool :=
 decide (ops.size ≤ n) || (((List.range n).all fun i => (List.range (n + 1)).any fun j => decide (i < j) && Region.waitsFor md ops j i) && (List.range ops.size).all fun t => decide (t ≤ n) || Region.waitsFor md ops t n)
theorem lateS_one {n : Nat} {listed : Array Bool} (hB : ((List.range n).all fun i => (List.range (n + 1)).any fun j => decide (i < j) && Region.waitsFor md ops j i) = true) (inv : Closed md ops listed) :
  ∀ (d i : Nat),n - i = d → i < n → listed.getD i false = false → listed.getD n false = false ∧ n ∉ Region.ready md ops listed:=by
 intro d
 induction d using Nat.strongRecOn with
 | _ d ih =>
  intro i hd hi hun
  have h1:=List.all_eq_true.1 hB i (List.mem_range.2 hi)
  obtain ⟨j,hj,hj2⟩:=List.any_eq_true.1 h1
  simp only [Bool.and_eq_true,decide_eq_true_eq] at hj2
  have hjn:=List.mem_range.1 hj
  obtain ⟨oj,hoj,e,he,hb,hon⟩:=Region.waitsFor_spec hj2.2
  have hlj : listed.getD j false = false:=by
   cases h2 : listed.getD j false with
   | false => rfl
   | true =>
    have h3:=inv.2 j oj hoj h2 e he hb
    rw [hon,hun] at h3
    cases h3
  by_cases hl : j = n
  ·
   subst hl
   refine ⟨hlj,fun hr => ?_⟩
   obtain ⟨_,oj',hoj',hall⟩:=mem_ready.1 hr
   have : oj = oj':=Option.some.inj (hoj.symm.trans hoj')
   subst this
   have h3:=hall e he hb
   rw [hon,hun] at h3
   cases h3
  ·
   exact ih (n - j) (by omega) j rfl (by omega) hlj
theorem lateS_spec {n i : Nat} {listed : Array Bool} (hB : lateS md ops n = true) (inv : Closed md ops listed) (hi : i < n) (hun : listed.getD i false = false)
  {t : Nat} (ht : t ∈ Region.ready md ops listed) : t < n:=by
 obtain ⟨_,ot,hot,hall⟩:=mem_ready.1 ht
 have htl : t < ops.size:=(Array.getElem?_eq_some_iff.1 hot).1
 unfold lateS at hB
 simp only [Bool.or_eq_true,decide_eq_true_eq,Bool.and_eq_true] at hB
 rcases hB with hB | ⟨hB1,hB2⟩
 ·
  omega
 ·
  obtain ⟨hn1,hn2⟩:=lateS_one hB1 inv _ i rfl hi hun
  have h1:=List.all_eq_true.1 hB2 t (List.mem_range.2 htl)
  simp only [Bool.or_eq_true,decide_eq_true_eq] at h1
  rcases h1 with h1 | h1
  ·
   have : t ≠ n:=fun e => hn2 (e ▸ ht)
   omega
  ·
   obtain ⟨o',ho',e,he,hb,hon⟩:=Region.waitsFor_spec h1
   have : o' = ot:=Option.some.inj (ho'.symm.trans hot)
   subst this
   have h2:=hall e he hb
   rw [hon,hn1] at h2
   cases h2
theorem S_first {i n : Nat} {oi : Oper} {v : Value} (hi : ops[i]? = some oi) (hsel : ∀ (j : Nat) (o : Oper) cs b,ops[j]? = some o → o.op ≠ .select cs b)
  (hQ : ∀ c a w,Q (.panic c) (a.put oi.dst v) w → Q (.panic c) a w) (hB : lateS md ops n = true) (him : i < n) :
  ∀ (fuel : Nat) (listed : Array Bool) (a : Act) (w : World),Closed md ops listed →
   (∀ j oj,ops[j]? = some oj → j ≠ i → listed.getD j true = false → (∀ e ∈ oj.after,Region.binds md e = true → e.on ≠ i) → oi.apart ops oj = true) →
   i ∈ Region.ready md ops listed → YieldsE P ops oi v a w →
   wpG P md ops Q n fuel (listed.setIfInBounds i true) (a.put oi.dst v) w → wpG P md ops Q n (fuel + 1) listed a w:=by
 intro fuel
 induction fuel with
 | zero =>
  intro listed a w _ _ hr hy H
  refine ⟨fun h => (by rw [h] at hr; cases hr),fun j hj W hW => ?_⟩
  by_cases hji : j = i
  ·
   subst hji; exact hy.wpOp hi hW fun W' hW' => ⟨fun _ => hW',H.ext (hW.trans hW')⟩
  ·
   have:=ready_mono hj hji
   rw [H.1] at this
   cases this
 | succ fuel ih =>
  intro listed a w inv hfree hr hy H
  refine ⟨fun h => (by rw [h] at hr; cases hr),fun j hj W hW => ?_⟩
  by_cases hji : j = i
  ·
   subst hji; exact hy.wpOp hi hW fun W' hW' => ⟨fun _ => hW',H.ext (hW.trans hW')⟩
  ·
   have hun:=getD_both (mem_ready.1 hr).1
   have hjn : j < n:=lateS_spec hB inv him hun hj
   have h1:=H.2 j (ready_mono hj hji) W hW
   obtain ⟨hjun,oj,hoj,hall⟩:=mem_ready.1 hj
   have hnot : ∀ e ∈ oj.after,Region.binds md e = true → e.on ≠ i:=fun e he hb heq => by
    have h2:=hall e he hb
    rw [heq,hun] at h2
    cases h2
   have h2:=wpOp_putE hoj (hfree j oj hoj hji hjun hnot) (fun cs b => hsel i oi cs b hi) (fun cs b => hsel j oj cs b hoj) hQ (fun a' w' hk => hk.1 hjn)
    (hy.of_same hW rfl rfl) h1
   have hfree' : ∀ k ok,ops[k]? = some ok → k ≠ i → (listed.setIfInBounds j true).getD k true = false →
     (∀ e ∈ ok.after,Region.binds md e = true → e.on ≠ i) → oi.apart ops ok = true:=fun k ok hk hki hunk hno => by
    refine hfree k ok hk hki ?_ hno
    by_cases hjk : j = k
    ·
     subst hjk; exact hjun
    ·
     rw [getD_set_ne true hjk] at hunk; exact hunk
   refine wpOp_mono (fun a' w' h3 => ⟨h3.2.1,ih (listed.setIfInBounds j true) a' w' (inv.set hj) hfree' (ready_mono hr (Ne.symm hji)) h3.1 ?_⟩) h2
   rw [Array.setIfInBounds_comm _ _ hji]
   exact h3.2.2
abbrev Sched:=List (Bool × List Nat)
def takeI (md : Region.Mode) (ops : Array Oper) (n : Nat) : List Nat → Array Bool → Bool
 | [],_ => true
 | k :: r,listed => (Region.ready md ops listed).contains k && Region.free md ops listed k && decide (k < n) && takeI md ops n r (listed.setIfInBounds k true)
def oneI (md : Region.Mode) (ops : Array Oper) : List Nat → Array Bool → Bool
 | [],_ => true
 | k :: r,listed => (Region.ready md ops listed == [k]) && oneI md ops r (listed.setIfInBounds k true)
def markI : List Nat → Array Bool → Array Bool
 | [],listed => listed
 | k :: r,listed => markI r (listed.setIfInBounds k true)
def schedI (md : Region.Mode) (ops : Array Oper) (n : Nat) : Sched → Array Bool → Bool
 | [],listed => (Region.ready md ops listed).isEmpty
 | (true,is) :: r,listed => takeI md ops n is listed && schedI md ops n r (markI is listed)
 | (false,is) :: r,listed => oneI md ops is listed && schedI md ops n r (markI is listed)
def consO : Option Oper → List Oper → List Oper
 | some o,r => o :: r
 | none,r => r
def pickI (l : List Oper) : List Nat → List Oper
 | [] => []
 | k :: r => consO l[k]? (pickI l r)
def wpOne (P : Program) (ops : Array Oper) (Q : Exit → Act → World → Prop) (n : Nat) (R : Act → World → Prop) : List Nat → Act → World → Prop
 | [],a,w => R a w
 | k :: r,a,w => ∀ W,Ext w W → wpOp P ops Q k (fun a' W' => (k < n → Ext W W') ∧ wpOne P ops Q n R r a' W') a W
def wpSched (P : Program) (l : List Oper) (Q : Exit → Act → World → Prop) (n : Nat) : Sched → Act → World → Prop
 | [],a,w => ∀ W,Ext w W → Q .normal a W
 | (true,is) :: r,a,w => wpMk P l.toArray w (fun a' => wpSched P l Q n r a' w) (pickI l is) a
 | (false,is) :: r,a,w => wpOne P l.toArray Q n (fun a' w' => wpSched P l Q n r a' w') is a w
def lenI : Sched → Nat
 | [] => 0
 | (_,is) :: r => is.length + lenI r
theorem S_take {n g : Nat} {l : List Oper} (hsel : Region.noSelect l.toArray = true) (hQ : ∀ (o : Oper) v c a w,Q (.panic c) (a.put o.dst v) w → Q (.panic c) a w) (hB : lateS md l.toArray n = true) {w : World} {R : Act → Prop} {L : Array Bool}
  (hR : ∀ a,R a → Closed md l.toArray L → wpG P md l.toArray Q n g L a w) : ∀ (is : List Nat) (listed : Array Bool) (a : Act),Closed md l.toArray listed →
  takeI md l.toArray n is listed = true → markI is listed = L → wpMk P l.toArray w R (pickI l is) a → wpG P md l.toArray Q n (is.length + g) listed a w
 | [],listed,a,inv,_,hL,h => by
  have hL' : listed = L:=hL
  subst hL'
  simpa using hR a h inv
 | k :: r,listed,a,inv,hX,hL,h => by
  simp only [takeI,Bool.and_eq_true,decide_eq_true_eq] at hX
  obtain ⟨⟨⟨hr,hf⟩,hkn⟩,hX'⟩:=hX
  have hr' : k ∈ Region.ready md l.toArray listed:=by simpa using hr
  obtain ⟨_,o,h0,_⟩:=mem_ready.1 hr'
  have h0' : l[k]? = some o:=by simpa using h0
  unfold pickI at h
  rw [h0'] at h
  obtain ⟨v,hy,hK⟩:=h
  rw [List.length_cons,show r.length + 1 + g = (r.length + g) + 1 by omega]
  exact S_first h0 (Region.noSelect_spec hsel) (hQ o v) hB hkn _ listed a w inv (Region.free_spec h0 hf) hr' hy
   (S_take hsel hQ hB hR r _ _ (inv.set hr') hX' hL hK)
theorem S_one {n g : Nat} {l : List Oper} {R : Act → World → Prop} {L : Array Bool} (hRx : ∀ a w w',R a w → Ext w w' → R a w')
  (hR : ∀ a w,R a w → Closed md l.toArray L → wpG P md l.toArray Q n g L a w) : ∀ (is : List Nat) (listed : Array Bool) (a : Act) (w : World),Closed md l.toArray listed →
  oneI md l.toArray is listed = true → markI is listed = L → wpOne P l.toArray Q n R is a w → wpG P md l.toArray Q n (is.length + g) listed a w
 | [],listed,a,w,inv,_,hL,h => by
  have hL' : listed = L:=hL
  subst hL'
  simpa using hR a w h inv
 | k :: r,listed,a,w,inv,hX,hL,h => by
  simp only [oneI,Bool.and_eq_true,beq_iff_eq] at hX
  obtain ⟨hr,hX'⟩:=hX
  rw [List.length_cons,show r.length + 1 + g = (r.length + g) + 1 by omega]
  refine ⟨fun h0 => (by rw [hr] at h0; cases h0),fun i hi W hW => ?_⟩
  have hik : i = k:=by rw [hr] at hi; simpa using hi
  subst hik
  refine wpOp_mono (fun a' W' hk => ⟨hk.1,S_one hRx hR r _ _ _ (inv.set hi) hX' hL hk.2⟩) (h W hW)
theorem wpMk_ext {w w' : World} {R R' : Act → Prop} (hE : Ext w w') (hR : ∀ a,R a → R' a) : ∀ {l : List Oper} {a : Act},wpMk P ops w R l a → wpMk P ops w' R' l a
 | [],_,hh => hR _ hh
 | _ :: _,_,⟨v,hy,hK⟩ => ⟨v,hy.of_same hE rfl rfl,wpMk_ext hE hR hK⟩
theorem wpOne_ext {n : Nat} {R : Act → World → Prop} {w w' : World} (hE : Ext w w') (hRx : ∀ a w w',R a w → Ext w w' → R a w') : ∀ {is : List Nat} {a : Act},wpOne P ops Q n R is a w → wpOne P ops Q n R is a w'
 | [],_,h => hRx _ _ _ h hE
 | _ :: _,_,h => fun W hW => h W (hE.trans hW)
theorem zer {l : List Oper} {n : Nat} : ∀ {s : Sched} {a : Act} {w w' : World},wpSched P l Q n s a w → Ext w w' → wpSched P l Q n s a w'
 | [],_,_,_,h,hE => fun W hW => h W (hE.trans hW)
 | (true,_) :: _,_,_,_,h,hE => wpMk_ext hE (fun _ h => zer h hE) h
 | (false,is) :: r,_,_,_,h,hE => wpOne_ext (R:=fun a' w' => wpSched P l Q n r a' w') (is:=is) hE (fun _ _ _ h k => zer h k) h
theorem S_all {n : Nat} {l : List Oper} (hsel : Region.noSelect l.toArray = true) (hQ : ∀ (o : Oper) v c a w,Q (.panic c) (a.put o.dst v) w → Q (.panic c) a w) (hB : lateS md l.toArray n = true) :
  ∀ (s : Sched) (listed : Array Bool) (a : Act) (w : World),Closed md l.toArray listed → schedI md l.toArray n s listed = true → wpSched P l Q n s a w → wpG P md l.toArray Q n (lenI s) listed a w
 | [],listed,a,w,_,hX,h => ⟨by simpa [schedI] using hX,h⟩
 | (true,is) :: r,listed,a,w,inv,hX,h => by
  simp only [schedI,Bool.and_eq_true] at hX
  exact S_take (g:=lenI r) hsel hQ hB (R:=fun a' => wpSched P l Q n r a' w) (L:=markI is listed) (fun a' h' inv' => S_all hsel hQ hB r _ _ _ inv' hX.2 h') is listed a inv hX.1 rfl h
 | (false,is) :: r,listed,a,w,inv,hX,h => by
  simp only [schedI,Bool.and_eq_true] at hX
  exact S_one (g:=lenI r) (R:=fun a' w' => wpSched P l Q n r a' w') (L:=markI is listed) (fun _ _ _ h k => zer h k) (fun a' w' h' inv' => S_all hsel hQ hB r _ _ _ inv' hX.2 h') is listed a w inv hX.1 rfl h
def schedB (l : List Oper) (n : Nat) (s : Sched) : Bool :=
 Region.noSelect l.toArray && lateS .any l.toArray n && (lenI s == l.length) && schedI .any l.toArray n s (Array.replicate l.length false)
theorem zcj {id : Nat} (n : Nat) (s : Sched) {a : Act} {w : World} {l : List Oper} (hm : P.follows .mixedOrders = true) (hB : schedB l n s = true)
  (h : ∀ Q',Hid (Q' = NoPanic Q) → wpSched P l Q' n s a w) : (Code.region id l.toArray true).wp P Q a w:=by
 simp only [schedB,Bool.and_eq_true,beq_iff_eq] at hB
 obtain ⟨⟨⟨hsel,hlate⟩,hlen⟩,hs⟩:=hB
 refine wp_region_noPanic ?_
 have inv0 : Closed .any l.toArray (Array.replicate l.length false) :=
  ⟨by simp,fun j oj _ hl => (by rw [getD_replicate_false] at hl; cases hl)⟩
 have H:=S_all (P:=P) (md:=.any) (Q:=NoPanic Q) hsel (fun _ _ _ _ _ h => h) hlate s _ a w inv0 hs (h _ (veil rfl))
 rw [hlen] at H
 refine wp_region_any hm (zgh (n:=n) _ _ _ _ ?_)
 have:=wpG.ext H (Ext.drew w)
 simpa using this
/-! ### how its parts are walked -/
theorem zbu {C : World → Prop} {a : Act} : wpQuiet P ops C (fun a' => a' = a) [] a:=rfl
theorem zbc {l : List Oper} {n : Nat} {is : List Nat} {r : Sched} {a A : Act} {w : World} (os : List Oper) (ho : pickI l is = os) (hB : ownB a.tmps.size os = true)
  (h : ∀ D,Up w D → Nonempty (Gw D) → wpQuiet P l.toArray (fun W => ∃ x : Gw D,W = x.val) (fun a' => a' = A) os a) (h2 : wpSched P l Q n r A w) : wpSched P l Q n ((true,is) :: r) a w:=by
 subst ho
 exact zft (fun a' e => by subst e; exact h2) (zez hB fun D hD => h D hD hD.ne)
theorem zdy {l : List Oper} {n k : Nat} {r : Sched} {a : Act} {w : World} (o : Oper) (ho : l[k]? = some o) (hg : o.guard = none)
  (h : ∀ W,Ext w W → o.wp P a W (fun a' W' => (k < n → Ext W W') ∧ wpSched P l Q n r a' W') Q) : wpSched P l Q n ((false,[k]) :: r) a w:=fun W hW =>
 zcf (by simpa using ho) hg (h W hW)
theorem zcx {l : List Oper} {n k : Nat} {r : Sched} {a : Act} {w : World} {t e : TypeId} {len d : Nat} {ps : List (Nat × Operand)} {vs : List (Nat × Value)} {C : Array Value} (o : Oper) (ho : l[k]? = some o) (hg : o.guard = none) (hop : o.op = .buildSlice t len ps.toArray) (hd : o.dst = some d)
  (hv : ps.map (fun (i,x) => (i,a.eval x)) = vs) (hb : ∀ W,(Instr.buildSlice t len vs.toArray).run P W = .ok (.slice (some ⟨W.heap.size,0,none⟩) len len) (W.alloc (.cells C e)))
  (h : ∀ g W,w.heap.size ≤ g → W.heap[g]? = some (.cells C e (0,0)) → Ext w W → wpSched P l Q n r (a.put (some d) (.slice (some ⟨g,0,none⟩) len len)) W) : wpSched P l Q n ((false,[k]) :: r) a w:=by
 refine zdy o ho hg fun W hW => ?_
 unfold Oper.wp execOp
 simp only [hop,List.map_toArray]
 rw [show ps.map (fun x => match x with | (i,x) => (i,a.eval x)) = vs from hv]
 simp only [Sem.run_bind,hb W,Result.andThen_ok,Sem.run_pure]
 show (k < n → Ext W _) ∧ _
 rw [hd]
 exact ⟨fun _ => Ext.alloc W _,h _ _ (Below.size hW) (zag W _) (hW.trans (Ext.alloc W _))⟩
theorem zcb {l : List Oper} {n : Nat} {a : Act} {w : World} {R : Exit → Act → World → Prop} (hQ : Hid (Q = NoPanic R)) (h : ∀ W,Ext w W → R .normal a W) : wpSched P l Q n [] a w:=fun W hW => by
 rw [hQ.out]
 exact h W hW
end
theorem zca (bs : List Nat) : (strL bs).size = bs.length:=by simp [strL,ByteArray.size]
theorem mayFs_ok {fs : List Fd} (h : mayFs fs = true) {i : Nat} (hi : i < fs.length) : okF fs i:=(of_decide_eq_true h).2 i hi
theorem zec {fs : List Fd} (h : mayFs fs = true) : fs.length ≤ 64:=(of_decide_eq_true h).1
theorem zdc {fs : List Fd} (h : mayFs fs = true) (i : Nat) : (encF (fs.take i)).length ≤ 4194432:=by
 have h1:=zfi (fs.take i) 65535 fun f hf => (mayFs_each h f (List.mem_of_mem_take hf)).2.2
 have h2:=zec h
 have h3 : (fs.take i).length ≤ 64:=by rw [List.length_take]; omega
 omega
theorem hdr3 {w : World} {g : Nat} {T : Int} {D0 : List Nat} {L : Nat} (h : w.heap[g]? = some (.cells #[.int .u8 T,.int .u8 ((L : Int) / 256),.int .u8 ((L : Int) % 256)] 5 (0,0))) (h1 : 1 ≤ T) (h2 : T ≤ 255) (h3 : L ≤ 65535) (hL : L = D0.length) : Bs w (some ⟨g,0,none⟩) (hdr (T,D0)):=by
 refine ⟨hdr_byt _,.inr ⟨g,0,rfl,(Array.getElem?_eq_some_iff.1 h).1,fun j hj => ?_⟩⟩
 rw [Nat.zero_add,cell_of_row w g j _ _ _ h]
 subst hL
 have e0 : (((T % 256).toNat : Nat) : Int) = T:=by omega
 have e1 : (((D0.length / 256 % 256 : Nat) : Nat) : Int) = (D0.length : Int) / 256:=by omega
 have e2 : (((D0.length % 256 : Nat) : Nat) : Int) = (D0.length : Int) % 256:=by omega
 match j,hj with
 | 0,_ => show some (Value.int .u8 T) = some (.int .u8 (((T % 256).toNat : Nat) : Int)); rw [e0]
 | 1,_ => show some (Value.int .u8 _) = some (.int .u8 ((D0.length / 256 % 256 : Nat) : Int)); rw [e1]
 | 2,_ => show some (Value.int .u8 _) = some (.int .u8 ((D0.length % 256 : Nat) : Int)); rw [e2]
theorem rput8_calls (v : Value) (fs : List Fd) (w : World) (hF : Fl w v fs) (hM : mayFs fs = true) :
  Calls Tryz.prog 30 #[v] w fun e w' => e = .returned (.string (strL (encF fs))) ∧ Ext w w':=by
 obtain ⟨hB,AL,c,rfl,hc,hx⟩:=hF
 obtain ⟨n,hn⟩ : ∃ n,n = fs.length:=⟨_,rfl⟩
 rw [← hn] at hx hc ⊢
 have HR:=veil (And.intro hn (And.intro hM hB))
 have HX:=veil hx
 have hnL : n ≤ 64:=by rw [hn]; exact zec hM
 clear hx hB hn hM
 go_enter Tryz.func30,Tryz.ntmps30
 go_wp2
 go_loopw [3,4,5] (fun s v _ wr => ∃ i : Nat,i ≤ n ∧ s = .string (strL (encF (fs.take i))) ∧ v = .int .i64 (i : Int) ∧ Ext w wr)
  (fun _ v _ _ => n - (intOf v).toNat)
 case atStart => exact ⟨0,by omega,rfl,rfl,Ext.refl _⟩
 case round =>
  obtain ⟨i,hi,rfl,rfl,hE⟩:=hrel
  by_cases hlt : i < n
  ·
   have hd1 : decide ((i : Int) < (n : Int)) = true:=by simp; omega
   have hii : (i : Int) < (n : Int):=by omega
   have hok:=mayFs_ok HR.out.2.1 (by have:=HR.out.1; omega : i < fs.length)
   have hst:=encF_take fs (by have:=HR.out.1; omega : i < fs.length)
   have hle:=zdc HR.out.2.1 i
   obtain ⟨b,o,hAL,hb,hcl⟩:=HX.out.resolve_left (by omega)
   obtain ⟨h1,A,c',h2,h3,h4⟩:=hcl i hlt
   have c0:=(hE.cell hb).trans h1
   have c1:=(hE.cell hb).trans h2
   have hS:=h4.ext hE
   obtain ⟨S,hSS⟩ : ∃ S,S = strL (encF (fs.take i)):=⟨_,rfl⟩
   rw [← hSS]
   have hs : (S.size : Int) ≤ 4194432:=by rw [hSS,zca]; omega
   have HS:=veil (And.intro hSS hst)
   have hT1:=hok.1
   have hT2:=hok.2.1
   have hL1:=hok.2.2.1
   clear hcl h1 h2 hok hst hle hSS h4
   generalize tgF fs i = T at *
   generalize bsF fs i = D0 at *
   obtain ⟨L,hL⟩ : ∃ L,L = D0.length:=⟨_,rfl⟩
   rw [← hL] at c1 hL1 h3
   have HD:=veil (And.intro hL hS)
   clear hL hS
   subst hAL
   go_upto_region 6 with (fail)
   have hz:=HD.out.2
   refine zcj 24 [(true,[0,1,2,3,4,5,6,7,8,9,10,11,12,16,17,18,19,20,21]),(false,[13]),(true,[14,15,22,23])] (by kernel_rfl) (by kernel_rfl) fun Q' hQ' => ?_
   refine' zbc (A:=_) _ rfl (by kernel_rfl) ?h1 ?h2
   case h1 =>
    intro D hD hN
    have d0:=hD.cell c0
    have d1:=hD.cell c1
    have d2 : ∀ x : Gw D,(convert 33 9 (.slice A L c')).run Tryz.prog x.val = .ok (.string (strL D0)) x.val:=fun x => by
     exact str_of (hz.ext (hD.grown _ x.property)) HD.out.1
    simp only [pickI,consO,List.getElem?_cons_zero,List.getElem?_cons_succ]
    repeat (go_big_quiet_step (fail))
    exact zbu
   refine zcx (vs:=[(0,.int .u8 T),(1,.int .u8 ((L : Int) / 256)),(2,.int .u8 ((L : Int) % 256))]) (C:=#[.int .u8 T,.int .u8 ((L : Int) / 256),.int .u8 ((L : Int) % 256)]) (e:=5) _ rfl rfl rfl rfl rfl (fun W => by simp [Instr.buildSlice,go_sem]) ?_
   intro g W hg hgb hEW
   simp only [aP,lA,lZ,lS]
   have hh:=hdr3 hgb hT1 hT2 hL1 HD.out.1
   refine' zbc (A:=_) _ rfl (by kernel_rfl) ?k1 ?k2
   case k1 =>
    intro D hD hN
    have d2 : ∀ x : Gw D,(convert 33 9 (.slice (some ⟨g,0,none⟩) 3 3)).run Tryz.prog x.val = .ok (.string (strL (hdr (T,D0)))) x.val:=fun x => by
     exact str_of (hh.ext (hD.grown _ x.property)) rfl
    have s1 : ((strL (hdr (T,D0))).size : Int) ≤ 3:=by rw [zca]; exact Int.le_refl _
    have s2 : ((strL D0).size : Int) ≤ 65535:=by rw [zca,← HD.out.1]; omega
    have s3 : ((S ++ strL (hdr (T,D0))).size : Int) ≤ 4194435:=by rw [ByteArray.size_append]; omega
    simp only [pickI,consO,List.getElem?_cons_zero,List.getElem?_cons_succ]
    repeat (go_big_quiet_step (fail))
    exact zbu
   refine zcb hQ' fun W2 hE2 => ?_
   refine NoPanic.normal ?_
   go_wp2
   go_roundw
   case rel => exact ⟨i + 1,by omega,by rw [HS.out.2,zcv,HS.out.1]; unfold enc1; rw [zcv,ByteArray.append_assoc],by go_num,hE.trans (hEW.trans hE2)⟩
   case measure => simp [intOf]; omega
  ·
   obtain rfl : i = n:=by omega
   have e : encF (fs.take i) = encF fs:=by rw [HR.out.1,List.take_length]
   rw [e]
   go_wp2
   go_ret
   exact ⟨rfl,hE⟩
def cellsFs : List Fd → List (Option Addr × Nat) → List Value
 | f :: fs,a :: al => [.int .i64 f.1,.slice a.1 f.2.length a.2] ++ cellsFs fs al
 | _,_ => []
theorem zfm : ∀ {fs : List Fd} {al : List (Option Addr × Nat)} (f : Fd) (a : Option Addr × Nat),al.length = fs.length → cellsFs (fs ++ [f]) (al ++ [a]) = cellsFs fs al ++ [.int .i64 f.1,.slice a.1 f.2.length a.2]
 | [],[],_,_,_ => rfl
 | [],_ :: _,_,_,h => by simp at h
 | _ :: _,[],_,_,h => by simp at h
 | g :: fs,b :: al,f,a,h => by
  show [_,_] ++ cellsFs (fs ++ [f]) (al ++ [a]) = ([_,_] ++ cellsFs fs al) ++ _
  rw [zfm f a (by simpa using h),List.append_assoc]
theorem cellsFs_at : ∀ {fs : List Fd} {al : List (Option Addr × Nat)} {i : Nat},al.length = fs.length → i < fs.length →
  (cellsFs fs al)[i * 2]? = some (.int .i64 (tgF fs i)) ∧ (cellsFs fs al)[i * 2 + 1]? = some (.slice (al.getD i (none,0)).1 (bsF fs i).length (al.getD i (none,0)).2)
 | [],_,_,_,h => by simp at h
 | _ :: _,[],_,h,_ => by simp at h
 | f :: fs,a :: al,0,_,_ => ⟨rfl,rfl⟩
 | f :: fs,a :: al,i + 1,h,hi => by
  have ih:=cellsFs_at (fs:=fs) (al:=al) (i:=i) (by simpa using h) (by simpa using hi)
  have e : (i + 1) * 2 = i * 2 + 1 + 1:=by omega
  rw [e]
  exact ih
def Off (A : Option Addr) (bs : List Nat) (row : Option Nat) : Prop:=bs.length = 0 ∨ ∀ b o,A = some ⟨b,o,none⟩ → row ≠ some b
def OwnFs (w : World) (base : Nat) (v : Value) (fs : List Fd) : Prop:=BytF fs ∧ ∃ al : List (Option Addr × Nat),al.length = fs.length ∧ w.ownsRow base 64 2 v fs.length (cellsFs fs al) ∧
 ∀ i,i < fs.length → (bsF fs i).length ≤ (al.getD i (none,0)).2 ∧ Bs w (al.getD i (none,0)).1 (bsF fs i) ∧ Off (al.getD i (none,0)).1 (bsF fs i) v.ownBlock
theorem Bs.but {w w' : World} {A : Option Addr} {bs : List Nat} {row : Option Nat} (h : Bs w A bs) (k : w.grownBy w' row) (hne : Off A bs row) : Bs w' A bs:=by
 rcases hne with h0 | hne
 ·
  exact ⟨h.1,.inl h0⟩
 ·
  exact ⟨h.1,h.2.imp id fun ⟨b,o,e,hb,hc⟩ => ⟨b,o,e,Nat.lt_of_lt_of_le hb k.size,fun j hj => (World.cell?_of_block (a:=⟨b,o + j,none⟩) (k.block b hb (fun e2 => hne b o e e2.symm))).trans (hc j hj)⟩⟩
theorem OwnFs.nil (w : World) (base : Nat) : OwnFs w base (.slice none 0 0) []:=⟨fun _ h => (by cases h),[],rfl,World.ownsRow_nil _ _ _ _,fun i hi => by simp at hi⟩
theorem OwnFs.keep {w w' : World} {base : Nat} {v : Value} {fs : List Fd} (o : OwnFs w base v fs) (h : Ext w w') : OwnFs w' base v fs:=by
 obtain ⟨hB,al,hl,hr,hx⟩:=o
 refine ⟨hB,al,hl,⟨hr.1,?_⟩,fun i hi => ⟨(hx i hi).1,(hx i hi).2.1.ext h,(hx i hi).2.2⟩⟩
 rcases hr.2 with hn | ⟨g,cap,cur,rfl,hbg,hh,rest⟩
 ·
  exact .inl hn
 ·
  exact .inr ⟨g,cap,cur,rfl,hbg,h.block hh,rest⟩
theorem OwnFs.lt {w : World} {base : Nat} {v : Value} {fs : List Fd} (o : OwnFs w base v fs) {k : Nat} (hk : v.ownBlock = some k) : base ≤ k ∧ k < w.heap.size:=by
 obtain ⟨_,al,_,hr,_⟩:=o
 exact World.ownsRow.lt hr k hk
theorem OwnFs.fl {w : World} {base : Nat} {v : Value} {fs : List Fd} (o : OwnFs w base v fs) : Fl w v fs:=by
 obtain ⟨hB,al,hl,hr,hx⟩:=o
 rcases hr.2 with ⟨rfl,h0⟩ | ⟨g,cap,cur,rfl,hbg,hh,hn,hm,hs,ht⟩
 ·
  exact ⟨hB,none,0,by rw [h0],by omega,.inl h0⟩
 ·
  refine ⟨hB,_,cap,rfl,hn,?_⟩
  by_cases h0 : fs.length = 0
  ·
   exact .inl h0
  ·
   refine .inr ⟨g,0,rfl,(Array.getElem?_eq_some_iff.1 hh).1,fun i hi => ?_⟩
   have hcell : ∀ k,k < fs.length * 2 → w.cell? ⟨g,k,none⟩ = (cellsFs fs al)[k]?:=fun k hk => by
    rw [cell_of_row w g k cur _ _ hh,← ht,List.getElem?_take_of_lt hk]
    simp
   obtain ⟨c0,c1⟩:=cellsFs_at hl hi
   refine ⟨by rw [Nat.zero_add,hcell _ (by omega)]; exact c0,_,_,by rw [Nat.zero_add,hcell _ (by omega)]; exact c1,(hx i hi).1,(hx i hi).2.1⟩
theorem infoF16 : (Tryz.prog.info? 64).map (fun i => (i.zero,i.size,i.bytes)) = some (some (.agg #[.int .i64 0,.slice none 0 0]),2,32):=by kernel_rfl
theorem zdt {i : Option TypeInfo} {z : Value} {n b : Nat} (h : i.map (fun i => (i.zero,i.size,i.bytes)) = some (some z,n,b)) : ∃ j,i = some j ∧ j.zero = some z ∧ j.size = n ∧ j.bytes = b:=by
 cases i with
 | none => simp at h
 | some j =>
  simp only [Option.map_some,Option.some.injEq,Prod.mk.injEq] at h
  exact ⟨j,rfl,h.1,h.2.1,h.2.2⟩
theorem tgF_lt {fs : List Fd} {f : Fd} {i : Nat} (h : i < fs.length) : tgF (fs ++ [f]) i = tgF fs i ∧ bsF (fs ++ [f]) i = bsF fs i:=by
 unfold tgF bsF
 simp only [List.getD_eq_getElem?_getD,List.getElem?_append_left h,and_self]
theorem tgF_last (fs : List Fd) (f : Fd) : tgF (fs ++ [f]) fs.length = f.1 ∧ bsF (fs ++ [f]) fs.length = f.2:=by
 unfold tgF bsF
 simp
theorem zge {w : World} {base : Nat} {v : Value} {fs : List Fd} (ty : TypeId) (hown : OwnFs w base v fs) (g : Nat) (f : Fd) (a : Option Addr × Nat) (c1 : Nat)
  (hg : w.heap[g]? = some (.cells #[.int .i64 f.1,.slice a.1 f.2.length a.2] 64 (0,0))) (hc : f.2.length ≤ a.2) (hb : Bs w a.1 f.2) (hne : Off a.1 f.2 v.ownBlock)
  (hn : fs.length ≤ 1000000000) (hbase : base ≤ w.heap.size) :
  ∃ v' w',(Builtin.append_ #[61,61] ty #[v,.slice (some ⟨g,0,none⟩) 1 c1]).run Tryz.prog w = .ok v' w' ∧ OwnFs w' base v' (fs ++ [f]) ∧ w.grownBy w' v.ownBlock:=by
 obtain ⟨i,hi,hz,hsz,hby⟩:=zdt infoF16
 obtain ⟨hB,al,hl,hr,hx⟩:=hown
 obtain ⟨v',w',hrun,h2,h3,_,h5⟩:=run_append_own_at (P:=Tryz.prog) w base 61 ty 64 i _ 2 32 Tryz.underlying61 hi hz hsz hby rfl (by decide) v fs.length (cellsFs fs al) hr ⟨g,0,none⟩ 1 c1 [.int .i64 f.1,.slice a.1 f.2.length a.2] rfl
  (fun j u hu => by
   rw [Addr.add_mid,Nat.zero_add,cell_of_row w g j _ _ _ hg]
   simpa using hu)
  (fun u hu => by
   simp only [List.mem_cons,List.not_mem_nil,or_false] at hu
   rcases hu with rfl | rfl <;> rfl) (by unfold maxLen; omega) (by omega) hbase
 refine ⟨v',w',hrun,⟨?_,al ++ [a],by simp [hl],?_,fun k hk => ?_⟩,h3⟩
 ·
  intro x hx'
  rcases List.mem_append.1 hx' with h | h
  ·
   exact hB x h
  ·
   rw [List.mem_singleton.1 h]; exact hb.1
 ·
  rw [zfm f a hl,List.length_append]
  exact h2
 ·
  have hout : ∀ (A : Option Addr) (bs : List Nat),Bs w A bs → Off A bs v.ownBlock → Off A bs v'.ownBlock:=by
   intro A bs hA hn1
   rcases hn1 with h0 | hn1
   ·
    exact .inl h0
   ·
    rcases hA.2 with h | ⟨b',o',e',hb',_⟩
    ·
     exact .inl h
    ·
     refine .inr fun b o e e2 => ?_
     rw [e] at e'
     injection e' with e'
     injection e' with e4
     rcases h5 with h5 | h5
     ·
      rw [h5] at e2; exact hn1 b o e e2
     ·
      rw [h5] at e2
      have e3 : w.heap.size = b:=by injection e2
      omega
  rw [List.length_append,List.length_singleton] at hk
  by_cases hlt : k < fs.length
  ·
   obtain ⟨e1,e2⟩:=tgF_lt (f:=f) hlt
   have e3 : (al ++ [a]).getD k (none,0) = al.getD k (none,0):=by
    simp only [List.getD_eq_getElem?_getD,List.getElem?_append_left (show k < al.length by omega)]
   obtain ⟨x1,x2,x3⟩:=hx k hlt
   rw [e2,e3]
   exact ⟨x1,x2.but h3 x3,hout _ _ x2 x3⟩
  ·
   obtain rfl : k = fs.length:=by omega
   obtain ⟨e1,e2⟩:=tgF_last fs f
   have e3 : (al ++ [a]).getD fs.length (none,0) = a:=by
    rw [← hl]
    simp
   rw [e2,e3]
   exact ⟨hc,hb.but h3 hne,hout _ _ hb hne⟩
theorem infoT1 : (Tryz.prog.info? 5).map (fun i => (i.zero,i.size,i.bytes)) = some (some (.int .u8 0),1,1):=by kernel_rfl
def Fresh (w : World) (A : Option Addr) (bs : List Nat) : Prop:=bs.length = 0 ∨ ∀ b o,A = some ⟨b,o,none⟩ → w.heap.size ≤ b
theorem Fresh.off {w : World} {A : Option Addr} {bs : List Nat} {row : Option Nat} (h : Fresh w A bs) (hr : ∀ k,row = some k → k < w.heap.size) : Off A bs row :=
 h.imp id fun h b o e e2 => by have:=h b o e; have:=hr b e2; omega
theorem zhp {w : World} (ty : TypeId) {g m c : Nat} {A : Option Addr} {bs : List Nat} (hg : w.heap[g]? = some (.cells #[] 5 (0,0))) (hb : Bs w A bs) (hm : m = bs.length) (hle : m ≤ 1000000000) :
  ∃ A' c' w',(Builtin.append_ #[33,33] ty #[.slice (some ⟨g,0,none⟩) 0 0,.slice A m c]).run Tryz.prog w = .ok (.slice A' m c') w' ∧ Ext w w' ∧ m ≤ c' ∧ Bs w' A' bs ∧ Fresh w A' bs:=by
 subst hm
 obtain ⟨i,hi,hz,hsz,hby⟩:=info_parts infoT1
 have hgl : g < w.heap.size:=(Array.getElem?_eq_some_iff.1 hg).1
 have o0 : Own w g 5 (.slice (some ⟨g,0,none⟩) 0 0) 0 (fun j => .int .u8 (bs.getD j 0 : Nat)) :=
  ⟨by simp,.inr ⟨g,0,#[],rfl,Nat.le_refl _,hg,Nat.le_refl _,by unfold maxLen; omega,by simp,by simp⟩⟩
 obtain ⟨v',w',hr,h2,h3,h5,_⟩:=zgp (P:=Tryz.prog) w g 33 ty 5 i _ 1 Tryz.underlying33 hi hz hsz hby rfl _ 0 _ o0 A bs.length c (fun j => .int .u8 (bs.getD j 0 : Nat)) hb.from (fun _ => rfl) (by unfold maxLen; omega) (by omega) (by omega)
 rw [Nat.zero_add] at h2
 have hO : OwnB w' g v' bs:=OwnB.of h2 hb.1 rfl fun j hj => by rw [if_neg (by omega),Nat.sub_zero]
 obtain ⟨A',c',rfl,hc',hB'⟩:=hO.bs
 by_cases h0 : bs.length = 0
 ·
  rcases A with _ | ad
  ·
   have hw : w' = w:=by
    have : (Builtin.append_ #[33,33] ty #[.slice (some ⟨g,0,none⟩) 0 0,.slice none bs.length c]).run Tryz.prog w = .ok (.slice (some ⟨g,0,none⟩) 0 0) w:=by
     rw [h0]
     simp [Builtin.append_,run_underlying Tryz.underlying33,sizeOf,typeInfo,hi,Builtin.lenOf,Builtin.firstCells,storeCells]
    rw [hr] at this
    injection this
   subst hw
   exact ⟨A',c',w',hr,Ext.refl _,hc',hB',.inl h0⟩
  ·
   have hr2:=run_append_room_cells (P:=Tryz.prog) (w:=w) 33 ty 5 i Tryz.underlying33 hi g 0 0 0 ad bs.length c [] (by rw [h0]; simp) (fun j u hu => by simp at hu) (fun u hu => by simp at hu) (by omega) (fun j hj => by simp at hj) (fun j hj => by simp at hj)
   rw [hr] at hr2
   injection hr2 with _ hw
   have hw' : w' = w:=hw
   subst hw'
   exact ⟨A',c',w',hr,Ext.refl _,hc',hB',.inl h0⟩
 ·
  rcases hb.2 with h | ⟨b,o,rfl,hbl,hcl⟩
  ·
   exact absurd h h0
  ·
   have hr2:=run_append_grow (P:=Tryz.prog) w 33 ty 5 i _ Tryz.underlying33 hi hz ⟨g,0,none⟩ 0 0 [] (by simp) (fun j u hu => by simp at hu) ⟨b,o,none⟩ bs.length c ((List.range bs.length).map fun j => .int .u8 (bs.getD j 0 : Nat)) (by simp [hsz]) (fun j u hu => by
    have hj : j < bs.length:=by have:=(List.getElem?_eq_some_iff.1 hu).1; simpa using this
    rw [Addr.add_mid,hcl j hj,← hu]; simp [hj]) (by omega) (by omega) (growslice_fits (by omega) (by rw [hby]; omega))
   rw [hr] at hr2
   injection hr2 with hv hw
   injection hv with hA _ _
   subst hA
   exact ⟨_,c',w',hr,by rw [hw]; exact (Ext.drew w).trans (Ext.alloc _ _),hc',hB',.inr fun b' o' e => by injection e with e; injection e with e; omega⟩
/-! ### in schedules -/
section
variable {Q : Exit → Act → World → Prop} {l : List Oper} {n k d : Nat} {r : Sched} {a : Act} {w : World}
theorem sched_val {v : Value} (o : Oper) (ho : l[k]? = some o) (hg : o.guard = none) (hd : o.dst = some d) (hm : ∀ W,Ext w W → (execOp a.eval o).run Tryz.prog W = .ok (.value v) W)
  (h : ∀ W,Ext w W → wpSched Tryz.prog l Q n r (a.put (some d) v) W) : wpSched Tryz.prog l Q n ((false,[k]) :: r) a w:=by
 refine zdy o ho hg fun W hW => ?_
 unfold Oper.wp
 rw [hm W hW,Oper.upon_value,hd]
 exact ⟨fun _ => Ext.refl W,h W hW⟩
theorem run_assign_v {o : Oper} {x : Operand} {v : Value} (ho : o.op = .assign x) (hx : a.eval x = v) (W : World) : (execOp a.eval o).run Tryz.prog W = .ok (.value v) W:=by
 unfold execOp
 simp only [ho,hx,Sem.run_pure]
theorem zhb {x : Operand} (v : Value) (o : Oper) (ho : l[k]? = some o) (hg : o.guard = none) (hd : o.dst = some d) (hop : o.op = .assign x) (hx : a.eval x = v)
  (h : ∀ W,Ext w W → wpSched Tryz.prog l Q n r (a.put (some d) v) W) : wpSched Tryz.prog l Q n ((false,[k]) :: r) a w:=sched_val o ho hg hd (fun W _ => run_assign_v hop hx W) h
theorem sched_append0 {s x : Operand} {g m c : Nat} {A : Option Addr} {bs : List Nat} (o : Oper) (ho : l[k]? = some o) (hgd : o.guard = none) (hop : o.op = .call { callee:=.builtin .append,args:=#[s,x],argTypes:=#[33,33] }) (hd : o.dst = some d)
  (hs : a.eval s = .slice (some ⟨g,0,none⟩) 0 0) (hx : a.eval x = .slice A m c) (hg : w.heap[g]? = some (.cells #[] 5 (0,0))) (hb : Bs w A bs) (hm : m = bs.length) (hle : m ≤ 1000000000)
  (h : ∀ A' c' W,Ext w W → m ≤ c' → Bs W A' bs → Fresh w A' bs → wpSched Tryz.prog l Q n r (a.put (some d) (.slice A' m c')) W) : wpSched Tryz.prog l Q n ((false,[k]) :: r) a w:=by
 refine zdy o ho hgd fun W hW => ?_
 obtain ⟨A',c',w',hr,hE,hc,hB,hF⟩:=zhp (c:=c) o.type (hW.block hg) (hb.ext hW) hm hle
 unfold Oper.wp execOp
 simp only [hop,resolve,invoke,builtin,Sem.run_bind,Sem.run_pure,Result.andThen_ok,List.map_toArray,List.map_cons,List.map_nil,hs,hx,hr]
 show (k < n → Ext W w') ∧ _
 rw [hd]
 exact ⟨fun _ => hE,h A' c' w' (hW.trans hE) hc hB (hF.imp id fun h b o e => Nat.le_trans (Below.size hW) (h b o e))⟩
theorem zeq {s x : Operand} {base g c : Nat} {v : Value} {fs : List Fd} {f : Fd} {al : Option Addr × Nat} (o : Oper) (ho : l[k]? = some o) (hgd : o.guard = none) (hop : o.op = .call { callee:=.builtin .append,args:=#[s,x],argTypes:=#[61,61] }) (hd : o.dst = some d)
  (hs : a.eval s = v) (hx : a.eval x = .slice (some ⟨g,0,none⟩) 1 c) (hkn : ¬ k < n) (hown : OwnFs w base v fs) (hg : w.heap[g]? = some (.cells #[.int .i64 f.1,.slice al.1 f.2.length al.2] 64 (0,0)))
  (hc : f.2.length ≤ al.2) (hb : Bs w al.1 f.2) (hne : Off al.1 f.2 v.ownBlock) (hn : fs.length ≤ 1000000000) (hbase : base ≤ w.heap.size)
  (h : ∀ v' W W',Ext w W → OwnFs W' base v' (fs ++ [f]) → W.grownBy W' v.ownBlock → wpSched Tryz.prog l Q n r (a.put (some d) v') W') : wpSched Tryz.prog l Q n ((false,[k]) :: r) a w:=by
 refine zdy o ho hgd fun W hW => ?_
 obtain ⟨v',w',hr,hO,hG⟩:=zge (c1:=c) o.type (hown.keep hW) g f al (hW.block hg) hc (hb.ext hW) hne hn (Nat.le_trans hbase (Below.size hW))
 unfold Oper.wp execOp
 simp only [hop,resolve,invoke,builtin,Sem.run_bind,Sem.run_pure,Result.andThen_ok,List.map_toArray,List.map_cons,List.map_nil,hs,hx,hr]
 show (k < n → Ext W w') ∧ _
 rw [hd]
 exact ⟨fun h => absurd h hkn,h v' W w' hW hO hG⟩
end
theorem wpl_append0 {Q : Exit → Act → World → Prop} {ops : Array Oper} {rest : List Oper} {a : Act} {w : World} {s x : Operand} {g m c : Nat} {A : Option Addr} {bs : List Nat} {o : Oper} (hgd : o.guard = none) (hop : o.op = .call { callee:=.builtin .append,args:=#[s,x],argTypes:=#[33,33] })
  (hs : a.eval s = .slice (some ⟨g,0,none⟩) 0 0) (hx : a.eval x = .slice A m c) (hg : w.heap[g]? = some (.cells #[] 5 (0,0))) (hb : Bs w A bs) (hm : m = bs.length) (hle : m ≤ 1000000000)
  (h : ∀ A' c' W,Ext w W → m ≤ c' → Bs W A' bs → Fresh w A' bs → wpList Tryz.prog ops Q rest (a.put o.dst (.slice A' m c')) W) : wpList Tryz.prog ops Q (o :: rest) a w:=by
 refine wpList_plain hgd fun K hK => ?_
 obtain ⟨A',c',w',hr,hE,hc,hB,hF⟩:=zhp (c:=c) o.type hg hb hm hle
 unfold Oper.wp execOp
 simp only [hop,resolve,invoke,builtin,Sem.run_bind,Sem.run_pure,Result.andThen_ok,List.map_toArray,List.map_cons,List.map_nil,hs,hx,hr]
 exact hK _ _ (h A' c' w' hE hc hB hF)
theorem zek (A : Option Addr) (r c p n : Nat) (hp : p + n ≤ c) (w : World) {x y : Int} (hx : x = (p : Int)) (hy : y = ((p + n : Nat) : Int)) : (Instr.sliceAt 33 (.slice A r c) (some (.int .i64 x)) (some (.int .i64 y)) none).run Tryz.prog w = .ok (.slice (cutA A p c) n (c - p)) w:=by
 subst hx hy
 have e2 : ((sizeOf (Tryz.prog.elem 33)).run Tryz.prog w) = .ok 1 w:=by kernel_rfl
 rw [run_sliceAt_slice w 33 _ _ _ _ (by kernel_rfl),run_slice_lh w 33 A r c (by kernel_rfl) .i64 .i64 (p : Int) ((p + n : Nat) : Int) (by omega) (by omega) (by omega),e2]
 simp [sliced,Result.andThen,cutA]
 omega
theorem zan {P : Program} {ops : Array Oper} {Q : Exit → Act → World → Prop} {rest : List Oper} {a : Act} {w : World} {o : Oper} (v : Value) (hg : o.guard = none) (hr : (execOp a.eval o).run P w = .ok (.value v) w) (h : wpList P ops Q rest (a.put o.dst v) w) : wpList P ops Q (o :: rest) a w:=by
 refine wpList_plain hg fun K hK => ?_
 unfold Oper.wp
 rw [hr,Oper.upon_value]
 exact hK _ _ h
theorem zef {P : Program} {o : Oper} {a : Act} {t : TypeId} {x z : Operand} {v v' vz : Value} {W : World} (ho : o.op = .slice t x none (some z) none) (hx : a.eval x = v) (hz : a.eval z = vz)
  (h : (Instr.sliceAt t v none (some vz) none).run P W = .ok v' W) : (execOp a.eval o).run P W = .ok (.value v') W:=by
 unfold execOp
 simp only [ho,hx,hz,Option.map_some,Option.map_none,Sem.run_bind,h,Result.andThen_ok,Sem.run_pure]
theorem cutA_zero (A : Option Addr) (c : Nat) : cutA A 0 c = A:=by
 unfold cutA
 split
 ·
  rfl
 ·
  cases A with
  | none => rfl
  | some a => simp [Addr.add]
theorem cut_to_b (A : Option Addr) (r c m : Nat) (hm : m ≤ c) (w : World) {y : Int} (hy : y = (m : Int)) : (Instr.sliceAt 33 (.slice A r c) none (some (.int .i64 y)) none).run Tryz.prog w = .ok (.slice A m c) w:=by
 subst hy
 rw [cut_to A r c m hm w,cutA_zero]
theorem Fl.take {w : World} {A : Option Addr} {n c : Nat} {fs : List Fd} (h : Fl w (.slice A n c) fs) {m : Nat} (hm : m ≤ n) : Fl w (.slice A m c) (fs.take m):=by
 obtain ⟨hB,AL,c',he,hc,hx⟩:=h
 injection he with e1 e2 e3
 subst e1 e3
 have hl : (fs.take m).length = m:=by rw [List.length_take]; omega
 have hg : ∀ i,i < m → tgF (fs.take m) i = tgF fs i ∧ bsF (fs.take m) i = bsF fs i:=fun i hi => by
  unfold tgF bsF
  simp only [List.getD_eq_getElem?_getD,List.getElem?_take_of_lt hi,and_self]
 refine ⟨fun f hf => hB f (List.mem_of_mem_take hf),A,c,by rw [hl],by rw [hl]; omega,?_⟩
 rw [hl]
 by_cases h0 : m = 0
 ·
  exact .inl h0
 ·
  refine .inr ?_
  obtain ⟨b,o,e,hb,hcl⟩:=hx.resolve_left (by omega)
  refine ⟨b,o,e,hb,fun i hi => ?_⟩
  obtain ⟨g1,g2⟩:=hg i hi
  rw [g1,g2]
  exact hcl i (by omega)
theorem bs_take {w : World} {A : Option Addr} {bs : List Nat} (h : Bs w A bs) (m : Nat) : Bs w A (bs.take m):=by
 refine ⟨h.1.take m,?_⟩
 rcases h.2 with h | ⟨b,o,e,hb,hc⟩
 ·
  exact .inl (by rw [List.length_take]; omega)
 ·
  refine .inr ⟨b,o,e,hb,fun j hj => ?_⟩
  rw [List.length_take] at hj
  rw [hc j (by omega)]
  simp only [List.getD_eq_getElem?_getD,List.getElem?_take_of_lt (show j < m by omega)]
theorem add64 (x y c : Int) (hx : 0 ≤ x) (hy : 0 ≤ y) (hc0 : 0 ≤ c) (hc : c ≤ 1) (w : World) :
  (callFunc 158 #[vI vU x,vI vU y,vI vU c]).run Tryz.prog w = .ok (.value (.tuple #[vI vU ((x + y + c) % 18446744073709551616),vI vU ((x + y + c) / 18446744073709551616)])) w:=by
 rw [run_callFunc_extern Tryz.func158 (by kernel_rfl) (by kernel_rfl) (by kernel_rfl) (e:=add64Entry) (by kernel_rfl),run_add64 x y c hx hy hc0 hc]
 rfl
def cyI (X Y i : Nat) : Int:=(cy w64 X Y i : Nat)
theorem add64_at (X Y k : Nat) (w : World) :
  (callFunc 158 #[vI vU (wd X k),vI vU (wd Y k),vI vU (cyI X Y k)]).run Tryz.prog w = .ok (.value (.tuple #[vI vU (wd (X + Y) k),vI vU (cyI X Y (k + 1))])) w:=by
 have hc:=cy_le zaq X Y k
 rw [add64 _ _ _ (wd_lo _ _) (wd_lo _ _) (by unfold cyI; omega) (by unfold cyI; omega)]
 unfold wd cyI
 rw [cy_succ zaq,dg_add zaq]
 unfold w64
 simp
theorem cyI_top {X Y : Nat} (hX : X < top) (hY : Y < top) : (cyI X Y 4 != 0) = decide (top ≤ X + Y):=by
 unfold cyI
 rw [cy_top (n:=4) hX hY]
 show _ = decide (w64 ^ 4 ≤ X + Y)
 by_cases h : w64 ^ 4 ≤ X + Y <;> simp [h]
theorem add_any (X Y : Nat) (hX : X < top) (hY : Y < top) (w : World) :
  Calls Tryz.prog 142 #[.agg #[vI vU (wd X 0),vI vU (wd X 1),vI vU (wd X 2),vI vU (wd X 3)],.agg #[vI vU (wd Y 0),vI vU (wd Y 1),vI vU (wd Y 2),vI vU (wd Y 3)]] w fun e w' =>
   e = .returned (.tuple #[.agg #[vI vU (wd (X + Y) 0),vI vU (wd (X + Y) 1),vI vU (wd (X + Y) 2),vI vU (wd (X + Y) 3)],.bool (decide (top ≤ X + Y))]) ∧ Below w.heap.size w w':=by
 have h29:=fun (k : Nat) (W : World) => add64_at X Y k W
 go_enter Tryz.func142,Tryz.ntmps142
 go_wp2
 go_loopw [7,9] (fun c i wr => ∃ k : Nat,k ≤ 4 ∧ i = .int .i64 k ∧ c = .int .u64 (cyI X Y k) ∧ wr.rowIs w.heap.size 27 4 (fun j => .int .u64 (wd X j))
   ∧ wr.rowIs (w.heap.size + 1) 27 4 (fun j => .int .u64 (wd Y j)) ∧ wr.rowIs (w.heap.size + 1 + 1) 27 4 (fun _ => .int .u64 0)
   ∧ wr.rowIs (w.heap.size + 1 + 1 + 1) 27 4 (fun j => .int .u64 (if j < k then wd (X + Y) j else 0)) ∧ Below w.heap.size w wr)
  (fun _ i _ => 4 - (intOf i).toNat)
 case atStart => exact ⟨0,by omega,rfl,by simp [cyI,cy_zero],(((zac (n:=4) (by simp) rfl (arr4 fun j => .int .u64 (wd X j))).alloc _).alloc _).alloc _,((zac (n:=4) (by simp) rfl (arr4 fun j => .int .u64 (wd Y j))).alloc _).alloc _,(zac (n:=4) (by simp) rfl (arr4 fun _ => .int .u64 0)).alloc _,zac (n:=4) (by simp) rfl (arr4 fun _ => .int .u64 0),((((Below.refl _ _).alloc (by simp) _).alloc (by simp) _).alloc (by simp; omega) _).alloc (by simp; omega) _⟩
 case round =>
  obtain ⟨k,hk,rfl,rfl,hRX,hRY,hRZ,hRS,hbel⟩:=hrel
  by_cases hlt : k < 4
  ·
   have c1:=hRX.cell hlt
   have c2:=hRY.cell hlt
   have c3:=hRS.cell hlt
   have f3:=hRS.frozen k
   go_wp2
   go_region_with (fail)
   all_goals
    go_wp2
    go_roundw
    case rel => exact ⟨k + 1,by omega,by go_num,rfl,(zar hRX (by omega) _).drew,(zar hRY (by omega) _).drew,(zar hRZ (by omega) _).drew,((hRS.set k _).congr (row_step hlt)).drew,(zai hbel (by omega) _).drew⟩
    case measure => simp [intOf]; omega
  ·
   obtain rfl : k = 4:=by omega
   obtain ⟨c0,c1,c2,c3⟩:=zad hRS
   obtain ⟨d0,d1,d2,d3⟩:=zad hRZ
   obtain ⟨f0,f1,f2,f3⟩:=zaj hRZ
   simp only [show (0 : Nat) < 4 from by omega,show (1 : Nat) < 4 from by omega,show (2 : Nat) < 4 from by omega,show (3 : Nat) < 4 from by omega,if_true] at c0 c1 c2 c3
   clear hRX hRY hRS
   have hz:=cyI_top hX hY
   go_wp2
   refine bodyPost_ret (zbv rfl _ _ (w.heap.size + 1 + 1) 27 #[vI vU (wd (X + Y) 0),vI vU (wd (X + Y) 1),vI vU (wd (X + Y) 2),vI vU (wd (X + Y) 3)] (0,0) 4 25 rfl (blk4 (put4 hRZ fun j => .int .u64 (wd (X + Y) j))) Tryz.underlying27 (by kernel_rfl)) rfl ⟨?_,zae hbel (by omega) _ _ _ _⟩
   rfl
theorem add_calls (X Y : Nat) (hX : X < top) (hY : Y < top) (w : World) :
  Calls Tryz.prog 142 #[.agg #[vI vU (wd X 0),vI vU (wd X 1),vI vU (wd X 2),vI vU (wd X 3)],.agg #[vI vU (wd Y 0),vI vU (wd Y 1),vI vU (wd Y 2),vI vU (wd Y 3)]] w fun e w' => e = .returned (.tuple #[.agg #[vI vU (wd ((X + Y) % top) 0),vI vU (wd ((X + Y) % top) 1),vI vU (wd ((X + Y) % top) 2),vI vU (wd ((X + Y) % top) 3)],.bool (decide (top ≤ X + Y))]) ∧ Below w.heap.size w w':=by
 rw [zdb _ 0 (by omega),zdb _ 1 (by omega),zdb _ 2 (by omega),zdb _ 3 (by omega)]
 exact add_any X Y hX hY w
def sub64Entry : Array Value → Sem Value:=fun args => do
 let (x,y,b) ← Extern.MathBitsCarry.three "Sub64" args
 pure (Extern.MathBitsCarry.pair ((x + Extern.MathBitsCarry.m64 - y - b) % Extern.MathBitsCarry.m64) (if x < y + b then 1 else 0))
theorem run_sub64 (x y b : Nat) (hb : b ≤ 1) (w : World) :
  (sub64Entry #[vI vU (x : Int),vI vU (y : Int),vI vU (b : Int)]).run Tryz.prog w =
   .ok (.tuple #[vI vU (((x + w64 - y - b) % w64 : Nat) : Int),vI vU ((if x < y + b then 1 else 0 : Nat) : Int)]) w:=by
 have : b = 0 ∨ b = 1:=by omega
 rcases this with rfl | rfl <;> rfl
theorem sub64 (x y b : Nat) (hb : b ≤ 1) (w : World) :
  (callFunc 143 #[vI vU (x : Int),vI vU (y : Int),vI vU (b : Int)]).run Tryz.prog w = .ok (.value (.tuple #[vI vU (((x + w64 - y - b) % w64 : Nat) : Int),vI vU ((if x < y + b then 1 else 0 : Nat) : Int)])) w:=by
 rw [run_callFunc_extern Tryz.func143 (by kernel_rfl) (by kernel_rfl) (by kernel_rfl) (e:=sub64Entry) (by kernel_rfl),run_sub64 x y b hb]
 rfl
def bwI (X Y i : Nat) : Int:=(bw w64 X Y i : Nat)
theorem sub64_at (X Y k : Nat) (hk : k < 4) (hY : Y ≤ top) (w : World) :
  (callFunc 143 #[vI vU (wd X k),vI vU (wd Y k),vI vU (bwI X Y k)]).run Tryz.prog w = .ok (.value (.tuple #[vI vU (wd (X + top - Y) k),vI vU (bwI X Y (k + 1))])) w:=by
 unfold wd bwI
 rw [sub64 _ _ _ (bw_le w64 X Y k)]
 unfold top at hY ⊢
 rw [bw_succ zaq,dg_sub zaq X Y 4 k hk hY]
theorem bwI_top {X Y : Nat} (hX : X < top) (hY : Y < top) : (bwI X Y 4 != 0) = decide (X < Y):=by
 unfold bwI
 rw [bw_top (n:=4) hX hY]
 by_cases h : X < Y <;> simp [h]
theorem sub_any (X Y : Nat) (hX : X < top) (hY : Y < top) (w : World) :
  Calls Tryz.prog 123 #[.agg #[vI vU (wd X 0),vI vU (wd X 1),vI vU (wd X 2),vI vU (wd X 3)],.agg #[vI vU (wd Y 0),vI vU (wd Y 1),vI vU (wd Y 2),vI vU (wd Y 3)]] w fun e w' =>
   e = .returned (.tuple #[.agg #[vI vU (wd (X + top - Y) 0),vI vU (wd (X + top - Y) 1),vI vU (wd (X + top - Y) 2),vI vU (wd (X + top - Y) 3)],.bool (decide (X < Y))]) ∧ Below w.heap.size w w':=by
 go_enter Tryz.func123,Tryz.ntmps123
 go_wp2
 go_loopw [7,9] (fun c i wr => ∃ k : Nat,k ≤ 4 ∧ i = .int .i64 k ∧ c = .int .u64 (bwI X Y k) ∧ wr.rowIs w.heap.size 27 4 (fun j => .int .u64 (wd X j))
   ∧ wr.rowIs (w.heap.size + 1) 27 4 (fun j => .int .u64 (wd Y j)) ∧ wr.rowIs (w.heap.size + 1 + 1) 27 4 (fun _ => .int .u64 0)
   ∧ wr.rowIs (w.heap.size + 1 + 1 + 1) 27 4 (fun j => .int .u64 (if j < k then wd (X + top - Y) j else 0)) ∧ Below w.heap.size w wr)
  (fun _ i _ => 4 - (intOf i).toNat)
 case atStart => exact ⟨0,by omega,rfl,by simp [bwI,bw_zero],(((zac (n:=4) (by simp) rfl (arr4 fun j => .int .u64 (wd X j))).alloc _).alloc _).alloc _,((zac (n:=4) (by simp) rfl (arr4 fun j => .int .u64 (wd Y j))).alloc _).alloc _,(zac (n:=4) (by simp) rfl (arr4 fun _ => .int .u64 0)).alloc _,zac (n:=4) (by simp) rfl (arr4 fun _ => .int .u64 0),((((Below.refl _ _).alloc (by simp) _).alloc (by simp) _).alloc (by simp; omega) _).alloc (by simp; omega) _⟩
 case round =>
  obtain ⟨k,hk,rfl,rfl,hRX,hRY,hRZ,hRS,hbel⟩:=hrel
  by_cases hlt : k < 4
  ·
   have c1:=hRX.cell hlt
   have c2:=hRY.cell hlt
   have c3:=hRS.cell hlt
   have f3:=hRS.frozen k
   have h30:=fun (W : World) => sub64_at X Y k hlt (Nat.le_of_lt hY) W
   go_wp2
   go_region_with (fail)
   all_goals
    go_wp2
    go_roundw
    case rel => exact ⟨k + 1,by omega,by go_num,rfl,(zar hRX (by omega) _).drew,(zar hRY (by omega) _).drew,(zar hRZ (by omega) _).drew,((hRS.set k _).congr (row_step hlt)).drew,(zai hbel (by omega) _).drew⟩
    case measure => simp [intOf]; omega
  ·
   obtain rfl : k = 4:=by omega
   obtain ⟨c0,c1,c2,c3⟩:=zad hRS
   obtain ⟨d0,d1,d2,d3⟩:=zad hRZ
   obtain ⟨f0,f1,f2,f3⟩:=zaj hRZ
   simp only [show (0 : Nat) < 4 from by omega,show (1 : Nat) < 4 from by omega,show (2 : Nat) < 4 from by omega,show (3 : Nat) < 4 from by omega,if_true] at c0 c1 c2 c3
   clear hRX hRY hRS
   have hz:=bwI_top hX hY
   go_wp2
   refine bodyPost_ret (zbv rfl _ _ (w.heap.size + 1 + 1) 27 #[vI vU (wd (X + top - Y) 0),vI vU (wd (X + top - Y) 1),vI vU (wd (X + top - Y) 2),vI vU (wd (X + top - Y) 3)] (0,0) 4 25 rfl (blk4 (put4 hRZ fun j => .int .u64 (wd (X + top - Y) j))) Tryz.underlying27 (by kernel_rfl)) rfl ⟨?_,zae hbel (by omega) _ _ _ _⟩
   rfl
theorem sub_calls (X Y : Nat) (hX : X < top) (hY : Y < top) (w : World) :
  Calls Tryz.prog 123 #[.agg #[vI vU (wd X 0),vI vU (wd X 1),vI vU (wd X 2),vI vU (wd X 3)],.agg #[vI vU (wd Y 0),vI vU (wd Y 1),vI vU (wd Y 2),vI vU (wd Y 3)]] w fun e w' => e = .returned (.tuple #[.agg #[vI vU (wd ((X + top - Y) % top) 0),vI vU (wd ((X + top - Y) % top) 1),vI vU (wd ((X + top - Y) % top) 2),vI vU (wd ((X + top - Y) % top) 3)],.bool (decide (X < Y))]) ∧ Below w.heap.size w w':=by
 rw [zdb _ 0 (by omega),zdb _ 1 (by omega),zdb _ 2 (by omega),zdb _ 3 (by omega)]
 exact sub_any X Y hX hY w
def cmpN (X Y : Nat) : Int:=if X < Y then -1 else if Y < X then 1 else 0
theorem zhn (B X Y k : Nat) (hB : 0 < B) : cmpN (X % B ^ (k + 1)) (Y % B ^ (k + 1)) = if dg B X k < dg B Y k then -1 else if dg B Y k < dg B X k then 1 else cmpN (X % B ^ k) (Y % B ^ k):=by
 have hp : 0 < B ^ k:=Nat.pow_pos hB
 have h1:=Nat.mod_lt X hp
 have h2:=Nat.mod_lt Y hp
 unfold cmpN
 rw [zbk,zbk]
 generalize dg B X k = x
 generalize dg B Y k = y
 generalize X % B ^ k = r at *
 generalize Y % B ^ k = s at *
 generalize B ^ k = P at *
 by_cases hxy : x < y
 ·
  have : P * x + P ≤ P * y:=by rw [← Nat.mul_succ]; exact Nat.mul_le_mul_left _ hxy
  rw [if_pos (by omega),if_pos hxy]
 ·
  by_cases hyx : y < x
  ·
   have : P * y + P ≤ P * x:=by rw [← Nat.mul_succ]; exact Nat.mul_le_mul_left _ hyx
   rw [if_neg (by omega),if_pos (by omega),if_neg hxy,if_pos hyx]
  ·
   have hxy' : x = y:=by omega
   subst hxy'
   simp
theorem cmp_high (B X Y n m : Nat) (hB : 0 < B) (hX : X < B ^ n) (hY : Y < B ^ n) (hm : m < n) (h : ∀ j,m < j → j < n → dg B X j = dg B Y j) (hne : dg B X m ≠ dg B Y m) :
  cmpN X Y = if dg B X m < dg B Y m then -1 else 1:=by
 have e : X / B ^ (m + 1) = Y / B ^ (m + 1):=by
  have hn : B ^ n = B ^ (m + 1) * B ^ (n - (m + 1)):=by rw [← Nat.pow_add]; congr 1; omega
  refine zfh hB (n:=n - (m + 1)) ?_ ?_ fun i hi => ?_
  ·
   rw [Nat.div_lt_iff_lt_mul (Nat.pow_pos hB),Nat.mul_comm,← hn]; exact hX
  ·
   rw [Nat.div_lt_iff_lt_mul (Nat.pow_pos hB),Nat.mul_comm,← hn]; exact hY
  ·
   have:=h (m + 1 + i) (by omega) (by omega)
   unfold dg at *
   rwa [Nat.div_div_eq_div_mul,Nat.div_div_eq_div_mul,← Nat.pow_add]
 have c : cmpN X Y = cmpN (X % B ^ (m + 1)) (Y % B ^ (m + 1)):=by
  have hx:=Nat.mod_add_div X (B ^ (m + 1))
  have hy:=Nat.mod_add_div Y (B ^ (m + 1))
  rw [e] at hx
  unfold cmpN
  generalize B ^ (m + 1) * (Y / B ^ (m + 1)) = q at *
  generalize X % B ^ (m + 1) = r at *
  generalize Y % B ^ (m + 1) = s at *
  subst hx; subst hy
  simp
 rw [c,zhn B X Y m hB]
 by_cases hlt : dg B X m < dg B Y m
 ·
  rw [if_pos hlt,if_pos hlt]
 ·
  rw [if_neg hlt,if_neg hlt,if_pos (by omega)]
theorem compare_lt (x y : Int) (h : x < y) (w : World) : Calls Tryz.prog 140 #[vI vU x,vI vU y] w fun e w' => e = .returned (.int .i64 (-1)) ∧ w' = w:=by
 go_enter Tryz.func140,Tryz.ntmps140
 go_wp2
 go_ret
 exact ⟨rfl,rfl⟩
theorem compare_gt (x y : Int) (h : y < x) (w : World) : Calls Tryz.prog 140 #[vI vU x,vI vU y] w fun e w' => e = .returned (.int .i64 1) ∧ w' = w:=by
 go_enter Tryz.func140,Tryz.ntmps140
 go_wp2
 go_ret
 exact ⟨rfl,rfl⟩
theorem wd_cmp {X Y k : Nat} (h : dg w64 X k < dg w64 Y k) : wd X k < wd Y k:=by unfold wd; omega
theorem cmp_calls (X Y : Nat) (hX : X < top) (hY : Y < top) (w : World) :
  Calls Tryz.prog 113 #[.agg #[vI vU (wd X 0),vI vU (wd X 1),vI vU (wd X 2),vI vU (wd X 3)],.agg #[vI vU (wd Y 0),vI vU (wd Y 1),vI vU (wd Y 2),vI vU (wd Y 3)]] w fun e w' => e = .returned (.int .i64 (cmpN X Y)) ∧ Below w.heap.size w w':=by
 go_enter Tryz.func113,Tryz.ntmps113
 go_wp2
 go_loopw [5] (fun i wr => ∃ k : Nat,k ≤ 4 ∧ i = .int .i64 ((k : Int) - 1) ∧ (∀ j,k ≤ j → j < 4 → dg w64 X j = dg w64 Y j) ∧ wr.rowIs w.heap.size 27 4 (fun j => .int .u64 (wd X j))
   ∧ wr.rowIs (w.heap.size + 1) 27 4 (fun j => .int .u64 (wd Y j)) ∧ Below w.heap.size w wr)
  (fun i _ => (intOf i + 1).toNat)
 case atStart => exact ⟨4,by omega,rfl,by intro j h1 h2; omega,(zac (n:=4) (by simp) rfl (arr4 fun j => .int .u64 (wd X j))).alloc _,zac (n:=4) (by simp) rfl (arr4 fun j => .int .u64 (wd Y j)),((Below.refl _ _).alloc (by simp) _).alloc (by simp) _⟩
 case round =>
  obtain ⟨k,hk,hi,hall,hRX,hRY,hbel⟩:=hrel
  have HALL:=veil hall
  clear hall
  cases k with
  | zero =>
   subst hi
   have hXY : X = Y:=zfh zaq hX hY fun j hj => HALL.out j (Nat.zero_le _) hj
   go_wp2
   go_ret
   have hc : cmpN X Y = 0:=by unfold cmpN; rw [if_neg (by omega),if_neg (by omega)]
   rw [hc]
   exact ⟨rfl,hbel⟩
  | succ m =>
   obtain rfl : _ = Value.int .i64 (m : Int):=hi.trans (by congr 1; omega)
   have hm : m < 4:=by omega
   go_wp2
   have c1:=hRX.cell hm
   have c2:=hRY.cell hm
   rcases Nat.lt_trichotomy (dg w64 X m) (dg w64 Y m) with h | h | h
   ·
    have hlt:=wd_cmp h
    have hne : (wd X m != wd Y m) = true:=by rw [bne_iff_ne]; omega
    have hc : cmpN X Y = -1:=by rw [cmp_high w64 X Y 4 m zaq hX hY hm (fun j h1 h2 => HALL.out j (by omega) h2) (by omega),if_pos h]
    have HC:=veil hc
    clear hc
    go_quiet (fail)
    go_wp2
    go_quiet ((go_at_call 140; exact quiet_more (compare_lt _ _ hlt _)))
    go_wp2
    go_ret
    rw [HC.out]
    exact ⟨rfl,zau (zau hbel _) _⟩
   ·
    have hne : (wd X m != wd Y m) = false:=by unfold wd; rw [h]; simp
    go_quiet (fail)
    go_wp2
    go_roundw
    case rel => exact ⟨m,by omega,by go_num,fun j h1 h2 => by
     by_cases e : j = m
     ·
      rw [e]; exact h
     ·
      exact HALL.out j (by omega) h2,zbh hRX _,zbh hRY _,zau hbel _⟩
    case measure => simp [intOf]
   ·
    have hlt:=wd_cmp h
    have hne : (wd X m != wd Y m) = true:=by rw [bne_iff_ne]; omega
    have hc : cmpN X Y = 1:=by rw [cmp_high w64 X Y 4 m zaq hX hY hm (fun j h1 h2 => HALL.out j (by omega) h2) (by omega),if_neg (by omega)]
    have HC:=veil hc
    clear hc
    go_quiet (fail)
    go_wp2
    go_quiet ((go_at_call 140; exact quiet_more (compare_gt _ _ hlt _)))
    go_wp2
    go_ret
    rw [HC.out]
    exact ⟨rfl,zau (zau hbel _) _⟩
theorem ret_u2' {a b c d : Int} (h : a = b) (h2 : c = d) : Ending.returned (.tuple #[vI vU a,vI vU c]) = .returned (.tuple #[vI vU b,vI vU d]):=by rw [h,h2]
theorem gadd_core (x y c : Int) (hx : 0 ≤ x) (hx2 : x ≤ 18446744073709551615) (hy : 0 ≤ y) (hy2 : y ≤ 18446744073709551615) (hc : 0 ≤ c) (hc2 : c ≤ 1) (w : World) :
  Calls Tryz.prog 107 #[vI vU x,vI vU y,vI vU c] w fun e w' => e = .returned (.tuple #[vI vU ((x + y + c) % 18446744073709551616),vI vU ((x + y + c) / 18446744073709551616)]) ∧ w' = w:=by
 obtain ⟨s,hs⟩ : ∃ s,s = (x + y) % 18446744073709551616:=⟨_,rfl⟩
 obtain ⟨t,ht⟩ : ∃ t,t = (s + c) % 18446744073709551616:=⟨_,rfl⟩
 have e1 : IntKind.u64.wrap (x + y) = s:=by rw [IntKind.wrap_u64,hs]
 have e2 : IntKind.u64.wrap (s + c) = t:=by rw [IntKind.wrap_u64,ht]
 have et : t = (x + y + c) % 18446744073709551616:=by omega
 have E:=veil et
 by_cases h1 : s < x
 ·
  have h2 : ¬ t < s:=by omega
  have eo : (x + y + c) / 18446744073709551616 = 1:=by omega
  have EO:=veil eo
  clear et eo hs ht hx hx2 hy hy2 hc hc2
  go_enter Tryz.func107,Tryz.ntmps107
  go_wp2
  go_ret2
  rw [EO.out,← E.out]
  exact ⟨ret_u2' (by first | rfl | (rw [e1,e2]) | (rw [e2])) rfl,rfl⟩
 ·
  by_cases h2 : t < s
  ·
   have eo : (x + y + c) / 18446744073709551616 = 1:=by omega
   have EO:=veil eo
   clear et eo hs ht hx hx2 hy hy2 hc hc2
   go_enter Tryz.func107,Tryz.ntmps107
   go_wp2
   go_ret2
   rw [EO.out,← E.out]
   exact ⟨ret_u2' (by first | rfl | (rw [e1,e2]) | (rw [e2])) rfl,rfl⟩
  ·
   have eo : (x + y + c) / 18446744073709551616 = 0:=by omega
   have EO:=veil eo
   clear et eo hs ht hx hx2 hy hy2 hc hc2
   go_enter Tryz.func107,Tryz.ntmps107
   go_wp2
   go_ret2
   rw [EO.out,← E.out]
   exact ⟨ret_u2' (by first | rfl | (rw [e1,e2]) | (rw [e2])) rfl,rfl⟩
theorem gadd_at (X Y k : Nat) (w : World) :
  Calls Tryz.prog 107 #[vI vU (wd X k),vI vU (wd Y k),vI vU (cyI X Y k)] w fun e w' => e = .returned (.tuple #[vI vU (wd (X + Y) k),vI vU (cyI X Y (k + 1))]) ∧ w = w':=by
 have hc:=cy_le zaq X Y k
 have h:=gadd_core (wd X k) (wd Y k) (cyI X Y k) (wd_lo _ _) (wd_le _ _) (wd_lo _ _) (wd_le _ _) (by unfold cyI; omega) (by unfold cyI; omega) w
 have e1 : (wd X k + wd Y k + cyI X Y k) % 18446744073709551616 = wd (X + Y) k:=by
  unfold wd cyI; rw [dg_add zaq]; unfold w64; simp
 have e2 : (wd X k + wd Y k + cyI X Y k) / 18446744073709551616 = cyI X Y (k + 1):=by
  unfold wd cyI; rw [cy_succ zaq]; unfold w64; simp
 rw [e1,e2] at h
 exact h.mono fun _ _ ⟨a,b⟩ => ⟨a,b.symm⟩
theorem row_mix {X Z k : Nat} (_hk : k < 4) : ∀ i,i < 4 → (if i = k then Value.int .u64 (wd Z k) else Value.int .u64 (if i < k then wd Z i else wd X i)) = Value.int .u64 (if i < k + 1 then wd Z i else wd X i):=by
 intro i _
 by_cases h : i = k
 ·
  subst h; simp
 ·
  rw [if_neg h]; by_cases h2 : i < k
  ·
   rw [if_pos h2,if_pos (by omega)]
  ·
   rw [if_neg h2,if_neg (by omega)]
theorem cyI_one {X Y : Nat} (hX : X < top) (hY : Y < top) : (cyI X Y 4 == 1) = decide (top ≤ X + Y):=by
 unfold cyI
 rw [cy_top (n:=4) hX hY]
 show _ = decide (w64 ^ 4 ≤ X + Y)
 by_cases h : w64 ^ 4 ≤ X + Y <;> simp [h]
theorem plus_any (X Y : Nat) (hX : X < top) (hY : Y < top) (w : World) :
  Calls Tryz.prog 73 #[.agg #[vI vU (wd X 0),vI vU (wd X 1),vI vU (wd X 2),vI vU (wd X 3)],.agg #[vI vU (wd Y 0),vI vU (wd Y 1),vI vU (wd Y 2),vI vU (wd Y 3)]] w fun e w' => e = .returned (.tuple #[.agg #[vI vU (wd (X + Y) 0),vI vU (wd (X + Y) 1),vI vU (wd (X + Y) 2),vI vU (wd (X + Y) 3)],.bool (decide (top ≤ X + Y))]) ∧ Below w.heap.size w w':=by
 have HG:=veil (fun (k : Nat) (W : World) => gadd_at X Y k W)
 go_enter Tryz.func73,Tryz.ntmps73
 go_wp2
 go_loopw [6,7] (fun c i wr => ∃ k : Nat,k ≤ 4 ∧ i = .int .i64 k ∧ c = .int .u64 (cyI X Y k) ∧ wr.rowIs w.heap.size 27 4 (fun j => .int .u64 (if j < k then wd (X + Y) j else wd X j))
   ∧ wr.rowIs (w.heap.size + 1) 27 4 (fun j => .int .u64 (wd Y j)) ∧ wr.rowIs (w.heap.size + 1 + 1) 27 4 (fun _ => .int .u64 0) ∧ Below w.heap.size w wr)
  (fun _ i _ => 4 - (intOf i).toNat)
 case atStart => exact ⟨0,by omega,rfl,by simp [cyI,cy_zero],(((zac (n:=4) (by simp) rfl (arr4 fun j => .int .u64 (wd X j))).alloc _).alloc _).congr (fun j _ => by simp),(zac (n:=4) (by simp) rfl (arr4 fun j => .int .u64 (wd Y j))).alloc _,zac (n:=4) (by simp) rfl (arr4 fun _ => .int .u64 0),(((Below.refl _ _).alloc (by simp) _).alloc (by simp) _).alloc (by simp; omega) _⟩
 case round =>
  obtain ⟨k,hk,rfl,rfl,hRX,hRY,hRZ,hbel⟩:=hrel
  by_cases hlt : k < 4
  ·
   have c1:=hRX.cell hlt
   have c2:=hRY.cell hlt
   have f1:=hRX.frozen k
   rw [if_neg (by omega)] at c1
   go_wp2
   go_region_with (go_at_call 107; refine (HG.out _ _).mono ?_; rintro e w' ⟨rfl,rfl⟩)
   all_goals
    go_wp2
    go_roundw
    case rel => exact ⟨k + 1,by omega,by go_num,rfl,((hRX.set k _).congr (row_mix hlt)).drew,(zar hRY (by omega) _).drew,(zar hRZ (by omega) _).drew,(zai hbel (by omega) _).drew⟩
    case measure => simp [intOf]; omega
  ·
   obtain rfl : k = 4:=by omega
   obtain ⟨c0,c1,c2,c3⟩:=zad hRX
   obtain ⟨d0,d1,d2,d3⟩:=zad hRZ
   obtain ⟨f0,f1,f2,f3⟩:=zaj hRZ
   simp only [show (0 : Nat) < 4 from by omega,show (1 : Nat) < 4 from by omega,show (2 : Nat) < 4 from by omega,show (3 : Nat) < 4 from by omega,if_true] at c0 c1 c2 c3
   have hz:=cyI_one hX hY
   clear hRX hRY
   go_wp2
   refine bodyPost_ret (zbv rfl _ _ (w.heap.size + 1 + 1) 27 #[vI vU (wd (X + Y) 0),vI vU (wd (X + Y) 1),vI vU (wd (X + Y) 2),vI vU (wd (X + Y) 3)] (0,0) 4 25 rfl (blk4 (put4 hRZ fun j => .int .u64 (wd (X + Y) j))) Tryz.underlying27 (by kernel_rfl)) rfl ⟨?_,zae hbel (by omega) _ _ _ _⟩
   rfl
theorem zgn (X Y : Nat) (hX : X < top) (hY : Y < top) (w : World) :
  Calls Tryz.prog 73 #[.agg #[vI vU (wd X 0),vI vU (wd X 1),vI vU (wd X 2),vI vU (wd X 3)],.agg #[vI vU (wd Y 0),vI vU (wd Y 1),vI vU (wd Y 2),vI vU (wd Y 3)]] w fun e w' => e = .returned (.tuple #[.agg #[vI vU (wd ((X + Y) % top) 0),vI vU (wd ((X + Y) % top) 1),vI vU (wd ((X + Y) % top) 2),vI vU (wd ((X + Y) % top) 3)],.bool (decide (top ≤ X + Y))]) ∧ Below w.heap.size w w':=by
 rw [zdb _ 0 (by omega),zdb _ 1 (by omega),zdb _ 2 (by omega),zdb _ 3 (by omega)]
 exact plus_any X Y hX hY w
theorem lt_high {X Y m : Nat} (hX : X < top) (hY : Y < top) (hm : m < 4) (h : ∀ j,m < j → j < 4 → dg w64 X j = dg w64 Y j) (hne : dg w64 X m ≠ dg w64 Y m) : decide (X < Y) = decide (wd X m < wd Y m):=by
 have hc:=cmp_high w64 X Y 4 m zaq hX hY hm h hne
 unfold cmpN at hc
 unfold wd
 by_cases h1 : dg w64 X m < dg w64 Y m
 ·
  rw [if_pos h1] at hc
  by_cases h2 : X < Y
  ·
   simp [h1,h2]
  ·
   rw [if_neg h2] at hc; split at hc <;> omega
 ·
  rw [if_neg h1] at hc
  by_cases h2 : X < Y
  ·
   rw [if_pos h2] at hc; omega
  ·
   simp [h1,h2]
theorem less_calls (X Y : Nat) (hX : X < top) (hY : Y < top) (w : World) :
  Calls Tryz.prog 74 #[.agg #[vI vU (wd X 0),vI vU (wd X 1),vI vU (wd X 2),vI vU (wd X 3)],.agg #[vI vU (wd Y 0),vI vU (wd Y 1),vI vU (wd Y 2),vI vU (wd Y 3)]] w fun e w' => e = .returned (.bool (decide (X < Y))) ∧ Below w.heap.size w w':=by
 go_enter Tryz.func74,Tryz.ntmps74
 go_wp2
 go_loopw [5] (fun i wr => ∃ k : Nat,k ≤ 4 ∧ i = .int .i64 ((k : Int) - 1) ∧ (∀ j,k ≤ j → j < 4 → dg w64 X j = dg w64 Y j) ∧ wr.rowIs w.heap.size 27 4 (fun j => .int .u64 (wd X j))
   ∧ wr.rowIs (w.heap.size + 1) 27 4 (fun j => .int .u64 (wd Y j)) ∧ Below w.heap.size w wr)
  (fun i _ => (intOf i + 1).toNat)
 case atStart => exact ⟨4,by omega,rfl,by intro j h1 h2; omega,(zac (n:=4) (by simp) rfl (arr4 fun j => .int .u64 (wd X j))).alloc _,zac (n:=4) (by simp) rfl (arr4 fun j => .int .u64 (wd Y j)),((Below.refl _ _).alloc (by simp) _).alloc (by simp) _⟩
 case round =>
  obtain ⟨k,hk,hi,hall,hRX,hRY,hbel⟩:=hrel
  have HALL:=veil hall
  clear hall
  cases k with
  | zero =>
   subst hi
   have hXY : X = Y:=zfh zaq hX hY fun j hj => HALL.out j (Nat.zero_le _) hj
   have HXY:=veil hXY
   clear hXY
   go_wp2
   go_ret
   rw [show decide (X < Y) = false by rw [HXY.out]; simp]
   exact ⟨rfl,hbel⟩
  | succ m =>
   obtain rfl : _ = Value.int .i64 (m : Int):=hi.trans (by congr 1; omega)
   have hm : m < 4:=by omega
   go_wp2
   have c1:=hRX.cell hm
   have c2:=hRY.cell hm
   by_cases h : dg w64 X m = dg w64 Y m
   ·
    have hne : (wd X m != wd Y m) = false:=by unfold wd; rw [h]; simp
    go_quiet (fail)
    go_wp2
    go_roundw
    case rel => exact ⟨m,by omega,by go_num,fun j h1 h2 => by
     by_cases e : j = m
     ·
      rw [e]; exact h
     ·
      exact HALL.out j (by omega) h2,zbh hRX _,zbh hRY _,zau hbel _⟩
    case measure => simp [intOf]
   ·
    have hne : (wd X m != wd Y m) = true:=by rw [bne_iff_ne]; unfold wd; omega
    have HC:=veil (lt_high hX hY hm (fun j h1 h2 => HALL.out j (by omega) h2) h)
    clear h
    go_quiet (fail)
    go_wp2
    go_quiet (fail)
    go_wp2
    go_ret
    rw [HC.out]
    exact ⟨rfl,zau (zau hbel _) _⟩
end Go.Proofs.YthlbemnbmbmjhaaGreatDoor
