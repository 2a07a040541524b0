/-
  Regions that draw their order, by a schedule: what only reads, or calls what makes memory, first, in an order of our choice, walked by the library's own quiet steps; what makes memory of its own, one operation behind the other.
-/
import Derived.Test.YtoikgkjkcampkaaMade
import Derived.BigQuiet
namespace Go.Proofs.Ytoikgkjkcampkaa
open Go.RowKit

/-- A class of worlds, each one of a type of its own: so the walk's simplifier reads facts of all of them. -/
structure Gw (D : World → Prop) where
  val : World
  property : D val
abbrev Sub (D : World → Prop) : World → Prop := fun W => ∃ x : Gw D, W = x.val

section
variable {P : Program} {ops : Array Oper} {Q : Exit → Act → World → Prop} {md : Region.Mode}

/-! ### the quiet walk in every class of grown worlds is a walk of made values -/
def dstsB : List Oper → List Nat
  | [] => []
  | o :: r => (match o.dst with | some d => [d] | none => []) ++ dstsB r
/-- Each has a slot of its own. -/
def ownB (size : Nat) : List Oper → Bool
  | [] => true
  | o :: r => (match o.dst with | some d => decide (d < size) && !(dstsB r).contains d | none => false) && ownB size r
theorem put_tmps (a : Act) (d : Nat) (v : Value) : (a.put (some d) v).tmps = a.tmps.setIfInBounds d v := rfl
theorem quiet_keeps {C : World → Prop} {A : Act} : ∀ {l : List Oper} {a : Act} {d : Nat}, d ∉ dstsB l → wpQuiet P ops C (fun a' => a' = A) l a → A.tmps[d]? = a.tmps[d]?
  | [], a, d, _, h => by
    have h' : a = A := h
    rw [h']
  | o :: r, a, d, hd, h => by
    have hr : d ∉ dstsB r := fun hh => hd (by unfold dstsB; exact List.mem_append_right _ hh)
    have hne : ∀ v, (a.put o.dst v).tmps[d]? = a.tmps[d]? := fun v => by
      cases ho : o.dst with
      | none => rfl
      | some e =>
        have : e ≠ d := fun hh => hd (by unfold dstsB; rw [ho]; simp [hh])
        rw [put_tmps, Array.getElem?_setIfInBounds_ne this]
    unfold wpQuiet at h
    split at h
    · obtain ⟨v, _, hK⟩ := h
      rw [quiet_keeps hr hK, hne]
    · rw [quiet_keeps hr h, hne]
theorem made_of_quiet {o : Oper} {v : Value} {a : Act} {w : World} (h : ∀ W, Ext w W → o.quietAt P a (Sub (Ext W)) W v) : Made P o v a w := fun W hW => by
  have h1 := h W hW
  unfold Oper.quietAt at h1
  generalize (execOp a.eval o).run P W = r at *
  cases r with
  | ok n w' =>
    cases n <;> simp only [Oper.quietUpon] at h1 <;> simp only [madeUpon]
    case value u => obtain ⟨rfl, rfl⟩ := h1; exact ⟨rfl, Ext.refl _⟩
    case skip => obtain ⟨rfl, rfl⟩ := h1; exact ⟨rfl, Ext.refl _⟩
    case enter f args =>
      obtain ⟨rfl, hc⟩ := h1
      exact hc.mono fun e w'' ⟨he, x, hx⟩ => ⟨he, by rw [hx]; exact x.property⟩
  | halt x w' => simp only [Oper.quietUpon] at h1
/-- The classes that the walk is asked for: of grown worlds, and growing. -/
structure Up (w : World) (D : World → Prop) : Prop where
  ne : Nonempty (Gw D)
  grown : ∀ W, D W → Ext w W
  up : ∀ W W', D W → Ext W W' → D W'
theorem Up.ext {w : World} (W : World) (h : Ext w W) : Up w (Ext W) := ⟨⟨⟨W, Ext.refl W⟩⟩, fun _ k => h.trans k, fun _ _ k k' => k.trans k'⟩
theorem Up.cell {w : World} {D : World → Prop} (h : Up w D) {b o : Nat} {v : Value} (hc : w.cell? ⟨b, o, none⟩ = some v) : ∀ x : Gw D, x.val.cell? ⟨b, o, none⟩ = some v := fun x => by
  have hb : b < w.heap.size := World.block_lt_of_cell? w ⟨b, o, none⟩ hc
  exact (Below.cell (h.grown _ x.property) (p := ⟨b, o, none⟩) hb).trans hc
theorem mk_of_quiet {w : World} {A : Act} : ∀ {l : List Oper} {a : Act}, ownB a.tmps.size l = true → (∀ D, Up w D → wpQuiet P ops (Sub D) (fun a' => a' = A) l a) → wpMk P ops w (fun a' => a' = A) l a
  | [], a, _, h => h (Ext w) (Up.ext w (Ext.refl w))
  | o :: r, a, hB, h => by
    unfold ownB at hB
    cases ho : o.dst with
    | none => rw [ho] at hB; simp at hB
    | some d =>
      rw [ho] at hB
      simp only [Bool.and_eq_true, decide_eq_true_eq, Bool.not_eq_true'] at hB
      obtain ⟨⟨hd, hnot⟩, hr⟩ := hB
      have hnot' : d ∉ dstsB r := fun hh => by
        have : (dstsB r).contains d = true := by simpa using hh
        rw [hnot] at this; cases this
      have hsz : ∀ v, (a.put o.dst v).tmps.size = a.tmps.size := fun v => by rw [ho, put_tmps]; simp
      by_cases hw : Region.wanted o (yielded ops a.tmps) = true
      · have each : ∀ D, Up w D → (∀ W, Sub D W → o.quietAt P a (Sub D) W (A.tmps.getD d undef)) ∧ wpQuiet P ops (Sub D) (fun a' => a' = A) r (a.put o.dst (A.tmps.getD d undef)) := fun D hD => by
          have h1 := h D hD
          unfold wpQuiet at h1
          rw [if_pos hw] at h1
          obtain ⟨v, h2, h3⟩ := h1
          have h4 := quiet_keeps hnot' h3
          rw [ho, put_tmps, Array.getElem?_setIfInBounds_self_of_lt hd] at h4
          have hv : A.tmps.getD d undef = v := by simp [h4]
          rw [hv]
          exact ⟨h2, h3⟩
        refine ⟨A.tmps.getD d undef, .inl ⟨hw, made_of_quiet fun W hW => ?_⟩, mk_of_quiet (by rw [hsz]; exact hr) fun D hD => (each D hD).2⟩
        exact (each (Ext W) (Up.ext W hW)).1 W ⟨⟨W, Ext.refl W⟩, rfl⟩
      · have hw' : Region.wanted o (yielded ops a.tmps) = false := by simpa using hw
        refine ⟨undef, .inr ⟨hw', rfl⟩, mk_of_quiet (by rw [hsz]; exact hr) fun D hD => ?_⟩
        have h1 := h D hD
        unfold wpQuiet at h1
        rwa [if_neg hw] at h1

theorem quiet_conv {o : Oper} {a : Act} {C : World → Prop} {K : Act → Prop} {t e : TypeId} {x : Operand} {v v' : Value} (ho : o.op = .convert t e x) (hx : a.eval x = v) (h : ∀ W, C W → (convert t e v).run P W = .ok v' W) (hK : K (a.put o.dst v')) : o.quiet P a C K :=
  ⟨v', fun W hW => by
    unfold Oper.quietAt execOp
    simp only [ho, hx, Sem.run_bind, h W hW, Result.andThen_ok, Sem.run_pure]
    exact ⟨rfl, rfl⟩, hK⟩

theorem quiet_val {o : Oper} {a : Act} {D : World → Prop} {K : Act → Prop} (v : Value) (h : ∀ x : Gw D, (execOp a.eval o).run P x.val = .ok (.value v) x.val) (hK : K (a.put o.dst v)) : o.quiet P a (fun W => ∃ x : Gw D, W = x.val) K :=
  ⟨v, fun W hW => by
    obtain ⟨x, rfl⟩ := hW
    unfold Oper.quietAt
    rw [h x]
    exact ⟨rfl, rfl⟩, hK⟩
theorem run_slice_v {o : Oper} {a : Act} {t : TypeId} {x y z : Operand} {v v' vy vz : Value} {W : World} (ho : o.op = .slice t x (some y) (some z) none) (hx : a.eval x = v) (hy : a.eval y = vy) (hz : a.eval z = vz)
    (h : (Instr.sliceAt t v (some vy) (some vz) none).run P W = .ok v' W) : (execOp a.eval o).run P W = .ok (.value v') W := by
  unfold execOp
  simp only [ho, hx, hy, hz, Option.map_some, Option.map_none, Sem.run_bind, h, Result.andThen_ok, Sem.run_pure]

/-! ### schedules -/
/-- Every operation below n is waited for, by steps, by operation n; and that one by all behind it (or there is none). -/
def lateS (md : Region.Mode) (ops : Array Oper) (n : Nat) : Bool :=
  decide (ops.size ≤ n) || (((List.range n).all fun i => (List.range (n + 1)).any fun j => decide (i < j) && Region.waitsFor md ops j i) && (List.range ops.size).all fun t => decide (t ≤ n) || Region.waitsFor md ops t n)
theorem lateS_one {n : Nat} {listed : Array Bool} (hB : ((List.range n).all fun i => (List.range (n + 1)).any fun j => decide (i < j) && Region.waitsFor md ops j i) = true) (inv : Closed md ops listed) :
    ∀ (d i : Nat), n - i = d → i < n → listed.getD i false = false → listed.getD n false = false ∧ n ∉ Region.ready md ops listed := by
  intro d
  induction d using Nat.strongRecOn with
  | _ d ih =>
    intro i hd hi hun
    have h1 := List.all_eq_true.1 hB i (List.mem_range.2 hi)
    obtain ⟨j, hj, hj2⟩ := List.any_eq_true.1 h1
    simp only [Bool.and_eq_true, decide_eq_true_eq] at hj2
    have hjn := List.mem_range.1 hj
    obtain ⟨oj, hoj, e, he, hb, hon⟩ := Region.waitsFor_spec hj2.2
    have hlj : listed.getD j false = false := by
      cases h2 : listed.getD j false with
      | false => rfl
      | true =>
        have h3 := inv.2 j oj hoj h2 e he hb
        rw [hon, hun] at h3
        cases h3
    by_cases hl : j = n
    · subst hl
      refine ⟨hlj, fun hr => ?_⟩
      obtain ⟨_, oj', hoj', hall⟩ := mem_ready.1 hr
      have : oj = oj' := Option.some.inj (hoj.symm.trans hoj')
      subst this
      have h3 := hall e he hb
      rw [hon, hun] at h3
      cases h3
    · exact ih (n - j) (by omega) j rfl (by omega) hlj
theorem lateS_spec {n i : Nat} {listed : Array Bool} (hB : lateS md ops n = true) (inv : Closed md ops listed) (hi : i < n) (hun : listed.getD i false = false)
    {t : Nat} (ht : t ∈ Region.ready md ops listed) : t < n := by
  obtain ⟨_, ot, hot, hall⟩ := mem_ready.1 ht
  have htl : t < ops.size := (Array.getElem?_eq_some_iff.1 hot).1
  unfold lateS at hB
  simp only [Bool.or_eq_true, decide_eq_true_eq, Bool.and_eq_true] at hB
  rcases hB with hB | ⟨hB1, hB2⟩
  · omega
  · obtain ⟨hn1, hn2⟩ := lateS_one hB1 inv _ i rfl hi hun
    have h1 := List.all_eq_true.1 hB2 t (List.mem_range.2 htl)
    simp only [Bool.or_eq_true, decide_eq_true_eq] at h1
    rcases h1 with h1 | h1
    · have : t ≠ n := fun e => hn2 (e ▸ ht)
      omega
    · obtain ⟨o', ho', e, he, hb, hon⟩ := Region.waitsFor_spec h1
      have : o' = ot := Option.some.inj (ho'.symm.trans hot)
      subst this
      have h2 := hall e he hb
      rw [hon, hn1] at h2
      cases h2
/-- What may come up, and yields one value, may be taken first. -/
theorem S_first {i n : Nat} {oi : Oper} {v : Value} (hi : ops[i]? = some oi) (hsel : ∀ (j : Nat) (o : Oper) cs b, ops[j]? = some o → o.op ≠ .select cs b)
    (hQ : ∀ c a w, Q (.panic c) (a.put oi.dst v) w → Q (.panic c) a w) (hB : lateS md ops n = true) (him : i < n) :
    ∀ (fuel : Nat) (listed : Array Bool) (a : Act) (w : World), Closed md ops listed →
      (∀ j oj, ops[j]? = some oj → j ≠ i → listed.getD j true = false → (∀ e ∈ oj.after, Region.binds md e = true → e.on ≠ i) → oi.apart ops oj = true) →
      i ∈ Region.ready md ops listed → YieldsE P ops oi v a w →
      wpG P md ops Q n fuel (listed.setIfInBounds i true) (a.put oi.dst v) w → wpG P md ops Q n (fuel + 1) listed a w := by
  intro fuel
  induction fuel with
  | zero =>
    intro listed a w _ _ hr hy H
    refine ⟨fun h => (by rw [h] at hr; cases hr), fun j hj W hW => ?_⟩
    by_cases hji : j = i
    · subst hji; exact hy.wpOp hi hW fun W' hW' => ⟨fun _ => hW', H.ext (hW.trans hW')⟩
    · have := ready_mono hj hji
      rw [H.1] at this
      cases this
  | succ fuel ih =>
    intro listed a w inv hfree hr hy H
    refine ⟨fun h => (by rw [h] at hr; cases hr), fun j hj W hW => ?_⟩
    by_cases hji : j = i
    · subst hji; exact hy.wpOp hi hW fun W' hW' => ⟨fun _ => hW', H.ext (hW.trans hW')⟩
    · have hun := getD_both (mem_ready.1 hr).1
      have hjn : j < n := lateS_spec hB inv him hun hj
      have h1 := H.2 j (ready_mono hj hji) W hW
      obtain ⟨hjun, oj, hoj, hall⟩ := mem_ready.1 hj
      have hnot : ∀ e ∈ oj.after, Region.binds md e = true → e.on ≠ i := fun e he hb heq => by
        have h2 := hall e he hb
        rw [heq, hun] at h2
        cases h2
      have h2 := wpOp_putE hoj (hfree j oj hoj hji hjun hnot) (fun cs b => hsel i oi cs b hi) (fun cs b => hsel j oj cs b hoj) hQ (fun a' w' hk => hk.1 hjn)
        (hy.of_same hW rfl rfl) h1
      have hfree' : ∀ k ok, ops[k]? = some ok → k ≠ i → (listed.setIfInBounds j true).getD k true = false →
          (∀ e ∈ ok.after, Region.binds md e = true → e.on ≠ i) → oi.apart ops ok = true := fun k ok hk hki hunk hno => by
        refine hfree k ok hk hki ?_ hno
        by_cases hjk : j = k
        · subst hjk; exact hjun
        · rw [getD_set_ne true hjk] at hunk; exact hunk
      refine wpOp_mono (fun a' w' h3 => ⟨h3.2.1, ih (listed.setIfInBounds j true) a' w' (inv.set hj) hfree' (ready_mono hr (Ne.symm hji)) h3.1 ?_⟩) h2
      rw [Array.setIfInBounds_comm _ _ hji]
      exact h3.2.2

/-- A schedule: rows of operations that yield values (true), single ones that don't (false). -/
abbrev Sched := List (Bool × List Nat)
def takeI (md : Region.Mode) (ops : Array Oper) (n : Nat) : List Nat → Array Bool → Bool
  | [], _ => true
  | k :: r, listed => (Region.ready md ops listed).contains k && Region.free md ops listed k && decide (k < n) && takeI md ops n r (listed.setIfInBounds k true)
def oneI (md : Region.Mode) (ops : Array Oper) : List Nat → Array Bool → Bool
  | [], _ => true
  | k :: r, listed => (Region.ready md ops listed == [k]) && oneI md ops r (listed.setIfInBounds k true)
def markI : List Nat → Array Bool → Array Bool
  | [], listed => listed
  | k :: r, listed => markI r (listed.setIfInBounds k true)
def schedI (md : Region.Mode) (ops : Array Oper) (n : Nat) : Sched → Array Bool → Bool
  | [], listed => (Region.ready md ops listed).isEmpty
  | (true, is) :: r, listed => takeI md ops n is listed && schedI md ops n r (markI is listed)
  | (false, is) :: r, listed => oneI md ops is listed && schedI md ops n r (markI is listed)
def consO : Option Oper → List Oper → List Oper
  | some o, r => o :: r
  | none, r => r
/-- The operations of a row. -/
def pickI (l : List Oper) : List Nat → List Oper
  | [] => []
  | k :: r => consO l[k]? (pickI l r)
/-- Single operations, one behind the other: the walk of each. -/
def wpOne (P : Program) (ops : Array Oper) (Q : Exit → Act → World → Prop) (n : Nat) (R : Act → World → Prop) : List Nat → Act → World → Prop
  | [], a, w => R a w
  | k :: r, a, w => ∀ W, Ext w W → wpOp P ops Q k (fun a' W' => (k < n → Ext W W') ∧ wpOne P ops Q n R r a' W') a W
def wpSched (P : Program) (l : List Oper) (Q : Exit → Act → World → Prop) (n : Nat) : Sched → Act → World → Prop
  | [], a, w => ∀ W, Ext w W → Q .normal a W
  | (true, is) :: r, a, w => wpMk P l.toArray w (fun a' => wpSched P l Q n r a' w) (pickI l is) a
  | (false, is) :: r, a, w => wpOne P l.toArray Q n (fun a' w' => wpSched P l Q n r a' w') is a w
def lenI : Sched → Nat
  | [] => 0
  | (_, is) :: r => is.length + lenI r
theorem S_take {n g : Nat} {l : List Oper} (hsel : Region.noSelect l.toArray = true) (hQ : ∀ (o : Oper) v c a w, Q (.panic c) (a.put o.dst v) w → Q (.panic c) a w) (hB : lateS md l.toArray n = true) {w : World} {R : Act → Prop} {L : Array Bool}
    (hR : ∀ a, R a → Closed md l.toArray L → wpG P md l.toArray Q n g L a w) : ∀ (is : List Nat) (listed : Array Bool) (a : Act), Closed md l.toArray listed →
    takeI md l.toArray n is listed = true → markI is listed = L → wpMk P l.toArray w R (pickI l is) a → wpG P md l.toArray Q n (is.length + g) listed a w
  | [], listed, a, inv, _, hL, h => by
    have hL' : listed = L := hL
    subst hL'
    simpa using hR a h inv
  | k :: r, listed, a, inv, hX, hL, h => by
    simp only [takeI, Bool.and_eq_true, decide_eq_true_eq] at hX
    obtain ⟨⟨⟨hr, hf⟩, hkn⟩, hX'⟩ := hX
    have hr' : k ∈ Region.ready md l.toArray listed := by simpa using hr
    obtain ⟨_, o, h0, _⟩ := mem_ready.1 hr'
    have h0' : l[k]? = some o := by simpa using h0
    unfold pickI at h
    rw [h0'] at h
    obtain ⟨v, hy, hK⟩ := h
    rw [List.length_cons, show r.length + 1 + g = (r.length + g) + 1 by omega]
    exact S_first h0 (Region.noSelect_spec hsel) (hQ o v) hB hkn _ listed a w inv (Region.free_spec h0 hf) hr' hy
      (S_take hsel hQ hB hR r _ _ (inv.set hr') hX' hL hK)
theorem S_one {n g : Nat} {l : List Oper} {R : Act → World → Prop} {L : Array Bool} (hRx : ∀ a w w', R a w → Ext w w' → R a w')
    (hR : ∀ a w, R a w → Closed md l.toArray L → wpG P md l.toArray Q n g L a w) : ∀ (is : List Nat) (listed : Array Bool) (a : Act) (w : World), Closed md l.toArray listed →
    oneI md l.toArray is listed = true → markI is listed = L → wpOne P l.toArray Q n R is a w → wpG P md l.toArray Q n (is.length + g) listed a w
  | [], listed, a, w, inv, _, hL, h => by
    have hL' : listed = L := hL
    subst hL'
    simpa using hR a w h inv
  | k :: r, listed, a, w, inv, hX, hL, h => by
    simp only [oneI, Bool.and_eq_true, beq_iff_eq] at hX
    obtain ⟨hr, hX'⟩ := hX
    rw [List.length_cons, show r.length + 1 + g = (r.length + g) + 1 by omega]
    refine ⟨fun h0 => (by rw [hr] at h0; cases h0), fun i hi W hW => ?_⟩
    have hik : i = k := by rw [hr] at hi; simpa using hi
    subst hik
    refine wpOp_mono (fun a' W' hk => ⟨hk.1, S_one hRx hR r _ _ _ (inv.set hi) hX' hL hk.2⟩) (h W hW)
theorem wpMk_ext {w w' : World} {R R' : Act → Prop} (hE : Ext w w') (hR : ∀ a, R a → R' a) : ∀ {l : List Oper} {a : Act}, wpMk P ops w R l a → wpMk P ops w' R' l a
  | [], _, hh => hR _ hh
  | _ :: _, _, ⟨v, hy, hK⟩ => ⟨v, hy.of_same hE rfl rfl, wpMk_ext hE hR hK⟩
theorem wpOne_ext {n : Nat} {R : Act → World → Prop} {w w' : World} (hE : Ext w w') (hRx : ∀ a w w', R a w → Ext w w' → R a w') : ∀ {is : List Nat} {a : Act}, wpOne P ops Q n R is a w → wpOne P ops Q n R is a w'
  | [], _, h => hRx _ _ _ h hE
  | _ :: _, _, h => fun W hW => h W (hE.trans hW)
theorem wpSched_ext {l : List Oper} {n : Nat} : ∀ {s : Sched} {a : Act} {w w' : World}, wpSched P l Q n s a w → Ext w w' → wpSched P l Q n s a w'
  | [], _, _, _, h, hE => fun W hW => h W (hE.trans hW)
  | (true, _) :: _, _, _, _, h, hE => wpMk_ext hE (fun _ h => wpSched_ext h hE) h
  | (false, is) :: r, _, _, _, h, hE => wpOne_ext (R := fun a' w' => wpSched P l Q n r a' w') (is := is) hE (fun _ _ _ h k => wpSched_ext h k) h
theorem S_all {n : Nat} {l : List Oper} (hsel : Region.noSelect l.toArray = true) (hQ : ∀ (o : Oper) v c a w, Q (.panic c) (a.put o.dst v) w → Q (.panic c) a w) (hB : lateS md l.toArray n = true) :
    ∀ (s : Sched) (listed : Array Bool) (a : Act) (w : World), Closed md l.toArray listed → schedI md l.toArray n s listed = true → wpSched P l Q n s a w → wpG P md l.toArray Q n (lenI s) listed a w
  | [], listed, a, w, _, hX, h => ⟨by simpa [schedI] using hX, h⟩
  | (true, is) :: r, listed, a, w, inv, hX, h => by
    simp only [schedI, Bool.and_eq_true] at hX
    exact S_take (g := lenI r) hsel hQ hB (R := fun a' => wpSched P l Q n r a' w) (L := markI is listed) (fun a' h' inv' => S_all hsel hQ hB r _ _ _ inv' hX.2 h') is listed a inv hX.1 rfl h
  | (false, is) :: r, listed, a, w, inv, hX, h => by
    simp only [schedI, Bool.and_eq_true] at hX
    exact S_one (g := lenI r) (R := fun a' w' => wpSched P l Q n r a' w') (L := markI is listed) (fun _ _ _ h k => wpSched_ext h k) (fun a' w' h' inv' => S_all hsel hQ hB r _ _ _ inv' hX.2 h') is listed a w inv hX.1 rfl h
/-- The check on a region and its schedule, by the kernel. -/
def schedB (l : List Oper) (n : Nat) (s : Sched) : Bool :=
  Region.noSelect l.toArray && lateS .any l.toArray n && (lenI s == l.length) && schedI .any l.toArray n s (Array.replicate l.length false)
/-- **A region by a schedule.** -/
theorem wp_sched {id : Nat} (n : Nat) (s : Sched) {a : Act} {w : World} {l : List Oper} (hm : P.follows .mixedOrders = true) (hB : schedB l n s = true)
    (h : ∀ Q', Hid (Q' = NoPanic Q) → wpSched P l Q' n s a w) : (Code.region id l.toArray true).wp P Q a w := by
  simp only [schedB, Bool.and_eq_true, beq_iff_eq] at hB
  obtain ⟨⟨⟨hsel, hlate⟩, hlen⟩, hs⟩ := hB
  refine wp_region_noPanic ?_
  have inv0 : Closed .any l.toArray (Array.replicate l.length false) :=
    ⟨by simp, fun j oj _ hl => (by rw [getD_replicate_false] at hl; cases hl)⟩
  have H := S_all (P := P) (md := .any) (Q := NoPanic Q) hsel (fun _ _ _ _ _ h => h) hlate s _ a w inv0 hs (h _ (veil rfl))
  rw [hlen] at H
  refine wp_region_any hm (wpAny_of_G (n := n) _ _ _ _ ?_)
  have := wpG.ext H (Ext.drew w)
  simpa using this

/-! ### how its parts are walked -/
theorem wpq_end {C : World → Prop} {a : Act} : wpQuiet P ops C (fun a' => a' = a) [] a := rfl
theorem sched_row {l : List Oper} {n : Nat} {is : List Nat} {r : Sched} {a A : Act} {w : World} (os : List Oper) (ho : pickI l is = os) (hB : ownB a.tmps.size os = true)
    (h : ∀ D, Up w D → Nonempty (Gw D) → wpQuiet P l.toArray (fun W => ∃ x : Gw D, W = x.val) (fun a' => a' = A) os a) (h2 : wpSched P l Q n r A w) : wpSched P l Q n ((true, is) :: r) a w := by
  subst ho
  exact mk_mono (fun a' e => by subst e; exact h2) (mk_of_quiet hB fun D hD => h D hD hD.ne)
/-- One operation by itself. -/
theorem sched_one {l : List Oper} {n k : Nat} {r : Sched} {a : Act} {w : World} (o : Oper) (ho : l[k]? = some o) (hg : o.guard = none)
    (h : ∀ W, Ext w W → o.wp P a W (fun a' W' => (k < n → Ext W W') ∧ wpSched P l Q n r a' W') Q) : wpSched P l Q n ((false, [k]) :: r) a w := fun W hW =>
  wpOp_plain (by simpa using ho) hg (h W hW)
/-- A slice laid out. -/
theorem sched_build {l : List Oper} {n k : Nat} {r : Sched} {a : Act} {w : World} {t e : TypeId} {len d : Nat} {ps : List (Nat × Operand)} {vs : List (Nat × Value)} {C : Array Value} (o : Oper) (ho : l[k]? = some o) (hg : o.guard = none) (hop : o.op = .buildSlice t len ps.toArray) (hd : o.dst = some d)
    (hv : ps.map (fun (i, x) => (i, a.eval x)) = vs) (hb : ∀ W, (Instr.buildSlice t len vs.toArray).run P W = .ok (.slice (some ⟨W.heap.size, 0, none⟩) len len) (W.alloc (.cells C e)))
    (h : ∀ g W, w.heap.size ≤ g → W.heap[g]? = some (.cells C e (0, 0)) → Ext w W → wpSched P l Q n r (a.put (some d) (.slice (some ⟨g, 0, none⟩) len len)) W) : wpSched P l Q n ((false, [k]) :: r) a w := by
  refine sched_one o ho hg fun W hW => ?_
  unfold Oper.wp execOp
  simp only [hop, List.map_toArray]
  rw [show ps.map (fun x => match x with | (i, x) => (i, a.eval x)) = vs from hv]
  simp only [Sem.run_bind, hb W, Result.andThen_ok, Sem.run_pure]
  show (k < n → Ext W _) ∧ _
  rw [hd]
  exact ⟨fun _ => Ext.alloc W _, h _ _ (Below.size hW) (heap_new W _) (hW.trans (Ext.alloc W _))⟩
theorem sched_end {l : List Oper} {n : Nat} {a : Act} {w : World} {R : Exit → Act → World → Prop} (hQ : Hid (Q = NoPanic R)) (h : ∀ W, Ext w W → R .normal a W) : wpSched P l Q n [] a w := fun W hW => by
  rw [hQ.out]
  exact h W hW
end
end Go.Proofs.Ytoikgkjkcampkaa
