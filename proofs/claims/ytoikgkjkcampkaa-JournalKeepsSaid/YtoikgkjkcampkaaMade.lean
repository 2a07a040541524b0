/-
  Regions that draw their order and whose calls may make memory: one walk in the text's order serves every order, if each operation yields one value in whatever world that still has all that was there.
-/
import Derived.Test.YtoikgkjkcampkaaRow
import Derived.OrdersHeld
import Derived.StillTail
import Derived.Deep.RegionHeld3
namespace Go.Proofs.Ytoikgkjkcampkaa
open Go.RowKit

/-- All that there was is as it was. -/
def Ext (w w' : World) : Prop := Below w.heap.size w w'
theorem Ext.refl (w : World) : Ext w w := Below.refl _ _
theorem Ext.trans {a b c : World} (h : Ext a b) (k : Ext b c) : Ext a c := Below.trans h (Below.mono k h.size)
theorem Ext.drew (w : World) : Ext w w.drew := Below.drew (Below.refl _ _)
theorem Ext.alloc (w : World) (o : Obj) : Ext w (w.alloc o) := (Below.refl _ _).alloc (Nat.le_refl _) o
theorem Ext.block {a b : World} (h : Ext a b) {g : Nat} {o : Obj} (hg : a.heap[g]? = some o) : b.heap[g]? = some o := by
  rw [Below.block h g (Array.getElem?_eq_some_iff.1 hg).1, hg]
theorem Ext.row {a b : World} {g t n : Nat} {f : Nat → Value} (h : a.rowIs g t n f) (k : Ext a b) : b.rowIs g t n f := row_below h k h.lt

section
variable {P : Program} {ops : Array Oper} {Q : Exit → Act → World → Prop} {md : Region.Mode}

/-- What is asked of an operation carried out in the world w. -/
def madeUpon (P : Program) (w : World) (v : Value) : Result Next → Prop
  | .ok (.value u) w' => u = v ∧ Ext w w'
  | .ok .skip w' => v = undef ∧ Ext w w'
  | .ok (.enter f args) w' => Calls P f args w' fun e w'' => e = .returned v ∧ Ext w w''
  | _ => False
/-- One value in whatever world that has all that w has. -/
def Made (P : Program) (o : Oper) (v : Value) (a : Act) (w : World) : Prop := ∀ W, Ext w W → madeUpon P W v ((execOp a.eval o).run P W)
theorem Made.ext {o : Oper} {v : Value} {a : Act} {w w' : World} (h : Made P o v a w) (k : Ext w w') : Made P o v a w' := fun W hW => h W (k.trans hW)
def YieldsE (P : Program) (ops : Array Oper) (o : Oper) (v : Value) (a : Act) (w : World) : Prop :=
  (Region.wanted o (yielded ops a.tmps) = true ∧ Made P o v a w) ∨ (Region.wanted o (yielded ops a.tmps) = false ∧ v = undef)
theorem YieldsE.of_same {o : Oper} {v : Value} {a a' : Act} {w w' : World} (hy : YieldsE P ops o v a w) (k : Ext w w') (he : execOp a'.eval o = execOp a.eval o)
    (hw : Region.wanted o (yielded ops a'.tmps) = Region.wanted o (yielded ops a.tmps)) : YieldsE P ops o v a' w' := by
  unfold YieldsE at *
  rw [hw]
  refine hy.imp (fun ⟨h1, h2⟩ => ⟨h1, ?_⟩) id
  unfold Made at *
  rw [he]
  exact Made.ext h2 k
theorem Made.wp {o : Oper} {v : Value} {a : Act} {w W : World} (h : Made P o v a w) (k : Ext w W) {K : Act → World → Prop} (hK : ∀ W', Ext W W' → K (a.put o.dst v) W') : o.wp P a W K Q := by
  have h1 := h W k
  unfold Oper.wp
  generalize (execOp a.eval o).run P W = r at *
  cases r with
  | ok n w' =>
    cases n <;> simp only [madeUpon] at h1 <;> simp only [Oper.upon]
    case value u => obtain ⟨rfl, e⟩ := h1; exact hK _ e
    case skip => obtain ⟨rfl, e⟩ := h1; exact hK _ e
    case enter f args => exact h1.mono fun e w'' ⟨he, hw⟩ => by subst he; exact hK _ hw
  | halt x w' => simp only [madeUpon] at h1
theorem YieldsE.wpOp {i : Nat} {o : Oper} {v : Value} {a : Act} {w W : World} (hi : ops[i]? = some o) (hy : YieldsE P ops o v a w) (k : Ext w W)
    {K : Act → World → Prop} (h : ∀ W', Ext W W' → K (a.put o.dst v) W') : wpOp P ops Q i K a W := by
  unfold Go.wpOp
  simp only [hi]
  rcases hy with ⟨hw, hv⟩ | ⟨hw, rfl⟩
  · simp only [hw, if_true]; exact .inl (hv.wp k h)
  · simp only [hw, Bool.false_eq_true, if_false]; exact h W (Ext.refl W)

/-- Another operation, apart from it: it makes no difference which of both is carried out first. -/
theorem wpOp_putE {j : Nat} {oi oj : Oper} {v : Value} (hj : ops[j]? = some oj) (hap : oi.apart ops oj = true)
    (hsi : ∀ cs b, oi.op ≠ .select cs b) (hsj : ∀ cs b, oj.op ≠ .select cs b)
    (hQ : ∀ c a w, Q (.panic c) (a.put oi.dst v) w → Q (.panic c) a w) {K : Act → World → Prop} {a : Act} {w : World}
    (hK : ∀ a' w', K a' w' → Ext w w') (hy : YieldsE P ops oi v a w) (h : wpOp P ops Q j K (a.put oi.dst v) w) :
    wpOp P ops Q j (fun a' w' => YieldsE P ops oi v a' w' ∧ K (a'.put oi.dst v) w') a w := by
  obtain ⟨h1, h2, h3⟩ := Oper.apart_spec hap
  have keep : ∀ (a' : Act) (u : Value) (w' : World), YieldsE P ops oi v a' w → Ext w w' → YieldsE P ops oi v (a'.put oj.dst u) w' := fun a' u w' hy k =>
    hy.of_same k (execOp_put oi hsi a' oj.dst u h3) (wanted_put oi a' oj.dst u h3)
  have keepD : ∀ d, YieldsE P ops oi v { a with defers := d :: a.defers } w := fun d => hy.of_same (Ext.refl w) rfl rfl
  unfold wpOp at *
  simp only [hj] at *
  rw [wanted_put oj a oi.dst v h1] at h
  split
  · rename_i hw
    simp only [hw, if_true] at h
    rcases h with h | ⟨hasks, hlets⟩
    case inr => exact .inr ⟨by unfold Oper.asks at *; rw [execOp_put oj hsj a oi.dst v h1] at hasks; exact hasks, hlets⟩
    refine .inl ?_
    unfold Oper.wp at *
    rw [execOp_put oj hsj a oi.dst v h1] at h
    generalize (execOp a.eval oj).run P w = r at *
    have fin : ∀ u w', K ((a.put oi.dst v).put oj.dst u) w' → YieldsE P ops oi v (a.put oj.dst u) w' ∧ K ((a.put oj.dst u).put oi.dst v) w' := fun u w' hk =>
      ⟨keep a u w' hy (hK _ _ hk), by rw [← Act.put_comm a v u h2]; exact hk⟩
    cases r with
    | ok n w' =>
      cases n <;> simp only [Oper.upon] at h ⊢
      case value u => exact fin u w' h
      case skip => exact fin undef w' h
      case defer d =>
        refine ⟨keep _ _ w' (keepD d) (hK _ _ h), ?_⟩
        rw [← Act.put_comm _ v undef h2, ← Act.put_defers]
        exact h
      case enter f args =>
        refine Calls.mono h fun e w'' he => ?_
        cases e with
        | returned u => exact fin u w'' he
        | panicked c => exact hQ _ _ _ he
        | outgrown => exact he
      case row row args => exact Rows.mono h fun u w'' he => fin u w'' he
    | halt x w' =>
      cases x <;> simp only [Oper.upon] at h ⊢
      case panic u => exact hQ _ _ _ h
  · rename_i hw
    simp only [hw] at h
    exact ⟨keep a undef w hy (Ext.refl w), by rw [← Act.put_comm a v undef h2]; exact h⟩

/-- Whatever order is picked from here on, in whatever world that has all that w has; operations below n keep all that there was. -/
def wpG (P : Program) (md : Region.Mode) (ops : Array Oper) (Q : Exit → Act → World → Prop) (n : Nat) : Nat → Array Bool → Act → World → Prop
  | 0, listed, a, w => Region.ready md ops listed = [] ∧ ∀ W, Ext w W → Q .normal a W
  | fuel + 1, listed, a, w =>
    (Region.ready md ops listed = [] → ∀ W, Ext w W → Q .normal a W) ∧
    ∀ i ∈ Region.ready md ops listed, ∀ W, Ext w W → wpOp P ops Q i (fun a' W' => (i < n → Ext W W') ∧ wpG P md ops Q n fuel (listed.setIfInBounds i true) a' W') a W
theorem wpG.ext {n : Nat} : ∀ {f : Nat} {listed : Array Bool} {a : Act} {w w' : World}, wpG P md ops Q n f listed a w → Ext w w' → wpG P md ops Q n f listed a w'
  | 0, _, _, _, _, h, k => ⟨h.1, fun W hW => h.2 W (k.trans hW)⟩
  | _ + 1, _, _, _, _, h, k => ⟨fun h0 W hW => h.1 h0 W (k.trans hW), fun i hi W hW => h.2 i hi W (k.trans hW)⟩
theorem wpAny_of_G {n : Nat} : ∀ (f : Nat) (listed : Array Bool) (a : Act) (w : World), wpG P md ops Q n f listed a w → wpAny P md ops Q f listed a w
  | 0, _, _, w, h => ⟨h.1, h.2 w (Ext.refl w)⟩
  | f + 1, _, _, w, h => ⟨fun h0 => h.1 h0 w (Ext.refl w), fun i hi => wpOp_mono (fun a' w' hk => wpAny_of_G f _ a' w' hk.2) (h.2 i hi w (Ext.refl w))⟩

/-- What has come up came up behind what it waits for. -/
def Closed (md : Region.Mode) (ops : Array Oper) (listed : Array Bool) : Prop :=
  listed.size = ops.size ∧ ∀ j oj, ops[j]? = some oj → listed.getD j false = true → ∀ e ∈ oj.after, Region.binds md e = true → listed.getD e.on false = true
theorem Closed.set {i : Nat} {listed : Array Bool} (inv : Closed md ops listed) (hi : i ∈ Region.ready md ops listed) : Closed md ops (listed.setIfInBounds i true) := by
  obtain ⟨_, oi, hoi, hall⟩ := mem_ready.1 hi
  refine ⟨by simp [inv.1], fun j oj hj hl e he hb => ?_⟩
  by_cases hij : i = j
  · subst hij
    have : oj = oi := Option.some.inj (hj.symm.trans hoi)
    subst this
    exact getD_set_true (hall e he hb)
  · rw [getD_set_ne false hij] at hl
    exact getD_set_true (inv.2 j oj hj hl e he hb)
/-- The first m operations are all waited for by the last of them, and that one by all from n on. -/
def lateB (md : Region.Mode) (ops : Array Oper) (m n : Nat) : Bool :=
  ((List.range (m - 1)).all fun i => (List.range m).any fun j => decide (i < j) && Region.waitsFor md ops j i) &&
  ((List.range ops.size).all fun t => decide (t < n) || Region.waitsFor md ops t (m - 1))
theorem late_one {m n : Nat} {listed : Array Bool} (hB : lateB md ops m n = true) (inv : Closed md ops listed) :
    ∀ (d i : Nat), m - 1 - i = d → i < m → listed.getD i false = false → listed.getD (m - 1) false = false := by
  intro d
  induction d using Nat.strongRecOn with
  | _ d ih =>
    intro i hd hi hun
    by_cases hl : i = m - 1
    · subst hl; exact hun
    · simp only [lateB, Bool.and_eq_true] at hB
      have h1 := List.all_eq_true.1 hB.1 i (List.mem_range.2 (by omega))
      obtain ⟨j, hj, hj2⟩ := List.any_eq_true.1 h1
      simp only [Bool.and_eq_true, decide_eq_true_eq] at hj2
      have hjm := List.mem_range.1 hj
      obtain ⟨oj, hoj, e, he, hb, hon⟩ := Region.waitsFor_spec hj2.2
      refine ih (m - 1 - j) (by omega) j rfl hjm ?_
      cases h2 : listed.getD j false with
      | false => rfl
      | true =>
        have h3 := inv.2 j oj hoj h2 e he hb
        rw [hon, hun] at h3
        cases h3
theorem late_spec {m n i : Nat} {listed : Array Bool} (hB : lateB md ops m n = true) (inv : Closed md ops listed) (hi : i < m) (hun : listed.getD i false = false)
    {t : Nat} (ht : t ∈ Region.ready md ops listed) : t < n := by
  have h0 := late_one hB inv _ i rfl hi hun
  simp only [lateB, Bool.and_eq_true] at hB
  obtain ⟨_, ot, hot, hall⟩ := mem_ready.1 ht
  have h1 := List.all_eq_true.1 hB.2 t (List.mem_range.2 (Array.getElem?_eq_some_iff.1 hot).1)
  simp only [Bool.or_eq_true, decide_eq_true_eq] at h1
  rcases h1 with h1 | h1
  · exact h1
  · obtain ⟨o', ho', e, he, hb, hon⟩ := Region.waitsFor_spec h1
    have : o' = ot := Option.some.inj (ho'.symm.trans hot)
    subst this
    have h2 := hall e he hb
    rw [hon, h0] at h2
    cases h2

/-- **What may come up, and yields one value, may be taken first.** -/
theorem G_first {i m n : Nat} {oi : Oper} {v : Value} (hi : ops[i]? = some oi) (hsel : ∀ (j : Nat) (o : Oper) cs b, ops[j]? = some o → o.op ≠ .select cs b)
    (hQ : ∀ c a w, Q (.panic c) (a.put oi.dst v) w → Q (.panic c) a w) (hB : lateB md ops m n = true) (him : i < m) :
    ∀ (fuel : Nat) (listed : Array Bool) (a : Act) (w : World), Closed md ops listed →
      (∀ j oj, ops[j]? = some oj → j ≠ i → listed.getD j true = false → (∀ e ∈ oj.after, Region.binds md e = true → e.on ≠ i) → oi.apart ops oj = true) →
      i ∈ Region.ready md ops listed → YieldsE P ops oi v a w →
      wpG P md ops Q n fuel (listed.setIfInBounds i true) (a.put oi.dst v) w → wpG P md ops Q n (fuel + 1) listed a w := by
  intro fuel
  induction fuel with
  | zero =>
    intro listed a w _ _ hr hy H
    refine ⟨fun h => (by rw [h] at hr; cases hr), fun j hj W hW => ?_⟩
    by_cases hji : j = i
    · subst hji; exact hy.wpOp hi hW fun W' hW' => ⟨fun _ => hW', H.ext (hW.trans hW')⟩
    · have := ready_mono hj hji
      rw [H.1] at this
      cases this
  | succ fuel ih =>
    intro listed a w inv hfree hr hy H
    refine ⟨fun h => (by rw [h] at hr; cases hr), fun j hj W hW => ?_⟩
    by_cases hji : j = i
    · subst hji; exact hy.wpOp hi hW fun W' hW' => ⟨fun _ => hW', H.ext (hW.trans hW')⟩
    · have hun := getD_both (mem_ready.1 hr).1
      have hjn : j < n := late_spec hB inv him hun hj
      have h1 := H.2 j (ready_mono hj hji) W hW
      obtain ⟨hjun, oj, hoj, hall⟩ := mem_ready.1 hj
      have hnot : ∀ e ∈ oj.after, Region.binds md e = true → e.on ≠ i := fun e he hb heq => by
        have h2 := hall e he hb
        rw [heq, hun] at h2
        cases h2
      have h2 := wpOp_putE hoj (hfree j oj hoj hji hjun hnot) (fun cs b => hsel i oi cs b hi) (fun cs b => hsel j oj cs b hoj) hQ (fun a' w' hk => hk.1 hjn)
        (hy.of_same hW rfl rfl) h1
      have hfree' : ∀ k ok, ops[k]? = some ok → k ≠ i → (listed.setIfInBounds j true).getD k true = false →
          (∀ e ∈ ok.after, Region.binds md e = true → e.on ≠ i) → oi.apart ops ok = true := fun k ok hk hki hunk hno => by
        refine hfree k ok hk hki ?_ hno
        by_cases hjk : j = k
        · subst hjk; exact hjun
        · rw [getD_set_ne true hjk] at hunk; exact hunk
      refine wpOp_mono (fun a' w' h3 => ⟨h3.2.1, ih (listed.setIfInBounds j true) a' w' (inv.set hj) hfree' (ready_mono hr (Ne.symm hji)) h3.1 ?_⟩) h2
      rw [Array.setIfInBounds_comm _ _ hji]
      exact h3.2.2

/-! ### the walk in the text's order -/
def wpMk (P : Program) (ops : Array Oper) (w : World) (R : Act → Prop) : List Oper → Act → Prop
  | [], a => R a
  | o :: rest, a => ∃ v, YieldsE P ops o v a w ∧ wpMk P ops w R rest (a.put o.dst v)
theorem mk_nil {w : World} {R : Act → Prop} {a : Act} (h : R a) : wpMk P ops w R [] a := h
theorem mk_step {w : World} {R : Act → Prop} {a : Act} {o : Oper} {rest : List Oper} (v : Value) (hg : o.guard = none) (hm : Made P o v a w) (h : wpMk P ops w R rest (a.put o.dst v)) : wpMk P ops w R (o :: rest) a :=
  ⟨v, .inl ⟨by simp [Region.wanted, hg], hm⟩, h⟩
theorem mk_want {w : World} {R : Act → Prop} {a : Act} {o : Oper} {rest : List Oper} (v : Value) (hg : Region.wanted o (yielded ops a.tmps) = true) (hm : Made P o v a w) (h : wpMk P ops w R rest (a.put o.dst v)) : wpMk P ops w R (o :: rest) a :=
  ⟨v, .inl ⟨hg, hm⟩, h⟩
theorem mk_skip {w : World} {R : Act → Prop} {a : Act} {o : Oper} {rest : List Oper} (hg : Region.wanted o (yielded ops a.tmps) = false) (h : wpMk P ops w R rest (a.put o.dst undef)) : wpMk P ops w R (o :: rest) a :=
  ⟨undef, .inr ⟨hg, rfl⟩, h⟩
def lexTo (md : Region.Mode) (ops : Array Oper) : Nat → Nat → Array Bool → Bool
  | 0, _, _ => true
  | f + 1, k, listed => (Region.ready md ops listed).contains k && Region.free md ops listed k && lexTo md ops f (k + 1) (listed.setIfInBounds k true)
def marked : Nat → Nat → Array Bool → Array Bool
  | 0, _, listed => listed
  | f + 1, k, listed => marked f (k + 1) (listed.setIfInBounds k true)
theorem G_lex {m n g : Nat} (hsel : Region.noSelect ops = true) (hQ : ∀ (o : Oper) v c a w, Q (.panic c) (a.put o.dst v) w → Q (.panic c) a w) (hB : lateB md ops m n = true) {w : World} {R : Act → Prop} {L : Array Bool}
    (hR : ∀ a, R a → wpG P md ops Q n g L a w) : ∀ (l : List Oper) (k : Nat) (listed : Array Bool) (a : Act), (∀ j, j < l.length → l[j]? = ops[k + j]?) → k + l.length = m → Closed md ops listed →
    lexTo md ops l.length k listed = true → marked l.length k listed = L → wpMk P ops w R l a → wpG P md ops Q n (l.length + g) listed a w
  | [], k, listed, a, _, _, _, _, hL, h => by
    have hL' : listed = L := hL
    subst hL'
    simpa using hR a h
  | o :: l, k, listed, a, hl, hk, inv, hX, hL, h => by
    have h0 : ops[k]? = some o := by simpa using (hl 0 (by simp)).symm
    simp only [List.length_cons, lexTo, Bool.and_eq_true] at hX
    obtain ⟨⟨hr, hf⟩, hX'⟩ := hX
    have hkm : k < m := by simp only [List.length_cons] at hk; omega
    have hr' : k ∈ Region.ready md ops listed := by simpa using hr
    obtain ⟨v, hy, hK⟩ := h
    rw [List.length_cons, show l.length + 1 + g = (l.length + g) + 1 by omega]
    exact G_first h0 (Region.noSelect_spec hsel) (hQ o v) hB hkm _ listed a w inv (Region.free_spec h0 hf) hr' hy
      (G_lex hsel hQ hB hR l (k + 1) _ _ (fun j hj => by have := hl (j + 1) (by simp; omega); simpa [Nat.add_assoc, Nat.add_comm 1 j] using this) (by simp only [List.length_cons] at hk; omega) (inv.set hr') hX' hL hK)

/-- The check on a region, by the kernel: its first m operations yield values; from n on it stores. -/
def madeB (l : List Oper) (m n : Nat) : Bool :=
  Region.noSelect l.toArray && decide (m ≤ l.length) && lateB .any l.toArray m n && lexTo .any l.toArray m 0 (Array.replicate l.length false)
/-- What is left once the first m have come up. -/
def Rest (P : Program) (l : List Oper) (Q : Exit → Act → World → Prop) (m n : Nat) (a : Act) (w : World) : Prop :=
  wpG P .any l.toArray Q n (l.length - m) (marked m 0 (Array.replicate l.length false)) a w
theorem wp_region_made {id m : Nat} (n : Nat) {a : Act} {w : World} {l : List Oper} (hm : P.follows .mixedOrders = true) (hB : madeB l m n = true)
    (hQ : ∀ (o : Oper) v c a w, Q (.panic c) (a.put o.dst v) w → Q (.panic c) a w)
    (h : wpMk P l.toArray w (fun a' => Rest P l Q m n a' w) (l.take m) a) : (Code.region id l.toArray true).wp P Q a w := by
  simp only [madeB, Bool.and_eq_true, decide_eq_true_eq] at hB
  obtain ⟨⟨⟨hsel, hml⟩, hlate⟩, hlex⟩ := hB
  have htl : (l.take m).length = m := by simp; omega
  have inv0 : Closed .any l.toArray (Array.replicate l.length false) :=
    ⟨by simp, fun j oj _ hl => (by rw [getD_replicate_false] at hl; cases hl)⟩
  have H := G_lex (P := P) (md := .any) (Q := Q) (g := l.length - m) (w := w) hsel hQ hlate (R := fun a' => Rest P l Q m n a' w) (L := marked m 0 (Array.replicate l.length false)) (fun a' h => h) (l.take m) 0 (Array.replicate l.length false) a (fun j hj => by
    have hj' : j < m := by rw [htl] at hj; exact hj
    simp [hj']) (by simpa using htl) inv0 (by rw [htl]; exact hlex) (by rw [htl]) h
  rw [htl, show m + (l.length - m) = l.length by omega] at H
  refine wp_region_any hm (wpAny_of_G (n := n) _ _ _ _ ?_)
  have := wpG.ext H (Ext.drew w)
  simpa using this

/-! ### what stands behind them -/
theorem wpOp_plain {i : Nat} {o : Oper} {K : Act → World → Prop} {a : Act} {w : World} (ho : ops[i]? = some o) (hg : o.guard = none) (h : o.wp P a w K Q) : wpOp P ops Q i K a w :=
  wpOp_step ho fun _ hK => by rw [if_pos (by simp [Region.wanted, hg])]; exact Oper.wp_mono hK h
theorem wp_alloc_made {o : Oper} {a : Act} {w : World} {K : Act → World → Prop} {ty : TypeId} {zs : Array Value} {t : TypeId} (ho : o.op = .alloc ty)
    (hz : ∀ W, (Instr.alloc ty true (.tuple #[])).run P W = .ok (.pointer (some ⟨W.heap.size, 0, none⟩)) (W.alloc (.cells zs t)))
    (h : K (a.put o.dst (.pointer (some ⟨w.heap.size, 0, none⟩))) (w.alloc (.cells zs t))) : o.wp P a w K Q := by
  unfold Oper.wp execOp
  simp only [ho, Sem.run_bind, hz w, Result.andThen_ok, Sem.run_pure]
  exact h
theorem heap_new (w : World) (o : Obj) : (w.alloc o).heap[w.heap.size]? = some o := by
  show (w.heap.push o)[w.heap.size]? = _
  simp
theorem ext_setRow {w W : World} {g : Nat} (h : Ext w W) (hg : w.heap.size ≤ g) (cs : Array Value) : Ext w (W.setRow g cs) := below_setRow h hg cs
theorem but_setRow {w W : World} {r : Nat} (h : But r w W) (cs : Array Value) : But r w (W.setRow r cs) :=
  ⟨h.os, h.tape, h.output, by simpa [World.setRow] using h.size, fun k hk hne => (setRow_far W cs (by simpa using hne)).trans (h.block k hk hne)⟩
theorem but_ext {w W : World} {r : Nat} (h : Ext w W) : But r w W := But.of_below h
theorem but_more {w W W' : World} {r : Nat} (h : But r w W) (k : Ext W W') : But r w W' := h.below k
abbrev ptrTo (g : Nat) : Value := .pointer (some ⟨g, 0, none⟩)

section
variable {l : List Oper} {m : Nat} {a : Act} {w : World} {ty t : TypeId} {zs cells old : Array Value} {d : Tmp} {y x : Operand} {r : Nat}
theorem rest_done (hlen : l.length = m) (hr : Region.ready .any l.toArray (marked m 0 (Array.replicate l.length false)) = []) (h : ∀ W, Ext w W → Q .normal a W) : Rest P l Q m m a w := by
  unfold Rest
  rw [hlen, Nat.sub_self]
  rw [hlen] at hr
  exact ⟨hr, h⟩
theorem rest_store (os : Oper) (hlen : l.length = m + 1) (hos : l.toArray[m]? = some os) (ho : os.op = .store ty x y) (hd : os.dst = none) (hg : os.guard = none)
    (hr : Region.ready .any l.toArray (marked m 0 (Array.replicate l.length false)) = [m]) (hr2 : Region.ready .any l.toArray (marked (m + 1) 0 (Array.replicate l.length false)) = [])
    (hmk : (marked m 0 (Array.replicate l.length false)).setIfInBounds m true = marked (m + 1) 0 (Array.replicate l.length false))
    (hx : a.eval x = ptrTo r) (hy : a.eval y = .agg cells) (hb : w.heap[r]? = some (.cells old t (0, 0))) (hi : (P.info? ty).map (·.size) = some cells.size) (hold : old.size = cells.size) (h1 : cells.all (·.oneCell') = true)
    (h : ∀ W, But r w W → W.heap[r]? = some (.cells cells t (0, 0)) → Q .normal a W) : Rest P l Q m m a w := by
  unfold Rest
  rw [show l.length - m = 0 + 1 by omega]
  refine ⟨fun h0 => (by rw [hr] at h0; cases h0), fun i hi' W hW => ?_⟩
  rw [hr] at hi'
  obtain rfl : i = m := by simpa using hi'
  refine wpOp_plain hos hg (wp_store_row ty x y ho r cells hx hy t old (hW.block hb) hi hold h1 ⟨fun h0 => absurd h0 (Nat.lt_irrefl _), ?_⟩)
  rw [hmk]
  refine ⟨hr2, fun W2 hW2 => ?_⟩
  rw [hd]
  exact h W2 (but_more (but_setRow (but_ext hW) cells) hW2) (hW2.block (setRow_heap W r old cells t (0, 0) (hW.block hb)))
theorem rest_store1 {v : Value} {z : Operand} (os oe : Oper) (hlen : l.length = m + 2) (hos : l.toArray[m]? = some os) (hoe : l.toArray[m + 1]? = some oe) (ho : os.op = .store ty x y) (hoe2 : oe.op = .assign z) (hd : os.dst = none) (hde : oe.dst = some d) (hg : os.guard = none) (hge : oe.guard = none)
    (hr : Region.ready .any l.toArray (marked m 0 (Array.replicate l.length false)) = [m]) (hr1 : Region.ready .any l.toArray (marked (m + 1) 0 (Array.replicate l.length false)) = [m + 1]) (hr2 : Region.ready .any l.toArray (marked (m + 2) 0 (Array.replicate l.length false)) = [])
    (hmk : (marked m 0 (Array.replicate l.length false)).setIfInBounds m true = marked (m + 1) 0 (Array.replicate l.length false))
    (hmk1 : (marked (m + 1) 0 (Array.replicate l.length false)).setIfInBounds (m + 1) true = marked (m + 2) 0 (Array.replicate l.length false))
    (hx : a.eval x = ptrTo r) (hy : a.eval y = .agg cells) (hz : a.eval z = v) (hb : w.heap[r]? = some (.cells old t (0, 0))) (hi : (P.info? ty).map (·.size) = some cells.size) (hold : old.size = cells.size) (h1 : cells.all (·.oneCell') = true)
    (h : ∀ W, But r w W → W.heap[r]? = some (.cells cells t (0, 0)) → Q .normal (a.put (some d) v) W) : Rest P l Q m m a w := by
  unfold Rest
  rw [show l.length - m = 0 + 1 + 1 by omega]
  refine ⟨fun h0 => (by rw [hr] at h0; cases h0), fun i hi' W hW => ?_⟩
  rw [hr] at hi'
  obtain rfl : i = m := by simpa using hi'
  refine wpOp_plain hos hg (wp_store_row ty x y ho r cells hx hy t old (hW.block hb) hi hold h1 ⟨fun h0 => absurd h0 (Nat.lt_irrefl _), ?_⟩)
  rw [hmk, hd]
  refine ⟨fun h0 => (by rw [hr1] at h0; cases h0), fun j hj' W1 hW1 => ?_⟩
  rw [hr1] at hj'
  obtain rfl : j = i + 1 := by simpa using hj'
  refine wpOp_plain hoe hge ?_
  have he : (execOp a.eval oe).run P W1 = .ok (.value v) W1 := by
    unfold execOp
    simp only [hoe2, hz, Sem.run_pure]
  unfold Oper.wp
  show oe.upon P a _ _ ((execOp a.eval oe).run P W1)
  rw [he, Oper.upon_value]
  refine ⟨fun h0 => (by omega), ?_⟩
  rw [hmk1, hde]
  refine ⟨hr2, fun W2 hW2 => ?_⟩
  exact h W2 (but_more (but_setRow (but_ext hW) cells) (hW1.trans hW2)) ((hW1.trans hW2).block (setRow_heap W r old cells t (0, 0) (hW.block hb)))
theorem rest_var (oa os : Oper) (hlen : l.length = m + 2) (hoa : l.toArray[m]? = some oa) (hos : l.toArray[m + 1]? = some os) (hoa2 : oa.op = .alloc ty) (ho : os.op = .store ty (.tmp d) y) (hda : oa.dst = some d) (hd : os.dst = none) (hga : oa.guard = none) (hg : os.guard = none)
    (hr : Region.ready .any l.toArray (marked m 0 (Array.replicate l.length false)) = [m]) (hr1 : Region.ready .any l.toArray (marked (m + 1) 0 (Array.replicate l.length false)) = [m + 1]) (hr2 : Region.ready .any l.toArray (marked (m + 2) 0 (Array.replicate l.length false)) = [])
    (hmk : (marked m 0 (Array.replicate l.length false)).setIfInBounds m true = marked (m + 1) 0 (Array.replicate l.length false))
    (hmk1 : (marked (m + 1) 0 (Array.replicate l.length false)).setIfInBounds (m + 1) true = marked (m + 2) 0 (Array.replicate l.length false))
    (hz : ∀ W, (Instr.alloc ty true (.tuple #[])).run P W = .ok (ptrTo W.heap.size) (W.alloc (.cells zs t)))
    (hx : ∀ g, (a.put (some d) (ptrTo g)).eval (.tmp d) = ptrTo g) (hy : ∀ g, (a.put (some d) (ptrTo g)).eval y = .agg cells) (hi : (P.info? ty).map (·.size) = some cells.size) (hold : zs.size = cells.size) (h1 : cells.all (·.oneCell') = true)
    (h : ∀ g W, w.heap.size ≤ g → W.heap[g]? = some (.cells cells t (0, 0)) → Ext w W → Q .normal (a.put (some d) (ptrTo g)) W) : Rest P l Q m (m + 1) a w := by
  unfold Rest
  rw [show l.length - m = 0 + 1 + 1 by omega]
  refine ⟨fun h0 => (by rw [hr] at h0; cases h0), fun i hi' W hW => ?_⟩
  rw [hr] at hi'
  obtain rfl : i = m := by simpa using hi'
  refine wpOp_plain hoa hga (wp_alloc_made hoa2 hz ⟨fun _ => Ext.alloc _ _, ?_⟩)
  rw [hmk, hda]
  refine ⟨fun h0 => (by rw [hr1] at h0; cases h0), fun j hj' W1 hW1 => ?_⟩
  rw [hr1] at hj'
  obtain rfl : j = i + 1 := by simpa using hj'
  refine wpOp_plain hos hg (wp_store_row ty _ y ho W.heap.size cells (hx _) (hy _) t zs (hW1.block (heap_new _ _)) hi hold h1 ⟨fun h0 => absurd h0 (Nat.lt_irrefl _), ?_⟩)
  rw [hmk1]
  refine ⟨hr2, fun W2 hW2 => ?_⟩
  rw [hd]
  exact h W.heap.size W2 (Below.size hW) (hW2.block (setRow_heap W1 _ zs cells t (0, 0) (hW1.block (heap_new _ _)))) ((ext_setRow ((hW.trans (Ext.alloc _ _)).trans hW1) (Below.size hW) cells).trans hW2)
theorem rest_two {ya yb : Operand} {da db : Tmp} {ca cb : Array Value} (oa ob sa sb : Oper) (hlen : l.length = m + 4) (hoa : l.toArray[m]? = some oa) (hob : l.toArray[m + 1]? = some ob) (hsa : l.toArray[m + 2]? = some sa) (hsb : l.toArray[m + 3]? = some sb)
    (hoa2 : oa.op = .alloc ty) (hob2 : ob.op = .alloc ty) (hsa2 : sa.op = .store ty (.tmp da) ya) (hsb2 : sb.op = .store ty (.tmp db) yb) (hda : oa.dst = some da) (hdb : ob.dst = some db) (hd : sa.dst = none) (hd' : sb.dst = none)
    (hga : oa.guard = none) (hgb : ob.guard = none) (hg : sa.guard = none) (hg' : sb.guard = none) (hne : da ≠ db)
    (hr : Region.ready .any l.toArray (marked m 0 (Array.replicate l.length false)) = [m, m + 1])
    (hra : Region.ready .any l.toArray ((marked m 0 (Array.replicate l.length false)).setIfInBounds m true) = [m + 1])
    (hrb : Region.ready .any l.toArray ((marked m 0 (Array.replicate l.length false)).setIfInBounds (m + 1) true) = [m])
    (hr2 : Region.ready .any l.toArray (marked (m + 2) 0 (Array.replicate l.length false)) = [m + 2]) (hr3 : Region.ready .any l.toArray (marked (m + 3) 0 (Array.replicate l.length false)) = [m + 3]) (hr4 : Region.ready .any l.toArray (marked (m + 4) 0 (Array.replicate l.length false)) = [])
    (hma : ((marked m 0 (Array.replicate l.length false)).setIfInBounds m true).setIfInBounds (m + 1) true = marked (m + 2) 0 (Array.replicate l.length false))
    (hm2 : (marked (m + 2) 0 (Array.replicate l.length false)).setIfInBounds (m + 2) true = marked (m + 3) 0 (Array.replicate l.length false))
    (hm3 : (marked (m + 3) 0 (Array.replicate l.length false)).setIfInBounds (m + 3) true = marked (m + 4) 0 (Array.replicate l.length false))
    (hz : ∀ W, (Instr.alloc ty true (.tuple #[])).run P W = .ok (ptrTo W.heap.size) (W.alloc (.cells zs t)))
    (hxa : ∀ g g', ((a.put (some da) (ptrTo g)).put (some db) (ptrTo g')).eval (.tmp da) = ptrTo g) (hxb : ∀ g g', ((a.put (some da) (ptrTo g)).put (some db) (ptrTo g')).eval (.tmp db) = ptrTo g')
    (hya : ∀ g g', ((a.put (some da) (ptrTo g)).put (some db) (ptrTo g')).eval ya = .agg ca) (hyb : ∀ g g', ((a.put (some da) (ptrTo g)).put (some db) (ptrTo g')).eval yb = .agg cb)
    (hia : (P.info? ty).map (·.size) = some ca.size) (hib : (P.info? ty).map (·.size) = some cb.size) (holda : zs.size = ca.size) (holdb : zs.size = cb.size) (h1a : ca.all (·.oneCell') = true) (h1b : cb.all (·.oneCell') = true)
    (h : ∀ g g' W, w.heap.size ≤ g → w.heap.size ≤ g' → W.heap[g]? = some (.cells ca t (0, 0)) → W.heap[g']? = some (.cells cb t (0, 0)) → Ext w W → Q .normal ((a.put (some da) (ptrTo g)).put (some db) (ptrTo g')) W) : Rest P l Q m (m + 2) a w := by
  -- what stands behind both variables
  have fin : ∀ g g' W, w.heap.size ≤ g → w.heap.size ≤ g' → g ≠ g' → W.heap[g]? = some (.cells zs t (0, 0)) → W.heap[g']? = some (.cells zs t (0, 0)) → Ext w W →
      wpG P .any l.toArray Q (m + 2) (0 + 1 + 1) (marked (m + 2) 0 (Array.replicate l.length false)) ((a.put (some da) (ptrTo g)).put (some db) (ptrTo g')) W := by
    intro g g' W hge hge' hgg hbg hbg' hW
    refine ⟨fun h0 => (by rw [hr2] at h0; cases h0), fun i hi' W1 hW1 => ?_⟩
    rw [hr2] at hi'
    obtain rfl : i = m + 2 := by simpa using hi'
    refine wpOp_plain hsa hg (wp_store_row ty _ ya hsa2 g ca (hxa g g') (hya g g') t zs (hW1.block hbg) hia holda h1a ⟨fun h0 => absurd h0 (Nat.lt_irrefl _), ?_⟩)
    rw [hm2, hd]
    refine ⟨fun h0 => (by rw [hr3] at h0; cases h0), fun j hj' W2 hW2 => ?_⟩
    rw [hr3] at hj'
    obtain rfl : j = m + 3 := by simpa using hj'
    have hb1 : (W1.setRow g ca).heap[g']? = some (.cells zs t (0, 0)) := by rw [setRow_far W1 ca (fun e => hgg e.symm)]; exact hW1.block hbg'
    have hb2 : (W1.setRow g ca).heap[g]? = some (.cells ca t (0, 0)) := setRow_heap W1 g zs ca t (0, 0) (hW1.block hbg)
    refine wpOp_plain hsb hg' (wp_store_row ty _ yb hsb2 g' cb (hxb g g') (hyb g g') t zs (hW2.block hb1) hib holdb h1b ⟨fun h0 => (by omega), ?_⟩)
    rw [hm3, hd']
    refine ⟨hr4, fun W3 hW3 => ?_⟩
    refine h g g' W3 hge hge' (hW3.block ?_) (hW3.block (setRow_heap W2 g' zs cb t (0, 0) (hW2.block hb1))) ?_
    · rw [setRow_far W2 cb hgg]; exact hW2.block hb2
    · exact (ext_setRow ((ext_setRow (hW.trans hW1) hge ca).trans hW2) hge' cb).trans hW3
  unfold Rest
  rw [show l.length - m = 0 + 1 + 1 + 1 + 1 by omega]
  refine ⟨fun h0 => (by rw [hr] at h0; cases h0), fun i hi' W hW => ?_⟩
  rw [hr] at hi'
  have hi2 : i = m ∨ i = m + 1 := by simpa using hi'
  rcases hi2 with rfl | rfl
  · refine wpOp_plain hoa hga (wp_alloc_made hoa2 hz ⟨fun _ => Ext.alloc _ _, ?_⟩)
    rw [hda]
    refine ⟨fun h0 => (by rw [hra] at h0; cases h0), fun j hj' W1 hW1 => ?_⟩
    rw [hra] at hj'
    obtain rfl : j = i + 1 := by simpa using hj'
    refine wpOp_plain hob hgb (wp_alloc_made hob2 hz ⟨fun _ => Ext.alloc _ _, ?_⟩)
    rw [hdb, hma]
    have h2 : W.heap.size < W1.heap.size := by have := Below.size hW1; simp at this; omega
    exact fin _ _ _ (Below.size hW) (by have := Below.size hW; omega) (by omega) ((hW1.trans (Ext.alloc _ _)).block (heap_new _ _)) (heap_new _ _) ((hW.trans (Ext.alloc _ _)).trans (hW1.trans (Ext.alloc _ _)))
  · refine wpOp_plain hob hgb (wp_alloc_made hob2 hz ⟨fun _ => Ext.alloc _ _, ?_⟩)
    rw [hdb]
    refine ⟨fun h0 => (by rw [hrb] at h0; cases h0), fun j hj' W1 hW1 => ?_⟩
    rw [hrb] at hj'
    obtain rfl : j = m := by simpa using hj'
    refine wpOp_plain hoa hga (wp_alloc_made hoa2 hz ⟨fun _ => Ext.alloc _ _, ?_⟩)
    rw [hda, Array.setIfInBounds_comm _ _ (by omega), hma, Act.put_comm a _ _ (fun d h0 h1 => hne (by cases h0; cases h1; rfl))]
    have h2 : W.heap.size < W1.heap.size := by have := Below.size hW1; simp at this; omega
    exact fin _ _ _ (by have := Below.size hW; omega) (Below.size hW) (by omega) (heap_new _ _) ((hW1.trans (Ext.alloc _ _)).block (heap_new _ _)) ((hW.trans (Ext.alloc _ _)).trans (hW1.trans (Ext.alloc _ _)))
end

/-! ### a region in its own order -/
def PRest (P : Program) (l : List Oper) (Q : Exit → Act → World → Prop) (m : Nat) (a : Act) (w : World) : Prop := ∀ W, Ext w W → wpList P l.toArray Q (l.drop m) a W
theorem plain_lex {w : World} {R : Act → Prop} {rest : List Oper} (hR : ∀ a, R a → ∀ W, Ext w W → wpList P ops Q rest a W) : ∀ (l : List Oper) (a : Act), wpMk P ops w R l a → ∀ W, Ext w W → wpList P ops Q (l ++ rest) a W
  | [], a, h, W, hW => hR a h W hW
  | o :: l, a, ⟨v, hy, hK⟩, W, hW => wpList_step fun K hK' => by
    rcases hy with ⟨hw, hv⟩ | ⟨hw, rfl⟩
    · rw [if_pos hw]
      exact hv.wp hW fun W' hW' => hK' _ _ (plain_lex hR l _ hK W' (hW.trans hW'))
    · rw [if_neg (by simp [hw])]
      exact hK' _ _ (plain_lex hR l _ hK W hW)
theorem wp_region_plain {id : Nat} (m : Nat) {a : Act} {w : World} {l : List Oper} (h : wpMk P l.toArray w (fun a' => PRest P l Q m a' w) (l.take m) a) : (Code.region id l.toArray false).wp P Q a w := by
  refine wp_region_lit ?_
  have := plain_lex (P := P) (ops := l.toArray) (Q := Q) (w := w) (rest := l.drop m) (R := fun a' => PRest P l Q m a' w) (fun a' h => h) (l.take m) a h w (Ext.refl w)
  rwa [List.take_append_drop] at this
section
variable {l : List Oper} {m : Nat} {a : Act} {w : World} {ty t : TypeId} {zs cells old : Array Value} {d : Tmp} {y x : Operand} {r : Nat}
theorem prest_done (hlen : l.drop m = []) (h : ∀ W, Ext w W → Q .normal a W) : PRest P l Q m a w := fun W hW => by
  rw [hlen]
  exact wpList_nil (h W hW)
theorem prest_store (os : Oper) (hl : l.drop m = [os]) (ho : os.op = .store ty x y) (hd : os.dst = none) (hg : os.guard = none)
    (hx : a.eval x = ptrTo r) (hy : a.eval y = .agg cells) (hb : w.heap[r]? = some (.cells old t (0, 0))) (hi : (P.info? ty).map (·.size) = some cells.size) (hold : old.size = cells.size) (h1 : cells.all (·.oneCell') = true)
    (h : ∀ W, But r w W → W.heap[r]? = some (.cells cells t (0, 0)) → Q .normal a W) : PRest P l Q m a w := fun W hW => by
  rw [hl]
  refine wpList_plain hg fun K hK => wp_store_row ty x y ho r cells hx hy t old (hW.block hb) hi hold h1 (hK _ _ (wpList_nil ?_))
  rw [hd]
  exact h _ (but_setRow (but_ext hW) cells) (setRow_heap W r old cells t (0, 0) (hW.block hb))
theorem wpl_var {rest : List Oper} (oa os : Oper) (hoa2 : oa.op = .alloc ty) (ho : os.op = .store ty (.tmp d) y) (hda : oa.dst = some d) (hd : os.dst = none) (hga : oa.guard = none) (hg : os.guard = none)
    (hz : ∀ W, (Instr.alloc ty true (.tuple #[])).run P W = .ok (ptrTo W.heap.size) (W.alloc (.cells zs t)))
    (hx : ∀ g, (a.put (some d) (ptrTo g)).eval (.tmp d) = ptrTo g) (hy : ∀ g, (a.put (some d) (ptrTo g)).eval y = .agg cells) (hi : (P.info? ty).map (·.size) = some cells.size) (hold : zs.size = cells.size) (h1 : cells.all (·.oneCell') = true)
    (h : ∀ g W, w.heap.size ≤ g → W.heap[g]? = some (.cells cells t (0, 0)) → Ext w W → wpList P ops Q rest (a.put (some d) (ptrTo g)) W) : wpList P ops Q (oa :: os :: rest) a w := by
  refine wpList_plain hga fun K hK => wp_alloc_made hoa2 hz (hK _ _ ?_)
  refine wpList_plain hg fun K hK => ?_
  rw [hda]
  refine wp_store_row ty _ y ho w.heap.size cells (hx _) (hy _) t zs (heap_new _ _) hi hold h1 (hK _ _ ?_)
  rw [hd]
  exact h w.heap.size _ (Nat.le_refl _) (setRow_heap _ _ zs cells t (0, 0) (heap_new _ _)) (ext_setRow (Ext.alloc _ _) (Nat.le_refl _) cells)
theorem prest_var' {rest : List Oper} (oa os : Oper) (hl : l.drop m = oa :: os :: rest) (hoa2 : oa.op = .alloc ty) (ho : os.op = .store ty (.tmp d) y) (hda : oa.dst = some d) (hd : os.dst = none) (hga : oa.guard = none) (hg : os.guard = none)
    (hz : ∀ W, (Instr.alloc ty true (.tuple #[])).run P W = .ok (ptrTo W.heap.size) (W.alloc (.cells zs t)))
    (hx : ∀ g, (a.put (some d) (ptrTo g)).eval (.tmp d) = ptrTo g) (hy : ∀ g, (a.put (some d) (ptrTo g)).eval y = .agg cells) (hi : (P.info? ty).map (·.size) = some cells.size) (hold : zs.size = cells.size) (h1 : cells.all (·.oneCell') = true)
    (h : ∀ g W, w.heap.size ≤ g → W.heap[g]? = some (.cells cells t (0, 0)) → Ext w W → wpList P l.toArray Q rest (a.put (some d) (ptrTo g)) W) : PRest P l Q m a w := fun W hW => by
  rw [hl]
  exact wpl_var oa os hoa2 ho hda hd hga hg hz hx hy hi hold h1 fun g W' h1 h2 h3 => h g W' (Nat.le_trans (Below.size hW) h1) h2 (hW.trans h3)
theorem wpl_store {rest : List Oper} (os : Oper) (ho : os.op = .store ty x y) (hd : os.dst = none) (hg : os.guard = none)
    (hx : a.eval x = ptrTo r) (hy : a.eval y = .agg cells) (hb : w.heap[r]? = some (.cells old t (0, 0))) (hi : (P.info? ty).map (·.size) = some cells.size) (hold : old.size = cells.size) (h1 : cells.all (·.oneCell') = true)
    (h : ∀ W, But r w W → W.heap[r]? = some (.cells cells t (0, 0)) → wpList P ops Q rest a W) : wpList P ops Q (os :: rest) a w := by
  refine wpList_plain hg fun K hK => wp_store_row ty x y ho r cells hx hy t old hb hi hold h1 (hK _ _ ?_)
  rw [hd]
  exact h _ (but_setRow (But.refl _ _) cells) (setRow_heap w r old cells t (0, 0) hb)
theorem prest_store' {rest : List Oper} (os : Oper) (hl : l.drop m = os :: rest) (ho : os.op = .store ty x y) (hd : os.dst = none) (hg : os.guard = none)
    (hx : a.eval x = ptrTo r) (hy : a.eval y = .agg cells) (hb : w.heap[r]? = some (.cells old t (0, 0))) (hi : (P.info? ty).map (·.size) = some cells.size) (hold : old.size = cells.size) (h1 : cells.all (·.oneCell') = true)
    (h : ∀ W, But r w W → W.heap[r]? = some (.cells cells t (0, 0)) → wpList P l.toArray Q rest a W) : PRest P l Q m a w := fun W hW => by
  rw [hl]
  exact wpl_store os ho hd hg hx hy (hW.block hb) hi hold h1 fun W' h1 h2 => h W' ((but_ext hW).trans h1) h2
theorem prest_var (oa os : Oper) (hl : l.drop m = [oa, os]) (hoa2 : oa.op = .alloc ty) (ho : os.op = .store ty (.tmp d) y) (hda : oa.dst = some d) (hd : os.dst = none) (hga : oa.guard = none) (hg : os.guard = none)
    (hz : ∀ W, (Instr.alloc ty true (.tuple #[])).run P W = .ok (ptrTo W.heap.size) (W.alloc (.cells zs t)))
    (hx : ∀ g, (a.put (some d) (ptrTo g)).eval (.tmp d) = ptrTo g) (hy : ∀ g, (a.put (some d) (ptrTo g)).eval y = .agg cells) (hi : (P.info? ty).map (·.size) = some cells.size) (hold : zs.size = cells.size) (h1 : cells.all (·.oneCell') = true)
    (h : ∀ g W, w.heap.size ≤ g → W.heap[g]? = some (.cells cells t (0, 0)) → Ext w W → Q .normal (a.put (some d) (ptrTo g)) W) : PRest P l Q m a w := fun W hW => by
  rw [hl]
  refine wpList_plain hga fun K hK => wp_alloc_made hoa2 hz (hK _ _ ?_)
  refine wpList_plain hg fun K hK => ?_
  rw [hda]
  refine wp_store_row ty _ y ho W.heap.size cells (hx _) (hy _) t zs (heap_new _ _) hi hold h1 (hK _ _ (wpList_nil ?_))
  rw [hd]
  exact h W.heap.size _ (Below.size hW) (setRow_heap _ _ zs cells t (0, 0) (heap_new _ _)) (ext_setRow (hW.trans (Ext.alloc _ _)) (Below.size hW) cells)
end

/-- A call whose answer hangs on the world. -/
theorem wpl_fun {k : FuncId} {xs : List Operand} {ts : Array TypeId} {args : List Value} {rest : List Oper} {o : Oper} {a : Act} {w : World} {R : Value → World → Prop} (hg : o.guard = none)
    (ho : o.op = .call { callee := .value (.func k), args := xs.toArray, argTypes := ts }) (hx : xs.map a.eval = args)
    (he : ∀ W, (callFunc k args.toArray).run P W = .ok (.enter k args.toArray) W) (hc : Calls P k args.toArray w fun e W' => ∃ v, e = .returned v ∧ R v W') (h : ∀ v W', R v W' → wpList P ops Q rest (a.put o.dst v) W') : wpList P ops Q (o :: rest) a w := by
  refine wpList_plain hg fun K hK => ?_
  have h1 : execOp a.eval o = callFunc k (#[] ++ xs.toArray.map a.eval ++ #[]) := by
    cases o
    subst ho
    rfl
  have h2 : (execOp a.eval o).run P w = .ok (.enter k args.toArray) w := by
    rw [h1, List.map_toArray, hx]
    simpa using he w
  unfold Oper.wp
  rw [h2, Oper.upon_enter]
  refine hc.mono ?_
  rintro e W' ⟨v, rfl, hR⟩
  exact hK _ _ (h v W' hR)
/-- Two results, the first a struct or an array that lies in a block. -/
theorem results_row_tmp2 {fn : Func} {p s : Tmp} {ty : TypeId} (h : fn.results = #[.cell p ty, .tmp s]) (tmps : Array Value) (w : World) (g : Nat) (t : TypeId) (cs : Array Value) (fr : Nat × Nat) (d : TypeDesc)
    (hp : tmps.getD p undef = .pointer (some ⟨g, 0, none⟩)) (hg : w.heap[g]? = some (.cells cs t fr)) (hu : P.underlying ty = some d) (hd : d.isRow = true) (hi : (P.info? ty).map (·.size) = some cs.size) :
    (results fn tmps).run P w = .ok (.tuple #[.agg cs, tmps.getD s undef]) w := by
  have hp' : tmps[p]?.getD undef = .pointer (some ⟨g, 0, none⟩) := by simpa using hp
  have hl : (loadVar ty ⟨g, 0, none⟩).run P w = .ok (.agg cs) w := run_loadVar_mid w g 0 ty cs.toList d (fun j v hv => by rw [cell_of_row w g (0 + j) cs t fr hg, Nat.zero_add]; simpa using hv) hu hd (by simpa using hi)
  simp [results, h, hp', asAddr, hl]

/-! ### the walk's frame, kept from the rest -/
theorem mk_mono {w : World} {R R' : Act → Prop} (h : ∀ a, R a → R' a) : ∀ {l : List Oper} {a : Act}, wpMk P ops w R l a → wpMk P ops w R' l a
  | [], _, hh => h _ hh
  | _ :: _, _, ⟨v, hy, hK⟩ => ⟨v, hy, mk_mono h hK⟩
theorem mk_ops {w : World} {R : Act → Prop} : ∀ {l : List Oper} {a : Act}, (l.all fun o => o.guard.isNone) = true → wpMk P #[] w R l a → wpMk P ops w R l a
  | [], _, _, hh => hh
  | o :: l, a, hg, ⟨v, hy, hK⟩ => by
    simp only [List.all_cons, Bool.and_eq_true, Option.isNone_iff_eq_none] at hg
    refine ⟨v, ?_, mk_ops hg.2 hK⟩
    have h1 : ∀ X : Array Oper, Region.wanted o (yielded X a.tmps) = true := fun X => by simp [Region.wanted, hg.1]
    rcases hy with ⟨_, hm⟩ | ⟨hw, _⟩
    · exact .inl ⟨h1 _, hm⟩
    · rw [h1] at hw; cases hw
theorem wp_made {id m : Nat} {A : Act} (n : Nat) {a : Act} {w : World} {l : List Oper} (hm : P.follows .mixedOrders = true) (hB : madeB l m n = true) (hg : ((l.take m).all fun o => o.guard.isNone) = true)
    (h : wpMk P #[] w (fun a' => a' = A) (l.take m) a) (h2 : Rest P l (NoPanic Q) m n A w) : (Code.region id l.toArray true).wp P Q a w :=
  wp_region_noPanic (wp_region_made n hm hB (fun _ _ _ _ _ h => h) (mk_ops hg (mk_mono (fun a' e => by subst e; exact h2) h)))
theorem wp_plain {id m : Nat} {A : Act} {a : Act} {w : World} {l : List Oper} (hg : ((l.take m).all fun o => o.guard.isNone) = true)
    (h : wpMk P #[] w (fun a' => a' = A) (l.take m) a) (h2 : PRest P l Q m A w) : (Code.region id l.toArray false).wp P Q a w :=
  wp_region_plain m (mk_ops hg (mk_mono (fun a' e => by subst e; exact h2) h))
theorem wp_madeG {id m : Nat} {A : Act} (n : Nat) {a : Act} {w : World} {l : List Oper} (hm : P.follows .mixedOrders = true) (hB : madeB l m n = true)
    (h : wpMk P l.toArray w (fun a' => a' = A) (l.take m) a) (h2 : Rest P l (NoPanic Q) m n A w) : (Code.region id l.toArray true).wp P Q a w :=
  wp_region_noPanic (wp_region_made n hm hB (fun _ _ _ _ _ h => h) (mk_mono (fun a' e => by subst e; exact h2) h))
theorem wp_plainG {id m : Nat} {A : Act} {a : Act} {w : World} {l : List Oper}
    (h : wpMk P l.toArray w (fun a' => a' = A) (l.take m) a) (h2 : PRest P l Q m A w) : (Code.region id l.toArray false).wp P Q a w :=
  wp_region_plain m (mk_mono (fun a' e => by subst e; exact h2) h)
theorem mk_end {w : World} {a : Act} : wpMk P ops w (fun a' => a' = a) [] a := rfl

/-! ### operations -/
section
variable {o : Oper} {a : Act} {w : World}
theorem made_val {v : Value} (h : ∀ W, Ext w W → (execOp a.eval o).run P W = .ok (.value v) W) : Made P o v a w := fun W hW => by
  rw [h W hW]
  exact ⟨rfl, Ext.refl W⟩
theorem made_call {v : Value} {f : FuncId} {args : Array Value} (h : ∀ W, (execOp a.eval o).run P W = .ok (.enter f args) W) (hc : ∀ W, Ext w W → Calls P f args W fun e W' => e = .returned v ∧ Ext W W') : Made P o v a w := fun W hW => by
  rw [h W]
  exact hc W hW
theorem made_load {ty : TypeId} {x : Operand} {g off t : Nat} {C : Array Value} {cs : List Value} {fr : Nat × Nat} {d : TypeDesc} (ho : o.op = .load ty x) (hx : a.eval x = .pointer (some ⟨g, off, none⟩)) (hb : w.heap[g]? = some (.cells C t fr))
    (hcs : (C.toList.drop off).take cs.length = cs) (hu : P.underlying ty = some d) (hd : d.isRow = true) (hi : (P.info? ty).map (·.size) = some cs.length) : Made P o (.agg cs.toArray) a w := made_val fun W hW => by
  have hr : W.rangeAt g off cs := fun j v hv => by
    rw [cell_of_row W g (off + j) C t fr (hW.block hb)]
    have hj : j < cs.length := (List.getElem?_eq_some_iff.1 hv).1
    rw [← hcs, List.getElem?_take_of_lt hj, List.getElem?_drop] at hv
    simpa using hv
  unfold execOp
  simp only [ho, hx, Instr.loadAt, Instr.sureAddr, Sem.run_bind, Sem.run_pure, Result.andThen_ok, run_loadVar_mid W g off ty cs d hr hu hd hi]
theorem made_load1 {ty : TypeId} {x : Operand} {g off t : Nat} {C : Array Value} {v : Value} {fr : Nat × Nat} (ho : o.op = .load ty x) (hx : a.eval x = .pointer (some ⟨g, off, none⟩)) (hb : w.heap[g]? = some (.cells C t fr))
    (hcs : C[off]? = some v) (hn : ∀ W, (isAgg ty).run P W = .ok false W) : Made P o v a w := made_val fun W hW => by
  have hr : W.cell? ⟨g, off, none⟩ = some v := by rw [cell_of_row W g off C t fr (hW.block hb), hcs]
  have hl : (load ⟨g, off, none⟩).run P W = .ok v W := by simp [go_sem, hr]
  unfold execOp
  simp only [ho, hx, Instr.loadAt, Instr.sureAddr, Sem.run_bind, Sem.run_pure, Result.andThen_ok, loadVar, hn W, Bool.false_eq_true, if_false, hl]
theorem made_field {s : TypeId} {x : Operand} {f g off : Nat} (ho : o.op = .fieldAddr s x f) (hx : a.eval x = ptrTo g) (hf : ∀ W, (Instr.fieldAt s (ptrTo g) f).run P W = .ok (.pointer (some ⟨g, off, none⟩)) W) : Made P o (.pointer (some ⟨g, off, none⟩)) a w := made_val fun W _ => by
  unfold execOp
  simp only [ho, hx, Sem.run_bind, hf W, Result.andThen_ok, Sem.run_pure]
theorem made_move {x : Operand} {v : Value} (ho : o.op = .move x ∨ o.op = .assign x) (hx : a.eval x = v) : Made P o v a w := made_val fun W _ => by
  unfold execOp
  rcases ho with ho | ho <;> simp only [ho, hx, Sem.run_pure]
theorem made_build {ty : TypeId} {parts : List (Nat × Operand)} {vs : List (Nat × Value)} {v : Value} (ho : o.op = .build ty parts.toArray) (hx : parts.map (fun p => (p.1, a.eval p.2)) = vs)
    (hb : ∀ W, (Instr.build ty vs.toArray).run P W = .ok v W) : Made P o v a w := made_val fun W _ => by
  unfold execOp
  simp only [ho, List.map_toArray]
  rw [show (parts.map fun x => match x with | (i, x) => (i, a.eval x)) = vs from hx]
  simp only [Sem.run_bind, hb W, Result.andThen_ok, Sem.run_pure]
theorem made_func {k : FuncId} {x : Operand} {p : Value} (ho : o.op = .makeFunc (.func k) #[x] #[]) (hx : a.eval x = p) : Made P o (.func (.func k) #[p] #[]) a w := made_val fun W _ => by
  unfold execOp
  simp only [ho]
  generalize hr : a.eval = ρ at *
  have h1 : (#[x].map ρ) = #[p] := by simp [hx]
  rw [h1]
  simp [Instr.makeFunc, go_sem]
theorem made_pick {c x y : Operand} {b : Bool} {v : Value} (ho : o.op = .pick c x y) (hc : a.eval c = .bool b) (hx : (if b then a.eval x else a.eval y) = v) : Made P o v a w := made_val fun W _ => by
  unfold execOp
  simp only [ho]
  generalize a.eval = ρ at *
  subst hx
  rw [hc]
  cases b <;> simp [go_sem, asBool]
theorem made_not {ty : TypeId} {x : Operand} {b : Bool} (ho : o.op = .unOp .not ty x) (hx : a.eval x = .bool b) : Made P o (.bool (!b)) a w := made_val fun W _ => by
  unfold execOp
  simp only [ho]
  generalize a.eval = ρ at *
  rw [hx]
  simp [go_sem, Op.unary]
theorem made_ext {x : Operand} {i : Nat} {vs : Array Value} {v : Value} (ho : o.op = .extract x i) (hx : a.eval x = .tuple vs) (hv : vs[i]? = some v) : Made P o v a w := made_val fun W _ => by
  unfold execOp
  simp only [ho]
  generalize a.eval = ρ at *
  rw [hx]
  simp [Instr.extract, go_sem, hv]
theorem made_iface {ty : TypeId} {x : Operand} {v : Value} (ho : o.op = .makeInterface ty x) (hv : ∀ W, (Instr.makeInterface ty (a.eval x)).run P W = .ok v W) : Made P o v a w := made_val fun W _ => by
  unfold execOp
  simp only [ho, Sem.run_bind, hv W, Result.andThen_ok, Sem.run_pure]
end
end
end Go.Proofs.Ytoikgkjkcampkaa
