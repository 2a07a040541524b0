/-
  A region that draws its order, by a schedule that branches: where two operations are ready whose values hang on the world, either may come first.
-/
import Derived.Test.YtoikgkjkcampkaaSch
import Derived.Test.YtoikgkjkcampkaaTH
namespace Go.Proofs.Ytoikgkjkcampkaa
open Go.RowKit

inductive TS
  | fin
  | row (is : List Nat) (r : TS)
  | one (k : Nat) (r : TS)
  | two (k : Nat) (r : TS) (m : Nat) (s : TS)
def lenT : TS → Nat
  | .fin => 0
  | .row is r => is.length + lenT r
  | .one _ r => lenT r + 1
  | .two _ r _ _ => lenT r + 1
def treeI (md : Region.Mode) (ops : Array Oper) (n : Nat) : TS → Array Bool → Bool
  | .fin, listed => (Region.ready md ops listed).isEmpty
  | .row is r, listed => takeI md ops n is listed && treeI md ops n r (markI is listed)
  | .one k r, listed => (Region.ready md ops listed == [k]) && treeI md ops n r (listed.setIfInBounds k true)
  | .two k r m s, listed => (Region.ready md ops listed == [k, m]) && (lenT r == lenT s) && treeI md ops n r (listed.setIfInBounds k true) && treeI md ops n s (listed.setIfInBounds m true)
/-- One operation by itself, then R. -/
def stepT (P : Program) (l : List Oper) (Q : Exit → Act → World → Prop) (n k : Nat) (R : Act → World → Prop) (a : Act) (w : World) : Prop :=
  ∀ W, Ext w W → wpOp P l.toArray Q k (fun a' W' => (k < n → Ext W W') ∧ R a' W') a W
def wpTree (P : Program) (l : List Oper) (Q : Exit → Act → World → Prop) (n : Nat) : TS → Act → World → Prop
  | .fin, a, w => ∀ W, Ext w W → Q .normal a W
  | .row is r, a, w => wpMk P l.toArray w (fun a' => wpTree P l Q n r a' w) (pickI l is) a
  | .one k r, a, w => stepT P l Q n k (wpTree P l Q n r) a w
  | .two k r m s, a, w => stepT P l Q n k (wpTree P l Q n r) a w ∧ stepT P l Q n m (wpTree P l Q n s) a w
section
variable {P : Program} {Q : Exit → Act → World → Prop} {l : List Oper} {n : Nat} {md : Region.Mode}
theorem stepT_ext {k : Nat} {R : Act → World → Prop} {a : Act} {w w' : World} (h : stepT P l Q n k R a w) (hE : Ext w w') : stepT P l Q n k R a w' := fun W hW => h W (hE.trans hW)
theorem wpTree_ext : ∀ {t : TS} {a : Act} {w w' : World}, wpTree P l Q n t a w → Ext w w' → wpTree P l Q n t a w'
  | .fin, _, _, _, h, hE => fun W hW => h W (hE.trans hW)
  | .row _ _, _, _, _, h, hE => wpMk_ext hE (fun _ h => wpTree_ext h hE) h
  | .one _ _, _, _, _, h, hE => stepT_ext h hE
  | .two _ _ _ _, _, _, _, h, hE => ⟨stepT_ext h.1 hE, stepT_ext h.2 hE⟩
theorem T_all (hsel : Region.noSelect l.toArray = true) (hQ : ∀ (o : Oper) v c a w, Q (.panic c) (a.put o.dst v) w → Q (.panic c) a w) (hB : lateS md l.toArray n = true) :
    ∀ (t : TS) (listed : Array Bool) (a : Act) (w : World), Closed md l.toArray listed → treeI md l.toArray n t listed = true → wpTree P l Q n t a w → wpG P md l.toArray Q n (lenT t) listed a w
  | .fin, listed, a, w, _, hX, h => ⟨by simpa [treeI] using hX, h⟩
  | .row is r, listed, a, w, inv, hX, h => by
    simp only [treeI, Bool.and_eq_true] at hX
    exact S_take (g := lenT r) hsel hQ hB (R := fun a' => wpTree P l Q n r a' w) (L := markI is listed) (fun a' h' inv' => T_all hsel hQ hB r _ _ _ inv' hX.2 h') is listed a inv hX.1 rfl h
  | .one k r, listed, a, w, inv, hX, h => by
    simp only [treeI, Bool.and_eq_true, beq_iff_eq] at hX
    obtain ⟨hr, hX'⟩ := hX
    refine ⟨fun h0 => (by rw [hr] at h0; cases h0), fun i hi W hW => ?_⟩
    obtain rfl : i = k := by rw [hr] at hi; simpa using hi
    exact wpOp_mono (fun a' W' hk => ⟨hk.1, T_all hsel hQ hB r _ _ _ (inv.set hi) hX' hk.2⟩) (h W hW)
  | .two k r m s, listed, a, w, inv, hX, h => by
    simp only [treeI, Bool.and_eq_true, beq_iff_eq] at hX
    obtain ⟨⟨⟨hr, hl⟩, hX1⟩, hX2⟩ := hX
    refine ⟨fun h0 => (by rw [hr] at h0; cases h0), fun i hi W hW => ?_⟩
    have hi2 : i = k ∨ i = m := by rw [hr] at hi; simpa using hi
    rcases hi2 with rfl | rfl
    · exact wpOp_mono (fun a' W' hk => ⟨hk.1, T_all hsel hQ hB r _ _ _ (inv.set hi) hX1 hk.2⟩) (h.1 W hW)
    · exact wpOp_mono (fun a' W' hk => ⟨hk.1, by rw [hl]; exact T_all hsel hQ hB s _ _ _ (inv.set hi) hX2 hk.2⟩) (h.2 W hW)
def treeB (l : List Oper) (n : Nat) (t : TS) : Bool :=
  Region.noSelect l.toArray && lateS .any l.toArray n && (lenT t == l.length) && treeI .any l.toArray n t (Array.replicate l.length false)
/-- **A region by a schedule that branches.** -/
theorem wp_tree {id : Nat} (n : Nat) (t : TS) {a : Act} {w : World} {l : List Oper} (hm : P.follows .mixedOrders = true) (hB : treeB l n t = true)
    (h : ∀ Q', Hid (Q' = NoPanic Q) → wpTree P l Q' n t a w) : (Code.region id l.toArray true).wp P Q a w := by
  simp only [treeB, Bool.and_eq_true, beq_iff_eq] at hB
  obtain ⟨⟨⟨hsel, hlate⟩, hlen⟩, hs⟩ := hB
  refine wp_region_noPanic ?_
  have inv0 : Closed .any l.toArray (Array.replicate l.length false) :=
    ⟨by simp, fun j oj _ hl => (by rw [getD_replicate_false] at hl; cases hl)⟩
  have H := T_all (P := P) (md := .any) (Q := NoPanic Q) hsel (fun _ _ _ _ _ h => h) hlate t _ a w inv0 hs (h _ (veil rfl))
  rw [hlen] at H
  refine wp_region_any hm (wpAny_of_G (n := n) _ _ _ _ ?_)
  have := wpG.ext H (Ext.drew w)
  simpa using this
theorem tree_row {is : List Nat} {r : TS} {a A : Act} {w : World} (os : List Oper) (ho : pickI l is = os) (hB : ownB a.tmps.size os = true)
    (h : ∀ D, Up w D → Nonempty (Gw D) → wpQuiet P l.toArray (fun W => ∃ x : Gw D, W = x.val) (fun a' => a' = A) os a) (h2 : wpTree P l Q n r A w) : wpTree P l Q n (.row is r) a w := by
  subst ho
  exact mk_mono (fun a' e => by subst e; exact h2) (mk_of_quiet hB fun D hD => h D hD hD.ne)
theorem step_one {k : Nat} {R : Act → World → Prop} {a : Act} {w : World} (o : Oper) (ho : l[k]? = some o) (hg : o.guard = none)
    (h : ∀ W, Ext w W → o.wp P a W (fun a' W' => (k < n → Ext W W') ∧ R a' W') Q) : stepT P l Q n k R a w := fun W hW =>
  wpOp_plain (by simpa using ho) hg (h W hW)
theorem step_build {k : Nat} {R : Act → World → Prop} {a : Act} {w : World} {t e : TypeId} {len d : Nat} {ps : List (Nat × Operand)} {vs : List (Nat × Value)} {C : Array Value} (o : Oper) (ho : l[k]? = some o) (hg : o.guard = none) (hop : o.op = .buildSlice t len ps.toArray) (hd : o.dst = some d)
    (hv : ps.map (fun (i, x) => (i, a.eval x)) = vs) (hb : ∀ W, (Instr.buildSlice t len vs.toArray).run P W = .ok (.slice (some ⟨W.heap.size, 0, none⟩) len len) (W.alloc (.cells C e)))
    (h : ∀ g W, w.heap.size ≤ g → W.heap[g]? = some (.cells C e (0, 0)) → Ext w W → R (a.put (some d) (.slice (some ⟨g, 0, none⟩) len len)) W) : stepT P l Q n k R a w := by
  refine step_one o ho hg fun W hW => ?_
  unfold Oper.wp execOp
  simp only [hop, List.map_toArray]
  rw [show ps.map (fun x => match x with | (i, x) => (i, a.eval x)) = vs from hv]
  simp only [Sem.run_bind, hb W, Result.andThen_ok, Sem.run_pure]
  show (k < n → Ext W _) ∧ _
  rw [hd]
  exact ⟨fun _ => Ext.alloc W _, h _ _ (Below.size hW) (heap_new W _) (hW.trans (Ext.alloc W _))⟩
theorem step_fun {k i d : Nat} {R : Act → World → Prop} {a : Act} {w : World} {xs : List Operand} {ts : Array TypeId} {args : List Value} {V : Value → World → Prop} (o : Oper) (ho : l[i]? = some o) (hg : o.guard = none) (hd : o.dst = some d)
    (hop : o.op = .call { callee := .value (.func k), args := xs.toArray, argTypes := ts }) (hx : xs.map a.eval = args)
    (he : ∀ W, (callFunc k args.toArray).run P W = .ok (.enter k args.toArray) W) (hc : ∀ W, Ext w W → Calls P k args.toArray W fun e W' => ∃ v, e = .returned v ∧ Ext W W' ∧ V v W')
    (h : ∀ v W, Ext w W → V v W → R (a.put (some d) v) W) : stepT P l Q n i R a w := by
  refine step_one o ho hg fun W hW => ?_
  have h1 : execOp a.eval o = callFunc k (#[] ++ xs.toArray.map a.eval ++ #[]) := by
    cases o
    subst hop
    rfl
  have h2 : (execOp a.eval o).run P W = .ok (.enter k args.toArray) W := by
    rw [h1, List.map_toArray, hx]
    simpa using he W
  unfold Oper.wp
  rw [h2, Oper.upon_enter]
  refine (hc W hW).mono ?_
  rintro e W' ⟨v, rfl, hE, hR⟩
  show (i < n → Ext W W') ∧ _
  rw [hd]
  exact ⟨fun _ => hE, h v W' (hW.trans hE) hR⟩
theorem tree_end {a : Act} {w : World} {R : Exit → Act → World → Prop} (hQ : Hid (Q = NoPanic R)) (h : ∀ W, Ext w W → R .normal a W) : wpTree P l Q n .fin a w := fun W hW => by
  rw [hQ.out]
  exact h W hW
end
end Go.Proofs.Ytoikgkjkcampkaa
