/-
  Merged: QCode D5 LGroupA LGroupB LUp5 E1.
-/
import Derived.Test.YtppfcdpokgnpfaaZ8
import Derived.Test.YtppfcdpokgnpfaaZ10

/-
  What the laws ask of the landed package point (I: what its package variables hold).
-/
namespace Go.Proofs.Ytppfcdpokgnpfaa
open Go.RowKit

structure Code (I : World → Prop) : Prop where
  keep : ∀ w w', I w → Below w.heap.size w w' → I w'
  on : ∀ X Y f, X < top → Y < top → ∀ w, I w → Calls Try.prog 13 #[.agg #[.int .u64 (wd (X) 0), .int .u64 (wd (X) 1), .int .u64 (wd (X) 2), .int .u64 (wd (X) 3), .int .u64 (wd (Y) 0), .int .u64 (wd (Y) 1), .int .u64 (wd (Y) 2), .int .u64 (wd (Y) 3), .bool (f)]] w fun e w' => e = .returned (.bool (onB X Y f)) ∧ Below w.heap.size w w'
  negNo : ∀ X Y f, X < top → Y < top → onB X Y f = false → ∀ w, I w → Calls Try.prog 12 #[.agg #[.int .u64 (wd (X) 0), .int .u64 (wd (X) 1), .int .u64 (wd (X) 2), .int .u64 (wd (X) 3), .int .u64 (wd (Y) 0), .int .u64 (wd (Y) 1), .int .u64 (wd (Y) 2), .int .u64 (wd (Y) 3), .bool (f)]] w fun e w' => e = .returned (.tuple #[.agg #[.int .u64 0, .int .u64 0, .int .u64 0, .int .u64 0, .int .u64 0, .int .u64 0, .int .u64 0, .int .u64 0, .bool false], .iface 37 (.int .i64 1)]) ∧ Below w.heap.size w w'
  neg : ∀ q : Pt.Q, ∀ w, I w → Calls Try.prog 12 #[.agg #[.int .u64 (wd (Pt.pX q.1) 0), .int .u64 (wd (Pt.pX q.1) 1), .int .u64 (wd (Pt.pX q.1) 2), .int .u64 (wd (Pt.pX q.1) 3), .int .u64 (wd (Pt.pY q.1) 0), .int .u64 (wd (Pt.pY q.1) 1), .int .u64 (wd (Pt.pY q.1) 2), .int .u64 (wd (Pt.pY q.1) 3), .bool (Pt.pFar q.1)]] w fun e w' => e = .returned (.tuple #[.agg #[.int .u64 (wd (Pt.pX (Pt.grp.ng q).1) 0), .int .u64 (wd (Pt.pX (Pt.grp.ng q).1) 1), .int .u64 (wd (Pt.pX (Pt.grp.ng q).1) 2), .int .u64 (wd (Pt.pX (Pt.grp.ng q).1) 3), .int .u64 (wd (Pt.pY (Pt.grp.ng q).1) 0), .int .u64 (wd (Pt.pY (Pt.grp.ng q).1) 1), .int .u64 (wd (Pt.pY (Pt.grp.ng q).1) 2), .int .u64 (wd (Pt.pY (Pt.grp.ng q).1) 3), .bool (Pt.pFar (Pt.grp.ng q).1)], .nilIface]) ∧ Below w.heap.size w w'
  addNo : ∀ X Y f X' Y' f', X < top → Y < top → X' < top → Y' < top → (onB X Y f = false ∨ onB X' Y' f' = false) → ∀ w, I w → Calls Try.prog 11 #[.agg #[.int .u64 (wd (X) 0), .int .u64 (wd (X) 1), .int .u64 (wd (X) 2), .int .u64 (wd (X) 3), .int .u64 (wd (Y) 0), .int .u64 (wd (Y) 1), .int .u64 (wd (Y) 2), .int .u64 (wd (Y) 3), .bool (f)], .agg #[.int .u64 (wd (X') 0), .int .u64 (wd (X') 1), .int .u64 (wd (X') 2), .int .u64 (wd (X') 3), .int .u64 (wd (Y') 0), .int .u64 (wd (Y') 1), .int .u64 (wd (Y') 2), .int .u64 (wd (Y') 3), .bool (f')]] w fun e w' => e = .returned (.tuple #[.agg #[.int .u64 0, .int .u64 0, .int .u64 0, .int .u64 0, .int .u64 0, .int .u64 0, .int .u64 0, .int .u64 0, .bool false], .iface 37 (.int .i64 1)]) ∧ Below w.heap.size w w'
  add : ∀ q r : Pt.Q, ∀ w, I w → Calls Try.prog 11 #[.agg #[.int .u64 (wd (Pt.pX q.1) 0), .int .u64 (wd (Pt.pX q.1) 1), .int .u64 (wd (Pt.pX q.1) 2), .int .u64 (wd (Pt.pX q.1) 3), .int .u64 (wd (Pt.pY q.1) 0), .int .u64 (wd (Pt.pY q.1) 1), .int .u64 (wd (Pt.pY q.1) 2), .int .u64 (wd (Pt.pY q.1) 3), .bool (Pt.pFar q.1)], .agg #[.int .u64 (wd (Pt.pX r.1) 0), .int .u64 (wd (Pt.pX r.1) 1), .int .u64 (wd (Pt.pX r.1) 2), .int .u64 (wd (Pt.pX r.1) 3), .int .u64 (wd (Pt.pY r.1) 0), .int .u64 (wd (Pt.pY r.1) 1), .int .u64 (wd (Pt.pY r.1) 2), .int .u64 (wd (Pt.pY r.1) 3), .bool (Pt.pFar r.1)]] w fun e w' => e = .returned (.tuple #[.agg #[.int .u64 (wd (Pt.pX (Pt.grp.op q r).1) 0), .int .u64 (wd (Pt.pX (Pt.grp.op q r).1) 1), .int .u64 (wd (Pt.pX (Pt.grp.op q r).1) 2), .int .u64 (wd (Pt.pX (Pt.grp.op q r).1) 3), .int .u64 (wd (Pt.pY (Pt.grp.op q r).1) 0), .int .u64 (wd (Pt.pY (Pt.grp.op q r).1) 1), .int .u64 (wd (Pt.pY (Pt.grp.op q r).1) 2), .int .u64 (wd (Pt.pY (Pt.grp.op q r).1) 3), .bool (Pt.pFar (Pt.grp.op q r).1)], .nilIface]) ∧ Below w.heap.size w w'
  mulNo : ∀ K X Y f, K < top → X < top → Y < top → onB X Y f = false → ∀ w, I w → Calls Try.prog 22 #[.agg #[.int .u64 (wd (K) 0), .int .u64 (wd (K) 1), .int .u64 (wd (K) 2), .int .u64 (wd (K) 3)], .agg #[.int .u64 (wd (X) 0), .int .u64 (wd (X) 1), .int .u64 (wd (X) 2), .int .u64 (wd (X) 3), .int .u64 (wd (Y) 0), .int .u64 (wd (Y) 1), .int .u64 (wd (Y) 2), .int .u64 (wd (Y) 3), .bool (f)]] w fun e w' => e = .returned (.tuple #[.agg #[.int .u64 0, .int .u64 0, .int .u64 0, .int .u64 0, .int .u64 0, .int .u64 0, .int .u64 0, .int .u64 0, .bool false], .iface 37 (.int .i64 1)]) ∧ Below w.heap.size w w'
  mul : ∀ K, K < top → ∀ q : Pt.Q, ∀ w, I w → Calls Try.prog 22 #[.agg #[.int .u64 (wd (K) 0), .int .u64 (wd (K) 1), .int .u64 (wd (K) 2), .int .u64 (wd (K) 3)], .agg #[.int .u64 (wd (Pt.pX q.1) 0), .int .u64 (wd (Pt.pX q.1) 1), .int .u64 (wd (Pt.pX q.1) 2), .int .u64 (wd (Pt.pX q.1) 3), .int .u64 (wd (Pt.pY q.1) 0), .int .u64 (wd (Pt.pY q.1) 1), .int .u64 (wd (Pt.pY q.1) 2), .int .u64 (wd (Pt.pY q.1) 3), .bool (Pt.pFar q.1)]] w fun e w' => e = .returned (.tuple #[.agg #[.int .u64 (wd (Pt.pX (Pt.grp.mul K q).1) 0), .int .u64 (wd (Pt.pX (Pt.grp.mul K q).1) 1), .int .u64 (wd (Pt.pX (Pt.grp.mul K q).1) 2), .int .u64 (wd (Pt.pX (Pt.grp.mul K q).1) 3), .int .u64 (wd (Pt.pY (Pt.grp.mul K q).1) 0), .int .u64 (wd (Pt.pY (Pt.grp.mul K q).1) 1), .int .u64 (wd (Pt.pY (Pt.grp.mul K q).1) 2), .int .u64 (wd (Pt.pY (Pt.grp.mul K q).1) 3), .bool (Pt.pFar (Pt.grp.mul K q).1)], .nilIface]) ∧ Below w.heap.size w w'
  base : ∀ w, I w → Calls Try.prog 18 #[] w fun e w' => e = .returned (.agg #[.int .u64 (wd (Pt.gx) 0), .int .u64 (wd (Pt.gx) 1), .int .u64 (wd (Pt.gx) 2), .int .u64 (wd (Pt.gx) 3), .int .u64 (wd (Pt.gy) 0), .int .u64 (wd (Pt.gy) 1), .int .u64 (wd (Pt.gy) 2), .int .u64 (wd (Pt.gy) 3), .bool (false)]) ∧ Below w.heap.size w w'
  pp : ∀ w, I w → Calls Try.prog 14 #[] w fun e w' => e = .returned (.agg #[.int .u64 (wd (Pt.pp) 0), .int .u64 (wd (Pt.pp) 1), .int .u64 (wd (Pt.pp) 2), .int .u64 (wd (Pt.pp) 3)]) ∧ Below w.heap.size w w'
  nn : ∀ w, I w → Calls Try.prog 16 #[] w fun e w' => e = .returned (.agg #[.int .u64 (wd (Pt.nn) 0), .int .u64 (wd (Pt.nn) 1), .int .u64 (wd (Pt.nn) 2), .int .u64 (wd (Pt.nn) 3)]) ∧ Below w.heap.size w w'
set_option maxRecDepth 100000 in
theorem Code.drew {I : World → Prop} (C : Code I) {w : World} (h : I w) : I w.drew := C.keep _ _ h (Below.refl _ _).drew
set_option maxRecDepth 100000 in
theorem Code.alloc {I : World → Prop} (C : Code I) {w : World} (h : I w) (o : Obj) : I (w.alloc o) := C.keep _ _ h ((Below.refl _ _).alloc (Nat.le_refl _) _)
set_option maxRecDepth 100000 in
/-- A whole struct is loaded, under a guard. -/
theorem wpList_load_rowG {P : Program} {ops : Array Oper} {rest : List Oper} {o : Oper} {a : Act} {w : World} {Q : Exit → Act → World → Prop} (hgd : Region.wanted o (yielded ops a.tmps) = true) (ty : TypeId) (x : Operand) (ho : o.op = .load ty x)
    (g : Nat) (hx : a.eval x = .pointer (some ⟨g, 0, none⟩)) (t : TypeId) (cs : Array Value) (fr : Nat × Nat) (d : TypeDesc) (hg : w.heap[g]? = some (.cells cs t fr))
    (hu : P.underlying ty = some d) (hd : (match d with | .struct _ | .array _ _ => true | _ => false) = true) (hi : (P.info? ty).map (·.size) = some cs.size)
    (h : wpList P ops Q rest (a.put o.dst (.agg cs)) w) : wpList P ops Q (o :: rest) a w :=
  wpList_step fun K hK => by
    rw [if_pos hgd]
    exact wp_load_row ty x ho g hx t cs fr d hg hu hd hi (hK _ _ h)
end Go.Proofs.Ytppfcdpokgnpfaa


/-
  Of the landed package point holds what the laws ask of it.
-/
namespace Go.Proofs.Ytppfcdpokgnpfaa
open Go.RowKit

theorem neg_num (q : Pt.Q) : ∃ Y, Y = Pt.pY (Pt.grp.ng q).1 ∧ Pt.pX q.1 = Pt.pX (Pt.grp.ng q).1 ∧ Pt.pFar q.1 = Pt.pFar (Pt.grp.ng q).1 ∧
    ∀ (b : Nat) (w : World), Fp w b → Calls Try.prog 59 #[ptrTo b, nv 0, nv (Pt.pY q.1)] w fun e w' => e = .returned (nv Y) ∧ Ext w w' := by
  obtain ⟨q, hq⟩ := q
  rcases q with _ | ⟨x, y⟩
  · refine ⟨0, rfl, rfl, rfl, fun b w hF => ?_⟩
    have k := ksub_p (x := (0 : Fe)) (y := 0) (t := 0) (by rw [Pt.ring_neg2]; rfl) hF
    rw [v_zero] at k
    exact k
  · refine ⟨(-y).val, rfl, rfl, rfl, fun b w hF => ?_⟩
    have k := ksub_p (x := (0 : Fe)) (y := y) (t := -y) (Pt.ring_neg2 y).symm hF
    rw [v_zero] at k
    exact k

theorem code : Code (fun _ => True) where
  keep := fun _ _ _ _ => trivial
  on := fun X Y f hX hY w _ => on_is X Y f hX hY w
  negNo := fun X Y f hX hY h w _ => by
    rw [← qv_zero]
    exact neg_no X Y f hX hY h w
  neg := fun q w _ => by
    obtain ⟨Y, h1, h2, h3, hS⟩ := neg_num q
    have k := neg_yes q Y hS w
    rw [h1, h2, h3] at k
    exact k
  addNo := fun X Y f X' Y' f' hX hY hX' hY' h w _ => by
    rw [← qv_zero]
    cases ha : onB X Y f with
    | false => exact add_no1 X Y f X' Y' f' hX hY ha w
    | true =>
      obtain ⟨q, rfl, rfl, rfl⟩ := onB_some ha
      rcases h with h | h
      · rw [ha] at h; cases h
      · exact add_no2 q X' Y' f' hX' hY' h w
  add := fun q r w _ => add_yes q r w
  mulNo := fun K X Y f _ hX hY h w _ => by
    rw [← qv_zero]
    exact mul_no K X Y f hX hY h w
  mul := fun K hK q w _ => mul_yes K hK q w
  base := fun w _ => base_calls w
  pp := fun w _ => pP_calls w
  nn := fun w _ => pN_calls w
end Go.Proofs.Ytppfcdpokgnpfaa


/-
  PointGroup: the walk, all three on the curve.
-/
namespace Go.Proofs.Ytppfcdpokgnpfaa
open Go.RowKit

set_option maxRecDepth 100000 in
theorem Code.onQ {I : World → Prop} (C : Code I) (q : Pt.Q) (w : World) (h : I w) : Calls Try.prog 13 #[.agg #[.int .u64 (wd (Pt.pX q.1) 0), .int .u64 (wd (Pt.pX q.1) 1), .int .u64 (wd (Pt.pX q.1) 2), .int .u64 (wd (Pt.pX q.1) 3), .int .u64 (wd (Pt.pY q.1) 0), .int .u64 (wd (Pt.pY q.1) 1), .int .u64 (wd (Pt.pY q.1) 2), .int .u64 (wd (Pt.pY q.1) 3), .bool (Pt.pFar q.1)]] w fun e w' => e = .returned (.bool true) ∧ Below w.heap.size w w' := by
  have h := C.on _ _ (Pt.pFar q.1) (p_top q.1).1 (p_top q.1).2 w h
  rw [onB_of q] at h
  exact h
set_option maxRecDepth 100000 in
theorem Code.addIs {I : World → Prop} (C : Code I) {q r s : Pt.Q} (h : Pt.grp.op q r = s) (w : World) (hI : I w) : Calls Try.prog 11 #[.agg #[.int .u64 (wd (Pt.pX q.1) 0), .int .u64 (wd (Pt.pX q.1) 1), .int .u64 (wd (Pt.pX q.1) 2), .int .u64 (wd (Pt.pX q.1) 3), .int .u64 (wd (Pt.pY q.1) 0), .int .u64 (wd (Pt.pY q.1) 1), .int .u64 (wd (Pt.pY q.1) 2), .int .u64 (wd (Pt.pY q.1) 3), .bool (Pt.pFar q.1)], .agg #[.int .u64 (wd (Pt.pX r.1) 0), .int .u64 (wd (Pt.pX r.1) 1), .int .u64 (wd (Pt.pX r.1) 2), .int .u64 (wd (Pt.pX r.1) 3), .int .u64 (wd (Pt.pY r.1) 0), .int .u64 (wd (Pt.pY r.1) 1), .int .u64 (wd (Pt.pY r.1) 2), .int .u64 (wd (Pt.pY r.1) 3), .bool (Pt.pFar r.1)]] w fun e w' => e = .returned (.tuple #[.agg #[.int .u64 (wd (Pt.pX s.1) 0), .int .u64 (wd (Pt.pX s.1) 1), .int .u64 (wd (Pt.pX s.1) 2), .int .u64 (wd (Pt.pX s.1) 3), .int .u64 (wd (Pt.pY s.1) 0), .int .u64 (wd (Pt.pY s.1) 1), .int .u64 (wd (Pt.pY s.1) 2), .int .u64 (wd (Pt.pY s.1) 3), .bool (Pt.pFar s.1)], .nilIface]) ∧ Below w.heap.size w w' := h ▸ C.add q r w hI
set_option maxRecDepth 100000 in
theorem Code.negIs {I : World → Prop} (C : Code I) {q s : Pt.Q} (h : Pt.grp.ng q = s) (w : World) (hI : I w) : Calls Try.prog 12 #[.agg #[.int .u64 (wd (Pt.pX q.1) 0), .int .u64 (wd (Pt.pX q.1) 1), .int .u64 (wd (Pt.pX q.1) 2), .int .u64 (wd (Pt.pX q.1) 3), .int .u64 (wd (Pt.pY q.1) 0), .int .u64 (wd (Pt.pY q.1) 1), .int .u64 (wd (Pt.pY q.1) 2), .int .u64 (wd (Pt.pY q.1) 3), .bool (Pt.pFar q.1)]] w fun e w' => e = .returned (.tuple #[.agg #[.int .u64 (wd (Pt.pX s.1) 0), .int .u64 (wd (Pt.pX s.1) 1), .int .u64 (wd (Pt.pX s.1) 2), .int .u64 (wd (Pt.pX s.1) 3), .int .u64 (wd (Pt.pY s.1) 0), .int .u64 (wd (Pt.pY s.1) 1), .int .u64 (wd (Pt.pY s.1) 2), .int .u64 (wd (Pt.pY s.1) 3), .bool (Pt.pFar s.1)], .nilIface]) ∧ Below w.heap.size w w' := h ▸ C.neg q w hI
set_option maxRecDepth 100000 in
theorem eqlQ (q : Pt.Q) (w : World) : (binOp .eql 26 (.agg #[.int .u64 (wd (Pt.pX q.1) 0), .int .u64 (wd (Pt.pX q.1) 1), .int .u64 (wd (Pt.pX q.1) 2), .int .u64 (wd (Pt.pX q.1) 3), .int .u64 (wd (Pt.pY q.1) 0), .int .u64 (wd (Pt.pY q.1) 1), .int .u64 (wd (Pt.pY q.1) 2), .int .u64 (wd (Pt.pY q.1) 3), .bool (Pt.pFar q.1)]) (.agg #[.int .u64 (wd (Pt.pX q.1) 0), .int .u64 (wd (Pt.pX q.1) 1), .int .u64 (wd (Pt.pX q.1) 2), .int .u64 (wd (Pt.pX q.1) 3), .int .u64 (wd (Pt.pY q.1) 0), .int .u64 (wd (Pt.pY q.1) 1), .int .u64 (wd (Pt.pY q.1) 2), .int .u64 (wd (Pt.pY q.1) 3), .bool (Pt.pFar q.1)])).run Try.prog w = .ok (.bool true) w := by
  rw [eql_pt (p_top q.1).1 (p_top q.1).2 (p_top q.1).1 (p_top q.1).2 _ _ w, decide_eq_true ⟨rfl, rfl, rfl⟩]
set_option maxRecDepth 100000 in
theorem eqlFar (n : Pt.Q) (h : n = Pt.grp.o) (w : World) : (binOp .eql 26 (.agg #[.int .u64 (wd (Pt.pX n.1) 0), .int .u64 (wd (Pt.pX n.1) 1), .int .u64 (wd (Pt.pX n.1) 2), .int .u64 (wd (Pt.pX n.1) 3), .int .u64 (wd (Pt.pY n.1) 0), .int .u64 (wd (Pt.pY n.1) 1), .int .u64 (wd (Pt.pY n.1) 2), .int .u64 (wd (Pt.pY n.1) 3), .bool (Pt.pFar n.1)]) (.agg #[.int .u64 0, .int .u64 0, .int .u64 0, .int .u64 0, .int .u64 0, .int .u64 0, .int .u64 0, .int .u64 0, .bool true])).run Try.prog w = .ok (.bool true) w := by
  have e := eql_pt (p_top n.1).1 (p_top n.1).2 (show 0 < top by decide) (show 0 < top by decide) (Pt.pFar n.1) true w
  simp only [wd_nil] at e
  rw [e, decide_eq_true (by subst h; exact ⟨rfl, rfl, rfl⟩)]
set_option maxRecDepth 100000 in
set_option maxHeartbeats 8000000 in
theorem group_on {I : World → Prop} (C : Code I) (up : ∀ w, I w → Calls Try.prog 9 #[] w fun e w' => e = .returned (.bool true) ∧ Below w.heap.size w w') (a b c : Pt.Q) (w : World) (hI : I w) :
    Calls Try.prog 6 #[.agg #[.int .u64 (wd (Pt.pX a.1) 0), .int .u64 (wd (Pt.pX a.1) 1), .int .u64 (wd (Pt.pX a.1) 2), .int .u64 (wd (Pt.pX a.1) 3), .int .u64 (wd (Pt.pY a.1) 0), .int .u64 (wd (Pt.pY a.1) 1), .int .u64 (wd (Pt.pY a.1) 2), .int .u64 (wd (Pt.pY a.1) 3), .bool (Pt.pFar a.1)], .agg #[.int .u64 (wd (Pt.pX b.1) 0), .int .u64 (wd (Pt.pX b.1) 1), .int .u64 (wd (Pt.pX b.1) 2), .int .u64 (wd (Pt.pX b.1) 3), .int .u64 (wd (Pt.pY b.1) 0), .int .u64 (wd (Pt.pY b.1) 1), .int .u64 (wd (Pt.pY b.1) 2), .int .u64 (wd (Pt.pY b.1) 3), .bool (Pt.pFar b.1)], .agg #[.int .u64 (wd (Pt.pX c.1) 0), .int .u64 (wd (Pt.pX c.1) 1), .int .u64 (wd (Pt.pX c.1) 2), .int .u64 (wd (Pt.pX c.1) 3), .int .u64 (wd (Pt.pY c.1) 0), .int .u64 (wd (Pt.pY c.1) 1), .int .u64 (wd (Pt.pY c.1) 2), .int .u64 (wd (Pt.pY c.1) 3), .bool (Pt.pFar c.1)]] w fun e w' => e = .returned (.bool true) ∧ Below w.heap.size w w' := by
  have hB0 : Below w.heap.size w (((w.alloc (.cells #[.int .u64 (wd (Pt.pX a.1) 0), .int .u64 (wd (Pt.pX a.1) 1), .int .u64 (wd (Pt.pX a.1) 2), .int .u64 (wd (Pt.pX a.1) 3), .int .u64 (wd (Pt.pY a.1) 0), .int .u64 (wd (Pt.pY a.1) 1), .int .u64 (wd (Pt.pY a.1) 2), .int .u64 (wd (Pt.pY a.1) 3), .bool (Pt.pFar a.1)] 26)).alloc (.cells #[.int .u64 (wd (Pt.pX b.1) 0), .int .u64 (wd (Pt.pX b.1) 1), .int .u64 (wd (Pt.pX b.1) 2), .int .u64 (wd (Pt.pX b.1) 3), .int .u64 (wd (Pt.pY b.1) 0), .int .u64 (wd (Pt.pY b.1) 1), .int .u64 (wd (Pt.pY b.1) 2), .int .u64 (wd (Pt.pY b.1) 3), .bool (Pt.pFar b.1)] 26)).alloc (.cells #[.int .u64 (wd (Pt.pX c.1) 0), .int .u64 (wd (Pt.pX c.1) 1), .int .u64 (wd (Pt.pX c.1) 2), .int .u64 (wd (Pt.pX c.1) 3), .int .u64 (wd (Pt.pY c.1) 0), .int .u64 (wd (Pt.pY c.1) 1), .int .u64 (wd (Pt.pY c.1) 2), .int .u64 (wd (Pt.pY c.1) 3), .bool (Pt.pFar c.1)] 26)) := (((Below.refl _ _).alloc (by simp) _).alloc (by simp) _).alloc (by simp; omega) _
  have hI0 := C.keep _ _ hI hB0
  have h_a0 : (((w.alloc (.cells #[.int .u64 (wd (Pt.pX a.1) 0), .int .u64 (wd (Pt.pX a.1) 1), .int .u64 (wd (Pt.pX a.1) 2), .int .u64 (wd (Pt.pX a.1) 3), .int .u64 (wd (Pt.pY a.1) 0), .int .u64 (wd (Pt.pY a.1) 1), .int .u64 (wd (Pt.pY a.1) 2), .int .u64 (wd (Pt.pY a.1) 3), .bool (Pt.pFar a.1)] 26)).alloc (.cells #[.int .u64 (wd (Pt.pX b.1) 0), .int .u64 (wd (Pt.pX b.1) 1), .int .u64 (wd (Pt.pX b.1) 2), .int .u64 (wd (Pt.pX b.1) 3), .int .u64 (wd (Pt.pY b.1) 0), .int .u64 (wd (Pt.pY b.1) 1), .int .u64 (wd (Pt.pY b.1) 2), .int .u64 (wd (Pt.pY b.1) 3), .bool (Pt.pFar b.1)] 26)).alloc (.cells #[.int .u64 (wd (Pt.pX c.1) 0), .int .u64 (wd (Pt.pX c.1) 1), .int .u64 (wd (Pt.pX c.1) 2), .int .u64 (wd (Pt.pX c.1) 3), .int .u64 (wd (Pt.pY c.1) 0), .int .u64 (wd (Pt.pY c.1) 1), .int .u64 (wd (Pt.pY c.1) 2), .int .u64 (wd (Pt.pY c.1) 3), .bool (Pt.pFar c.1)] 26)).rowIs w.heap.size 26 9 (pc (Pt.pX a.1) (Pt.pY a.1) (Pt.pFar a.1)) := ((pt_new _ _ _ rfl).alloc _).alloc _
  have h_b0 : (((w.alloc (.cells #[.int .u64 (wd (Pt.pX a.1) 0), .int .u64 (wd (Pt.pX a.1) 1), .int .u64 (wd (Pt.pX a.1) 2), .int .u64 (wd (Pt.pX a.1) 3), .int .u64 (wd (Pt.pY a.1) 0), .int .u64 (wd (Pt.pY a.1) 1), .int .u64 (wd (Pt.pY a.1) 2), .int .u64 (wd (Pt.pY a.1) 3), .bool (Pt.pFar a.1)] 26)).alloc (.cells #[.int .u64 (wd (Pt.pX b.1) 0), .int .u64 (wd (Pt.pX b.1) 1), .int .u64 (wd (Pt.pX b.1) 2), .int .u64 (wd (Pt.pX b.1) 3), .int .u64 (wd (Pt.pY b.1) 0), .int .u64 (wd (Pt.pY b.1) 1), .int .u64 (wd (Pt.pY b.1) 2), .int .u64 (wd (Pt.pY b.1) 3), .bool (Pt.pFar b.1)] 26)).alloc (.cells #[.int .u64 (wd (Pt.pX c.1) 0), .int .u64 (wd (Pt.pX c.1) 1), .int .u64 (wd (Pt.pX c.1) 2), .int .u64 (wd (Pt.pX c.1) 3), .int .u64 (wd (Pt.pY c.1) 0), .int .u64 (wd (Pt.pY c.1) 1), .int .u64 (wd (Pt.pY c.1) 2), .int .u64 (wd (Pt.pY c.1) 3), .bool (Pt.pFar c.1)] 26)).rowIs (w.heap.size + 1) 26 9 (pc (Pt.pX b.1) (Pt.pY b.1) (Pt.pFar b.1)) := (pt_new _ _ _ (by simp)).alloc _
  have h_c0 : (((w.alloc (.cells #[.int .u64 (wd (Pt.pX a.1) 0), .int .u64 (wd (Pt.pX a.1) 1), .int .u64 (wd (Pt.pX a.1) 2), .int .u64 (wd (Pt.pX a.1) 3), .int .u64 (wd (Pt.pY a.1) 0), .int .u64 (wd (Pt.pY a.1) 1), .int .u64 (wd (Pt.pY a.1) 2), .int .u64 (wd (Pt.pY a.1) 3), .bool (Pt.pFar a.1)] 26)).alloc (.cells #[.int .u64 (wd (Pt.pX b.1) 0), .int .u64 (wd (Pt.pX b.1) 1), .int .u64 (wd (Pt.pX b.1) 2), .int .u64 (wd (Pt.pX b.1) 3), .int .u64 (wd (Pt.pY b.1) 0), .int .u64 (wd (Pt.pY b.1) 1), .int .u64 (wd (Pt.pY b.1) 2), .int .u64 (wd (Pt.pY b.1) 3), .bool (Pt.pFar b.1)] 26)).alloc (.cells #[.int .u64 (wd (Pt.pX c.1) 0), .int .u64 (wd (Pt.pX c.1) 1), .int .u64 (wd (Pt.pX c.1) 2), .int .u64 (wd (Pt.pX c.1) 3), .int .u64 (wd (Pt.pY c.1) 0), .int .u64 (wd (Pt.pY c.1) 1), .int .u64 (wd (Pt.pY c.1) 2), .int .u64 (wd (Pt.pY c.1) 3), .bool (Pt.pFar c.1)] 26)).rowIs (w.heap.size + 1 + 1) 26 9 (pc (Pt.pX c.1) (Pt.pY c.1) (Pt.pFar c.1)) := pt_new _ _ _ (by simp)
  obtain ⟨x, hx⟩ : ∃ x, Pt.grp.op a b = x := ⟨_, rfl⟩
  obtain ⟨z, hz⟩ : ∃ z, Pt.grp.op b c = z := ⟨_, rfl⟩
  obtain ⟨l, hl⟩ : ∃ l, Pt.grp.op x c = l := ⟨_, rfl⟩
  obtain ⟨m, hm⟩ : ∃ m, Pt.grp.ng a = m := ⟨_, rfl⟩
  obtain ⟨n, hn⟩ : ∃ n, Pt.grp.op a m = n := ⟨_, rfl⟩
  have hy : Pt.grp.op b a = x := by rw [Pt.grp.comm, hx]
  have hr : Pt.grp.op a z = l := by rw [← hz, ← Pt.grp.assoc, hx, hl]
  have ho : Pt.grp.op x m = b := by rw [← hx, ← hm, Pt.grp.comm a b, Pt.grp.assoc, Pt.grp.ngo, Pt.grp.oid]
  have hno : n = Pt.grp.o := by rw [← hn, ← hm, Pt.grp.ngo]
  have HN := veil (fun W => eqlFar n hno W)
  have Kx := veil (C.addIs hx)
  have Ky := veil (C.addIs hy)
  have Kz := veil (C.addIs hz)
  have Kl := veil (C.addIs hl)
  have Kr := veil (C.addIs hr)
  have Km := veil (C.negIs hm)
  have Kn := veil (C.addIs hn)
  have Ko := veil (C.addIs ho)
  clear hx hz hl hm hn hy hr ho hno
  have H_a := True.intro
  have H_b := True.intro
  have H_c := True.intro
  go_enter Try.func6, Try.ntmps6
  go_wp2_with fail
  refine (up _ hI0).mono ?_
  rintro e w1 ⟨rfl, hb⟩
  have hI1 := C.keep _ _ hI0 hb
  have h_a1 := row_below h_a0 hb h_a0.lt
  have h_b1 := row_below h_b0 hb h_b0.lt
  have h_c1 := row_below h_c0 hb h_c0.lt
  have hB1 := hB0.trans (hb.mono hB0.size)
  clear hb hI0 hB0 h_a0 H_a h_b0 H_b h_c0 H_c
  have H_a := veil (blk9 h_a1)
  have H_b := veil (blk9 h_b1)
  have H_c := veil (blk9 h_c1)
  go_wp2_with ((with_reducible refine at_slot 25 ?_); refine wpList_load_row rfl 26 _ rfl w.heap.size rfl 26 #[.int .u64 (wd (Pt.pX a.1) 0), .int .u64 (wd (Pt.pX a.1) 1), .int .u64 (wd (Pt.pX a.1) 2), .int .u64 (wd (Pt.pX a.1) 3), .int .u64 (wd (Pt.pY a.1) 0), .int .u64 (wd (Pt.pY a.1) 1), .int .u64 (wd (Pt.pY a.1) 2), .int .u64 (wd (Pt.pY a.1) 3), .bool (Pt.pFar a.1)] (0, 0) _ H_a.out Try.underlying26 rfl info_pt ?_)
  refine (C.onQ a _ hI1).mono ?_
  rintro e w2 ⟨rfl, hb⟩
  have hI2 := C.keep _ _ hI1 hb
  have h_a2 := row_below h_a1 hb h_a1.lt
  have h_b2 := row_below h_b1 hb h_b1.lt
  have h_c2 := row_below h_c1 hb h_c1.lt
  have hB2 := hB1.trans (hb.mono hB1.size)
  clear hb hI1 hB1 h_a1 H_a h_b1 H_b h_c1 H_c
  have H_a := veil (blk9 h_a2)
  have H_b := veil (blk9 h_b2)
  have H_c := veil (blk9 h_c2)
  go_wp2_with ((with_reducible refine at_slot 29 ?_); refine wpList_load_rowG (by rfl) 26 _ rfl (w.heap.size + 1) rfl 26 #[.int .u64 (wd (Pt.pX b.1) 0), .int .u64 (wd (Pt.pX b.1) 1), .int .u64 (wd (Pt.pX b.1) 2), .int .u64 (wd (Pt.pX b.1) 3), .int .u64 (wd (Pt.pY b.1) 0), .int .u64 (wd (Pt.pY b.1) 1), .int .u64 (wd (Pt.pY b.1) 2), .int .u64 (wd (Pt.pY b.1) 3), .bool (Pt.pFar b.1)] (0, 0) _ H_b.out Try.underlying26 rfl info_pt ?_)
  refine (C.onQ b _ hI2).mono ?_
  rintro e w3 ⟨rfl, hb⟩
  have hI3 := C.keep _ _ hI2 hb
  have h_a3 := row_below h_a2 hb h_a2.lt
  have h_b3 := row_below h_b2 hb h_b2.lt
  have h_c3 := row_below h_c2 hb h_c2.lt
  have hB3 := hB2.trans (hb.mono hB2.size)
  clear hb hI2 hB2 h_a2 H_a h_b2 H_b h_c2 H_c
  have H_a := veil (blk9 h_a3)
  have H_b := veil (blk9 h_b3)
  have H_c := veil (blk9 h_c3)
  go_wp2_with ((with_reducible refine at_slot 34 ?_); refine wpList_load_rowG (by rfl) 26 _ rfl (w.heap.size + 1 + 1) rfl 26 #[.int .u64 (wd (Pt.pX c.1) 0), .int .u64 (wd (Pt.pX c.1) 1), .int .u64 (wd (Pt.pX c.1) 2), .int .u64 (wd (Pt.pX c.1) 3), .int .u64 (wd (Pt.pY c.1) 0), .int .u64 (wd (Pt.pY c.1) 1), .int .u64 (wd (Pt.pY c.1) 2), .int .u64 (wd (Pt.pY c.1) 3), .bool (Pt.pFar c.1)] (0, 0) _ H_c.out Try.underlying26 rfl info_pt ?_)
  refine (C.onQ c _ hI3).mono ?_
  rintro e w4 ⟨rfl, hb⟩
  have hI4 := C.keep _ _ hI3 hb
  have h_a4 := row_below h_a3 hb h_a3.lt
  have h_b4 := row_below h_b3 hb h_b3.lt
  have h_c4 := row_below h_c3 hb h_c3.lt
  have hB4 := hB3.trans (hb.mono hB3.size)
  clear hb hI3 hB3 h_a3 H_a h_b3 H_b h_c3 H_c
  have H_a := veil (blk9 h_a4)
  have H_b := veil (blk9 h_b4)
  have H_c := veil (blk9 h_c4)
  go_wp2_with (first
    | ((with_reducible refine at_slot 40 ?_); refine wpList_load_row rfl 26 _ rfl w.heap.size rfl 26 #[.int .u64 (wd (Pt.pX a.1) 0), .int .u64 (wd (Pt.pX a.1) 1), .int .u64 (wd (Pt.pX a.1) 2), .int .u64 (wd (Pt.pX a.1) 3), .int .u64 (wd (Pt.pY a.1) 0), .int .u64 (wd (Pt.pY a.1) 1), .int .u64 (wd (Pt.pY a.1) 2), .int .u64 (wd (Pt.pY a.1) 3), .bool (Pt.pFar a.1)] (0, 0) _ H_a.out Try.underlying26 rfl info_pt ?_)
    | ((with_reducible refine at_slot 41 ?_); refine wpList_load_row rfl 26 _ rfl (w.heap.size + 1) rfl 26 #[.int .u64 (wd (Pt.pX b.1) 0), .int .u64 (wd (Pt.pX b.1) 1), .int .u64 (wd (Pt.pX b.1) 2), .int .u64 (wd (Pt.pX b.1) 3), .int .u64 (wd (Pt.pY b.1) 0), .int .u64 (wd (Pt.pY b.1) 1), .int .u64 (wd (Pt.pY b.1) 2), .int .u64 (wd (Pt.pY b.1) 3), .bool (Pt.pFar b.1)] (0, 0) _ H_b.out Try.underlying26 rfl info_pt ?_))
  refine (Kx.out _ hI4).mono ?_
  rintro e w5 ⟨rfl, hb⟩
  have hI5 := C.keep _ _ hI4 hb
  have h_a5 := row_below h_a4 hb h_a4.lt
  have h_b5 := row_below h_b4 hb h_b4.lt
  have h_c5 := row_below h_c4 hb h_c4.lt
  have hB5 := hB4.trans (hb.mono hB4.size)
  clear hb hI4 hB4 h_a4 H_a h_b4 H_b h_c4 H_c
  have hz := zero_row (w := w5) (t := 26) rfl
  have HZ := veil (blkOf hz)
  have hb : Below w5.heap.size w5 ((w5.alloc (.cells #[.int .u64 0, .int .u64 0, .int .u64 0, .int .u64 0, .int .u64 0, .int .u64 0, .int .u64 0, .int .u64 0, .bool false] 26)).setRow w5.heap.size #[.int .u64 (wd (Pt.pX x.1) 0), .int .u64 (wd (Pt.pX x.1) 1), .int .u64 (wd (Pt.pX x.1) 2), .int .u64 (wd (Pt.pX x.1) 3), .int .u64 (wd (Pt.pY x.1) 0), .int .u64 (wd (Pt.pY x.1) 1), .int .u64 (wd (Pt.pY x.1) 2), .int .u64 (wd (Pt.pY x.1) 3), .bool (Pt.pFar x.1)]) := below_setRow ((Below.refl _ _).alloc (Nat.le_refl _) _) (Nat.le_refl _) _
  have h_x6 := row_setRow hz (a := #[.int .u64 (wd (Pt.pX x.1) 0), .int .u64 (wd (Pt.pX x.1) 1), .int .u64 (wd (Pt.pX x.1) 2), .int .u64 (wd (Pt.pX x.1) 3), .int .u64 (wd (Pt.pY x.1) 0), .int .u64 (wd (Pt.pY x.1) 1), .int .u64 (wd (Pt.pY x.1) 2), .int .u64 (wd (Pt.pY x.1) 3), .bool (Pt.pFar x.1)]) rfl (arr9 _ _ _)
  clear hz
  have hI6 := C.keep _ _ hI5 hb
  have h_a6 := row_below h_a5 hb h_a5.lt
  have h_b6 := row_below h_b5 hb h_b5.lt
  have h_c6 := row_below h_c5 hb h_c5.lt
  have hB6 := hB5.trans (hb.mono hB5.size)
  clear hb hI5 hB5 h_a5 h_b5 h_c5
  go_upto_region 5 with ((with_reducible refine at_none ?_); refine wpList_store_row rfl 26 _ _ rfl w5.heap.size #[.int .u64 (wd (Pt.pX x.1) 0), .int .u64 (wd (Pt.pX x.1) 1), .int .u64 (wd (Pt.pX x.1) 2), .int .u64 (wd (Pt.pX x.1) 3), .int .u64 (wd (Pt.pY x.1) 0), .int .u64 (wd (Pt.pY x.1) 1), .int .u64 (wd (Pt.pY x.1) 2), .int .u64 (wd (Pt.pY x.1) 3), .bool (Pt.pFar x.1)] rfl rfl 26 _ HZ.out info_pt (by rw [arrOf_size]; rfl) (one9 _ _ _) ?_)
  generalize (w5.alloc (.cells #[.int .u64 0, .int .u64 0, .int .u64 0, .int .u64 0, .int .u64 0, .int .u64 0, .int .u64 0, .int .u64 0, .bool false] 26)).setRow w5.heap.size #[.int .u64 (wd (Pt.pX x.1) 0), .int .u64 (wd (Pt.pX x.1) 1), .int .u64 (wd (Pt.pX x.1) 2), .int .u64 (wd (Pt.pX x.1) 3), .int .u64 (wd (Pt.pY x.1) 0), .int .u64 (wd (Pt.pY x.1) 1), .int .u64 (wd (Pt.pY x.1) 2), .int .u64 (wd (Pt.pY x.1) 3), .bool (Pt.pFar x.1)] = w6 at *
  clear HZ
  have H_a := veil (blk9 h_a6)
  have H_b := veil (blk9 h_b6)
  have H_c := veil (blk9 h_c6)
  have H_x := veil (blk9 h_x6)
  go_wp2_with (first
    | ((with_reducible refine at_slot 46 ?_); refine wpList_load_row rfl 26 _ rfl (w.heap.size + 1) rfl 26 #[.int .u64 (wd (Pt.pX b.1) 0), .int .u64 (wd (Pt.pX b.1) 1), .int .u64 (wd (Pt.pX b.1) 2), .int .u64 (wd (Pt.pX b.1) 3), .int .u64 (wd (Pt.pY b.1) 0), .int .u64 (wd (Pt.pY b.1) 1), .int .u64 (wd (Pt.pY b.1) 2), .int .u64 (wd (Pt.pY b.1) 3), .bool (Pt.pFar b.1)] (0, 0) _ H_b.out Try.underlying26 rfl info_pt ?_)
    | ((with_reducible refine at_slot 47 ?_); refine wpList_load_row rfl 26 _ rfl w.heap.size rfl 26 #[.int .u64 (wd (Pt.pX a.1) 0), .int .u64 (wd (Pt.pX a.1) 1), .int .u64 (wd (Pt.pX a.1) 2), .int .u64 (wd (Pt.pX a.1) 3), .int .u64 (wd (Pt.pY a.1) 0), .int .u64 (wd (Pt.pY a.1) 1), .int .u64 (wd (Pt.pY a.1) 2), .int .u64 (wd (Pt.pY a.1) 3), .bool (Pt.pFar a.1)] (0, 0) _ H_a.out Try.underlying26 rfl info_pt ?_))
  refine (Ky.out _ hI6).mono ?_
  rintro e w7 ⟨rfl, hb⟩
  have hI7 := C.keep _ _ hI6 hb
  have h_a7 := row_below h_a6 hb h_a6.lt
  have h_b7 := row_below h_b6 hb h_b6.lt
  have h_c7 := row_below h_c6 hb h_c6.lt
  have h_x7 := row_below h_x6 hb h_x6.lt
  have hB7 := hB6.trans (hb.mono hB6.size)
  clear hb hI6 hB6 h_a6 H_a h_b6 H_b h_c6 H_c h_x6 H_x
  have hz := zero_row (w := w7) (t := 26) rfl
  have HZ := veil (blkOf hz)
  have hb : Below w7.heap.size w7 ((w7.alloc (.cells #[.int .u64 0, .int .u64 0, .int .u64 0, .int .u64 0, .int .u64 0, .int .u64 0, .int .u64 0, .int .u64 0, .bool false] 26)).setRow w7.heap.size #[.int .u64 (wd (Pt.pX x.1) 0), .int .u64 (wd (Pt.pX x.1) 1), .int .u64 (wd (Pt.pX x.1) 2), .int .u64 (wd (Pt.pX x.1) 3), .int .u64 (wd (Pt.pY x.1) 0), .int .u64 (wd (Pt.pY x.1) 1), .int .u64 (wd (Pt.pY x.1) 2), .int .u64 (wd (Pt.pY x.1) 3), .bool (Pt.pFar x.1)]) := below_setRow ((Below.refl _ _).alloc (Nat.le_refl _) _) (Nat.le_refl _) _
  have h_y8 := row_setRow hz (a := #[.int .u64 (wd (Pt.pX x.1) 0), .int .u64 (wd (Pt.pX x.1) 1), .int .u64 (wd (Pt.pX x.1) 2), .int .u64 (wd (Pt.pX x.1) 3), .int .u64 (wd (Pt.pY x.1) 0), .int .u64 (wd (Pt.pY x.1) 1), .int .u64 (wd (Pt.pY x.1) 2), .int .u64 (wd (Pt.pY x.1) 3), .bool (Pt.pFar x.1)]) rfl (arr9 _ _ _)
  clear hz
  have hI8 := C.keep _ _ hI7 hb
  have h_a8 := row_below h_a7 hb h_a7.lt
  have h_b8 := row_below h_b7 hb h_b7.lt
  have h_c8 := row_below h_c7 hb h_c7.lt
  have h_x8 := row_below h_x7 hb h_x7.lt
  have hB8 := hB7.trans (hb.mono hB7.size)
  clear hb hI7 hB7 h_a7 h_b7 h_c7 h_x7
  go_upto_region 6 with ((with_reducible refine at_none ?_); refine wpList_store_row rfl 26 _ _ rfl w7.heap.size #[.int .u64 (wd (Pt.pX x.1) 0), .int .u64 (wd (Pt.pX x.1) 1), .int .u64 (wd (Pt.pX x.1) 2), .int .u64 (wd (Pt.pX x.1) 3), .int .u64 (wd (Pt.pY x.1) 0), .int .u64 (wd (Pt.pY x.1) 1), .int .u64 (wd (Pt.pY x.1) 2), .int .u64 (wd (Pt.pY x.1) 3), .bool (Pt.pFar x.1)] rfl rfl 26 _ HZ.out info_pt (by rw [arrOf_size]; rfl) (one9 _ _ _) ?_)
  generalize (w7.alloc (.cells #[.int .u64 0, .int .u64 0, .int .u64 0, .int .u64 0, .int .u64 0, .int .u64 0, .int .u64 0, .int .u64 0, .bool false] 26)).setRow w7.heap.size #[.int .u64 (wd (Pt.pX x.1) 0), .int .u64 (wd (Pt.pX x.1) 1), .int .u64 (wd (Pt.pX x.1) 2), .int .u64 (wd (Pt.pX x.1) 3), .int .u64 (wd (Pt.pY x.1) 0), .int .u64 (wd (Pt.pY x.1) 1), .int .u64 (wd (Pt.pY x.1) 2), .int .u64 (wd (Pt.pY x.1) 3), .bool (Pt.pFar x.1)] = w8 at *
  clear HZ
  have H_a := veil (blk9 h_a8)
  have H_b := veil (blk9 h_b8)
  have H_c := veil (blk9 h_c8)
  have H_x := veil (blk9 h_x8)
  have H_y := veil (blk9 h_y8)
  go_wp2_with (first
    | ((with_reducible refine at_slot 52 ?_); refine wpList_load_row rfl 26 _ rfl (w.heap.size + 1) rfl 26 #[.int .u64 (wd (Pt.pX b.1) 0), .int .u64 (wd (Pt.pX b.1) 1), .int .u64 (wd (Pt.pX b.1) 2), .int .u64 (wd (Pt.pX b.1) 3), .int .u64 (wd (Pt.pY b.1) 0), .int .u64 (wd (Pt.pY b.1) 1), .int .u64 (wd (Pt.pY b.1) 2), .int .u64 (wd (Pt.pY b.1) 3), .bool (Pt.pFar b.1)] (0, 0) _ H_b.out Try.underlying26 rfl info_pt ?_)
    | ((with_reducible refine at_slot 53 ?_); refine wpList_load_row rfl 26 _ rfl (w.heap.size + 1 + 1) rfl 26 #[.int .u64 (wd (Pt.pX c.1) 0), .int .u64 (wd (Pt.pX c.1) 1), .int .u64 (wd (Pt.pX c.1) 2), .int .u64 (wd (Pt.pX c.1) 3), .int .u64 (wd (Pt.pY c.1) 0), .int .u64 (wd (Pt.pY c.1) 1), .int .u64 (wd (Pt.pY c.1) 2), .int .u64 (wd (Pt.pY c.1) 3), .bool (Pt.pFar c.1)] (0, 0) _ H_c.out Try.underlying26 rfl info_pt ?_))
  refine (Kz.out _ hI8).mono ?_
  rintro e w9 ⟨rfl, hb⟩
  have hI9 := C.keep _ _ hI8 hb
  have h_a9 := row_below h_a8 hb h_a8.lt
  have h_b9 := row_below h_b8 hb h_b8.lt
  have h_c9 := row_below h_c8 hb h_c8.lt
  have h_x9 := row_below h_x8 hb h_x8.lt
  have h_y9 := row_below h_y8 hb h_y8.lt
  have hB9 := hB8.trans (hb.mono hB8.size)
  clear hb hI8 hB8 h_a8 H_a h_b8 H_b h_c8 H_c h_x8 H_x h_y8 H_y
  have hz := zero_row (w := w9) (t := 26) rfl
  have HZ := veil (blkOf hz)
  have hb : Below w9.heap.size w9 ((w9.alloc (.cells #[.int .u64 0, .int .u64 0, .int .u64 0, .int .u64 0, .int .u64 0, .int .u64 0, .int .u64 0, .int .u64 0, .bool false] 26)).setRow w9.heap.size #[.int .u64 (wd (Pt.pX z.1) 0), .int .u64 (wd (Pt.pX z.1) 1), .int .u64 (wd (Pt.pX z.1) 2), .int .u64 (wd (Pt.pX z.1) 3), .int .u64 (wd (Pt.pY z.1) 0), .int .u64 (wd (Pt.pY z.1) 1), .int .u64 (wd (Pt.pY z.1) 2), .int .u64 (wd (Pt.pY z.1) 3), .bool (Pt.pFar z.1)]) := below_setRow ((Below.refl _ _).alloc (Nat.le_refl _) _) (Nat.le_refl _) _
  have h_z10 := row_setRow hz (a := #[.int .u64 (wd (Pt.pX z.1) 0), .int .u64 (wd (Pt.pX z.1) 1), .int .u64 (wd (Pt.pX z.1) 2), .int .u64 (wd (Pt.pX z.1) 3), .int .u64 (wd (Pt.pY z.1) 0), .int .u64 (wd (Pt.pY z.1) 1), .int .u64 (wd (Pt.pY z.1) 2), .int .u64 (wd (Pt.pY z.1) 3), .bool (Pt.pFar z.1)]) rfl (arr9 _ _ _)
  clear hz
  have hI10 := C.keep _ _ hI9 hb
  have h_a10 := row_below h_a9 hb h_a9.lt
  have h_b10 := row_below h_b9 hb h_b9.lt
  have h_c10 := row_below h_c9 hb h_c9.lt
  have h_x10 := row_below h_x9 hb h_x9.lt
  have h_y10 := row_below h_y9 hb h_y9.lt
  have hB10 := hB9.trans (hb.mono hB9.size)
  clear hb hI9 hB9 h_a9 h_b9 h_c9 h_x9 h_y9
  go_upto_region 7 with ((with_reducible refine at_none ?_); refine wpList_store_row rfl 26 _ _ rfl w9.heap.size #[.int .u64 (wd (Pt.pX z.1) 0), .int .u64 (wd (Pt.pX z.1) 1), .int .u64 (wd (Pt.pX z.1) 2), .int .u64 (wd (Pt.pX z.1) 3), .int .u64 (wd (Pt.pY z.1) 0), .int .u64 (wd (Pt.pY z.1) 1), .int .u64 (wd (Pt.pY z.1) 2), .int .u64 (wd (Pt.pY z.1) 3), .bool (Pt.pFar z.1)] rfl rfl 26 _ HZ.out info_pt (by rw [arrOf_size]; rfl) (one9 _ _ _) ?_)
  generalize (w9.alloc (.cells #[.int .u64 0, .int .u64 0, .int .u64 0, .int .u64 0, .int .u64 0, .int .u64 0, .int .u64 0, .int .u64 0, .bool false] 26)).setRow w9.heap.size #[.int .u64 (wd (Pt.pX z.1) 0), .int .u64 (wd (Pt.pX z.1) 1), .int .u64 (wd (Pt.pX z.1) 2), .int .u64 (wd (Pt.pX z.1) 3), .int .u64 (wd (Pt.pY z.1) 0), .int .u64 (wd (Pt.pY z.1) 1), .int .u64 (wd (Pt.pY z.1) 2), .int .u64 (wd (Pt.pY z.1) 3), .bool (Pt.pFar z.1)] = w10 at *
  clear HZ
  have H_a := veil (blk9 h_a10)
  have H_b := veil (blk9 h_b10)
  have H_c := veil (blk9 h_c10)
  have H_x := veil (blk9 h_x10)
  have H_y := veil (blk9 h_y10)
  have H_z := veil (blk9 h_z10)
  go_wp2_with (first
    | ((with_reducible refine at_slot 58 ?_); refine wpList_load_row rfl 26 _ rfl w5.heap.size rfl 26 #[.int .u64 (wd (Pt.pX x.1) 0), .int .u64 (wd (Pt.pX x.1) 1), .int .u64 (wd (Pt.pX x.1) 2), .int .u64 (wd (Pt.pX x.1) 3), .int .u64 (wd (Pt.pY x.1) 0), .int .u64 (wd (Pt.pY x.1) 1), .int .u64 (wd (Pt.pY x.1) 2), .int .u64 (wd (Pt.pY x.1) 3), .bool (Pt.pFar x.1)] (0, 0) _ H_x.out Try.underlying26 rfl info_pt ?_)
    | ((with_reducible refine at_slot 59 ?_); refine wpList_load_row rfl 26 _ rfl (w.heap.size + 1 + 1) rfl 26 #[.int .u64 (wd (Pt.pX c.1) 0), .int .u64 (wd (Pt.pX c.1) 1), .int .u64 (wd (Pt.pX c.1) 2), .int .u64 (wd (Pt.pX c.1) 3), .int .u64 (wd (Pt.pY c.1) 0), .int .u64 (wd (Pt.pY c.1) 1), .int .u64 (wd (Pt.pY c.1) 2), .int .u64 (wd (Pt.pY c.1) 3), .bool (Pt.pFar c.1)] (0, 0) _ H_c.out Try.underlying26 rfl info_pt ?_))
  refine (Kl.out _ hI10).mono ?_
  rintro e w11 ⟨rfl, hb⟩
  have hI11 := C.keep _ _ hI10 hb
  have h_a11 := row_below h_a10 hb h_a10.lt
  have h_b11 := row_below h_b10 hb h_b10.lt
  have h_c11 := row_below h_c10 hb h_c10.lt
  have h_x11 := row_below h_x10 hb h_x10.lt
  have h_y11 := row_below h_y10 hb h_y10.lt
  have h_z11 := row_below h_z10 hb h_z10.lt
  have hB11 := hB10.trans (hb.mono hB10.size)
  clear hb hI10 hB10 h_a10 H_a h_b10 H_b h_c10 H_c h_x10 H_x h_y10 H_y h_z10 H_z
  have hz := zero_row (w := w11) (t := 26) rfl
  have HZ := veil (blkOf hz)
  have hb : Below w11.heap.size w11 ((w11.alloc (.cells #[.int .u64 0, .int .u64 0, .int .u64 0, .int .u64 0, .int .u64 0, .int .u64 0, .int .u64 0, .int .u64 0, .bool false] 26)).setRow w11.heap.size #[.int .u64 (wd (Pt.pX l.1) 0), .int .u64 (wd (Pt.pX l.1) 1), .int .u64 (wd (Pt.pX l.1) 2), .int .u64 (wd (Pt.pX l.1) 3), .int .u64 (wd (Pt.pY l.1) 0), .int .u64 (wd (Pt.pY l.1) 1), .int .u64 (wd (Pt.pY l.1) 2), .int .u64 (wd (Pt.pY l.1) 3), .bool (Pt.pFar l.1)]) := below_setRow ((Below.refl _ _).alloc (Nat.le_refl _) _) (Nat.le_refl _) _
  have h_l12 := row_setRow hz (a := #[.int .u64 (wd (Pt.pX l.1) 0), .int .u64 (wd (Pt.pX l.1) 1), .int .u64 (wd (Pt.pX l.1) 2), .int .u64 (wd (Pt.pX l.1) 3), .int .u64 (wd (Pt.pY l.1) 0), .int .u64 (wd (Pt.pY l.1) 1), .int .u64 (wd (Pt.pY l.1) 2), .int .u64 (wd (Pt.pY l.1) 3), .bool (Pt.pFar l.1)]) rfl (arr9 _ _ _)
  clear hz
  have hI12 := C.keep _ _ hI11 hb
  have h_a12 := row_below h_a11 hb h_a11.lt
  have h_b12 := row_below h_b11 hb h_b11.lt
  have h_c12 := row_below h_c11 hb h_c11.lt
  have h_x12 := row_below h_x11 hb h_x11.lt
  have h_y12 := row_below h_y11 hb h_y11.lt
  have h_z12 := row_below h_z11 hb h_z11.lt
  have hB12 := hB11.trans (hb.mono hB11.size)
  clear hb hI11 hB11 h_a11 h_b11 h_c11 h_x11 h_y11 h_z11
  go_upto_region 8 with ((with_reducible refine at_none ?_); refine wpList_store_row rfl 26 _ _ rfl w11.heap.size #[.int .u64 (wd (Pt.pX l.1) 0), .int .u64 (wd (Pt.pX l.1) 1), .int .u64 (wd (Pt.pX l.1) 2), .int .u64 (wd (Pt.pX l.1) 3), .int .u64 (wd (Pt.pY l.1) 0), .int .u64 (wd (Pt.pY l.1) 1), .int .u64 (wd (Pt.pY l.1) 2), .int .u64 (wd (Pt.pY l.1) 3), .bool (Pt.pFar l.1)] rfl rfl 26 _ HZ.out info_pt (by rw [arrOf_size]; rfl) (one9 _ _ _) ?_)
  generalize (w11.alloc (.cells #[.int .u64 0, .int .u64 0, .int .u64 0, .int .u64 0, .int .u64 0, .int .u64 0, .int .u64 0, .int .u64 0, .bool false] 26)).setRow w11.heap.size #[.int .u64 (wd (Pt.pX l.1) 0), .int .u64 (wd (Pt.pX l.1) 1), .int .u64 (wd (Pt.pX l.1) 2), .int .u64 (wd (Pt.pX l.1) 3), .int .u64 (wd (Pt.pY l.1) 0), .int .u64 (wd (Pt.pY l.1) 1), .int .u64 (wd (Pt.pY l.1) 2), .int .u64 (wd (Pt.pY l.1) 3), .bool (Pt.pFar l.1)] = w12 at *
  clear HZ
  have H_a := veil (blk9 h_a12)
  have H_b := veil (blk9 h_b12)
  have H_c := veil (blk9 h_c12)
  have H_x := veil (blk9 h_x12)
  have H_y := veil (blk9 h_y12)
  have H_z := veil (blk9 h_z12)
  have H_l := veil (blk9 h_l12)
  go_wp2_with (first
    | ((with_reducible refine at_slot 64 ?_); refine wpList_load_row rfl 26 _ rfl w.heap.size rfl 26 #[.int .u64 (wd (Pt.pX a.1) 0), .int .u64 (wd (Pt.pX a.1) 1), .int .u64 (wd (Pt.pX a.1) 2), .int .u64 (wd (Pt.pX a.1) 3), .int .u64 (wd (Pt.pY a.1) 0), .int .u64 (wd (Pt.pY a.1) 1), .int .u64 (wd (Pt.pY a.1) 2), .int .u64 (wd (Pt.pY a.1) 3), .bool (Pt.pFar a.1)] (0, 0) _ H_a.out Try.underlying26 rfl info_pt ?_)
    | ((with_reducible refine at_slot 65 ?_); refine wpList_load_row rfl 26 _ rfl w9.heap.size rfl 26 #[.int .u64 (wd (Pt.pX z.1) 0), .int .u64 (wd (Pt.pX z.1) 1), .int .u64 (wd (Pt.pX z.1) 2), .int .u64 (wd (Pt.pX z.1) 3), .int .u64 (wd (Pt.pY z.1) 0), .int .u64 (wd (Pt.pY z.1) 1), .int .u64 (wd (Pt.pY z.1) 2), .int .u64 (wd (Pt.pY z.1) 3), .bool (Pt.pFar z.1)] (0, 0) _ H_z.out Try.underlying26 rfl info_pt ?_))
  refine (Kr.out _ hI12).mono ?_
  rintro e w13 ⟨rfl, hb⟩
  have hI13 := C.keep _ _ hI12 hb
  have h_a13 := row_below h_a12 hb h_a12.lt
  have h_b13 := row_below h_b12 hb h_b12.lt
  have h_c13 := row_below h_c12 hb h_c12.lt
  have h_x13 := row_below h_x12 hb h_x12.lt
  have h_y13 := row_below h_y12 hb h_y12.lt
  have h_z13 := row_below h_z12 hb h_z12.lt
  have h_l13 := row_below h_l12 hb h_l12.lt
  have hB13 := hB12.trans (hb.mono hB12.size)
  clear hb hI12 hB12 h_a12 H_a h_b12 H_b h_c12 H_c h_x12 H_x h_y12 H_y h_z12 H_z h_l12 H_l
  have hz := zero_row (w := w13) (t := 26) rfl
  have HZ := veil (blkOf hz)
  have hb : Below w13.heap.size w13 ((w13.alloc (.cells #[.int .u64 0, .int .u64 0, .int .u64 0, .int .u64 0, .int .u64 0, .int .u64 0, .int .u64 0, .int .u64 0, .bool false] 26)).setRow w13.heap.size #[.int .u64 (wd (Pt.pX l.1) 0), .int .u64 (wd (Pt.pX l.1) 1), .int .u64 (wd (Pt.pX l.1) 2), .int .u64 (wd (Pt.pX l.1) 3), .int .u64 (wd (Pt.pY l.1) 0), .int .u64 (wd (Pt.pY l.1) 1), .int .u64 (wd (Pt.pY l.1) 2), .int .u64 (wd (Pt.pY l.1) 3), .bool (Pt.pFar l.1)]) := below_setRow ((Below.refl _ _).alloc (Nat.le_refl _) _) (Nat.le_refl _) _
  have h_r14 := row_setRow hz (a := #[.int .u64 (wd (Pt.pX l.1) 0), .int .u64 (wd (Pt.pX l.1) 1), .int .u64 (wd (Pt.pX l.1) 2), .int .u64 (wd (Pt.pX l.1) 3), .int .u64 (wd (Pt.pY l.1) 0), .int .u64 (wd (Pt.pY l.1) 1), .int .u64 (wd (Pt.pY l.1) 2), .int .u64 (wd (Pt.pY l.1) 3), .bool (Pt.pFar l.1)]) rfl (arr9 _ _ _)
  clear hz
  have hI14 := C.keep _ _ hI13 hb
  have h_a14 := row_below h_a13 hb h_a13.lt
  have h_b14 := row_below h_b13 hb h_b13.lt
  have h_c14 := row_below h_c13 hb h_c13.lt
  have h_x14 := row_below h_x13 hb h_x13.lt
  have h_y14 := row_below h_y13 hb h_y13.lt
  have h_z14 := row_below h_z13 hb h_z13.lt
  have h_l14 := row_below h_l13 hb h_l13.lt
  have hB14 := hB13.trans (hb.mono hB13.size)
  clear hb hI13 hB13 h_a13 h_b13 h_c13 h_x13 h_y13 h_z13 h_l13
  go_upto_region 9 with ((with_reducible refine at_none ?_); refine wpList_store_row rfl 26 _ _ rfl w13.heap.size #[.int .u64 (wd (Pt.pX l.1) 0), .int .u64 (wd (Pt.pX l.1) 1), .int .u64 (wd (Pt.pX l.1) 2), .int .u64 (wd (Pt.pX l.1) 3), .int .u64 (wd (Pt.pY l.1) 0), .int .u64 (wd (Pt.pY l.1) 1), .int .u64 (wd (Pt.pY l.1) 2), .int .u64 (wd (Pt.pY l.1) 3), .bool (Pt.pFar l.1)] rfl rfl 26 _ HZ.out info_pt (by rw [arrOf_size]; rfl) (one9 _ _ _) ?_)
  generalize (w13.alloc (.cells #[.int .u64 0, .int .u64 0, .int .u64 0, .int .u64 0, .int .u64 0, .int .u64 0, .int .u64 0, .int .u64 0, .bool false] 26)).setRow w13.heap.size #[.int .u64 (wd (Pt.pX l.1) 0), .int .u64 (wd (Pt.pX l.1) 1), .int .u64 (wd (Pt.pX l.1) 2), .int .u64 (wd (Pt.pX l.1) 3), .int .u64 (wd (Pt.pY l.1) 0), .int .u64 (wd (Pt.pY l.1) 1), .int .u64 (wd (Pt.pY l.1) 2), .int .u64 (wd (Pt.pY l.1) 3), .bool (Pt.pFar l.1)] = w14 at *
  clear HZ
  have H_a := veil (blk9 h_a14)
  have H_b := veil (blk9 h_b14)
  have H_c := veil (blk9 h_c14)
  have H_x := veil (blk9 h_x14)
  have H_y := veil (blk9 h_y14)
  have H_z := veil (blk9 h_z14)
  have H_l := veil (blk9 h_l14)
  have H_r := veil (blk9 h_r14)
  go_wp2_with ((with_reducible refine at_slot 70 ?_); refine wpList_load_row rfl 26 _ rfl w.heap.size rfl 26 #[.int .u64 (wd (Pt.pX a.1) 0), .int .u64 (wd (Pt.pX a.1) 1), .int .u64 (wd (Pt.pX a.1) 2), .int .u64 (wd (Pt.pX a.1) 3), .int .u64 (wd (Pt.pY a.1) 0), .int .u64 (wd (Pt.pY a.1) 1), .int .u64 (wd (Pt.pY a.1) 2), .int .u64 (wd (Pt.pY a.1) 3), .bool (Pt.pFar a.1)] (0, 0) _ H_a.out Try.underlying26 rfl info_pt ?_)
  refine (Km.out _ hI14).mono ?_
  rintro e w15 ⟨rfl, hb⟩
  have hI15 := C.keep _ _ hI14 hb
  have h_a15 := row_below h_a14 hb h_a14.lt
  have h_b15 := row_below h_b14 hb h_b14.lt
  have h_c15 := row_below h_c14 hb h_c14.lt
  have h_x15 := row_below h_x14 hb h_x14.lt
  have h_y15 := row_below h_y14 hb h_y14.lt
  have h_z15 := row_below h_z14 hb h_z14.lt
  have h_l15 := row_below h_l14 hb h_l14.lt
  have h_r15 := row_below h_r14 hb h_r14.lt
  have hB15 := hB14.trans (hb.mono hB14.size)
  clear hb hI14 hB14 h_a14 H_a h_b14 H_b h_c14 H_c h_x14 H_x h_y14 H_y h_z14 H_z h_l14 H_l h_r14 H_r
  have hz := zero_row (w := w15) (t := 26) rfl
  have HZ := veil (blkOf hz)
  have hb : Below w15.heap.size w15 ((w15.alloc (.cells #[.int .u64 0, .int .u64 0, .int .u64 0, .int .u64 0, .int .u64 0, .int .u64 0, .int .u64 0, .int .u64 0, .bool false] 26)).setRow w15.heap.size #[.int .u64 (wd (Pt.pX m.1) 0), .int .u64 (wd (Pt.pX m.1) 1), .int .u64 (wd (Pt.pX m.1) 2), .int .u64 (wd (Pt.pX m.1) 3), .int .u64 (wd (Pt.pY m.1) 0), .int .u64 (wd (Pt.pY m.1) 1), .int .u64 (wd (Pt.pY m.1) 2), .int .u64 (wd (Pt.pY m.1) 3), .bool (Pt.pFar m.1)]) := below_setRow ((Below.refl _ _).alloc (Nat.le_refl _) _) (Nat.le_refl _) _
  have h_m16 := row_setRow hz (a := #[.int .u64 (wd (Pt.pX m.1) 0), .int .u64 (wd (Pt.pX m.1) 1), .int .u64 (wd (Pt.pX m.1) 2), .int .u64 (wd (Pt.pX m.1) 3), .int .u64 (wd (Pt.pY m.1) 0), .int .u64 (wd (Pt.pY m.1) 1), .int .u64 (wd (Pt.pY m.1) 2), .int .u64 (wd (Pt.pY m.1) 3), .bool (Pt.pFar m.1)]) rfl (arr9 _ _ _)
  clear hz
  have hI16 := C.keep _ _ hI15 hb
  have h_a16 := row_below h_a15 hb h_a15.lt
  have h_b16 := row_below h_b15 hb h_b15.lt
  have h_c16 := row_below h_c15 hb h_c15.lt
  have h_x16 := row_below h_x15 hb h_x15.lt
  have h_y16 := row_below h_y15 hb h_y15.lt
  have h_z16 := row_below h_z15 hb h_z15.lt
  have h_l16 := row_below h_l15 hb h_l15.lt
  have h_r16 := row_below h_r15 hb h_r15.lt
  have hB16 := hB15.trans (hb.mono hB15.size)
  clear hb hI15 hB15 h_a15 h_b15 h_c15 h_x15 h_y15 h_z15 h_l15 h_r15
  go_upto_region 10 with ((with_reducible refine at_none ?_); refine wpList_store_row rfl 26 _ _ rfl w15.heap.size #[.int .u64 (wd (Pt.pX m.1) 0), .int .u64 (wd (Pt.pX m.1) 1), .int .u64 (wd (Pt.pX m.1) 2), .int .u64 (wd (Pt.pX m.1) 3), .int .u64 (wd (Pt.pY m.1) 0), .int .u64 (wd (Pt.pY m.1) 1), .int .u64 (wd (Pt.pY m.1) 2), .int .u64 (wd (Pt.pY m.1) 3), .bool (Pt.pFar m.1)] rfl rfl 26 _ HZ.out info_pt (by rw [arrOf_size]; rfl) (one9 _ _ _) ?_)
  generalize (w15.alloc (.cells #[.int .u64 0, .int .u64 0, .int .u64 0, .int .u64 0, .int .u64 0, .int .u64 0, .int .u64 0, .int .u64 0, .bool false] 26)).setRow w15.heap.size #[.int .u64 (wd (Pt.pX m.1) 0), .int .u64 (wd (Pt.pX m.1) 1), .int .u64 (wd (Pt.pX m.1) 2), .int .u64 (wd (Pt.pX m.1) 3), .int .u64 (wd (Pt.pY m.1) 0), .int .u64 (wd (Pt.pY m.1) 1), .int .u64 (wd (Pt.pY m.1) 2), .int .u64 (wd (Pt.pY m.1) 3), .bool (Pt.pFar m.1)] = w16 at *
  clear HZ
  have H_a := veil (blk9 h_a16)
  have H_b := veil (blk9 h_b16)
  have H_c := veil (blk9 h_c16)
  have H_x := veil (blk9 h_x16)
  have H_y := veil (blk9 h_y16)
  have H_z := veil (blk9 h_z16)
  have H_l := veil (blk9 h_l16)
  have H_r := veil (blk9 h_r16)
  have H_m := veil (blk9 h_m16)
  go_wp2_with (first
    | ((with_reducible refine at_slot 75 ?_); refine wpList_load_row rfl 26 _ rfl w.heap.size rfl 26 #[.int .u64 (wd (Pt.pX a.1) 0), .int .u64 (wd (Pt.pX a.1) 1), .int .u64 (wd (Pt.pX a.1) 2), .int .u64 (wd (Pt.pX a.1) 3), .int .u64 (wd (Pt.pY a.1) 0), .int .u64 (wd (Pt.pY a.1) 1), .int .u64 (wd (Pt.pY a.1) 2), .int .u64 (wd (Pt.pY a.1) 3), .bool (Pt.pFar a.1)] (0, 0) _ H_a.out Try.underlying26 rfl info_pt ?_)
    | ((with_reducible refine at_slot 76 ?_); refine wpList_load_row rfl 26 _ rfl w15.heap.size rfl 26 #[.int .u64 (wd (Pt.pX m.1) 0), .int .u64 (wd (Pt.pX m.1) 1), .int .u64 (wd (Pt.pX m.1) 2), .int .u64 (wd (Pt.pX m.1) 3), .int .u64 (wd (Pt.pY m.1) 0), .int .u64 (wd (Pt.pY m.1) 1), .int .u64 (wd (Pt.pY m.1) 2), .int .u64 (wd (Pt.pY m.1) 3), .bool (Pt.pFar m.1)] (0, 0) _ H_m.out Try.underlying26 rfl info_pt ?_))
  refine (Kn.out _ hI16).mono ?_
  rintro e w17 ⟨rfl, hb⟩
  have hI17 := C.keep _ _ hI16 hb
  have h_a17 := row_below h_a16 hb h_a16.lt
  have h_b17 := row_below h_b16 hb h_b16.lt
  have h_c17 := row_below h_c16 hb h_c16.lt
  have h_x17 := row_below h_x16 hb h_x16.lt
  have h_y17 := row_below h_y16 hb h_y16.lt
  have h_z17 := row_below h_z16 hb h_z16.lt
  have h_l17 := row_below h_l16 hb h_l16.lt
  have h_r17 := row_below h_r16 hb h_r16.lt
  have h_m17 := row_below h_m16 hb h_m16.lt
  have hB17 := hB16.trans (hb.mono hB16.size)
  clear hb hI16 hB16 h_a16 H_a h_b16 H_b h_c16 H_c h_x16 H_x h_y16 H_y h_z16 H_z h_l16 H_l h_r16 H_r h_m16 H_m
  have hz := zero_row (w := w17) (t := 26) rfl
  have HZ := veil (blkOf hz)
  have hb : Below w17.heap.size w17 ((w17.alloc (.cells #[.int .u64 0, .int .u64 0, .int .u64 0, .int .u64 0, .int .u64 0, .int .u64 0, .int .u64 0, .int .u64 0, .bool false] 26)).setRow w17.heap.size #[.int .u64 (wd (Pt.pX n.1) 0), .int .u64 (wd (Pt.pX n.1) 1), .int .u64 (wd (Pt.pX n.1) 2), .int .u64 (wd (Pt.pX n.1) 3), .int .u64 (wd (Pt.pY n.1) 0), .int .u64 (wd (Pt.pY n.1) 1), .int .u64 (wd (Pt.pY n.1) 2), .int .u64 (wd (Pt.pY n.1) 3), .bool (Pt.pFar n.1)]) := below_setRow ((Below.refl _ _).alloc (Nat.le_refl _) _) (Nat.le_refl _) _
  have h_n18 := row_setRow hz (a := #[.int .u64 (wd (Pt.pX n.1) 0), .int .u64 (wd (Pt.pX n.1) 1), .int .u64 (wd (Pt.pX n.1) 2), .int .u64 (wd (Pt.pX n.1) 3), .int .u64 (wd (Pt.pY n.1) 0), .int .u64 (wd (Pt.pY n.1) 1), .int .u64 (wd (Pt.pY n.1) 2), .int .u64 (wd (Pt.pY n.1) 3), .bool (Pt.pFar n.1)]) rfl (arr9 _ _ _)
  clear hz
  have hI18 := C.keep _ _ hI17 hb
  have h_a18 := row_below h_a17 hb h_a17.lt
  have h_b18 := row_below h_b17 hb h_b17.lt
  have h_c18 := row_below h_c17 hb h_c17.lt
  have h_x18 := row_below h_x17 hb h_x17.lt
  have h_y18 := row_below h_y17 hb h_y17.lt
  have h_z18 := row_below h_z17 hb h_z17.lt
  have h_l18 := row_below h_l17 hb h_l17.lt
  have h_r18 := row_below h_r17 hb h_r17.lt
  have h_m18 := row_below h_m17 hb h_m17.lt
  have hB18 := hB17.trans (hb.mono hB17.size)
  clear hb hI17 hB17 h_a17 h_b17 h_c17 h_x17 h_y17 h_z17 h_l17 h_r17 h_m17
  go_upto_region 11 with ((with_reducible refine at_none ?_); refine wpList_store_row rfl 26 _ _ rfl w17.heap.size #[.int .u64 (wd (Pt.pX n.1) 0), .int .u64 (wd (Pt.pX n.1) 1), .int .u64 (wd (Pt.pX n.1) 2), .int .u64 (wd (Pt.pX n.1) 3), .int .u64 (wd (Pt.pY n.1) 0), .int .u64 (wd (Pt.pY n.1) 1), .int .u64 (wd (Pt.pY n.1) 2), .int .u64 (wd (Pt.pY n.1) 3), .bool (Pt.pFar n.1)] rfl rfl 26 _ HZ.out info_pt (by rw [arrOf_size]; rfl) (one9 _ _ _) ?_)
  generalize (w17.alloc (.cells #[.int .u64 0, .int .u64 0, .int .u64 0, .int .u64 0, .int .u64 0, .int .u64 0, .int .u64 0, .int .u64 0, .bool false] 26)).setRow w17.heap.size #[.int .u64 (wd (Pt.pX n.1) 0), .int .u64 (wd (Pt.pX n.1) 1), .int .u64 (wd (Pt.pX n.1) 2), .int .u64 (wd (Pt.pX n.1) 3), .int .u64 (wd (Pt.pY n.1) 0), .int .u64 (wd (Pt.pY n.1) 1), .int .u64 (wd (Pt.pY n.1) 2), .int .u64 (wd (Pt.pY n.1) 3), .bool (Pt.pFar n.1)] = w18 at *
  clear HZ
  have H_a := veil (blk9 h_a18)
  have H_b := veil (blk9 h_b18)
  have H_c := veil (blk9 h_c18)
  have H_x := veil (blk9 h_x18)
  have H_y := veil (blk9 h_y18)
  have H_z := veil (blk9 h_z18)
  have H_l := veil (blk9 h_l18)
  have H_r := veil (blk9 h_r18)
  have H_m := veil (blk9 h_m18)
  have H_n := veil (blk9 h_n18)
  go_wp2_with (first
    | ((with_reducible refine at_slot 81 ?_); refine wpList_load_row rfl 26 _ rfl w5.heap.size rfl 26 #[.int .u64 (wd (Pt.pX x.1) 0), .int .u64 (wd (Pt.pX x.1) 1), .int .u64 (wd (Pt.pX x.1) 2), .int .u64 (wd (Pt.pX x.1) 3), .int .u64 (wd (Pt.pY x.1) 0), .int .u64 (wd (Pt.pY x.1) 1), .int .u64 (wd (Pt.pY x.1) 2), .int .u64 (wd (Pt.pY x.1) 3), .bool (Pt.pFar x.1)] (0, 0) _ H_x.out Try.underlying26 rfl info_pt ?_)
    | ((with_reducible refine at_slot 82 ?_); refine wpList_load_row rfl 26 _ rfl w15.heap.size rfl 26 #[.int .u64 (wd (Pt.pX m.1) 0), .int .u64 (wd (Pt.pX m.1) 1), .int .u64 (wd (Pt.pX m.1) 2), .int .u64 (wd (Pt.pX m.1) 3), .int .u64 (wd (Pt.pY m.1) 0), .int .u64 (wd (Pt.pY m.1) 1), .int .u64 (wd (Pt.pY m.1) 2), .int .u64 (wd (Pt.pY m.1) 3), .bool (Pt.pFar m.1)] (0, 0) _ H_m.out Try.underlying26 rfl info_pt ?_))
  refine (Ko.out _ hI18).mono ?_
  rintro e w19 ⟨rfl, hb⟩
  have hI19 := C.keep _ _ hI18 hb
  have h_a19 := row_below h_a18 hb h_a18.lt
  have h_b19 := row_below h_b18 hb h_b18.lt
  have h_c19 := row_below h_c18 hb h_c18.lt
  have h_x19 := row_below h_x18 hb h_x18.lt
  have h_y19 := row_below h_y18 hb h_y18.lt
  have h_z19 := row_below h_z18 hb h_z18.lt
  have h_l19 := row_below h_l18 hb h_l18.lt
  have h_r19 := row_below h_r18 hb h_r18.lt
  have h_m19 := row_below h_m18 hb h_m18.lt
  have h_n19 := row_below h_n18 hb h_n18.lt
  have hB19 := hB18.trans (hb.mono hB18.size)
  clear hb hI18 hB18 h_a18 H_a h_b18 H_b h_c18 H_c h_x18 H_x h_y18 H_y h_z18 H_z h_l18 H_l h_r18 H_r h_m18 H_m h_n18 H_n
  have hz := zero_row (w := w19) (t := 26) rfl
  have HZ := veil (blkOf hz)
  have hb : Below w19.heap.size w19 ((w19.alloc (.cells #[.int .u64 0, .int .u64 0, .int .u64 0, .int .u64 0, .int .u64 0, .int .u64 0, .int .u64 0, .int .u64 0, .bool false] 26)).setRow w19.heap.size #[.int .u64 (wd (Pt.pX b.1) 0), .int .u64 (wd (Pt.pX b.1) 1), .int .u64 (wd (Pt.pX b.1) 2), .int .u64 (wd (Pt.pX b.1) 3), .int .u64 (wd (Pt.pY b.1) 0), .int .u64 (wd (Pt.pY b.1) 1), .int .u64 (wd (Pt.pY b.1) 2), .int .u64 (wd (Pt.pY b.1) 3), .bool (Pt.pFar b.1)]) := below_setRow ((Below.refl _ _).alloc (Nat.le_refl _) _) (Nat.le_refl _) _
  have h_o20 := row_setRow hz (a := #[.int .u64 (wd (Pt.pX b.1) 0), .int .u64 (wd (Pt.pX b.1) 1), .int .u64 (wd (Pt.pX b.1) 2), .int .u64 (wd (Pt.pX b.1) 3), .int .u64 (wd (Pt.pY b.1) 0), .int .u64 (wd (Pt.pY b.1) 1), .int .u64 (wd (Pt.pY b.1) 2), .int .u64 (wd (Pt.pY b.1) 3), .bool (Pt.pFar b.1)]) rfl (arr9 _ _ _)
  clear hz
  have hI20 := C.keep _ _ hI19 hb
  have h_a20 := row_below h_a19 hb h_a19.lt
  have h_b20 := row_below h_b19 hb h_b19.lt
  have h_c20 := row_below h_c19 hb h_c19.lt
  have h_x20 := row_below h_x19 hb h_x19.lt
  have h_y20 := row_below h_y19 hb h_y19.lt
  have h_z20 := row_below h_z19 hb h_z19.lt
  have h_l20 := row_below h_l19 hb h_l19.lt
  have h_r20 := row_below h_r19 hb h_r19.lt
  have h_m20 := row_below h_m19 hb h_m19.lt
  have h_n20 := row_below h_n19 hb h_n19.lt
  have hB20 := hB19.trans (hb.mono hB19.size)
  clear hb hI19 hB19 h_a19 h_b19 h_c19 h_x19 h_y19 h_z19 h_l19 h_r19 h_m19 h_n19
  go_upto_region 12 with ((with_reducible refine at_none ?_); refine wpList_store_row rfl 26 _ _ rfl w19.heap.size #[.int .u64 (wd (Pt.pX b.1) 0), .int .u64 (wd (Pt.pX b.1) 1), .int .u64 (wd (Pt.pX b.1) 2), .int .u64 (wd (Pt.pX b.1) 3), .int .u64 (wd (Pt.pY b.1) 0), .int .u64 (wd (Pt.pY b.1) 1), .int .u64 (wd (Pt.pY b.1) 2), .int .u64 (wd (Pt.pY b.1) 3), .bool (Pt.pFar b.1)] rfl rfl 26 _ HZ.out info_pt (by rw [arrOf_size]; rfl) (one9 _ _ _) ?_)
  generalize (w19.alloc (.cells #[.int .u64 0, .int .u64 0, .int .u64 0, .int .u64 0, .int .u64 0, .int .u64 0, .int .u64 0, .int .u64 0, .bool false] 26)).setRow w19.heap.size #[.int .u64 (wd (Pt.pX b.1) 0), .int .u64 (wd (Pt.pX b.1) 1), .int .u64 (wd (Pt.pX b.1) 2), .int .u64 (wd (Pt.pX b.1) 3), .int .u64 (wd (Pt.pY b.1) 0), .int .u64 (wd (Pt.pY b.1) 1), .int .u64 (wd (Pt.pY b.1) 2), .int .u64 (wd (Pt.pY b.1) 3), .bool (Pt.pFar b.1)] = w20 at *
  clear HZ
  have H_a := veil (blk9 h_a20)
  have H_b := veil (blk9 h_b20)
  have H_c := veil (blk9 h_c20)
  have H_x := veil (blk9 h_x20)
  have H_y := veil (blk9 h_y20)
  have H_z := veil (blk9 h_z20)
  have H_l := veil (blk9 h_l20)
  have H_r := veil (blk9 h_r20)
  have H_m := veil (blk9 h_m20)
  have H_n := veil (blk9 h_n20)
  have H_o := veil (blk9 h_o20)
  go_wp2_with ((with_reducible refine at_slot 118 ?_); refine wpList_load_rowG (by rfl) 26 _ rfl w5.heap.size rfl 26 #[.int .u64 (wd (Pt.pX x.1) 0), .int .u64 (wd (Pt.pX x.1) 1), .int .u64 (wd (Pt.pX x.1) 2), .int .u64 (wd (Pt.pX x.1) 3), .int .u64 (wd (Pt.pY x.1) 0), .int .u64 (wd (Pt.pY x.1) 1), .int .u64 (wd (Pt.pY x.1) 2), .int .u64 (wd (Pt.pY x.1) 3), .bool (Pt.pFar x.1)] (0, 0) _ H_x.out Try.underlying26 rfl info_pt ?_)
  refine ((C.onQ x) _ hI20).mono ?_
  rintro e w21 ⟨rfl, hb⟩
  have hI21 := C.keep _ _ hI20 hb
  have h_a21 := row_below h_a20 hb h_a20.lt
  have h_b21 := row_below h_b20 hb h_b20.lt
  have h_c21 := row_below h_c20 hb h_c20.lt
  have h_x21 := row_below h_x20 hb h_x20.lt
  have h_y21 := row_below h_y20 hb h_y20.lt
  have h_z21 := row_below h_z20 hb h_z20.lt
  have h_l21 := row_below h_l20 hb h_l20.lt
  have h_r21 := row_below h_r20 hb h_r20.lt
  have h_m21 := row_below h_m20 hb h_m20.lt
  have h_n21 := row_below h_n20 hb h_n20.lt
  have h_o21 := row_below h_o20 hb h_o20.lt
  have hB21 := hB20.trans (hb.mono hB20.size)
  clear hb hI20 hB20 h_a20 H_a h_b20 H_b h_c20 H_c h_x20 H_x h_y20 H_y h_z20 H_z h_l20 H_l h_r20 H_r h_m20 H_m h_n20 H_n h_o20 H_o
  have H_a := veil (blk9 h_a21)
  have H_b := veil (blk9 h_b21)
  have H_c := veil (blk9 h_c21)
  have H_x := veil (blk9 h_x21)
  have H_y := veil (blk9 h_y21)
  have H_z := veil (blk9 h_z21)
  have H_l := veil (blk9 h_l21)
  have H_r := veil (blk9 h_r21)
  have H_m := veil (blk9 h_m21)
  have H_n := veil (blk9 h_n21)
  have H_o := veil (blk9 h_o21)
  clear up Kx Ky Kz Kl Kr Km Kn Ko
  have k1 := fun W => eqlQ x W
  have k2 := fun W => eqlQ l W
  have k3 := fun W => eqlQ b W
  have k4 := fun W => HN.out W
  clear HN
  go_wp2_with (first
    | ((with_reducible refine at_slot 122 ?_); refine wpList_load_rowG (by rfl) 26 _ rfl w5.heap.size rfl 26 #[.int .u64 (wd (Pt.pX x.1) 0), .int .u64 (wd (Pt.pX x.1) 1), .int .u64 (wd (Pt.pX x.1) 2), .int .u64 (wd (Pt.pX x.1) 3), .int .u64 (wd (Pt.pY x.1) 0), .int .u64 (wd (Pt.pY x.1) 1), .int .u64 (wd (Pt.pY x.1) 2), .int .u64 (wd (Pt.pY x.1) 3), .bool (Pt.pFar x.1)] (0, 0) _ H_x.out Try.underlying26 rfl info_pt ?_)
    | ((with_reducible refine at_slot 123 ?_); refine wpList_load_rowG (by rfl) 26 _ rfl w7.heap.size rfl 26 #[.int .u64 (wd (Pt.pX x.1) 0), .int .u64 (wd (Pt.pX x.1) 1), .int .u64 (wd (Pt.pX x.1) 2), .int .u64 (wd (Pt.pX x.1) 3), .int .u64 (wd (Pt.pY x.1) 0), .int .u64 (wd (Pt.pY x.1) 1), .int .u64 (wd (Pt.pY x.1) 2), .int .u64 (wd (Pt.pY x.1) 3), .bool (Pt.pFar x.1)] (0, 0) _ H_y.out Try.underlying26 rfl info_pt ?_)
    | ((with_reducible refine at_slot 127 ?_); refine wpList_load_rowG (by rfl) 26 _ rfl w11.heap.size rfl 26 #[.int .u64 (wd (Pt.pX l.1) 0), .int .u64 (wd (Pt.pX l.1) 1), .int .u64 (wd (Pt.pX l.1) 2), .int .u64 (wd (Pt.pX l.1) 3), .int .u64 (wd (Pt.pY l.1) 0), .int .u64 (wd (Pt.pY l.1) 1), .int .u64 (wd (Pt.pY l.1) 2), .int .u64 (wd (Pt.pY l.1) 3), .bool (Pt.pFar l.1)] (0, 0) _ H_l.out Try.underlying26 rfl info_pt ?_)
    | ((with_reducible refine at_slot 128 ?_); refine wpList_load_rowG (by rfl) 26 _ rfl w13.heap.size rfl 26 #[.int .u64 (wd (Pt.pX l.1) 0), .int .u64 (wd (Pt.pX l.1) 1), .int .u64 (wd (Pt.pX l.1) 2), .int .u64 (wd (Pt.pX l.1) 3), .int .u64 (wd (Pt.pY l.1) 0), .int .u64 (wd (Pt.pY l.1) 1), .int .u64 (wd (Pt.pY l.1) 2), .int .u64 (wd (Pt.pY l.1) 3), .bool (Pt.pFar l.1)] (0, 0) _ H_r.out Try.underlying26 rfl info_pt ?_)
    | ((with_reducible refine at_slot 132 ?_); refine wpList_load_rowG (by rfl) 26 _ rfl w17.heap.size rfl 26 #[.int .u64 (wd (Pt.pX n.1) 0), .int .u64 (wd (Pt.pX n.1) 1), .int .u64 (wd (Pt.pX n.1) 2), .int .u64 (wd (Pt.pX n.1) 3), .int .u64 (wd (Pt.pY n.1) 0), .int .u64 (wd (Pt.pY n.1) 1), .int .u64 (wd (Pt.pY n.1) 2), .int .u64 (wd (Pt.pY n.1) 3), .bool (Pt.pFar n.1)] (0, 0) _ H_n.out Try.underlying26 rfl info_pt ?_)
    | ((with_reducible refine at_slot 137 ?_); refine wpList_load_rowG (by rfl) 26 _ rfl w19.heap.size rfl 26 #[.int .u64 (wd (Pt.pX b.1) 0), .int .u64 (wd (Pt.pX b.1) 1), .int .u64 (wd (Pt.pX b.1) 2), .int .u64 (wd (Pt.pX b.1) 3), .int .u64 (wd (Pt.pY b.1) 0), .int .u64 (wd (Pt.pY b.1) 1), .int .u64 (wd (Pt.pY b.1) 2), .int .u64 (wd (Pt.pY b.1) 3), .bool (Pt.pFar b.1)] (0, 0) _ H_o.out Try.underlying26 rfl info_pt ?_)
    | ((with_reducible refine at_slot 138 ?_); refine wpList_load_rowG (by rfl) 26 _ rfl (w.heap.size + 1) rfl 26 #[.int .u64 (wd (Pt.pX b.1) 0), .int .u64 (wd (Pt.pX b.1) 1), .int .u64 (wd (Pt.pX b.1) 2), .int .u64 (wd (Pt.pX b.1) 3), .int .u64 (wd (Pt.pY b.1) 0), .int .u64 (wd (Pt.pY b.1) 1), .int .u64 (wd (Pt.pY b.1) 2), .int .u64 (wd (Pt.pY b.1) 3), .bool (Pt.pFar b.1)] (0, 0) _ H_b.out Try.underlying26 rfl info_pt ?_))
  go_ret
  exact ⟨rfl, hB21⟩
end Go.Proofs.Ytppfcdpokgnpfaa


/-
  PointGroup: the walk where one isn't on the curve, and all together.
-/
namespace Go.Proofs.Ytppfcdpokgnpfaa
open Go.RowKit

set_option maxRecDepth 100000 in
theorem Code.onIs {I : World → Prop} (C : Code I) (X Y : Nat) (f : Bool) {q : Bool} (hX : X < top) (hY : Y < top) (h : onB X Y f = q) (w : World) (hI : I w) : Calls Try.prog 13 #[.agg #[.int .u64 (wd (X) 0), .int .u64 (wd (X) 1), .int .u64 (wd (X) 2), .int .u64 (wd (X) 3), .int .u64 (wd (Y) 0), .int .u64 (wd (Y) 1), .int .u64 (wd (Y) 2), .int .u64 (wd (Y) 3), .bool (f)]] w fun e w' => e = .returned (.bool q) ∧ Below w.heap.size w w' := h ▸ C.on X Y f hX hY w hI
set_option maxRecDepth 100000 in
set_option maxHeartbeats 8000000 in
theorem group_off0 {I : World → Prop} (C : Code I) (up : ∀ w, I w → Calls Try.prog 9 #[] w fun e w' => e = .returned (.bool true) ∧ Below w.heap.size w w') (X0 Y0 X1 Y1 X2 Y2 : Nat) (f0 f1 f2 : Bool) (hX0 : X0 < top) (hY0 : Y0 < top) (q0 : onB X0 Y0 f0 = false) (w : World) (hI : I w) :
    Calls Try.prog 6 #[.agg #[.int .u64 (wd (X0) 0), .int .u64 (wd (X0) 1), .int .u64 (wd (X0) 2), .int .u64 (wd (X0) 3), .int .u64 (wd (Y0) 0), .int .u64 (wd (Y0) 1), .int .u64 (wd (Y0) 2), .int .u64 (wd (Y0) 3), .bool (f0)], .agg #[.int .u64 (wd (X1) 0), .int .u64 (wd (X1) 1), .int .u64 (wd (X1) 2), .int .u64 (wd (X1) 3), .int .u64 (wd (Y1) 0), .int .u64 (wd (Y1) 1), .int .u64 (wd (Y1) 2), .int .u64 (wd (Y1) 3), .bool (f1)], .agg #[.int .u64 (wd (X2) 0), .int .u64 (wd (X2) 1), .int .u64 (wd (X2) 2), .int .u64 (wd (X2) 3), .int .u64 (wd (Y2) 0), .int .u64 (wd (Y2) 1), .int .u64 (wd (Y2) 2), .int .u64 (wd (Y2) 3), .bool (f2)]] w fun e w' => e = .returned (.bool true) ∧ Below w.heap.size w w' := by
  have hB0 : Below w.heap.size w (((w.alloc (.cells #[.int .u64 (wd (X0) 0), .int .u64 (wd (X0) 1), .int .u64 (wd (X0) 2), .int .u64 (wd (X0) 3), .int .u64 (wd (Y0) 0), .int .u64 (wd (Y0) 1), .int .u64 (wd (Y0) 2), .int .u64 (wd (Y0) 3), .bool (f0)] 26)).alloc (.cells #[.int .u64 (wd (X1) 0), .int .u64 (wd (X1) 1), .int .u64 (wd (X1) 2), .int .u64 (wd (X1) 3), .int .u64 (wd (Y1) 0), .int .u64 (wd (Y1) 1), .int .u64 (wd (Y1) 2), .int .u64 (wd (Y1) 3), .bool (f1)] 26)).alloc (.cells #[.int .u64 (wd (X2) 0), .int .u64 (wd (X2) 1), .int .u64 (wd (X2) 2), .int .u64 (wd (X2) 3), .int .u64 (wd (Y2) 0), .int .u64 (wd (Y2) 1), .int .u64 (wd (Y2) 2), .int .u64 (wd (Y2) 3), .bool (f2)] 26)) := (((Below.refl _ _).alloc (by simp) _).alloc (by simp) _).alloc (by simp; omega) _
  have hI0 := C.keep _ _ hI hB0
  have h_00 : (((w.alloc (.cells #[.int .u64 (wd (X0) 0), .int .u64 (wd (X0) 1), .int .u64 (wd (X0) 2), .int .u64 (wd (X0) 3), .int .u64 (wd (Y0) 0), .int .u64 (wd (Y0) 1), .int .u64 (wd (Y0) 2), .int .u64 (wd (Y0) 3), .bool (f0)] 26)).alloc (.cells #[.int .u64 (wd (X1) 0), .int .u64 (wd (X1) 1), .int .u64 (wd (X1) 2), .int .u64 (wd (X1) 3), .int .u64 (wd (Y1) 0), .int .u64 (wd (Y1) 1), .int .u64 (wd (Y1) 2), .int .u64 (wd (Y1) 3), .bool (f1)] 26)).alloc (.cells #[.int .u64 (wd (X2) 0), .int .u64 (wd (X2) 1), .int .u64 (wd (X2) 2), .int .u64 (wd (X2) 3), .int .u64 (wd (Y2) 0), .int .u64 (wd (Y2) 1), .int .u64 (wd (Y2) 2), .int .u64 (wd (Y2) 3), .bool (f2)] 26)).rowIs w.heap.size 26 9 (pc X0 Y0 f0) := ((pt_new _ _ _ rfl).alloc _).alloc _
  have h_10 : (((w.alloc (.cells #[.int .u64 (wd (X0) 0), .int .u64 (wd (X0) 1), .int .u64 (wd (X0) 2), .int .u64 (wd (X0) 3), .int .u64 (wd (Y0) 0), .int .u64 (wd (Y0) 1), .int .u64 (wd (Y0) 2), .int .u64 (wd (Y0) 3), .bool (f0)] 26)).alloc (.cells #[.int .u64 (wd (X1) 0), .int .u64 (wd (X1) 1), .int .u64 (wd (X1) 2), .int .u64 (wd (X1) 3), .int .u64 (wd (Y1) 0), .int .u64 (wd (Y1) 1), .int .u64 (wd (Y1) 2), .int .u64 (wd (Y1) 3), .bool (f1)] 26)).alloc (.cells #[.int .u64 (wd (X2) 0), .int .u64 (wd (X2) 1), .int .u64 (wd (X2) 2), .int .u64 (wd (X2) 3), .int .u64 (wd (Y2) 0), .int .u64 (wd (Y2) 1), .int .u64 (wd (Y2) 2), .int .u64 (wd (Y2) 3), .bool (f2)] 26)).rowIs (w.heap.size + 1) 26 9 (pc X1 Y1 f1) := (pt_new _ _ _ (by simp)).alloc _
  have h_20 : (((w.alloc (.cells #[.int .u64 (wd (X0) 0), .int .u64 (wd (X0) 1), .int .u64 (wd (X0) 2), .int .u64 (wd (X0) 3), .int .u64 (wd (Y0) 0), .int .u64 (wd (Y0) 1), .int .u64 (wd (Y0) 2), .int .u64 (wd (Y0) 3), .bool (f0)] 26)).alloc (.cells #[.int .u64 (wd (X1) 0), .int .u64 (wd (X1) 1), .int .u64 (wd (X1) 2), .int .u64 (wd (X1) 3), .int .u64 (wd (Y1) 0), .int .u64 (wd (Y1) 1), .int .u64 (wd (Y1) 2), .int .u64 (wd (Y1) 3), .bool (f1)] 26)).alloc (.cells #[.int .u64 (wd (X2) 0), .int .u64 (wd (X2) 1), .int .u64 (wd (X2) 2), .int .u64 (wd (X2) 3), .int .u64 (wd (Y2) 0), .int .u64 (wd (Y2) 1), .int .u64 (wd (Y2) 2), .int .u64 (wd (Y2) 3), .bool (f2)] 26)).rowIs (w.heap.size + 1 + 1) 26 9 (pc X2 Y2 f2) := pt_new _ _ _ (by simp)
  have H_0 := True.intro
  have H_1 := True.intro
  have H_2 := True.intro
  have K0 := veil (C.onIs X0 Y0 f0 hX0 hY0 q0)
  clear hX0 hY0 q0
  go_enter Try.func6, Try.ntmps6
  go_wp2_with fail
  refine (up _ hI0).mono ?_
  rintro e w1 ⟨rfl, hb⟩
  have hI1 := C.keep _ _ hI0 hb
  have h_01 := row_below h_00 hb h_00.lt
  have h_11 := row_below h_10 hb h_10.lt
  have h_21 := row_below h_20 hb h_20.lt
  have hB1 := hB0.trans (hb.mono hB0.size)
  clear hb hI0 hB0 h_00 h_10 h_20 H_0 H_1 H_2
  have H_0 := veil (blk9 h_01)
  have H_1 := veil (blk9 h_11)
  have H_2 := veil (blk9 h_21)
  go_wp2_with (((with_reducible refine at_slot 25 ?_); refine wpList_load_row rfl 26 _ rfl w.heap.size rfl 26 #[.int .u64 (wd (X0) 0), .int .u64 (wd (X0) 1), .int .u64 (wd (X0) 2), .int .u64 (wd (X0) 3), .int .u64 (wd (Y0) 0), .int .u64 (wd (Y0) 1), .int .u64 (wd (Y0) 2), .int .u64 (wd (Y0) 3), .bool (f0)] (0, 0) _ H_0.out Try.underlying26 rfl info_pt ?_))
  refine (K0.out _ hI1).mono ?_
  rintro e w2 ⟨rfl, hb⟩
  have hI2 := C.keep _ _ hI1 hb
  have h_02 := row_below h_01 hb h_01.lt
  have h_12 := row_below h_11 hb h_11.lt
  have h_22 := row_below h_21 hb h_21.lt
  have hB2 := hB1.trans (hb.mono hB1.size)
  clear hb hI1 hB1 h_01 h_11 h_21 H_0 H_1 H_2
  have H_0 := veil (blk9 h_02)
  have H_1 := veil (blk9 h_12)
  have H_2 := veil (blk9 h_22)
  clear H_0 H_1 H_2 h_02 h_12 h_22
  go_wp2
  go_ret
  exact ⟨rfl, hB2⟩
set_option maxRecDepth 100000 in
set_option maxHeartbeats 8000000 in
theorem group_off1 {I : World → Prop} (C : Code I) (up : ∀ w, I w → Calls Try.prog 9 #[] w fun e w' => e = .returned (.bool true) ∧ Below w.heap.size w w') (X0 Y0 X1 Y1 X2 Y2 : Nat) (f0 f1 f2 : Bool) (hX0 : X0 < top) (hY0 : Y0 < top) (hX1 : X1 < top) (hY1 : Y1 < top) (q0 : onB X0 Y0 f0 = true) (q1 : onB X1 Y1 f1 = false) (w : World) (hI : I w) :
    Calls Try.prog 6 #[.agg #[.int .u64 (wd (X0) 0), .int .u64 (wd (X0) 1), .int .u64 (wd (X0) 2), .int .u64 (wd (X0) 3), .int .u64 (wd (Y0) 0), .int .u64 (wd (Y0) 1), .int .u64 (wd (Y0) 2), .int .u64 (wd (Y0) 3), .bool (f0)], .agg #[.int .u64 (wd (X1) 0), .int .u64 (wd (X1) 1), .int .u64 (wd (X1) 2), .int .u64 (wd (X1) 3), .int .u64 (wd (Y1) 0), .int .u64 (wd (Y1) 1), .int .u64 (wd (Y1) 2), .int .u64 (wd (Y1) 3), .bool (f1)], .agg #[.int .u64 (wd (X2) 0), .int .u64 (wd (X2) 1), .int .u64 (wd (X2) 2), .int .u64 (wd (X2) 3), .int .u64 (wd (Y2) 0), .int .u64 (wd (Y2) 1), .int .u64 (wd (Y2) 2), .int .u64 (wd (Y2) 3), .bool (f2)]] w fun e w' => e = .returned (.bool true) ∧ Below w.heap.size w w' := by
  have hB0 : Below w.heap.size w (((w.alloc (.cells #[.int .u64 (wd (X0) 0), .int .u64 (wd (X0) 1), .int .u64 (wd (X0) 2), .int .u64 (wd (X0) 3), .int .u64 (wd (Y0) 0), .int .u64 (wd (Y0) 1), .int .u64 (wd (Y0) 2), .int .u64 (wd (Y0) 3), .bool (f0)] 26)).alloc (.cells #[.int .u64 (wd (X1) 0), .int .u64 (wd (X1) 1), .int .u64 (wd (X1) 2), .int .u64 (wd (X1) 3), .int .u64 (wd (Y1) 0), .int .u64 (wd (Y1) 1), .int .u64 (wd (Y1) 2), .int .u64 (wd (Y1) 3), .bool (f1)] 26)).alloc (.cells #[.int .u64 (wd (X2) 0), .int .u64 (wd (X2) 1), .int .u64 (wd (X2) 2), .int .u64 (wd (X2) 3), .int .u64 (wd (Y2) 0), .int .u64 (wd (Y2) 1), .int .u64 (wd (Y2) 2), .int .u64 (wd (Y2) 3), .bool (f2)] 26)) := (((Below.refl _ _).alloc (by simp) _).alloc (by simp) _).alloc (by simp; omega) _
  have hI0 := C.keep _ _ hI hB0
  have h_00 : (((w.alloc (.cells #[.int .u64 (wd (X0) 0), .int .u64 (wd (X0) 1), .int .u64 (wd (X0) 2), .int .u64 (wd (X0) 3), .int .u64 (wd (Y0) 0), .int .u64 (wd (Y0) 1), .int .u64 (wd (Y0) 2), .int .u64 (wd (Y0) 3), .bool (f0)] 26)).alloc (.cells #[.int .u64 (wd (X1) 0), .int .u64 (wd (X1) 1), .int .u64 (wd (X1) 2), .int .u64 (wd (X1) 3), .int .u64 (wd (Y1) 0), .int .u64 (wd (Y1) 1), .int .u64 (wd (Y1) 2), .int .u64 (wd (Y1) 3), .bool (f1)] 26)).alloc (.cells #[.int .u64 (wd (X2) 0), .int .u64 (wd (X2) 1), .int .u64 (wd (X2) 2), .int .u64 (wd (X2) 3), .int .u64 (wd (Y2) 0), .int .u64 (wd (Y2) 1), .int .u64 (wd (Y2) 2), .int .u64 (wd (Y2) 3), .bool (f2)] 26)).rowIs w.heap.size 26 9 (pc X0 Y0 f0) := ((pt_new _ _ _ rfl).alloc _).alloc _
  have h_10 : (((w.alloc (.cells #[.int .u64 (wd (X0) 0), .int .u64 (wd (X0) 1), .int .u64 (wd (X0) 2), .int .u64 (wd (X0) 3), .int .u64 (wd (Y0) 0), .int .u64 (wd (Y0) 1), .int .u64 (wd (Y0) 2), .int .u64 (wd (Y0) 3), .bool (f0)] 26)).alloc (.cells #[.int .u64 (wd (X1) 0), .int .u64 (wd (X1) 1), .int .u64 (wd (X1) 2), .int .u64 (wd (X1) 3), .int .u64 (wd (Y1) 0), .int .u64 (wd (Y1) 1), .int .u64 (wd (Y1) 2), .int .u64 (wd (Y1) 3), .bool (f1)] 26)).alloc (.cells #[.int .u64 (wd (X2) 0), .int .u64 (wd (X2) 1), .int .u64 (wd (X2) 2), .int .u64 (wd (X2) 3), .int .u64 (wd (Y2) 0), .int .u64 (wd (Y2) 1), .int .u64 (wd (Y2) 2), .int .u64 (wd (Y2) 3), .bool (f2)] 26)).rowIs (w.heap.size + 1) 26 9 (pc X1 Y1 f1) := (pt_new _ _ _ (by simp)).alloc _
  have h_20 : (((w.alloc (.cells #[.int .u64 (wd (X0) 0), .int .u64 (wd (X0) 1), .int .u64 (wd (X0) 2), .int .u64 (wd (X0) 3), .int .u64 (wd (Y0) 0), .int .u64 (wd (Y0) 1), .int .u64 (wd (Y0) 2), .int .u64 (wd (Y0) 3), .bool (f0)] 26)).alloc (.cells #[.int .u64 (wd (X1) 0), .int .u64 (wd (X1) 1), .int .u64 (wd (X1) 2), .int .u64 (wd (X1) 3), .int .u64 (wd (Y1) 0), .int .u64 (wd (Y1) 1), .int .u64 (wd (Y1) 2), .int .u64 (wd (Y1) 3), .bool (f1)] 26)).alloc (.cells #[.int .u64 (wd (X2) 0), .int .u64 (wd (X2) 1), .int .u64 (wd (X2) 2), .int .u64 (wd (X2) 3), .int .u64 (wd (Y2) 0), .int .u64 (wd (Y2) 1), .int .u64 (wd (Y2) 2), .int .u64 (wd (Y2) 3), .bool (f2)] 26)).rowIs (w.heap.size + 1 + 1) 26 9 (pc X2 Y2 f2) := pt_new _ _ _ (by simp)
  have H_0 := True.intro
  have H_1 := True.intro
  have H_2 := True.intro
  have K0 := veil (C.onIs X0 Y0 f0 hX0 hY0 q0)
  have K1 := veil (C.onIs X1 Y1 f1 hX1 hY1 q1)
  clear hX0 hY0 q0 hX1 hY1 q1
  go_enter Try.func6, Try.ntmps6
  go_wp2_with fail
  refine (up _ hI0).mono ?_
  rintro e w1 ⟨rfl, hb⟩
  have hI1 := C.keep _ _ hI0 hb
  have h_01 := row_below h_00 hb h_00.lt
  have h_11 := row_below h_10 hb h_10.lt
  have h_21 := row_below h_20 hb h_20.lt
  have hB1 := hB0.trans (hb.mono hB0.size)
  clear hb hI0 hB0 h_00 h_10 h_20 H_0 H_1 H_2
  have H_0 := veil (blk9 h_01)
  have H_1 := veil (blk9 h_11)
  have H_2 := veil (blk9 h_21)
  go_wp2_with (((with_reducible refine at_slot 25 ?_); refine wpList_load_row rfl 26 _ rfl w.heap.size rfl 26 #[.int .u64 (wd (X0) 0), .int .u64 (wd (X0) 1), .int .u64 (wd (X0) 2), .int .u64 (wd (X0) 3), .int .u64 (wd (Y0) 0), .int .u64 (wd (Y0) 1), .int .u64 (wd (Y0) 2), .int .u64 (wd (Y0) 3), .bool (f0)] (0, 0) _ H_0.out Try.underlying26 rfl info_pt ?_))
  refine (K0.out _ hI1).mono ?_
  rintro e w2 ⟨rfl, hb⟩
  have hI2 := C.keep _ _ hI1 hb
  have h_02 := row_below h_01 hb h_01.lt
  have h_12 := row_below h_11 hb h_11.lt
  have h_22 := row_below h_21 hb h_21.lt
  have hB2 := hB1.trans (hb.mono hB1.size)
  clear hb hI1 hB1 h_01 h_11 h_21 H_0 H_1 H_2
  have H_0 := veil (blk9 h_02)
  have H_1 := veil (blk9 h_12)
  have H_2 := veil (blk9 h_22)
  go_wp2_with (((with_reducible refine at_slot 29 ?_); refine wpList_load_rowG (by rfl) 26 _ rfl (w.heap.size + 1) rfl 26 #[.int .u64 (wd (X1) 0), .int .u64 (wd (X1) 1), .int .u64 (wd (X1) 2), .int .u64 (wd (X1) 3), .int .u64 (wd (Y1) 0), .int .u64 (wd (Y1) 1), .int .u64 (wd (Y1) 2), .int .u64 (wd (Y1) 3), .bool (f1)] (0, 0) _ H_1.out Try.underlying26 rfl info_pt ?_))
  refine (K1.out _ hI2).mono ?_
  rintro e w3 ⟨rfl, hb⟩
  have hI3 := C.keep _ _ hI2 hb
  have h_03 := row_below h_02 hb h_02.lt
  have h_13 := row_below h_12 hb h_12.lt
  have h_23 := row_below h_22 hb h_22.lt
  have hB3 := hB2.trans (hb.mono hB2.size)
  clear hb hI2 hB2 h_02 h_12 h_22 H_0 H_1 H_2
  have H_0 := veil (blk9 h_03)
  have H_1 := veil (blk9 h_13)
  have H_2 := veil (blk9 h_23)
  clear H_0 H_1 H_2 h_03 h_13 h_23
  go_wp2
  go_ret
  exact ⟨rfl, hB3⟩
set_option maxRecDepth 100000 in
set_option maxHeartbeats 8000000 in
theorem group_off2 {I : World → Prop} (C : Code I) (up : ∀ w, I w → Calls Try.prog 9 #[] w fun e w' => e = .returned (.bool true) ∧ Below w.heap.size w w') (X0 Y0 X1 Y1 X2 Y2 : Nat) (f0 f1 f2 : Bool) (hX0 : X0 < top) (hY0 : Y0 < top) (hX1 : X1 < top) (hY1 : Y1 < top) (hX2 : X2 < top) (hY2 : Y2 < top) (q0 : onB X0 Y0 f0 = true) (q1 : onB X1 Y1 f1 = true) (q2 : onB X2 Y2 f2 = false) (w : World) (hI : I w) :
    Calls Try.prog 6 #[.agg #[.int .u64 (wd (X0) 0), .int .u64 (wd (X0) 1), .int .u64 (wd (X0) 2), .int .u64 (wd (X0) 3), .int .u64 (wd (Y0) 0), .int .u64 (wd (Y0) 1), .int .u64 (wd (Y0) 2), .int .u64 (wd (Y0) 3), .bool (f0)], .agg #[.int .u64 (wd (X1) 0), .int .u64 (wd (X1) 1), .int .u64 (wd (X1) 2), .int .u64 (wd (X1) 3), .int .u64 (wd (Y1) 0), .int .u64 (wd (Y1) 1), .int .u64 (wd (Y1) 2), .int .u64 (wd (Y1) 3), .bool (f1)], .agg #[.int .u64 (wd (X2) 0), .int .u64 (wd (X2) 1), .int .u64 (wd (X2) 2), .int .u64 (wd (X2) 3), .int .u64 (wd (Y2) 0), .int .u64 (wd (Y2) 1), .int .u64 (wd (Y2) 2), .int .u64 (wd (Y2) 3), .bool (f2)]] w fun e w' => e = .returned (.bool true) ∧ Below w.heap.size w w' := by
  have hB0 : Below w.heap.size w (((w.alloc (.cells #[.int .u64 (wd (X0) 0), .int .u64 (wd (X0) 1), .int .u64 (wd (X0) 2), .int .u64 (wd (X0) 3), .int .u64 (wd (Y0) 0), .int .u64 (wd (Y0) 1), .int .u64 (wd (Y0) 2), .int .u64 (wd (Y0) 3), .bool (f0)] 26)).alloc (.cells #[.int .u64 (wd (X1) 0), .int .u64 (wd (X1) 1), .int .u64 (wd (X1) 2), .int .u64 (wd (X1) 3), .int .u64 (wd (Y1) 0), .int .u64 (wd (Y1) 1), .int .u64 (wd (Y1) 2), .int .u64 (wd (Y1) 3), .bool (f1)] 26)).alloc (.cells #[.int .u64 (wd (X2) 0), .int .u64 (wd (X2) 1), .int .u64 (wd (X2) 2), .int .u64 (wd (X2) 3), .int .u64 (wd (Y2) 0), .int .u64 (wd (Y2) 1), .int .u64 (wd (Y2) 2), .int .u64 (wd (Y2) 3), .bool (f2)] 26)) := (((Below.refl _ _).alloc (by simp) _).alloc (by simp) _).alloc (by simp; omega) _
  have hI0 := C.keep _ _ hI hB0
  have h_00 : (((w.alloc (.cells #[.int .u64 (wd (X0) 0), .int .u64 (wd (X0) 1), .int .u64 (wd (X0) 2), .int .u64 (wd (X0) 3), .int .u64 (wd (Y0) 0), .int .u64 (wd (Y0) 1), .int .u64 (wd (Y0) 2), .int .u64 (wd (Y0) 3), .bool (f0)] 26)).alloc (.cells #[.int .u64 (wd (X1) 0), .int .u64 (wd (X1) 1), .int .u64 (wd (X1) 2), .int .u64 (wd (X1) 3), .int .u64 (wd (Y1) 0), .int .u64 (wd (Y1) 1), .int .u64 (wd (Y1) 2), .int .u64 (wd (Y1) 3), .bool (f1)] 26)).alloc (.cells #[.int .u64 (wd (X2) 0), .int .u64 (wd (X2) 1), .int .u64 (wd (X2) 2), .int .u64 (wd (X2) 3), .int .u64 (wd (Y2) 0), .int .u64 (wd (Y2) 1), .int .u64 (wd (Y2) 2), .int .u64 (wd (Y2) 3), .bool (f2)] 26)).rowIs w.heap.size 26 9 (pc X0 Y0 f0) := ((pt_new _ _ _ rfl).alloc _).alloc _
  have h_10 : (((w.alloc (.cells #[.int .u64 (wd (X0) 0), .int .u64 (wd (X0) 1), .int .u64 (wd (X0) 2), .int .u64 (wd (X0) 3), .int .u64 (wd (Y0) 0), .int .u64 (wd (Y0) 1), .int .u64 (wd (Y0) 2), .int .u64 (wd (Y0) 3), .bool (f0)] 26)).alloc (.cells #[.int .u64 (wd (X1) 0), .int .u64 (wd (X1) 1), .int .u64 (wd (X1) 2), .int .u64 (wd (X1) 3), .int .u64 (wd (Y1) 0), .int .u64 (wd (Y1) 1), .int .u64 (wd (Y1) 2), .int .u64 (wd (Y1) 3), .bool (f1)] 26)).alloc (.cells #[.int .u64 (wd (X2) 0), .int .u64 (wd (X2) 1), .int .u64 (wd (X2) 2), .int .u64 (wd (X2) 3), .int .u64 (wd (Y2) 0), .int .u64 (wd (Y2) 1), .int .u64 (wd (Y2) 2), .int .u64 (wd (Y2) 3), .bool (f2)] 26)).rowIs (w.heap.size + 1) 26 9 (pc X1 Y1 f1) := (pt_new _ _ _ (by simp)).alloc _
  have h_20 : (((w.alloc (.cells #[.int .u64 (wd (X0) 0), .int .u64 (wd (X0) 1), .int .u64 (wd (X0) 2), .int .u64 (wd (X0) 3), .int .u64 (wd (Y0) 0), .int .u64 (wd (Y0) 1), .int .u64 (wd (Y0) 2), .int .u64 (wd (Y0) 3), .bool (f0)] 26)).alloc (.cells #[.int .u64 (wd (X1) 0), .int .u64 (wd (X1) 1), .int .u64 (wd (X1) 2), .int .u64 (wd (X1) 3), .int .u64 (wd (Y1) 0), .int .u64 (wd (Y1) 1), .int .u64 (wd (Y1) 2), .int .u64 (wd (Y1) 3), .bool (f1)] 26)).alloc (.cells #[.int .u64 (wd (X2) 0), .int .u64 (wd (X2) 1), .int .u64 (wd (X2) 2), .int .u64 (wd (X2) 3), .int .u64 (wd (Y2) 0), .int .u64 (wd (Y2) 1), .int .u64 (wd (Y2) 2), .int .u64 (wd (Y2) 3), .bool (f2)] 26)).rowIs (w.heap.size + 1 + 1) 26 9 (pc X2 Y2 f2) := pt_new _ _ _ (by simp)
  have H_0 := True.intro
  have H_1 := True.intro
  have H_2 := True.intro
  have K0 := veil (C.onIs X0 Y0 f0 hX0 hY0 q0)
  have K1 := veil (C.onIs X1 Y1 f1 hX1 hY1 q1)
  have K2 := veil (C.onIs X2 Y2 f2 hX2 hY2 q2)
  clear hX0 hY0 q0 hX1 hY1 q1 hX2 hY2 q2
  go_enter Try.func6, Try.ntmps6
  go_wp2_with fail
  refine (up _ hI0).mono ?_
  rintro e w1 ⟨rfl, hb⟩
  have hI1 := C.keep _ _ hI0 hb
  have h_01 := row_below h_00 hb h_00.lt
  have h_11 := row_below h_10 hb h_10.lt
  have h_21 := row_below h_20 hb h_20.lt
  have hB1 := hB0.trans (hb.mono hB0.size)
  clear hb hI0 hB0 h_00 h_10 h_20 H_0 H_1 H_2
  have H_0 := veil (blk9 h_01)
  have H_1 := veil (blk9 h_11)
  have H_2 := veil (blk9 h_21)
  go_wp2_with (((with_reducible refine at_slot 25 ?_); refine wpList_load_row rfl 26 _ rfl w.heap.size rfl 26 #[.int .u64 (wd (X0) 0), .int .u64 (wd (X0) 1), .int .u64 (wd (X0) 2), .int .u64 (wd (X0) 3), .int .u64 (wd (Y0) 0), .int .u64 (wd (Y0) 1), .int .u64 (wd (Y0) 2), .int .u64 (wd (Y0) 3), .bool (f0)] (0, 0) _ H_0.out Try.underlying26 rfl info_pt ?_))
  refine (K0.out _ hI1).mono ?_
  rintro e w2 ⟨rfl, hb⟩
  have hI2 := C.keep _ _ hI1 hb
  have h_02 := row_below h_01 hb h_01.lt
  have h_12 := row_below h_11 hb h_11.lt
  have h_22 := row_below h_21 hb h_21.lt
  have hB2 := hB1.trans (hb.mono hB1.size)
  clear hb hI1 hB1 h_01 h_11 h_21 H_0 H_1 H_2
  have H_0 := veil (blk9 h_02)
  have H_1 := veil (blk9 h_12)
  have H_2 := veil (blk9 h_22)
  go_wp2_with (((with_reducible refine at_slot 29 ?_); refine wpList_load_rowG (by rfl) 26 _ rfl (w.heap.size + 1) rfl 26 #[.int .u64 (wd (X1) 0), .int .u64 (wd (X1) 1), .int .u64 (wd (X1) 2), .int .u64 (wd (X1) 3), .int .u64 (wd (Y1) 0), .int .u64 (wd (Y1) 1), .int .u64 (wd (Y1) 2), .int .u64 (wd (Y1) 3), .bool (f1)] (0, 0) _ H_1.out Try.underlying26 rfl info_pt ?_))
  refine (K1.out _ hI2).mono ?_
  rintro e w3 ⟨rfl, hb⟩
  have hI3 := C.keep _ _ hI2 hb
  have h_03 := row_below h_02 hb h_02.lt
  have h_13 := row_below h_12 hb h_12.lt
  have h_23 := row_below h_22 hb h_22.lt
  have hB3 := hB2.trans (hb.mono hB2.size)
  clear hb hI2 hB2 h_02 h_12 h_22 H_0 H_1 H_2
  have H_0 := veil (blk9 h_03)
  have H_1 := veil (blk9 h_13)
  have H_2 := veil (blk9 h_23)
  go_wp2_with (((with_reducible refine at_slot 34 ?_); refine wpList_load_rowG (by rfl) 26 _ rfl (w.heap.size + 1 + 1) rfl 26 #[.int .u64 (wd (X2) 0), .int .u64 (wd (X2) 1), .int .u64 (wd (X2) 2), .int .u64 (wd (X2) 3), .int .u64 (wd (Y2) 0), .int .u64 (wd (Y2) 1), .int .u64 (wd (Y2) 2), .int .u64 (wd (Y2) 3), .bool (f2)] (0, 0) _ H_2.out Try.underlying26 rfl info_pt ?_))
  refine (K2.out _ hI3).mono ?_
  rintro e w4 ⟨rfl, hb⟩
  have hI4 := C.keep _ _ hI3 hb
  have h_04 := row_below h_03 hb h_03.lt
  have h_14 := row_below h_13 hb h_13.lt
  have h_24 := row_below h_23 hb h_23.lt
  have hB4 := hB3.trans (hb.mono hB3.size)
  clear hb hI3 hB3 h_03 h_13 h_23 H_0 H_1 H_2
  have H_0 := veil (blk9 h_04)
  have H_1 := veil (blk9 h_14)
  have H_2 := veil (blk9 h_24)
  clear H_0 H_1 H_2 h_04 h_14 h_24
  go_wp2
  go_ret
  exact ⟨rfl, hB4⟩

set_option maxRecDepth 100000 in
theorem group_walk {I : World → Prop} (C : Code I) (up : ∀ w, I w → Calls Try.prog 9 #[] w fun e w' => e = .returned (.bool true) ∧ Below w.heap.size w w') (X0 Y0 : Nat) (f0 : Bool) (X1 Y1 : Nat) (f1 : Bool) (X2 Y2 : Nat) (f2 : Bool)
    (hX0 : X0 < top) (hY0 : Y0 < top) (hX1 : X1 < top) (hY1 : Y1 < top) (hX2 : X2 < top) (hY2 : Y2 < top) (w : World) (hI : I w) :
    Calls Try.prog 6 #[.agg #[.int .u64 (wd (X0) 0), .int .u64 (wd (X0) 1), .int .u64 (wd (X0) 2), .int .u64 (wd (X0) 3), .int .u64 (wd (Y0) 0), .int .u64 (wd (Y0) 1), .int .u64 (wd (Y0) 2), .int .u64 (wd (Y0) 3), .bool (f0)], .agg #[.int .u64 (wd (X1) 0), .int .u64 (wd (X1) 1), .int .u64 (wd (X1) 2), .int .u64 (wd (X1) 3), .int .u64 (wd (Y1) 0), .int .u64 (wd (Y1) 1), .int .u64 (wd (Y1) 2), .int .u64 (wd (Y1) 3), .bool (f1)], .agg #[.int .u64 (wd (X2) 0), .int .u64 (wd (X2) 1), .int .u64 (wd (X2) 2), .int .u64 (wd (X2) 3), .int .u64 (wd (Y2) 0), .int .u64 (wd (Y2) 1), .int .u64 (wd (Y2) 2), .int .u64 (wd (Y2) 3), .bool (f2)]] w fun e w' => e = .returned (.bool true) ∧ Below w.heap.size w w' := by
  cases q0 : onB X0 Y0 f0 with
  | false => exact group_off0 C up X0 Y0 X1 Y1 X2 Y2 f0 f1 f2 hX0 hY0 q0 w hI
  | true =>
    cases q1 : onB X1 Y1 f1 with
    | false => exact group_off1 C up X0 Y0 X1 Y1 X2 Y2 f0 f1 f2 hX0 hY0 hX1 hY1 q0 q1 w hI
    | true =>
      cases q2 : onB X2 Y2 f2 with
      | false => exact group_off2 C up X0 Y0 X1 Y1 X2 Y2 f0 f1 f2 hX0 hY0 hX1 hY1 hX2 hY2 q0 q1 q2 w hI
      | true =>
        obtain ⟨a, rfl, rfl, rfl⟩ := onB_some q0
        obtain ⟨b, rfl, rfl, rfl⟩ := onB_some q1
        obtain ⟨c, rfl, rfl, rfl⟩ := onB_some q2
        exact group_on C up a b c w hI
end Go.Proofs.Ytppfcdpokgnpfaa


/-
  clapperlaw05.up: the document's example, under what is asked of the code.
-/
namespace Go.Proofs.Ytppfcdpokgnpfaa
open Go.RowKit

set_option maxRecDepth 100000 in
theorem on_base : onB Pt.gx Pt.gy false = true := by decide +kernel
set_option maxRecDepth 100000 in
theorem on_nil : onB 0 0 false = false := by decide +kernel
set_option maxRecDepth 100000 in
set_option maxHeartbeats 8000000 in
theorem up5_calls {I : World → Prop} (C : Code I) (w : World) (hI0 : I w) : Calls Try.prog 9 #[] w fun e w' => e = .returned (.bool true) ∧ Below w.heap.size w w' := by
  obtain ⟨g, g1, g2, g3⟩ := onB_some on_base
  obtain ⟨h, hh⟩ : ∃ h, Pt.grp.ng g = h := ⟨_, rfl⟩
  obtain ⟨n, hn⟩ : ∃ n, Pt.grp.op g h = n := ⟨_, rfl⟩
  have hno : n = Pt.grp.o := by rw [← hn, ← hh, Pt.grp.ngo]
  have HN := veil (fun W => eqlFar n hno W)
  have Km := veil (C.negIs hh)
  have Kn := veil (C.addIs hn)
  have kb := C.base
  rw [g1, g2] at kb
  have KB := veil (show ∀ w, I w → Calls Try.prog 18 #[] w fun e w' => e = .returned (.agg #[.int .u64 (wd (Pt.pX g.1) 0), .int .u64 (wd (Pt.pX g.1) 1), .int .u64 (wd (Pt.pX g.1) 2), .int .u64 (wd (Pt.pX g.1) 3), .int .u64 (wd (Pt.pY g.1) 0), .int .u64 (wd (Pt.pY g.1) 1), .int .u64 (wd (Pt.pY g.1) 2), .int .u64 (wd (Pt.pY g.1) 3), .bool (Pt.pFar g.1)]) ∧ Below w.heap.size w w' from g3 ▸ kb)
  have kz := fun w => C.onIs 0 0 false (by decide) (by decide) on_nil w
  simp only [wd_nil] at kz
  have KZ := veil (show ∀ w, I w → Calls Try.prog 13 #[.agg #[.int .u64 0, .int .u64 0, .int .u64 0, .int .u64 0, .int .u64 0, .int .u64 0, .int .u64 0, .int .u64 0, .bool false]] w fun e w' => e = .returned (.bool false) ∧ Below w.heap.size w w' from kz)
  clear hh hn hno kb kz g1 g2 g3
  have hB0 : Below w.heap.size w w := Below.refl _ _
  go_enter Try.func9, Try.ntmps9
  go_wp2_with fail
  refine (KB.out _ hI0).mono ?_
  rintro e w1 ⟨rfl, hb⟩
  have hI1 := C.keep _ _ hI0 hb
  have hB1 := hB0.trans (hb.mono hB0.size)
  clear hb hI0 hB0
  have hz := zero_row (w := w1) (t := 26) rfl
  have HZ := veil (blkOf hz)
  have hb : Below w1.heap.size w1 ((w1.alloc (.cells #[.int .u64 0, .int .u64 0, .int .u64 0, .int .u64 0, .int .u64 0, .int .u64 0, .int .u64 0, .int .u64 0, .bool false] 26)).setRow w1.heap.size #[.int .u64 (wd (Pt.pX g.1) 0), .int .u64 (wd (Pt.pX g.1) 1), .int .u64 (wd (Pt.pX g.1) 2), .int .u64 (wd (Pt.pX g.1) 3), .int .u64 (wd (Pt.pY g.1) 0), .int .u64 (wd (Pt.pY g.1) 1), .int .u64 (wd (Pt.pY g.1) 2), .int .u64 (wd (Pt.pY g.1) 3), .bool (Pt.pFar g.1)]) := below_setRow ((Below.refl _ _).alloc (Nat.le_refl _) _) (Nat.le_refl _) _
  have h_g2 := row_setRow hz (a := #[.int .u64 (wd (Pt.pX g.1) 0), .int .u64 (wd (Pt.pX g.1) 1), .int .u64 (wd (Pt.pX g.1) 2), .int .u64 (wd (Pt.pX g.1) 3), .int .u64 (wd (Pt.pY g.1) 0), .int .u64 (wd (Pt.pY g.1) 1), .int .u64 (wd (Pt.pY g.1) 2), .int .u64 (wd (Pt.pY g.1) 3), .bool (Pt.pFar g.1)]) rfl (arr9 _ _ _)
  clear hz
  have hI2 := C.keep _ _ hI1 hb
  have hB2 := hB1.trans (hb.mono hB1.size)
  clear hb hI1 hB1 
  go_upto_region 2 with ((with_reducible refine at_none ?_); refine wpList_store_row rfl 26 _ _ rfl w1.heap.size #[.int .u64 (wd (Pt.pX g.1) 0), .int .u64 (wd (Pt.pX g.1) 1), .int .u64 (wd (Pt.pX g.1) 2), .int .u64 (wd (Pt.pX g.1) 3), .int .u64 (wd (Pt.pY g.1) 0), .int .u64 (wd (Pt.pY g.1) 1), .int .u64 (wd (Pt.pY g.1) 2), .int .u64 (wd (Pt.pY g.1) 3), .bool (Pt.pFar g.1)] rfl rfl 26 _ HZ.out info_pt (by rw [arrOf_size]; rfl) (one9 _ _ _) ?_)
  generalize (w1.alloc (.cells #[.int .u64 0, .int .u64 0, .int .u64 0, .int .u64 0, .int .u64 0, .int .u64 0, .int .u64 0, .int .u64 0, .bool false] 26)).setRow w1.heap.size #[.int .u64 (wd (Pt.pX g.1) 0), .int .u64 (wd (Pt.pX g.1) 1), .int .u64 (wd (Pt.pX g.1) 2), .int .u64 (wd (Pt.pX g.1) 3), .int .u64 (wd (Pt.pY g.1) 0), .int .u64 (wd (Pt.pY g.1) 1), .int .u64 (wd (Pt.pY g.1) 2), .int .u64 (wd (Pt.pY g.1) 3), .bool (Pt.pFar g.1)] = w2 at *
  clear HZ
  have H_g := veil (blk9 h_g2)
  go_wp2_with ((with_reducible refine at_slot 8 ?_); refine wpList_load_row rfl 26 _ rfl w1.heap.size rfl 26 #[.int .u64 (wd (Pt.pX g.1) 0), .int .u64 (wd (Pt.pX g.1) 1), .int .u64 (wd (Pt.pX g.1) 2), .int .u64 (wd (Pt.pX g.1) 3), .int .u64 (wd (Pt.pY g.1) 0), .int .u64 (wd (Pt.pY g.1) 1), .int .u64 (wd (Pt.pY g.1) 2), .int .u64 (wd (Pt.pY g.1) 3), .bool (Pt.pFar g.1)] (0, 0) _ H_g.out Try.underlying26 rfl info_pt ?_)
  refine (Km.out _ hI2).mono ?_
  rintro e w3 ⟨rfl, hb⟩
  have hI3 := C.keep _ _ hI2 hb
  have h_g3 := row_below h_g2 hb h_g2.lt
  have hB3 := hB2.trans (hb.mono hB2.size)
  clear hb hI2 hB2 h_g2 H_g
  have hz := zero_row (w := w3) (t := 26) rfl
  have HZ := veil (blkOf hz)
  have hb : Below w3.heap.size w3 ((w3.alloc (.cells #[.int .u64 0, .int .u64 0, .int .u64 0, .int .u64 0, .int .u64 0, .int .u64 0, .int .u64 0, .int .u64 0, .bool false] 26)).setRow w3.heap.size #[.int .u64 (wd (Pt.pX h.1) 0), .int .u64 (wd (Pt.pX h.1) 1), .int .u64 (wd (Pt.pX h.1) 2), .int .u64 (wd (Pt.pX h.1) 3), .int .u64 (wd (Pt.pY h.1) 0), .int .u64 (wd (Pt.pY h.1) 1), .int .u64 (wd (Pt.pY h.1) 2), .int .u64 (wd (Pt.pY h.1) 3), .bool (Pt.pFar h.1)]) := below_setRow ((Below.refl _ _).alloc (Nat.le_refl _) _) (Nat.le_refl _) _
  have h_h4 := row_setRow hz (a := #[.int .u64 (wd (Pt.pX h.1) 0), .int .u64 (wd (Pt.pX h.1) 1), .int .u64 (wd (Pt.pX h.1) 2), .int .u64 (wd (Pt.pX h.1) 3), .int .u64 (wd (Pt.pY h.1) 0), .int .u64 (wd (Pt.pY h.1) 1), .int .u64 (wd (Pt.pY h.1) 2), .int .u64 (wd (Pt.pY h.1) 3), .bool (Pt.pFar h.1)]) rfl (arr9 _ _ _)
  clear hz
  have hI4 := C.keep _ _ hI3 hb
  have h_g4 := row_below h_g3 hb h_g3.lt
  have hB4 := hB3.trans (hb.mono hB3.size)
  clear hb hI3 hB3 h_g3
  go_upto_region 3 with ((with_reducible refine at_none ?_); refine wpList_store_row rfl 26 _ _ rfl w3.heap.size #[.int .u64 (wd (Pt.pX h.1) 0), .int .u64 (wd (Pt.pX h.1) 1), .int .u64 (wd (Pt.pX h.1) 2), .int .u64 (wd (Pt.pX h.1) 3), .int .u64 (wd (Pt.pY h.1) 0), .int .u64 (wd (Pt.pY h.1) 1), .int .u64 (wd (Pt.pY h.1) 2), .int .u64 (wd (Pt.pY h.1) 3), .bool (Pt.pFar h.1)] rfl rfl 26 _ HZ.out info_pt (by rw [arrOf_size]; rfl) (one9 _ _ _) ?_)
  generalize (w3.alloc (.cells #[.int .u64 0, .int .u64 0, .int .u64 0, .int .u64 0, .int .u64 0, .int .u64 0, .int .u64 0, .int .u64 0, .bool false] 26)).setRow w3.heap.size #[.int .u64 (wd (Pt.pX h.1) 0), .int .u64 (wd (Pt.pX h.1) 1), .int .u64 (wd (Pt.pX h.1) 2), .int .u64 (wd (Pt.pX h.1) 3), .int .u64 (wd (Pt.pY h.1) 0), .int .u64 (wd (Pt.pY h.1) 1), .int .u64 (wd (Pt.pY h.1) 2), .int .u64 (wd (Pt.pY h.1) 3), .bool (Pt.pFar h.1)] = w4 at *
  clear HZ
  have H_g := veil (blk9 h_g4)
  have H_h := veil (blk9 h_h4)
  go_wp2_with (first
    | ((with_reducible refine at_slot 13 ?_); refine wpList_load_row rfl 26 _ rfl w1.heap.size rfl 26 #[.int .u64 (wd (Pt.pX g.1) 0), .int .u64 (wd (Pt.pX g.1) 1), .int .u64 (wd (Pt.pX g.1) 2), .int .u64 (wd (Pt.pX g.1) 3), .int .u64 (wd (Pt.pY g.1) 0), .int .u64 (wd (Pt.pY g.1) 1), .int .u64 (wd (Pt.pY g.1) 2), .int .u64 (wd (Pt.pY g.1) 3), .bool (Pt.pFar g.1)] (0, 0) _ H_g.out Try.underlying26 rfl info_pt ?_)
    | ((with_reducible refine at_slot 14 ?_); refine wpList_load_row rfl 26 _ rfl w3.heap.size rfl 26 #[.int .u64 (wd (Pt.pX h.1) 0), .int .u64 (wd (Pt.pX h.1) 1), .int .u64 (wd (Pt.pX h.1) 2), .int .u64 (wd (Pt.pX h.1) 3), .int .u64 (wd (Pt.pY h.1) 0), .int .u64 (wd (Pt.pY h.1) 1), .int .u64 (wd (Pt.pY h.1) 2), .int .u64 (wd (Pt.pY h.1) 3), .bool (Pt.pFar h.1)] (0, 0) _ H_h.out Try.underlying26 rfl info_pt ?_))
  refine (Kn.out _ hI4).mono ?_
  rintro e w5 ⟨rfl, hb⟩
  have hI5 := C.keep _ _ hI4 hb
  have h_g5 := row_below h_g4 hb h_g4.lt
  have h_h5 := row_below h_h4 hb h_h4.lt
  have hB5 := hB4.trans (hb.mono hB4.size)
  clear hb hI4 hB4 h_g4 H_g h_h4 H_h
  have hz := zero_row (w := w5) (t := 26) rfl
  have HZ := veil (blkOf hz)
  have hb : Below w5.heap.size w5 ((w5.alloc (.cells #[.int .u64 0, .int .u64 0, .int .u64 0, .int .u64 0, .int .u64 0, .int .u64 0, .int .u64 0, .int .u64 0, .bool false] 26)).setRow w5.heap.size #[.int .u64 (wd (Pt.pX n.1) 0), .int .u64 (wd (Pt.pX n.1) 1), .int .u64 (wd (Pt.pX n.1) 2), .int .u64 (wd (Pt.pX n.1) 3), .int .u64 (wd (Pt.pY n.1) 0), .int .u64 (wd (Pt.pY n.1) 1), .int .u64 (wd (Pt.pY n.1) 2), .int .u64 (wd (Pt.pY n.1) 3), .bool (Pt.pFar n.1)]) := below_setRow ((Below.refl _ _).alloc (Nat.le_refl _) _) (Nat.le_refl _) _
  have h_n6 := row_setRow hz (a := #[.int .u64 (wd (Pt.pX n.1) 0), .int .u64 (wd (Pt.pX n.1) 1), .int .u64 (wd (Pt.pX n.1) 2), .int .u64 (wd (Pt.pX n.1) 3), .int .u64 (wd (Pt.pY n.1) 0), .int .u64 (wd (Pt.pY n.1) 1), .int .u64 (wd (Pt.pY n.1) 2), .int .u64 (wd (Pt.pY n.1) 3), .bool (Pt.pFar n.1)]) rfl (arr9 _ _ _)
  clear hz
  have hI6 := C.keep _ _ hI5 hb
  have h_g6 := row_below h_g5 hb h_g5.lt
  have h_h6 := row_below h_h5 hb h_h5.lt
  have hB6 := hB5.trans (hb.mono hB5.size)
  clear hb hI5 hB5 h_g5 h_h5
  go_upto_region 4 with ((with_reducible refine at_none ?_); refine wpList_store_row rfl 26 _ _ rfl w5.heap.size #[.int .u64 (wd (Pt.pX n.1) 0), .int .u64 (wd (Pt.pX n.1) 1), .int .u64 (wd (Pt.pX n.1) 2), .int .u64 (wd (Pt.pX n.1) 3), .int .u64 (wd (Pt.pY n.1) 0), .int .u64 (wd (Pt.pY n.1) 1), .int .u64 (wd (Pt.pY n.1) 2), .int .u64 (wd (Pt.pY n.1) 3), .bool (Pt.pFar n.1)] rfl rfl 26 _ HZ.out info_pt (by rw [arrOf_size]; rfl) (one9 _ _ _) ?_)
  generalize (w5.alloc (.cells #[.int .u64 0, .int .u64 0, .int .u64 0, .int .u64 0, .int .u64 0, .int .u64 0, .int .u64 0, .int .u64 0, .bool false] 26)).setRow w5.heap.size #[.int .u64 (wd (Pt.pX n.1) 0), .int .u64 (wd (Pt.pX n.1) 1), .int .u64 (wd (Pt.pX n.1) 2), .int .u64 (wd (Pt.pX n.1) 3), .int .u64 (wd (Pt.pY n.1) 0), .int .u64 (wd (Pt.pY n.1) 1), .int .u64 (wd (Pt.pY n.1) 2), .int .u64 (wd (Pt.pY n.1) 3), .bool (Pt.pFar n.1)] = w6 at *
  clear HZ
  have H_g := veil (blk9 h_g6)
  have H_h := veil (blk9 h_h6)
  have H_n := veil (blk9 h_n6)
  go_wp2_with ((with_reducible refine at_slot 18 ?_); refine wpList_load_row rfl 26 _ rfl w1.heap.size rfl 26 #[.int .u64 (wd (Pt.pX g.1) 0), .int .u64 (wd (Pt.pX g.1) 1), .int .u64 (wd (Pt.pX g.1) 2), .int .u64 (wd (Pt.pX g.1) 3), .int .u64 (wd (Pt.pY g.1) 0), .int .u64 (wd (Pt.pY g.1) 1), .int .u64 (wd (Pt.pY g.1) 2), .int .u64 (wd (Pt.pY g.1) 3), .bool (Pt.pFar g.1)] (0, 0) _ H_g.out Try.underlying26 rfl info_pt ?_)
  refine ((C.onQ g) _ hI6).mono ?_
  rintro e w7 ⟨rfl, hb⟩
  have hI7 := C.keep _ _ hI6 hb
  have h_g7 := row_below h_g6 hb h_g6.lt
  have h_h7 := row_below h_h6 hb h_h6.lt
  have h_n7 := row_below h_n6 hb h_n6.lt
  have hB7 := hB6.trans (hb.mono hB6.size)
  clear hb hI6 hB6 h_g6 H_g h_h6 H_h h_n6 H_n
  have H_g := veil (blk9 h_g7)
  have H_h := veil (blk9 h_h7)
  have H_n := veil (blk9 h_n7)
  go_wp2_with fail
  refine (KZ.out _ hI7).mono ?_
  rintro e w8 ⟨rfl, hb⟩
  have hI8 := C.keep _ _ hI7 hb
  have h_g8 := row_below h_g7 hb h_g7.lt
  have h_h8 := row_below h_h7 hb h_h7.lt
  have h_n8 := row_below h_n7 hb h_n7.lt
  have hB8 := hB7.trans (hb.mono hB7.size)
  clear hb hI7 hB7 h_g7 H_g h_h7 H_h h_n7 H_n
  have H_g := veil (blk9 h_g8)
  have H_h := veil (blk9 h_h8)
  have H_n := veil (blk9 h_n8)
  have k4 := fun W => HN.out W
  clear HN KB Km Kn KZ
  go_wp2_with (((with_reducible refine at_slot 34 ?_); refine wpList_load_rowG (by rfl) 26 _ rfl w5.heap.size rfl 26 #[.int .u64 (wd (Pt.pX n.1) 0), .int .u64 (wd (Pt.pX n.1) 1), .int .u64 (wd (Pt.pX n.1) 2), .int .u64 (wd (Pt.pX n.1) 3), .int .u64 (wd (Pt.pY n.1) 0), .int .u64 (wd (Pt.pY n.1) 1), .int .u64 (wd (Pt.pY n.1) 2), .int .u64 (wd (Pt.pY n.1) 3), .bool (Pt.pFar n.1)] (0, 0) _ H_n.out Try.underlying26 rfl info_pt ?_))
  go_ret
  exact ⟨rfl, hB8⟩
end Go.Proofs.Ytppfcdpokgnpfaa


/-
  What the laws' own walks share: comparisons.
-/
namespace Go.Proofs.Ytppfcdpokgnpfaa
open Go.RowKit

section
variable {P : Program} {o : Oper} {a : Act} {w : World}
theorem made_bin {op : BinOp} {x y : Operand} {ty ty2 : TypeId} {u v r : Value} (ho : o.op = .binOp op ty x y ty2) (hx : a.eval x = u) (hy : a.eval y = v)
    (hg : ∀ W, (eqGuard op ty x y u v).run P W = .ok () W) (hr : ∀ W, (binOp op ty u v).run P W = .ok r W) : Made P o r a w := made_val fun W _ => by
  unfold execOp
  simp only [ho, hx, hy, Sem.run_bind, hg W, Result.andThen_ok, hr W, Sem.run_pure]
theorem made_slice {ty : TypeId} {x : Operand} {lo hi mx : Option Operand} {u v : Value} (ho : o.op = .slice ty x lo hi mx) (hx : a.eval x = u)
    (h : ∀ W, (Instr.sliceAt ty u (lo.map a.eval) (hi.map a.eval) (mx.map a.eval)).run P W = .ok v W) : Made P o v a w := made_val fun W _ => by
  unfold execOp
  simp only [ho, hx, Sem.run_bind, h W, Result.andThen_ok, Sem.run_pure]
theorem neq_of {t : TypeId} {c d : Array Value} {b r : Bool} {W : World} (h : (binOp .eql t (.agg c) (.agg d)).run P W = .ok (.bool b) W) (hr : (!b) = r) : (binOp .neq t (.agg c) (.agg d)).run P W = .ok (.bool r) W := by
  subst hr
  have h1 : (do pure (Value.bool (← Op.equal t (.agg c) (.agg d))) : Sem Value).run P W = .ok (.bool b) W := h
  show (do pure (Value.bool (!(← Op.equal t (.agg c) (.agg d)))) : Sem Value).run P W = .ok (.bool (!b)) W
  simp only [Sem.run_bind, Sem.run_pure] at h1 ⊢
  generalize (Op.equal t (.agg c) (.agg d)).run P W = r at h1 ⊢
  cases r with
  | ok v w' =>
    simp only [Result.andThen_ok, Result.ok.injEq, Value.bool.injEq] at h1 ⊢
    exact ⟨by rw [h1.1], h1.2⟩
  | halt x w' => simp [Result.andThen] at h1
end
theorem eqN {X : Nat} (W : World) : (binOp .eql 24 (nv X) (nv X)).run Try.prog W = .ok (.bool true) W := eql_num_same X W
theorem neN {X : Nat} (W : World) : (binOp .neq 24 (nv X) (nv X)).run Try.prog W = .ok (.bool false) W := neq_of (eqN W) rfl
theorem eqT {X Y : Nat} {f : Bool} (hX : X < top) (hY : Y < top) (W : World) : (binOp .eql 26 (qv X Y f) (qv X Y f)).run Try.prog W = .ok (.bool true) W := by
  have e := eql_pt hX hY hX hY f f W
  rw [decide_eq_true ⟨rfl, rfl, rfl⟩] at e
  exact e
theorem neT {X Y : Nat} {f : Bool} (hX : X < top) (hY : Y < top) (W : World) : (binOp .neq 26 (qv X Y f) (qv X Y f)).run Try.prog W = .ok (.bool false) W := neq_of (eqT hX hY W) rfl
theorem eqE (W : World) : (binOp .eql 30 (.iface 37 (.int .i64 1)) (.iface 37 (.int .i64 1))).run Try.prog W = .ok (.bool true) W := by kernel_rfl
theorem gN (X Y : Nat) (op : BinOp) (x y : Operand) (W : World) : (eqGuard op 24 x y (nv X) (nv Y)).run Try.prog W = .ok () W := by
  unfold nv nc
  cases op <;> simp [eqGuard, go_sem]
theorem gT (X Y X' Y' : Nat) (f f' : Bool) (op : BinOp) (x y : Operand) (W : World) : (eqGuard op 26 x y (qv X Y f) (qv X' Y' f')).run Try.prog W = .ok () W := by
  unfold qv qc
  cases op <;> simp [eqGuard, go_sem]
theorem hsN (X : Nat) : (#[.int .u64 0, .int .u64 0, .int .u64 0, .int .u64 0] : Array Value).size = (nc X).size := by simp [nc]
theorem hsT (X Y : Nat) (f : Bool) : (#[.int .u64 0, .int .u64 0, .int .u64 0, .int .u64 0, .int .u64 0, .int .u64 0, .int .u64 0, .int .u64 0, .bool false] : Array Value).size = (qc X Y f).size := by simp [qc]
theorem g_top : Pt.gx < top ∧ Pt.gy < top := by decide +kernel
/-- The document's answers. -/
theorem rOn_yes (q : Pt.Q) (w : World) : Calls Try.prog 10 #[qvP q.1] w fun e w' => e = .returned (.bool true) ∧ Ext w w' := by
  have k := ron_calls (Pt.pX q.1) (Pt.pY q.1) (Pt.pFar q.1) (p_top q.1).1 (p_top q.1).2 w
  rw [onB_of] at k
  exact k
theorem rOn_no {X Y : Nat} {f : Bool} (hX : X < top) (hY : Y < top) (h : onB X Y f = false) (w : World) : Calls Try.prog 10 #[qv X Y f] w fun e w' => e = .returned (.bool false) ∧ Ext w w' := by
  have k := ron_calls X Y f hX hY w
  rw [h] at k
  exact k
theorem pOn_yes (q : Pt.Q) (w : World) : Calls Try.prog 13 #[qvP q.1] w fun e w' => e = .returned (.bool true) ∧ Ext w w' := by
  have k := on_is (Pt.pX q.1) (Pt.pY q.1) (Pt.pFar q.1) (p_top q.1).1 (p_top q.1).2 w
  rw [onB_of] at k
  exact k
theorem pOn_no {X Y : Nat} {f : Bool} (hX : X < top) (hY : Y < top) (h : onB X Y f = false) (w : World) : Calls Try.prog 13 #[qv X Y f] w fun e w' => e = .returned (.bool false) ∧ Ext w w' := by
  have k := on_is X Y f hX hY w
  rw [h] at k
  exact k
theorem up_is (w : World) : Calls Try.prog 9 #[] w fun e w' => e = .returned (.bool true) ∧ Ext w w' := up5_calls code w trivial
theorem pNeg_yes (q : Pt.Q) (w : World) : Calls Try.prog 12 #[qvP q.1] w fun e w' => e = .returned (.tuple #[qvP (Pt.grp.ng q).1, .nilIface]) ∧ Ext w w' := code.neg q w trivial
theorem rNeg_is (q : Pt.Q) (w : World) : Calls Try.prog 20 #[qvP q.1] w fun e w' => e = .returned (qvP (Pt.grp.ng q).1) ∧ Ext w w' := rneg_calls q w
theorem rAdd_is (q r : Pt.Q) (w : World) : Calls Try.prog 21 #[qvP q.1, qvP r.1] w fun e w' => e = .returned (qvP (Pt.grp.op q r).1) ∧ Ext w w' := rplus_calls q r w
theorem rP_is (w : World) : Calls Try.prog 15 #[] w fun e w' => e = .returned (nv Pt.pp) ∧ Ext w w' := rp_calls w
theorem rN_is (w : World) : Calls Try.prog 17 #[] w fun e w' => e = .returned (nv Pt.nn) ∧ Ext w w' := rn_calls w
theorem pN_is (w : World) : Calls Try.prog 16 #[] w fun e w' => e = .returned (nv Pt.nn) ∧ Ext w w' := pN_calls w
theorem rBase_is (w : World) : Calls Try.prog 19 #[] w fun e w' => e = .returned (qv Pt.gx Pt.gy false) ∧ Ext w w' := rbase_calls w
end Go.Proofs.Ytppfcdpokgnpfaa
