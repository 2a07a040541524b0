/-
  A slice that the call owns, its cells by a function of the index: one element of one cell; what is appended lies anywhere, or is nothing.
-/
import Derived.Test.YtoikgkjkcampkaaRow
import Derived.WalkKit
import Derived.OwnWalk
import Derived.RegionTactic
import Derived.Deep.AppendLies
import Derived.Maps.AppendAt
namespace Go.Proofs.Ytoikgkjkcampkaa
open Go.RowKit

/-- v is a slice of n elements f 0, f 1 .. of type e, its own block from 'base' on (or nil). -/
def Own (w : World) (base e : Nat) (v : Value) (n : Nat) (f : Nat → Value) : Prop := w.ownsRow base e 1 v n ((List.range n).map f)
section
variable {w w' : World} {base e n : Nat} {v : Value} {f h : Nat → Value}
theorem Own.congr (o : Own w base e v n f) (hf : ∀ i, i < n → f i = h i) : Own w base e v n h := by
  unfold Own at *
  have : (List.range n).map f = (List.range n).map h := List.map_congr_left fun i hi => hf i (by simpa using hi)
  rw [← this]; exact o
theorem Own.nil (w : World) (base e : Nat) (f : Nat → Value) : Own w base e (.slice none 0 0) 0 f := World.ownsRow_nil _ _ _ _
theorem Own.made (w : World) {cs : Array Value} {base : Nat} (hb : base ≤ w.heap.size) (hm : cs.size ≤ maxLen) (hf : ∀ i, i < cs.size → cs[i]? = some (f i)) :
    Own (w.alloc (.cells cs e)) base e (.slice (some ⟨w.heap.size, 0, none⟩) cs.size cs.size) cs.size f := by
  refine ⟨by simp, .inr ⟨w.heap.size, cs.size, cs, rfl, hb, heap_alloc_new w _, Nat.le_refl _, hm, by simp, ?_⟩⟩
  rw [Nat.mul_one, List.take_of_length_le (by simp)]
  apply List.ext_getElem?
  intro i
  by_cases hi : i < cs.size
  · simp [hi]; have := hf i hi; simpa [hi] using this
  · simp [hi]
theorem Own.alloc (o : Own w base e v n f) (ob : Obj) : Own (w.alloc ob) base e v n f := World.ownsRow.alloc o ob
theorem Own.drew (o : Own w base e v n f) : Own w.drew base e v n f := o
theorem Own.drewN (o : Own w base e v n f) (k : Nat) : Own (w.drewN k) base e v n f := o
theorem Own.lt (o : Own w base e v n f) {k : Nat} (hk : v.ownBlock = some k) : base ≤ k ∧ k < w.heap.size := World.ownsRow.lt o k hk
theorem Own.kept {row : Option Nat} (o : Own w base e v n f) (hg : w.grownBy w' row) (hne : v.ownBlock = none ∨ v.ownBlock ≠ row) : Own w' base e v n f := World.ownsRow.kept o hg hne
theorem Own.below {B : Nat} (o : Own w base e v n f) (hb : Below B w w') (hB : w.heap.size ≤ B) : Own w' base e v n f := by
  refine ⟨o.1, ?_⟩
  rcases o.2 with hn | ⟨g, cap, cur, rfl, hbg, hh, rest⟩
  · exact .inl hn
  · exact .inr ⟨g, cap, cur, rfl, hbg, (hb.block g (by have := (Array.getElem?_eq_some_iff.1 hh).1; omega)).trans hh, rest⟩
theorem Own.base_le {base' : Nat} (o : Own w base e v n f) (hb : base' ≤ base) : Own w base' e v n f :=
  ⟨o.1, o.2.elim .inl fun ⟨g, cap, cur, hv, hg, r⟩ => .inr ⟨g, cap, cur, hv, Nat.le_trans hb hg, r⟩⟩
/-- It lies in a block, if it has an element. -/
theorem Own.pre (o : Own w base e v n f) (hn : 0 < n) : ∃ g cap, v = .slice (some ⟨g, 0, none⟩) n cap ∧ n ≤ cap ∧ base ≤ g ∧ Pre w g e n f := Pre.of_own o hn
end

/-- The cells that are appended: m of them, y 0, y 1 ..; anywhere; or nothing. -/
def From (w : World) (A : Option Addr) (m : Nat) (y : Nat → Value) : Prop := m = 0 ∨ ∃ ad, A = some ad ∧ ∀ j, j < m → w.cell? (ad.add j) = some (y j)
theorem own_append {P : Program} (w : World) (base t ty e : Nat) (i : TypeInfo) (z : Value) (bytes : Nat) (ht : P.underlying t = some (.slice e)) (hi : P.info? e = some i) (hz : i.zero = some z) (hsize : i.size = 1) (hby : i.bytes = bytes) (hzs : z.cells.size = 1)
    (v : Value) (n : Nat) (f : Nat → Value) (hown : Own w base e v n f) (A : Option Addr) (m c : Nat) (y : Nat → Value) (hs : From w A m y) (h1 : ∀ j, (y j).oneCell' = true)
    (h63 : n + m ≤ maxLen) (hbytes : (n + m) * bytes ≤ 140737488355328) (hbase : base ≤ w.heap.size) :
    ∃ v' w', (Builtin.append_ #[t, t] ty #[v, .slice A m c]).run P w = .ok v' w' ∧ Own w' base e v' (n + m) (fun j => if j < n then f j else y (j - n)) ∧ w.grownBy w' v.ownBlock ∧ (v'.ownBlock = v.ownBlock ∨ v'.ownBlock = some w.heap.size) ∧ (∀ g, v.ownBlock = some g → ∀ j, j < n → w'.cell? ⟨g, j, none⟩ = w.cell? ⟨g, j, none⟩) := by
  have hl : (List.range n).map f ++ (List.range m).map y = (List.range (n + m)).map (fun j => if j < n then f j else y (j - n)) := by
    apply List.ext_getElem?
    intro k
    by_cases h1 : k < n
    · rw [List.getElem?_append_left (by simpa using h1)]; simp [h1, show k < n + m by omega]
    · rw [List.getElem?_append_right (by simpa using Nat.le_of_not_lt h1)]
      by_cases h2 : k < n + m
      · simp [h1, h2, show k - n < m by omega]
      · simp [h2, show ¬ k - n < m by omega]
  rcases A with _ | ad
  · have hm : m = 0 := by
      rcases hs with h | ⟨ad, h, _⟩
      · exact h
      · cases h
    subst hm
    refine ⟨v, w, ?_, hown.congr fun j hj => (if_pos hj).symm, World.grownBy.refl w _, .inl rfl, fun _ _ _ _ => rfl⟩
    rcases hown.2 with ⟨rfl, rfl⟩ | ⟨g, cap, cur, rfl, _, _, hnc, _⟩
    · simp [Builtin.append_, run_underlying ht, sizeOf, typeInfo, hi, Builtin.lenOf, Builtin.firstCells]
    · simp [Builtin.append_, run_underlying ht, sizeOf, typeInfo, hi, Builtin.lenOf, Builtin.firstCells, hnc, storeCells]
  · have hc : ∀ j, j < m → w.cell? (ad.add j) = some (y j) := by
      rcases hs with h | ⟨ad', h, hc⟩
      · intro j hj; omega
      · cases h; exact hc
    obtain ⟨v', w', hr, h2, h3, _, h5⟩ := run_append_own_at (P := P) w base t ty e i z 1 bytes ht hi hz hsize hby hzs (by omega) v n _ hown ad m c ((List.range m).map y) (by simp) (fun j u hu => by
      have hj : j < m := by have := (List.getElem?_eq_some_iff.1 hu).1; simpa using this
      rw [hc j hj, ← hu]; simp [hj]) (fun u hu => by simp at hu; obtain ⟨j, _, rfl⟩ := hu; exact h1 j) h63 hbytes hbase
    rw [hl] at h2
    refine ⟨v', w', hr, h2, h3, h5, fun g hg j hj => ?_⟩
    have cellAt : ∀ (b k : Nat), (⟨b, 0, none⟩ : Addr).add k = ⟨b, k, none⟩ := fun b k => by rw [Addr.add_mid, Nat.zero_add]
    rcases hown.2 with ⟨rfl, _⟩ | ⟨g', cap, cur, rfl, hbg, hgc, hnc, hcm, hcs, htake⟩
    · simp [Value.ownBlock] at hg
    · obtain rfl : g' = g := by simpa [Value.ownBlock] using hg
      have hold : w.cell? ⟨g', j, none⟩ = some (f j) := by
        rw [← cellAt g' j]
        exact hown.cells (g := g') rfl j _ (by simp [hj])
      by_cases hroom : n + m ≤ cap
      · have hr2 := run_append_room (P := P) w t ty e i ht hi g' n cap cur hgc ad m c ((List.range m).map y) (by simp [hsize]) (fun j u hu => by
          have hj : j < m := by have := (List.getElem?_eq_some_iff.1 hu).1; simpa using this
          rw [hc j hj, ← hu]; simp [hj]) (fun u hu => by simp at hu; obtain ⟨j, _, rfl⟩ := hu; exact h1 j) hroom (by rw [hsize]; simp; omega)
        rw [hr] at hr2
        injection hr2 with hv _
        rw [hold]
        rw [← cellAt g' j]
        rw [World.ownsRow.cells (g := g') h2 (by rw [hv]; rfl) j (f j) (by simp [hj, show j < n + m by omega])]
      · have hr2 := run_append_grow (P := P) w t ty e i z ht hi hz ⟨g', 0, none⟩ n cap ((List.range n).map f) (by simp [hsize]) (fun j u hu => hown.cells (g := g') rfl j u hu) ad m c ((List.range m).map y) (by simp [hsize]) (fun j u hu => by
          have hj : j < m := by have := (List.getElem?_eq_some_iff.1 hu).1; simpa using this
          rw [hc j hj, ← hu]; simp [hj]) (by omega) (by simp only [maxLen] at h63; omega) (growslice_fits (by omega) (by rw [hby]; exact hbytes))
        rw [hr] at hr2
        injection hr2 with _ hw
        rw [hw]
        exact World.cell?_of_block (w := w) (a := ⟨g', j, none⟩) (Below.heap_alloc w.drew _ g' (Array.getElem?_eq_some_iff.1 hgc).1)
/-- At a plain region's list. -/
theorem wpList_append_from {P : Program} (w : World) {ops : Array Oper} {rest : List Oper} {o : Oper} {a : Act} {Q : Exit → Act → World → Prop} (hgd : o.guard = none) (s x : Operand) (t : TypeId)
    (ho : o.op = .call { callee := .builtin .append, args := #[s, x], argTypes := #[t, t] })
    (base e : Nat) (i : TypeInfo) (z : Value) (bytes : Nat) (ht : P.underlying t = some (.slice e)) (hi : P.info? e = some i) (hz : i.zero = some z) (hsize : i.size = 1) (hby : i.bytes = bytes) (hzs : z.cells.size = 1)
    (v : Value) (n : Nat) (f : Nat → Value) (hs : a.eval s = v) (hown : Own w base e v n f) (A : Option Addr) (m c : Nat) (hx : a.eval x = .slice A m c) (y : Nat → Value) (hsr : From w A m y) (h1 : ∀ j, (y j).oneCell' = true)
    (h63 : n + m ≤ maxLen) (hbytes : (n + m) * bytes ≤ 140737488355328) (hbase : base ≤ w.heap.size)
    (h : ∀ v' w', Own w' base e v' (n + m) (fun j => if j < n then f j else y (j - n)) → w.grownBy w' v.ownBlock → (v'.ownBlock = v.ownBlock ∨ v'.ownBlock = some w.heap.size) → wpList P ops Q rest (a.put o.dst v') w') : wpList P ops Q (o :: rest) a w := by
  refine wpList_plain hgd fun K hK => ?_
  obtain ⟨v', w', hr, h2, h3, h5, _⟩ := own_append (P := P) w base t o.type e i z bytes ht hi hz hsize hby hzs v n f hown A m c y hsr h1 h63 hbytes hbase
  unfold Oper.wp execOp
  simp only [ho, resolve, invoke, builtin, Sem.run_bind, Sem.run_pure, Result.andThen_ok, List.map_toArray, List.map_cons, List.map_nil, hs, hx, hr]
  exact hK _ _ (h v' w' h2 h3 h5)
/-- At a step of a region that draws its order. -/
theorem step_append_from {P : Program} (w : World) {ops : Array Oper} {o : Oper} {a : Act} {K : Act → World → Prop} {Q : Exit → Act → World → Prop} {E : Prop} (hgd : o.guard = none) (s x : Operand) (t : TypeId)
    (ho : o.op = .call { callee := .builtin .append, args := #[s, x], argTypes := #[t, t] })
    (base e : Nat) (i : TypeInfo) (z : Value) (bytes : Nat) (ht : P.underlying t = some (.slice e)) (hi : P.info? e = some i) (hz : i.zero = some z) (hsize : i.size = 1) (hby : i.bytes = bytes) (hzs : z.cells.size = 1)
    (v : Value) (n : Nat) (f : Nat → Value) (hs : a.eval s = v) (hown : Own w base e v n f) (A : Option Addr) (m c : Nat) (hx : a.eval x = .slice A m c) (y : Nat → Value) (hsr : From w A m y) (h1 : ∀ j, (y j).oneCell' = true)
    (h63 : n + m ≤ maxLen) (hbytes : (n + m) * bytes ≤ 140737488355328) (hbase : base ≤ w.heap.size)
    (h : ∀ v' w', Own w' base e v' (n + m) (fun j => if j < n then f j else y (j - n)) → w.grownBy w' v.ownBlock → (v'.ownBlock = v.ownBlock ∨ v'.ownBlock = some w.heap.size) → (∀ g, v.ownBlock = some g → ∀ j, j < n → w'.cell? ⟨g, j, none⟩ = w.cell? ⟨g, j, none⟩) → K (a.put o.dst v') w') :
    if Region.wanted o (yielded ops a.tmps) = true then Oper.wp P o a w K Q else E := by
  have hw : Region.wanted o (yielded ops a.tmps) = true := by simp [Region.wanted, hgd]
  rw [if_pos hw]
  obtain ⟨v', w', hr, h2, h3, h5, h6⟩ := own_append (P := P) w base t o.type e i z bytes ht hi hz hsize hby hzs v n f hown A m c y hsr h1 h63 hbytes hbase
  unfold Oper.wp execOp
  simp only [ho, resolve, invoke, builtin, Sem.run_bind, Sem.run_pure, Result.andThen_ok, List.map_toArray, List.map_cons, List.map_nil, hs, hx, hr]
  exact h v' w' h2 h3 h5 h6
/-- One new block's cells, appended. -/
theorem from_new (w : World) (x : Value) (t : Nat) : From (w.alloc (.cells #[x] t)) (some ⟨w.heap.size, 0, none⟩) 1 (fun _ => x) :=
  .inr ⟨_, rfl, fun j hj => by
    obtain rfl : j = 0 := by omega
    rw [Addr.add_mid, World.cell?_alloc_mark]; rfl⟩
theorem grown_below {B : Nat} {a w w' : World} {row : Option Nat} (h : Below B a w) (hg : w.grownBy w' row) (hB : B ≤ w.heap.size) (hr : ∀ k, row = some k → B ≤ k) : Below B a w' := h.grown hg hB hr
end Go.Proofs.Ytoikgkjkcampkaa
