/-
  Arrays by a function of the index; laws for loads and stores of whole rows, in order and in regions that draw their order; what a region keeps.
-/
import Derived.Test.YtoikgkjkcampkaaMem
import Derived.Test.YtoikgkjkcampkaaRows
import Derived.WalkKit
import Derived.Deep.MidRow
import Derived.Deep.WholeRow
import Derived.ChangeKeysEq
namespace Go.Proofs.Ytoikgkjkcampkaa
open Go.RowKit

/-- An array of n cells, cell i being 'f i'. -/
def arrOf (n : Nat) (f : Nat → Value) : Array Value := ((List.range n).map f).toArray
theorem arrOf_size (n : Nat) (f : Nat → Value) : (arrOf n f).size = n := by simp [arrOf]
theorem arrOf_get {n : Nat} (f : Nat → Value) {i : Nat} (hi : i < n) : (arrOf n f)[i]? = some (f i) := by simp [arrOf, hi]
theorem eq_arrOf {n : Nat} {f : Nat → Value} {cs : Array Value} (hn : cs.size = n) (h : ∀ i, i < n → cs[i]? = some (f i)) : cs = arrOf n f := by
  apply Array.ext_getElem?
  intro i
  by_cases hi : i < n
  · rw [h i hi, arrOf_get f hi]
  · rw [Array.getElem?_eq_none (by omega), Array.getElem?_eq_none (by rw [arrOf_size]; omega)]
theorem arrOf_congr {n : Nat} {f g : Nat → Value} (h : ∀ i, i < n → f i = g i) : arrOf n f = arrOf n g :=
  eq_arrOf (arrOf_size n f) fun i hi => by rw [arrOf_get f hi, h i hi]
theorem arrOf_one {n : Nat} {f : Nat → Value} (h : ∀ i, i < n → (f i).oneCell' = true) : (arrOf n f).all (·.oneCell') = true := by
  rw [Array.all_eq_true_iff_forall_mem]
  intro v hv
  simp [arrOf] at hv
  obtain ⟨i, hi, rfl⟩ := hv
  exact h i hi
section
variable {w w' : World} {b t n B : Nat} {f : Nat → Value}
theorem blkOf (h : w.rowIs b t n f) : w.heap[b]? = some (.cells (arrOf n f) t (0, 0)) := by
  obtain ⟨c, hb, hn, hc⟩ := h
  rw [hb, eq_arrOf hn hc]
theorem row_made (w : World) (n t : Nat) (f : Nat → Value) {g : Nat} (hg : g = w.heap.size) : (w.alloc (.cells (arrOf n f) t)).rowIs g t n f :=
  row_new hg (arrOf_size n f) fun _ hi => arrOf_get f hi
theorem row_setRow {a : Array Value} (h : w.rowIs b t n f) (hn : a.size = n) {g : Nat → Value} (hg : ∀ i, i < n → a[i]? = some (g i)) : (w.setRow b a).rowIs b t n g := by
  obtain ⟨c, hb, _, _⟩ := h
  exact ⟨a, setRow_heap w b c a t (0, 0) hb, hn, hg⟩
theorem setRow_far (w : World) {b b' : Nat} (a : Array Value) (hne : b ≠ b') : (w.setRow b' a).heap[b]? = w.heap[b]? := by
  simp only [World.setRow, Array.getElem?_modify]
  rw [if_neg (by omega)]
end

/-- An array by value at an index: elements of one cell. -/
theorem run_index_arr {P : Program} {t e n i : Nat} {cs : Array Value} {v : Value} (hu : P.underlying t = some (.array n e)) (hs : (P.info? e).map (·.size) = some 1)
    (hp : ∀ w, (part e cs i).run P w = .ok v w) (hi : i < n) (k : IntKind) (w : World) : (Instr.index t (.agg cs) (.int k (i : Int))).run P w = .ok v w := by
  cases hq : P.info? e with
  | none => simp [hq] at hs
  | some inf =>
    have hz : inf.size = 1 := by simpa [hq] using hs
    simp [Instr.index, asIntOf, Sem.run_bind, run_underlying hu w, hi, sizeOf, typeInfo, hq, hz, hp, Result.andThen_ok]
/-- The operation that writes slot n stands next. -/
theorem at_slot (n : Nat) {P : Program} {ops : Array Oper} {Q : Exit → Act → World → Prop} {rest : List Oper} {a : Act} {w : World} {op : Op} {ty : TypeId} {pos : String} {af : Array Edge} {g : Option (Tmp × Bool)}
    (h : wpList P ops Q (⟨some n, op, ty, pos, af, g⟩ :: rest) a w) : wpList P ops Q (⟨some n, op, ty, pos, af, g⟩ :: rest) a w := h
/-- A store stands next. -/
theorem at_none {P : Program} {ops : Array Oper} {Q : Exit → Act → World → Prop} {rest : List Oper} {a : Act} {w : World} {op : Op} {ty : TypeId} {pos : String} {af : Array Edge} {g : Option (Tmp × Bool)}
    (h : wpList P ops Q (⟨none, op, ty, pos, af, g⟩ :: rest) a w) : wpList P ops Q (⟨none, op, ty, pos, af, g⟩ :: rest) a w := h
theorem below_setRow {B b : Nat} {a w : World} (h : Below B a w) (hb : B ≤ b) (cs : Array Value) : Below B a (w.setRow b cs) :=
  ⟨h.os, h.tape, h.output, by simpa [World.setRow] using h.size, fun k hk => (setRow_far w cs (by omega)).trans (h.block k hk)⟩

/-- All but block r, and new ones, is as it was. -/
abbrev But (r : Nat) (w w' : World) : Prop := w.grownBy w' (some r)
section
variable {w w' w'' : World} {r : Nat}
theorem But.refl (r : Nat) (w : World) : But r w w := ⟨rfl, rfl, rfl, Nat.le_refl _, fun _ _ _ => rfl⟩
theorem But.trans (h : But r w w') (k : But r w' w'') : But r w w'' :=
  ⟨k.os.trans h.os, k.tape.trans h.tape, k.output.trans h.output, Nat.le_trans h.size k.size, fun i hi hne => (k.block i (Nat.lt_of_lt_of_le hi h.size) hne).trans (h.block i hi hne)⟩
theorem But.below (h : But r w w') (k : Below w'.heap.size w' w'') : But r w w'' :=
  h.trans ⟨k.os, k.tape, k.output, k.size, fun i hi _ => k.block i hi⟩
theorem But.of_below (k : Below w.heap.size w w') : But r w w' := (But.refl r w).below k
theorem But.set (h : But r w w') (i : Nat) (v : Value) : But r w (w'.setCell ⟨r, i, none⟩ v) :=
  h.trans ⟨rfl, rfl, rfl, by simp [World.setCell], fun k _ hne => Below.heap_setCell _ _ _ _ (by simpa using hne)⟩
theorem But.alloc (h : But r w w') (o : Obj) : But r w (w'.alloc o) := h.below ((Below.refl _ _).alloc (Nat.le_refl _) o)
theorem But.drew (h : But r w w') : But r w w'.drew := ⟨h.os, h.tape, h.output, h.size, h.block⟩
theorem But.drewN (h : But r w w') (k : Nat) : But r w (w'.drewN k) := ⟨h.os, h.tape, h.output, h.size, h.block⟩
theorem But.bound (h : But r w w') : w.heap.size ≤ w'.heap.size := h.size
/-- A store into a block that is new. -/
theorem But.far {b i : Nat} (h : But r w w') (hb : w.heap.size ≤ b) (v : Value) : But r w (w'.setCell ⟨b, i, none⟩ v) :=
  ⟨h.os, h.tape, h.output, by simpa [World.setCell] using h.size, fun k hk hne => (Below.heap_setCell _ _ _ _ (by show k ≠ b; omega)).trans (h.block k hk hne)⟩
/-- Where the block itself is new, all is as it was. -/
theorem But.new {B : Nat} (h : But r w w') (hr : B ≤ r) (hB : B ≤ w.heap.size) : Below B w w' :=
  ⟨h.os, h.tape, h.output, h.size, fun k hk => h.block k (by omega) (by simp; omega)⟩
theorem row_but {b t n : Nat} {f : Nat → Value} (h : w.rowIs b t n f) (k : But r w w') (hne : b ≠ r) : w'.rowIs b t n f := h.of_block (k.block b h.lt (by simpa using hne))
end

/-! ### steps of a region that draws its order -/
theorem at_slotR (n : Nat) {P : Program} {ops : Array Oper} {K : Act → World → Prop} {Q : Exit → Act → World → Prop} {E : Prop} {a : Act} {w : World} {op : Op} {ty : TypeId} {pos : String} {af : Array Edge} {g : Option (Tmp × Bool)}
    (h : if Region.wanted { dst := some n, op := op, type := ty, pos := pos, after := af, guard := g } (yielded ops a.tmps) = true then Oper.wp P { dst := some n, op := op, type := ty, pos := pos, after := af, guard := g } a w K Q else E) :
    if Region.wanted { dst := some n, op := op, type := ty, pos := pos, after := af, guard := g } (yielded ops a.tmps) = true then Oper.wp P { dst := some n, op := op, type := ty, pos := pos, after := af, guard := g } a w K Q else E := h
theorem at_noneR {P : Program} {ops : Array Oper} {K : Act → World → Prop} {Q : Exit → Act → World → Prop} {E : Prop} {a : Act} {w : World} {op : Op} {ty : TypeId} {pos : String} {af : Array Edge} {g : Option (Tmp × Bool)}
    (h : if Region.wanted { dst := none, op := op, type := ty, pos := pos, after := af, guard := g } (yielded ops a.tmps) = true then Oper.wp P { dst := none, op := op, type := ty, pos := pos, after := af, guard := g } a w K Q else E) :
    if Region.wanted { dst := none, op := op, type := ty, pos := pos, after := af, guard := g } (yielded ops a.tmps) = true then Oper.wp P { dst := none, op := op, type := ty, pos := pos, after := af, guard := g } a w K Q else E := h
theorem step_store_row {P : Program} {ops : Array Oper} {o : Oper} {a : Act} {w : World} {K : Act → World → Prop} {Q : Exit → Act → World → Prop} {E : Prop} (hgd : o.guard = none) (ty : TypeId) (x y : Operand) (ho : o.op = .store ty x y)
    (g : Nat) (cells : Array Value) (hx : a.eval x = .pointer (some ⟨g, 0, none⟩)) (hy : a.eval y = .agg cells)
    (t : TypeId) (old : Array Value) (hg : w.heap[g]? = some (.cells old t (0, 0))) (hi : (P.info? ty).map (·.size) = some cells.size)
    (hold : old.size = cells.size) (h1 : cells.all (·.oneCell') = true)
    (h : K (a.put o.dst undef) (w.setRow g cells)) : if Region.wanted o (yielded ops a.tmps) = true then Oper.wp P o a w K Q else E := by
  rw [if_pos (by simp [Region.wanted, hgd])]
  exact wp_store_row ty x y ho g cells hx hy t old hg hi hold h1 h
theorem step_load_row {P : Program} {ops : Array Oper} {o : Oper} {a : Act} {w : World} {K : Act → World → Prop} {Q : Exit → Act → World → Prop} {E : Prop} (hgd : Region.wanted o (yielded ops a.tmps) = true) (ty : TypeId) (x : Operand) (ho : o.op = .load ty x)
    (g : Nat) (hx : a.eval x = .pointer (some ⟨g, 0, none⟩)) (t : TypeId) (cs : Array Value) (fr : Nat × Nat) (d : TypeDesc) (hg : w.heap[g]? = some (.cells cs t fr))
    (hu : P.underlying ty = some d) (hd : (match d with | .struct _ | .array _ _ => true | _ => false) = true) (hi : (P.info? ty).map (·.size) = some cs.size)
    (h : K (a.put o.dst (.agg cs)) w) : if Region.wanted o (yielded ops a.tmps) = true then Oper.wp P o a w K Q else E := by
  rw [if_pos hgd]
  exact wp_load_row ty x ho g hx t cs fr d hg hu hd hi h

/-! ### what such a region keeps: a range of cells, and all blocks but one -/
theorem range_block {W W' : World} {g : Nat} {L : List Value} (h : W.rangeAt g 0 L) (e : W'.heap[g]? = W.heap[g]?) : W'.rangeAt g 0 L := fun j v hv => (World.cell?_of_block (a := ⟨g, 0 + j, none⟩) e).trans (h j v hv)
theorem keepC {w5 W W' : World} {g gR : Nat} {L : List Value} (hb : Below W.heap.size W W') (hg : g < W.heap.size) (h : W.rangeAt g 0 L ∧ But gR w5 W) : W'.rangeAt g 0 L ∧ But gR w5 W' :=
  ⟨range_block h.1 (hb.block g hg), h.2.below hb⟩
theorem keepA {w5 W : World} {g gR : Nat} {L : List Value} {o : Obj} (hg : g < W.heap.size) (h : W.rangeAt g 0 L ∧ But gR w5 W) : (W.alloc o).rangeAt g 0 L ∧ But gR w5 (W.alloc o) :=
  ⟨range_block h.1 (Below.heap_alloc _ _ _ hg), h.2.alloc o⟩
theorem keepD {w5 W : World} {g gR : Nat} {L : List Value} (h : W.rangeAt g 0 L ∧ But gR w5 W) : W.drew.rangeAt g 0 L ∧ But gR w5 W.drew := ⟨h.1, h.2.drew⟩
theorem row_setCells {b t n : Nat} : ∀ (vs : List Value) (o : Nat) (w : World) (f : Nat → Value), w.rowIs b t n f → (w.setCells b o vs).rowIs b t n (fun j => if o ≤ j ∧ j < o + vs.length then vs.getD (j - o) undef else f j)
  | [], o, w, f, h => h.congr fun j _ => by rw [if_neg (by simp only [List.length_nil]; omega)]
  | v :: r, o, w, f, h => (row_setCells r (o + 1) _ _ (h.set o v)).congr fun j _ => by
    simp only [List.length_cons]
    by_cases h1 : j = o
    · subst h1
      rw [if_neg (by omega), if_pos rfl, if_pos (by omega), Nat.sub_self]; rfl
    · rw [if_neg h1]
      by_cases h2 : o + 1 ≤ j ∧ j < o + 1 + r.length
      · rw [if_pos h2, if_pos (by omega), show j - o = (j - (o + 1)) + 1 by omega]; rfl
      · rw [if_neg h2, if_neg (by omega)]
theorem blk_setCells {w : World} {b t n : Nat} {f : Nat → Value} (h : w.rowIs b t n f) {F : Array Value} (hF : F.size = n) : (w.setCells b 0 F.toList).heap[b]? = some (.cells F t (0, 0)) := by
  rw [blkOf (row_setCells F.toList 0 w f h)]
  congr 2
  refine (eq_arrOf hF fun i hi => ?_).symm
  have hi' : i < F.size := by omega
  rw [if_pos ⟨by omega, by simp; omega⟩, Nat.sub_zero, List.getD_eq_getElem?_getD]
  simp [hi']
theorem But.setCells {r : Nat} {w0 : World} : ∀ (vs : List Value) (o : Nat) (w : World), But r w0 w → But r w0 (w.setCells r o vs)
  | [], _, _, h => h
  | v :: l, o, _, h => But.setCells l (o + 1) _ (h.set o v)
theorem keepS {w5 W : World} {g gR : Nat} {L cs : List Value} (hne : g ≠ gR) (h : W.rangeAt g 0 L ∧ But gR w5 W) : (W.setCells gR 0 cs).rangeAt g 0 L ∧ But gR w5 (W.setCells gR 0 cs) :=
  ⟨World.rangeAt_setCells_apart h.1 gR 0 cs (.inl hne), But.setCells cs 0 W h.2⟩
theorem there_row {w : World} {b t n m : Nat} {f : Nat → Value} (h : w.rowIs b t n f) (hm : m = n) : w.there b 0 m := fun j hj => by
  rw [Nat.zero_add, h.cell (by omega)]
  exact ⟨rfl, h.frozen j⟩
theorem keepR {w5 W : World} {g gR : Nat} {L : List Value} {cs : Array Value} (hne : g ≠ gR) (h : W.rangeAt g 0 L ∧ But gR w5 W) : (W.setRow gR cs).rangeAt g 0 L ∧ But gR w5 (W.setRow gR cs) :=
  ⟨range_block h.1 (setRow_far W cs hne), ⟨h.2.os, h.2.tape, h.2.output, by simpa [World.setRow] using h.2.size, fun k hk hne' => (setRow_far W cs (by simpa using hne')).trans (h.2.block k hk hne')⟩⟩

/-! ### what a region keeps that stores into one block in the end -/
/-- All but block r is as it was, and that one is a row. -/
def Bt (r t n : Nat) (wz W : World) : Prop := But r wz W ∧ ∃ f, W.rowIs r t n f
section
variable {r t n : Nat} {wz W W' : World}
theorem Bt.of {f : Nat → Value} (h : W.rowIs r t n f) (hb : But r wz W) : Bt r t n wz W := ⟨hb, f, h⟩
theorem Bt.call (h : Bt r t n wz W) (hb : Below W.heap.size W W') : Bt r t n wz W' := by
  obtain ⟨h1, f, h2⟩ := h
  exact ⟨h1.below hb, f, row_below h2 hb h2.lt⟩
theorem Bt.alloc (h : Bt r t n wz W) (o : Obj) : Bt r t n wz (W.alloc o) := by
  obtain ⟨h1, f, h2⟩ := h
  exact ⟨h1.alloc o, f, h2.alloc o⟩
theorem Bt.drew (h : Bt r t n wz W) : Bt r t n wz W.drew := ⟨h.1.drew, h.2⟩
theorem Bt.set (h : Bt r t n wz W) (i : Nat) (v : Value) : Bt r t n wz (W.setCell ⟨r, i, none⟩ v) := by
  obtain ⟨h1, f, h2⟩ := h
  exact ⟨h1.set i v, _, h2.set i v⟩
theorem Bt.far (h : Bt r t n wz W) {b i : Nat} (hb : wz.heap.size ≤ b) (hne : r ≠ b) (v : Value) : Bt r t n wz (W.setCell ⟨b, i, none⟩ v) := by
  obtain ⟨h1, f, h2⟩ := h
  exact ⟨h1.far hb v, f, row_far h2 hne v⟩
theorem Bt.setCells (h : Bt r t n wz W) (o : Nat) (vs : List Value) : Bt r t n wz (W.setCells r o vs) := by
  obtain ⟨h1, f, h2⟩ := h
  exact ⟨But.setCells vs o W h1, _, row_setCells vs o W f h2⟩
theorem Bt.setRow (h : Bt r t n wz W) {cs : Array Value} (hs : cs.size = n) : Bt r t n wz (W.setRow r cs) := by
  obtain ⟨h1, f, h2⟩ := h
  exact ⟨⟨h1.os, h1.tape, h1.output, by simpa [World.setRow] using h1.size, fun k hk hne' => (setRow_far W cs (by simpa using hne')).trans (h1.block k hk hne')⟩, fun i => (cs[i]?).getD undef, row_setRow h2 hs fun i hi => by
    have : i < cs.size := by omega
    simp [this]⟩
theorem Bt.cell (h : Bt r t n wz W) {b o : Nat} (hb : b < wz.heap.size) (hne : b ≠ r) : W.cell? ⟨b, o, none⟩ = wz.cell? ⟨b, o, none⟩ := World.cell?_of_block (a := ⟨b, o, none⟩) (h.1.block b hb (by simpa using hne))
theorem Bt.range (h : Bt r t n wz W) {b : Nat} {L : List Value} (hb : b < wz.heap.size) (hne : b ≠ r) (hl : wz.rangeAt b 0 L) : W.rangeAt b 0 L := range_block hl (h.1.block b hb (by simpa using hne))
theorem Bt.there (h : Bt r t n wz W) {m : Nat} (hm : m = n) : W.there r 0 m := by
  obtain ⟨_, f, h2⟩ := h
  exact there_row h2 hm
theorem Bt.frozen (h : Bt r t n wz W) (i : Nat) : W.frozen? ⟨r, i, none⟩ = false := by
  obtain ⟨_, f, h2⟩ := h
  exact h2.frozen i
theorem Bt.below {B : Nat} (h : Bt r t n wz W) (hr : B ≤ r) (hB : B ≤ wz.heap.size) : Below B wz W := h.1.new hr hB
end
end Go.Proofs.Ytoikgkjkcampkaa
