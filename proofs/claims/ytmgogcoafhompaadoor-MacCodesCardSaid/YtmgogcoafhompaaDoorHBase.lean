/-
  A hash's block (8 words, 64 bytes, the length); arrays by a function of the index; the table of round words.
-/
import Derived.Test.YtmgogcoafhompaaDoorSBits
import Derived.Test.YtmgogcoafhompaaDoorMem
import Derived.Test.YtmgogcoafhompaaDoorRows
import Derived.WalkKit
import Derived.Deep.MidRow
import Derived.Deep.WholeRow
import Derived.ChangeKeysEq
namespace Go.Proofs.YtmgogcoafhompaaDoor
open Go.RowKit

/-- An array of n cells, cell i being 'f i'. -/
def arrOf (n : Nat) (f : Nat → Value) : Array Value := ((List.range n).map f).toArray
theorem arrOf_size (n : Nat) (f : Nat → Value) : (arrOf n f).size = n := by simp [arrOf]
theorem arrOf_get {n : Nat} (f : Nat → Value) {i : Nat} (hi : i < n) : (arrOf n f)[i]? = some (f i) := by simp [arrOf, hi]
theorem eq_arrOf {n : Nat} {f : Nat → Value} {cs : Array Value} (hn : cs.size = n) (h : ∀ i, i < n → cs[i]? = some (f i)) : cs = arrOf n f := by
  apply Array.ext_getElem?
  intro i
  by_cases hi : i < n
  · rw [h i hi, arrOf_get f hi]
  · rw [Array.getElem?_eq_none (by omega), Array.getElem?_eq_none (by rw [arrOf_size]; omega)]
theorem arrOf_congr {n : Nat} {f g : Nat → Value} (h : ∀ i, i < n → f i = g i) : arrOf n f = arrOf n g :=
  eq_arrOf (arrOf_size n f) fun i hi => by rw [arrOf_get f hi, h i hi]
theorem arrOf_one {n : Nat} {f : Nat → Value} (h : ∀ i, i < n → (f i).oneCell' = true) : (arrOf n f).all (·.oneCell') = true := by
  rw [Array.all_eq_true_iff_forall_mem]
  intro v hv
  simp [arrOf] at hv
  obtain ⟨i, hi, rfl⟩ := hv
  exact h i hi
section
variable {w w' : World} {b t n B : Nat} {f : Nat → Value}
theorem blkOf (h : w.rowIs b t n f) : w.heap[b]? = some (.cells (arrOf n f) t (0, 0)) := by
  obtain ⟨c, hb, hn, hc⟩ := h
  rw [hb, eq_arrOf hn hc]
theorem row_made (w : World) (n t : Nat) (f : Nat → Value) {g : Nat} (hg : g = w.heap.size) : (w.alloc (.cells (arrOf n f) t)).rowIs g t n f :=
  row_new hg (arrOf_size n f) fun _ hi => arrOf_get f hi
theorem row_setRow {a : Array Value} (h : w.rowIs b t n f) (hn : a.size = n) {g : Nat → Value} (hg : ∀ i, i < n → a[i]? = some (g i)) : (w.setRow b a).rowIs b t n g := by
  obtain ⟨c, hb, _, _⟩ := h
  exact ⟨a, setRow_heap w b c a t (0, 0) hb, hn, hg⟩
theorem setRow_far (w : World) {b b' : Nat} (a : Array Value) (hne : b ≠ b') : (w.setRow b' a).heap[b]? = w.heap[b]? := by
  simp only [World.setRow, Array.getElem?_modify]
  rw [if_neg (by omega)]
end

/-- An array by value at an index: elements of one cell. -/
theorem run_index_arr {P : Program} {t e n i : Nat} {cs : Array Value} {v : Value} (hu : P.underlying t = some (.array n e)) (hs : (P.info? e).map (·.size) = some 1)
    (hp : ∀ w, (part e cs i).run P w = .ok v w) (hi : i < n) (k : IntKind) (w : World) : (Instr.index t (.agg cs) (.int k (i : Int))).run P w = .ok v w := by
  cases hq : P.info? e with
  | none => simp [hq] at hs
  | some inf =>
    have hz : inf.size = 1 := by simpa [hq] using hs
    simp [Instr.index, asIntOf, Sem.run_bind, run_underlying hu w, hi, sizeOf, typeInfo, hq, hz, hp, Result.andThen_ok]
/-- The operation that writes slot n stands next. -/
theorem at_slot (n : Nat) {P : Program} {ops : Array Oper} {Q : Exit → Act → World → Prop} {rest : List Oper} {a : Act} {w : World} {op : Op} {ty : TypeId} {pos : String} {af : Array Edge} {g : Option (Tmp × Bool)}
    (h : wpList P ops Q (⟨some n, op, ty, pos, af, g⟩ :: rest) a w) : wpList P ops Q (⟨some n, op, ty, pos, af, g⟩ :: rest) a w := h
/-- A store stands next. -/
theorem at_none {P : Program} {ops : Array Oper} {Q : Exit → Act → World → Prop} {rest : List Oper} {a : Act} {w : World} {op : Op} {ty : TypeId} {pos : String} {af : Array Edge} {g : Option (Tmp × Bool)}
    (h : wpList P ops Q (⟨none, op, ty, pos, af, g⟩ :: rest) a w) : wpList P ops Q (⟨none, op, ty, pos, af, g⟩ :: rest) a w := h
theorem below_setRow {B b : Nat} {a w : World} (h : Below B a w) (hb : B ≤ b) (cs : Array Value) : Below B a (w.setRow b cs) :=
  ⟨h.os, h.tape, h.output, by simpa [World.setRow] using h.size, fun k hk => (setRow_far w cs (by omega)).trans (h.block k hk)⟩

/-- Word j of the state. -/
def St.at (s : St) (j : Nat) : Nat := match j with | 0 => s.a | 1 => s.b | 2 => s.c | 3 => s.d | 4 => s.e | 5 => s.f | 6 => s.g | _ => s.h
theorem St.at_lt {s : St} (h : s.Ok) (j : Nat) : s.at j < 2 ^ 32 := by
  unfold St.at
  split
  · exact h.a
  · exact h.b
  · exact h.c
  · exact h.d
  · exact h.e
  · exact h.f
  · exact h.g
  · exact h.h

/-- The cells of a hash's block. -/
def hcells (s : St) (blk : Nat → Nat) (len : Nat) : Nat → Value := fun j => if j < 8 then .int .u32 (s.at j : Nat) else if j < 72 then .int .u8 (blk (j - 8) : Nat) else .int .i64 (len : Int)
/-- Block g is a hash: its state, its block, its length. -/
def HRow (w : World) (g : Nat) (s : St) (blk : Nat → Nat) (len : Nat) : Prop := w.rowIs g 49 73 (hcells s blk len)
section
variable {w w' : World} {g B len : Nat} {s : St} {blk : Nat → Nat}
theorem HRow.lt (h : HRow w g s blk len) : g < w.heap.size := World.rowIs.lt h
theorem HRow.below (h : HRow w g s blk len) (hb : Below B w w') (hlt : g < B) : HRow w' g s blk len := row_below h hb hlt
theorem HRow.call (h : HRow w g s blk len) (hb : Below w.heap.size w w') : HRow w' g s blk len := row_below h hb h.lt
theorem HRow.alloc (h : HRow w g s blk len) (o : Obj) : HRow (w.alloc o) g s blk len := World.rowIs.alloc h o
theorem HRow.drew (h : HRow w g s blk len) : HRow w.drew g s blk len := h
theorem HRow.drewN (h : HRow w g s blk len) (k : Nat) : HRow (w.drewN k) g s blk len := h
theorem HRow.of_block (h : HRow w g s blk len) (e : w'.heap[g]? = w.heap[g]?) : HRow w' g s blk len := World.rowIs.of_block h e
theorem HRow.state (h : HRow w g s blk len) {j : Nat} (hj : j < 8) : w.cell? ⟨g, j, none⟩ = some (.int .u32 (s.at j : Nat)) := by
  rw [World.rowIs.cell h (show j < 73 by omega), hcells, if_pos hj]
theorem HRow.byte (h : HRow w g s blk len) {j : Nat} (hj : j < 64) : w.cell? ⟨g, 8 + j, none⟩ = some (.int .u8 (blk j : Nat)) := by
  rw [World.rowIs.cell h (show 8 + j < 73 by omega), hcells, if_neg (by omega), if_pos (by omega), show 8 + j - 8 = j by omega]
theorem HRow.length (h : HRow w g s blk len) : w.cell? ⟨g, 72, none⟩ = some (.int .i64 (len : Int)) := by
  rw [World.rowIs.cell h (show 72 < 73 by omega), hcells, if_neg (by omega), if_neg (by omega)]
theorem HRow.block (h : HRow w g s blk len) : w.rangeAt g 8 ((List.range 64).map fun j => Value.int .u8 (blk j : Nat)) := by
  intro j v hv
  have hj : j < 64 := by simpa using (List.getElem?_eq_some_iff.1 hv).1
  rw [h.byte hj, ← hv]
  simp [hj]
theorem HRow.words (h : HRow w g s blk len) : w.rangeAt g 0 ((List.range 8).map fun j => Value.int .u32 (s.at j : Nat)) := by
  intro j v hv
  have hj : j < 8 := by simpa using (List.getElem?_eq_some_iff.1 hv).1
  rw [Nat.zero_add, h.state hj, ← hv]
  simp [hj]
end

/-- The table of round words, where the program's initialiser laid it. -/
structure KT (w : World) : Prop where
  lt : 0 < w.heap.size
  cell : ∀ j, j < 64 → w.cell? ⟨0, j, none⟩ = some (.int .u32 (kc j : Nat))
section
variable {w w' : World} {B : Nat}
theorem KT.of_block (h : KT w) (e : w'.heap[0]? = w.heap[0]?) (hs : w.heap.size ≤ w'.heap.size) : KT w' :=
  ⟨Nat.lt_of_lt_of_le h.lt hs, fun j hj => (World.cell?_of_block (w := w) (a := ⟨0, j, none⟩) e).trans (h.cell j hj)⟩
theorem KT.below (h : KT w) (hb : Below B w w') (hB : 0 < B) : KT w' := h.of_block (hb.block 0 hB) hb.size
theorem KT.call (h : KT w) (hb : Below w.heap.size w w') : KT w' := h.below hb h.lt
theorem KT.alloc (h : KT w) (o : Obj) : KT (w.alloc o) := h.of_block (Below.heap_alloc _ _ _ h.lt) (by simp)
theorem KT.drew (h : KT w) : KT w.drew := ⟨h.lt, h.cell⟩
theorem KT.drewN (h : KT w) (k : Nat) : KT (w.drewN k) := ⟨h.lt, h.cell⟩
theorem KT.far {b i : Nat} (h : KT w) (hne : 0 ≠ b) (v : Value) : KT (w.setCell ⟨b, i, none⟩ v) := h.of_block (Below.heap_setCell _ _ _ _ hne) (by simp [World.setCell])
theorem KT.grown {r : Nat} (h : KT w) (hg : w.grownBy w' (some r)) (hne : 0 ≠ r) : KT w' := h.of_block (hg.block 0 h.lt (by simpa using hne)) hg.size
end
/-- All but block r, and new ones, is as it was. -/
abbrev But (r : Nat) (w w' : World) : Prop := w.grownBy w' (some r)
section
variable {w w' w'' : World} {r : Nat}
theorem But.refl (r : Nat) (w : World) : But r w w := ⟨rfl, rfl, rfl, Nat.le_refl _, fun _ _ _ => rfl⟩
theorem But.trans (h : But r w w') (k : But r w' w'') : But r w w'' :=
  ⟨k.os.trans h.os, k.tape.trans h.tape, k.output.trans h.output, Nat.le_trans h.size k.size, fun i hi hne => (k.block i (Nat.lt_of_lt_of_le hi h.size) hne).trans (h.block i hi hne)⟩
theorem But.below (h : But r w w') (k : Below w'.heap.size w' w'') : But r w w'' :=
  h.trans ⟨k.os, k.tape, k.output, k.size, fun i hi _ => k.block i hi⟩
theorem But.of_below (k : Below w.heap.size w w') : But r w w' := (But.refl r w).below k
theorem But.set (h : But r w w') (i : Nat) (v : Value) : But r w (w'.setCell ⟨r, i, none⟩ v) :=
  h.trans ⟨rfl, rfl, rfl, by simp [World.setCell], fun k _ hne => Below.heap_setCell _ _ _ _ (by simpa using hne)⟩
theorem But.alloc (h : But r w w') (o : Obj) : But r w (w'.alloc o) := h.below ((Below.refl _ _).alloc (Nat.le_refl _) o)
theorem But.drew (h : But r w w') : But r w w'.drew := ⟨h.os, h.tape, h.output, h.size, h.block⟩
theorem But.drewN (h : But r w w') (k : Nat) : But r w (w'.drewN k) := ⟨h.os, h.tape, h.output, h.size, h.block⟩
theorem But.bound (h : But r w w') : w.heap.size ≤ w'.heap.size := h.size
/-- A store into a block that is new. -/
theorem But.far {b i : Nat} (h : But r w w') (hb : w.heap.size ≤ b) (v : Value) : But r w (w'.setCell ⟨b, i, none⟩ v) :=
  ⟨h.os, h.tape, h.output, by simpa [World.setCell] using h.size, fun k hk hne => (Below.heap_setCell _ _ _ _ (by show k ≠ b; omega)).trans (h.block k hk hne)⟩
/-- Where the block itself is new, all is as it was. -/
theorem But.new {B : Nat} (h : But r w w') (hr : B ≤ r) (hB : B ≤ w.heap.size) : Below B w w' :=
  ⟨h.os, h.tape, h.output, h.size, fun k hk => h.block k (by omega) (by simp; omega)⟩
theorem row_but {b t n : Nat} {f : Nat → Value} (h : w.rowIs b t n f) (k : But r w w') (hne : b ≠ r) : w'.rowIs b t n f := h.of_block (k.block b h.lt (by simpa using hne))
end
end Go.Proofs.YtmgogcoafhompaaDoor
