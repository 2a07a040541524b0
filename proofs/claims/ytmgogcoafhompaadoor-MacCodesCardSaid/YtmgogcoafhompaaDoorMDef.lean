/-
  The code of a text with a key, as a value; steps of a region that draws its order: a row that is loaded, a row that is stored.
-/
import Derived.Test.YtmgogcoafhompaaDoorM1
import Derived.Test.YtmgogcoafhompaaDoorHParts
import Derived.Deep.MidRow
namespace Go.Proofs.YtmgogcoafhompaaDoor
open Go.RowKit

/-- What the inner sum is of: 64 bytes, and the text. -/
def macIn (y : Nat → Nat) (n : Nat) (t : Nat → Nat) : Nat → Nat := cat (fun j => kb y n j ^^^ 54) 64 t
/-- What the code is the sum of: 64 bytes, and the inner sum. -/
def macOut (y : Nat → Nat) (n : Nat) (t : Nat → Nat) (m : Nat) : Nat → Nat := cat (fun j => kb y n j ^^^ 92) 64 (fun j => dByte (shaSt (macIn y n t) (64 + m)) j)
/-- The code. -/
def macD (y : Nat → Nat) (n : Nat) (t : Nat → Nat) (m : Nat) : Array Value := dgst (macOut y n t m) 96

theorem macIn_lt {y t : Nat → Nat} (hy : ∀ j, y j < 256) (ht : ∀ j, t j < 256) (n j : Nat) : macIn y n t j < 256 := cat_lt (fun j => xor8_lt (kb_lt hy n j) (by decide)) ht _
theorem macOut_lt {y : Nat → Nat} (hy : ∀ j, y j < 256) (n : Nat) (t : Nat → Nat) (m j : Nat) : macOut y n t m j < 256 := cat_lt (fun j => xor8_lt (kb_lt hy n j) (by decide)) (fun j => dByte_lt _ j) _

theorem in_cells {w : World} {b e m : Nat} {v : Value} {k t : Nat → Nat} {x : Nat} (o : Own w b e v (64 + m) (fun j => if j < 64 then kx k x j else .int .u8 (t (j - 64) : Nat))) : Own w b e v (64 + m) (fun j => .int .u8 (cat (fun j => k j ^^^ x) 64 t j : Nat)) :=
  o.congr fun j _ => by unfold cat kx; split <;> rfl


/-! ### steps of a region that draws its order -/
theorem at_slotR (n : Nat) {P : Program} {ops : Array Oper} {K : Act → World → Prop} {Q : Exit → Act → World → Prop} {E : Prop} {a : Act} {w : World} {op : Op} {ty : TypeId} {pos : String} {af : Array Edge} {g : Option (Tmp × Bool)}
    (h : if Region.wanted { dst := some n, op := op, type := ty, pos := pos, after := af, guard := g } (yielded ops a.tmps) = true then Oper.wp P { dst := some n, op := op, type := ty, pos := pos, after := af, guard := g } a w K Q else E) :
    if Region.wanted { dst := some n, op := op, type := ty, pos := pos, after := af, guard := g } (yielded ops a.tmps) = true then Oper.wp P { dst := some n, op := op, type := ty, pos := pos, after := af, guard := g } a w K Q else E := h
theorem at_noneR {P : Program} {ops : Array Oper} {K : Act → World → Prop} {Q : Exit → Act → World → Prop} {E : Prop} {a : Act} {w : World} {op : Op} {ty : TypeId} {pos : String} {af : Array Edge} {g : Option (Tmp × Bool)}
    (h : if Region.wanted { dst := none, op := op, type := ty, pos := pos, after := af, guard := g } (yielded ops a.tmps) = true then Oper.wp P { dst := none, op := op, type := ty, pos := pos, after := af, guard := g } a w K Q else E) :
    if Region.wanted { dst := none, op := op, type := ty, pos := pos, after := af, guard := g } (yielded ops a.tmps) = true then Oper.wp P { dst := none, op := op, type := ty, pos := pos, after := af, guard := g } a w K Q else E := h
theorem step_store_row {P : Program} {ops : Array Oper} {o : Oper} {a : Act} {w : World} {K : Act → World → Prop} {Q : Exit → Act → World → Prop} {E : Prop} (hgd : o.guard = none) (ty : TypeId) (x y : Operand) (ho : o.op = .store ty x y)
    (g : Nat) (cells : Array Value) (hx : a.eval x = .pointer (some ⟨g, 0, none⟩)) (hy : a.eval y = .agg cells)
    (t : TypeId) (old : Array Value) (hg : w.heap[g]? = some (.cells old t (0, 0))) (hi : (P.info? ty).map (·.size) = some cells.size)
    (hold : old.size = cells.size) (h1 : cells.all (·.oneCell') = true)
    (h : K (a.put o.dst undef) (w.setRow g cells)) : if Region.wanted o (yielded ops a.tmps) = true then Oper.wp P o a w K Q else E := by
  rw [if_pos (by simp [Region.wanted, hgd])]
  exact wp_store_row ty x y ho g cells hx hy t old hg hi hold h1 h
theorem step_load_row {P : Program} {ops : Array Oper} {o : Oper} {a : Act} {w : World} {K : Act → World → Prop} {Q : Exit → Act → World → Prop} {E : Prop} (hgd : Region.wanted o (yielded ops a.tmps) = true) (ty : TypeId) (x : Operand) (ho : o.op = .load ty x)
    (g : Nat) (hx : a.eval x = .pointer (some ⟨g, 0, none⟩)) (t : TypeId) (cs : Array Value) (fr : Nat × Nat) (d : TypeDesc) (hg : w.heap[g]? = some (.cells cs t fr))
    (hu : P.underlying ty = some d) (hd : (match d with | .struct _ | .array _ _ => true | _ => false) = true) (hi : (P.info? ty).map (·.size) = some cs.size)
    (h : K (a.put o.dst (.agg cs)) w) : if Region.wanted o (yielded ops a.tmps) = true then Oper.wp P o a w K Q else E := by
  rw [if_pos hgd]
  exact wp_load_row ty x ho g hx t cs fr d hg hu hd hi h

theorem step_append_wanted {P : Program} (w : World) {ops : Array Oper} {o : Oper} {a : Act} {K : Act → World → Prop} {Q : Exit → Act → World → Prop} {E : Prop} (hgd : Region.wanted o (yielded ops a.tmps) = true) (s x : Operand) (t : TypeId)
    (ho : o.op = .call { callee := .builtin .append, args := #[s, x], argTypes := #[t, t] })
    (base e : Nat) (i : TypeInfo) (z : Value) (bytes : Nat) (ht : P.underlying t = some (.slice e)) (hi : P.info? e = some i) (hz : i.zero = some z) (hsize : i.size = 1) (hby : i.bytes = bytes) (hzs : z.cells.size = 1)
    (v : Value) (n : Nat) (f : Nat → Value) (hs : a.eval s = v) (hown : Own w base e v n f) (A : Option Addr) (m c : Nat) (hx : a.eval x = .slice A m c) (y : Nat → Value) (hsr : From w A m y) (h1 : ∀ j, (y j).oneCell' = true)
    (h63 : n + m ≤ maxLen) (hbytes : (n + m) * bytes ≤ 140737488355328) (hbase : base ≤ w.heap.size)
    (h : ∀ v' w', Own w' base e v' (n + m) (fun j => if j < n then f j else y (j - n)) → w.grownBy w' v.ownBlock → (v'.ownBlock = v.ownBlock ∨ v'.ownBlock = some w.heap.size) → K (a.put o.dst v') w') :
    if Region.wanted o (yielded ops a.tmps) = true then Oper.wp P o a w K Q else E := by
  rw [if_pos hgd]
  obtain ⟨v', w', hr, h2, h3, h5, _⟩ := own_append (P := P) w base t o.type e i z bytes ht hi hz hsize hby hzs v n f hown A m c y hsr h1 h63 hbytes hbase
  unfold Oper.wp execOp
  simp only [ho, resolve, invoke, builtin, Sem.run_bind, Sem.run_pure, Result.andThen_ok, List.map_toArray, List.map_cons, List.map_nil, hs, hx, hr]
  exact h v' w' h2 h3 h5
theorem from_alloc {w : World} {A : Option Addr} {n : Nat} {f : Nat → Value} (h : From w A n f) (o : Obj) : From (w.alloc o) A n f := by
  rcases h with h | ⟨ad, e, h⟩
  · exact .inl h
  · exact .inr ⟨ad, e, fun j hj => (World.cell?_of_block (Below.heap_alloc w o _ (World.block_lt_of_cell? w _ (h j hj)))).trans (h j hj)⟩
theorem from_new' (w : World) (x : Value) (t : Nat) {g : Nat} (hg : g = w.heap.size) : From (w.alloc (.cells #[x] t)) (some ⟨g, 0, none⟩) 1 (fun _ => x) := by rw [hg]; exact from_new w x t

/-! ### what such a region keeps: a range of cells, and all blocks but one -/
theorem range_block {W W' : World} {g : Nat} {L : List Value} (h : W.rangeAt g 0 L) (e : W'.heap[g]? = W.heap[g]?) : W'.rangeAt g 0 L := fun j v hv => (World.cell?_of_block (a := ⟨g, 0 + j, none⟩) e).trans (h j v hv)
theorem keepC {w5 W W' : World} {g gR : Nat} {L : List Value} (hb : Below W.heap.size W W') (hg : g < W.heap.size) (h : W.rangeAt g 0 L ∧ But gR w5 W) : W'.rangeAt g 0 L ∧ But gR w5 W' :=
  ⟨range_block h.1 (hb.block g hg), h.2.below hb⟩
theorem keepA {w5 W : World} {g gR : Nat} {L : List Value} {o : Obj} (hg : g < W.heap.size) (h : W.rangeAt g 0 L ∧ But gR w5 W) : (W.alloc o).rangeAt g 0 L ∧ But gR w5 (W.alloc o) :=
  ⟨range_block h.1 (Below.heap_alloc _ _ _ hg), h.2.alloc o⟩
theorem keepD {w5 W : World} {g gR : Nat} {L : List Value} (h : W.rangeAt g 0 L ∧ But gR w5 W) : W.drew.rangeAt g 0 L ∧ But gR w5 W.drew := ⟨h.1, h.2.drew⟩
theorem row_setCells {b t n : Nat} : ∀ (vs : List Value) (o : Nat) (w : World) (f : Nat → Value), w.rowIs b t n f → (w.setCells b o vs).rowIs b t n (fun j => if o ≤ j ∧ j < o + vs.length then vs.getD (j - o) undef else f j)
  | [], o, w, f, h => h.congr fun j _ => by rw [if_neg (by simp only [List.length_nil]; omega)]
  | v :: r, o, w, f, h => (row_setCells r (o + 1) _ _ (h.set o v)).congr fun j _ => by
    simp only [List.length_cons]
    by_cases h1 : j = o
    · subst h1
      rw [if_neg (by omega), if_pos rfl, if_pos (by omega), Nat.sub_self]; rfl
    · rw [if_neg h1]
      by_cases h2 : o + 1 ≤ j ∧ j < o + 1 + r.length
      · rw [if_pos h2, if_pos (by omega), show j - o = (j - (o + 1)) + 1 by omega]; rfl
      · rw [if_neg h2, if_neg (by omega)]
theorem blk_setCells {w : World} {b t n : Nat} {f : Nat → Value} (h : w.rowIs b t n f) {F : Array Value} (hF : F.size = n) : (w.setCells b 0 F.toList).heap[b]? = some (.cells F t (0, 0)) := by
  rw [blkOf (row_setCells F.toList 0 w f h)]
  congr 2
  refine (eq_arrOf hF fun i hi => ?_).symm
  have hi' : i < F.size := by omega
  rw [if_pos ⟨by omega, by simp; omega⟩, Nat.sub_zero, List.getD_eq_getElem?_getD]
  simp [hi']
theorem But.setCells {r : Nat} {w0 : World} : ∀ (vs : List Value) (o : Nat) (w : World), But r w0 w → But r w0 (w.setCells r o vs)
  | [], _, _, h => h
  | v :: l, o, _, h => But.setCells l (o + 1) _ (h.set o v)
theorem keepS {w5 W : World} {g gR : Nat} {L cs : List Value} (hne : g ≠ gR) (h : W.rangeAt g 0 L ∧ But gR w5 W) : (W.setCells gR 0 cs).rangeAt g 0 L ∧ But gR w5 (W.setCells gR 0 cs) :=
  ⟨World.rangeAt_setCells_apart h.1 gR 0 cs (.inl hne), But.setCells cs 0 W h.2⟩
theorem there_row {w : World} {b t n m : Nat} {f : Nat → Value} (h : w.rowIs b t n f) (hm : m = n) : w.there b 0 m := fun j hj => by
  rw [Nat.zero_add, h.cell (by omega)]
  exact ⟨rfl, h.frozen j⟩
theorem keepR {w5 W : World} {g gR : Nat} {L : List Value} {cs : Array Value} (hne : g ≠ gR) (h : W.rangeAt g 0 L ∧ But gR w5 W) : (W.setRow gR cs).rangeAt g 0 L ∧ But gR w5 (W.setRow gR cs) :=
  ⟨range_block h.1 (setRow_far W cs hne), ⟨h.2.os, h.2.tape, h.2.output, by simpa [World.setRow] using h.2.size, fun k hk hne' => (setRow_far W cs (by simpa using hne')).trans (h.2.block k hk hne')⟩⟩
end Go.Proofs.YtmgogcoafhompaaDoor
