/-
  Bytes of a text; slices of ints; clapperref08.Body.
-/
import Derived.Test.YtldnncamaglofaaT5
import Derived.Test.YtldnncamaglofaaT9
import Derived.Test.YtldnncamaglofaaK1
import Derived.Laws.IdiomStrings
namespace Go.Proofs.Ytldnncamaglofaa
open Go.RowKit

theorem bytes_of_str {bs : List Nat} (hb : Byt bs) (w : World) : ∃ A' c' w', (convert 9 23 (.string (strL bs))).run Try.prog w = .ok (.slice A' bs.length c') w' ∧ Ext w w' ∧ bs.length ≤ c' ∧ Bs w' A' bs ∧ Fresh w A' bs := by
  have h := run_bytes_of_string (P := Try.prog) w 9 23 5 (strL bs) Try.underlying9 Try.underlying23 Try.underlying5
  rw [strL_size] at h
  refine ⟨_, _, _, h, (Ext.drew w).trans (Ext.alloc _ _), grownCap_ge _ _ _ _, ⟨hb, .inr ⟨w.heap.size, 0, rfl, by simp, fun j hj => ?_⟩⟩, .inr fun b o e => by injection e with e; injection e with e; omega⟩
  have hblk : (w.drew.alloc (.cells (bytesRow (strL bs) (grownCap w bs.length 0 5)) 5 ((bytesRow (strL bs) (grownCap w bs.length 0 5)).size, (bytesRow (strL bs) (grownCap w bs.length 0 5)).size + 1))).heap[w.heap.size]? = some (.cells (bytesRow (strL bs) (grownCap w bs.length 0 5)) 5 ((bytesRow (strL bs) (grownCap w bs.length 0 5)).size, (bytesRow (strL bs) (grownCap w bs.length 0 5)).size + 1)) := heap_new _ _
  rw [Nat.zero_add, cell_of_row _ _ j _ _ _ hblk]
  unfold bytesRow
  have hlt : j < (strL bs).data.size := by
    show j < (strL bs).size
    rw [strL_size]; exact hj
  rw [Array.getElem?_append_left (by simpa using hlt)]
  have e : (strL bs).data[j]'hlt = UInt8.ofNat (bs.getD j 0) := by
    simp only [strL]
    rw [List.getD_eq_getElem?_getD, List.getElem?_eq_getElem hj]
    simp
  have hj2 := hb.getD j
  have e3 : (UInt8.ofNat (bs.getD j 0)).toNat = bs.getD j 0 := by
    generalize bs.getD j 0 = x at hj2 ⊢
    simp
    omega
  rw [Array.getElem?_map, Array.getElem?_eq_getElem hlt, Option.map_some, e, e3]

/-- v is a slice of these ints. -/
def Is (w : World) (v : Value) (l : List Int) : Prop := ∃ A c, v = .slice A l.length c ∧ l.length ≤ c ∧ (l.length = 0 ∨ ∃ b o, A = some ⟨b, o, none⟩ ∧ b < w.heap.size ∧ ∀ i, i < l.length → w.cell? ⟨b, o + i, none⟩ = some (.int .i64 (l.getD i 0)))
theorem Is.ext {w w' : World} {v : Value} {l : List Int} (h : Is w v l) (k : Ext w w') : Is w' v l := by
  obtain ⟨A, c, e, hc, h⟩ := h
  exact ⟨A, c, e, hc, h.imp id fun ⟨b, o, e, hb, hx⟩ => ⟨b, o, e, Nat.lt_of_lt_of_le hb k.size, fun i hi => (k.cell hb).trans (hx i hi)⟩⟩
section
variable {Q : Exit → Act → World → Prop} {ops : Array Oper} {rest : List Oper} {a : Act} {w : World} {o : Oper}
/-- The bytes of a text, in a plain region. -/
theorem wpl_bytes {x : Operand} {bs : List Nat} (hgd : o.guard = none) (hop : o.op = .convert 9 23 x) (hx : a.eval x = .string (strL bs)) (hb : Byt bs)
    (h : ∀ A' c' W, Ext w W → bs.length ≤ c' → Bs W A' bs → Fresh w A' bs → wpList Try.prog ops Q rest (a.put o.dst (.slice A' bs.length c')) W) : wpList Try.prog ops Q (o :: rest) a w := by
  refine wpList_plain hgd fun K hK => ?_
  obtain ⟨A', c', w', hr, hE, hc, hB, hF⟩ := bytes_of_str hb w
  unfold Oper.wp execOp
  simp only [hop, hx, Sem.run_bind, hr, Result.andThen_ok, Sem.run_pure]
  exact hK _ _ (h A' c' w' hE hc hB hF)
/-- A field, behind fields, in a plain region. -/
theorem wpl_append_fd {s x : Operand} {base g c : Nat} {v : Value} {fs : List Fd} {f : Fd} {al : Option Addr × Nat} (hgd : o.guard = none) (hop : o.op = .call { callee := .builtin .append, args := #[s, x], argTypes := #[49, 49] })
    (hs : a.eval s = v) (hx : a.eval x = .slice (some ⟨g, 0, none⟩) 1 c) (hown : OwnFs w base v fs) (hg : w.heap[g]? = some (.cells #[.int .i64 f.1, .slice al.1 f.2.length al.2] 48 (0, 0)))
    (hc : f.2.length ≤ al.2) (hb : Bs w al.1 f.2) (hne : Off al.1 f.2 v.ownBlock) (hn : fs.length ≤ 1000000000) (hbase : base ≤ w.heap.size)
    (h : ∀ v' W, OwnFs W base v' (fs ++ [f]) → w.grownBy W v.ownBlock → wpList Try.prog ops Q rest (a.put o.dst v') W) : wpList Try.prog ops Q (o :: rest) a w := by
  refine wpList_plain hgd fun K hK => ?_
  obtain ⟨v', w', hr, hO, hG⟩ := run_append_fd (c1 := c) o.type hown g f al hg hc hb hne hn hbase
  unfold Oper.wp execOp
  simp only [hop, resolve, invoke, builtin, Sem.run_bind, Sem.run_pure, Result.andThen_ok, List.map_toArray, List.map_cons, List.map_nil, hs, hx, hr]
  exact hK _ _ (h v' w' hO hG)
end

end Go.Proofs.Ytldnncamaglofaa
