/-
  Slices of structs whose cells hold no memory: element x's cells are 'cs x', sz of them. Any program.
-/
import Derived.Test.YtoikgkjkcampkaaT1
import Derived.Test.YtoikgkjkcampkaaSch
import Derived.Deep.MidRow
import Derived.Deep.Slices
import Derived.Laws.OwnMore
import Derived.Maps.AppendAt
namespace Go.Proofs.Ytoikgkjkcampkaa
open Go.RowKit

section
variable {α : Type} {sz : Nat} {cs : α → List Value} {w w' : World} {v : Value} {l : List α} {P : Program}
/-- v is a slice of l, wherever. -/
def Ls (sz : Nat) (cs : α → List Value) (w : World) (v : Value) (l : List α) : Prop :=
  ∃ A c, v = .slice A l.length c ∧ l.length ≤ c ∧ (l.length = 0 ∨ ∃ b o, A = some ⟨b, o, none⟩ ∧ b < w.heap.size ∧ ∀ i x, l[i]? = some x → w.rangeAt b (o + i * sz) (cs x))
theorem range_ext (h : Ext w w') {b o : Nat} {L : List Value} (hb : b < w.heap.size) (hr : w.rangeAt b o L) : w'.rangeAt b o L := fun j u hu => (h.cell hb).trans (hr j u hu)
theorem Ls.ext (h : Ls sz cs w v l) (k : Ext w w') : Ls sz cs w' v l := by
  obtain ⟨A, c, e, hc, hx⟩ := h
  exact ⟨A, c, e, hc, hx.imp id fun ⟨b, o, ha, hb, hr⟩ => ⟨b, o, ha, Nat.lt_of_lt_of_le hb (Below.size k), fun i x hi => range_ext k hb (hr i x hi)⟩⟩
theorem Ls.nil (w : World) (A : Option Addr) (c : Nat) : Ls sz cs w (.slice A 0 c) ([] : List α) := ⟨A, c, rfl, Nat.zero_le _, .inl rfl⟩
theorem Ls.at (h : Ls sz cs w v l) {i : Nat} (hi : i < l.length) : ∃ b o c, v = .slice (some ⟨b, o, none⟩) l.length c ∧ l.length ≤ c ∧ b < w.heap.size ∧ ∀ i x, l[i]? = some x → w.rangeAt b (o + i * sz) (cs x) := by
  obtain ⟨A, c, e, hc, hx⟩ := h
  rcases hx with h0 | ⟨b, o, rfl, hb, hr⟩
  · omega
  · exact ⟨b, o, c, e, hc, hb, hr⟩
theorem range_cell {b o j : Nat} {L : List Value} {u : Value} (h : w.rangeAt b o L) (hu : L[j]? = some u) : w.cell? ⟨b, o + j, none⟩ = some u := h j u hu
/-- v is the call's own slice of l. -/
def OwnL (sz : Nat) (cs : α → List Value) (w : World) (base ty : Nat) (v : Value) (l : List α) : Prop := w.ownsRow base ty sz v l.length (l.flatMap cs)
variable {base ty : Nat}
theorem OwnL.nil (w : World) (base ty : Nat) : OwnL sz cs w base ty (.slice none 0 0) ([] : List α) := World.ownsRow_nil _ _ _ _
theorem OwnL.keep (o : OwnL sz cs w base ty v l) (h : Ext w w') : OwnL sz cs w' base ty v l :=
  ⟨o.1, o.2.imp id fun ⟨g, cap, cur, e, hg, hh, r⟩ => ⟨g, cap, cur, e, hg, h.block hh, r⟩⟩
theorem OwnL.lt (o : OwnL sz cs w base ty v l) {k : Nat} (hk : v.ownBlock = some k) : base ≤ k ∧ k < w.heap.size := World.ownsRow.lt o k hk
theorem flat_at (hcs : ∀ x, (cs x).length = sz) : ∀ {l : List α} {i j : Nat} {x : α} {u : Value}, l[i]? = some x → (cs x)[j]? = some u → (l.flatMap cs)[i * sz + j]? = some u
  | [], _, _, _, _, h, _ => by simp at h
  | a :: l, 0, j, x, u, h, hu => by
    obtain rfl : a = x := by simpa using h
    have hj : j < (cs a).length := (List.getElem?_eq_some_iff.1 hu).1
    rw [List.flatMap_cons, Nat.zero_mul, Nat.zero_add, List.getElem?_append_left hj]
    exact hu
  | a :: l, i + 1, j, x, u, h, hu => by
    rw [List.flatMap_cons, List.getElem?_append_right (by rw [hcs, Nat.add_mul]; omega), hcs, show (i + 1) * sz + j - sz = i * sz + j by rw [Nat.add_mul]; omega]
    exact flat_at hcs (by simpa using h) hu
theorem flat_len (hcs : ∀ x, (cs x).length = sz) : ∀ (l : List α), (l.flatMap cs).length = l.length * sz
  | [] => by simp
  | a :: l => by rw [List.flatMap_cons, List.length_append, hcs, flat_len hcs l, List.length_cons, Nat.add_mul]; omega
theorem OwnL.ls (hcs : ∀ x, (cs x).length = sz) (o : OwnL sz cs w base ty v l) : Ls sz cs w v l := by
  rcases o.2 with ⟨rfl, h0⟩ | ⟨g, cap, cur, rfl, hbg, hh, hn, hm, hs, ht⟩
  · exact ⟨none, 0, by rw [h0], by omega, .inl h0⟩
  · refine ⟨_, cap, rfl, hn, .inr ⟨g, 0, rfl, (Array.getElem?_eq_some_iff.1 hh).1, fun i x hi j u hu => ?_⟩⟩
    have h1 := flat_at hcs hi hu
    rw [← ht] at h1
    have hlt : i * sz + j < l.length * sz := by
      have := (List.getElem?_eq_some_iff.1 h1).1
      rw [List.length_take] at this
      omega
    rw [List.getElem?_take_of_lt hlt] at h1
    rw [Nat.zero_add, cell_of_row w g _ cur _ _ hh]
    simpa using h1
/-- Cells, appended: those of ys, wherever they lie. -/
theorem run_append_ls {i : TypeInfo} {z : Value} {bytes t : Nat} (ht : P.underlying t = some (.slice ty)) (hi : P.info? ty = some i) (hz : i.zero = some z) (hsize : i.size = sz) (hby : i.bytes = bytes) (hzs : z.cells.size = sz) (hsz : 0 < sz)
    (hcs : ∀ x, (cs x).length = sz) (h1 : ∀ x, ∀ u ∈ cs x, u.oneCell' = true) (rt : TypeId) (o : OwnL sz cs w base ty v l) {ys : List α} {A : Option Addr} {m c : Nat} (hm : m = ys.length) (hy : Ls sz cs w (.slice A m c) ys)
    (h63 : l.length + m ≤ maxLen) (hbytes : (l.length + m) * bytes ≤ 140737488355328) (hbase : base ≤ w.heap.size) :
    ∃ v' w', (Builtin.append_ #[t, t] rt #[v, .slice A m c]).run P w = .ok v' w' ∧ OwnL sz cs w' base ty v' (l ++ ys) ∧ w.grownBy w' v.ownBlock ∧ (v'.ownBlock = v.ownBlock ∨ v'.ownBlock = some w.heap.size) := by
  subst hm
  obtain ⟨A', c', e, hc, hx⟩ := hy
  injection e with e1 _ e3
  subst e1 e3
  rcases A with _ | a
  · have h0 : ys = [] := by
      rcases hx with h | ⟨_, _, h, _⟩
      · exact List.length_eq_zero_iff.1 h
      · cases h
    subst h0
    refine ⟨v, w, ?_, by rw [List.append_nil]; exact o, World.grownBy.refl w _, .inl rfl⟩
    rcases o.2 with ⟨rfl, h0⟩ | ⟨g, cap, cur, rfl, _, _, hnc, _⟩
    · simp [Builtin.append_, run_underlying ht, sizeOf, typeInfo, hi, Builtin.lenOf, Builtin.firstCells]
    · simp [Builtin.append_, run_underlying ht, sizeOf, typeInfo, hi, Builtin.lenOf, Builtin.firstCells, hnc, storeCells]
  · have hcell : ∀ j u, (ys.flatMap cs)[j]? = some u → w.cell? (a.add j) = some u := by
      intro j u hu
      have hj := (List.getElem?_eq_some_iff.1 hu).1
      rw [flat_len hcs] at hj
      rcases hx with h | ⟨b, off, ha, _, hr⟩
      · rw [h] at hj; omega
      · obtain rfl := Option.some.inj ha
        have hq : j / sz < ys.length := (Nat.div_lt_iff_lt_mul hsz).2 hj
        have hr2 := hr (j / sz) _ (List.getElem?_eq_getElem hq)
        have hd : j / sz * sz + j % sz = j := by rw [Nat.mul_comm]; exact Nat.div_add_mod j sz
        have hlt : j % sz < (cs ys[j / sz]).length := by rw [hcs]; exact Nat.mod_lt _ hsz
        have h3 := flat_at hcs (List.getElem?_eq_getElem hq) (List.getElem?_eq_getElem hlt)
        rw [hd, hu] at h3
        obtain rfl := Option.some.inj h3
        have h4 := hr2 _ _ (List.getElem?_eq_getElem hlt)
        rw [Nat.add_assoc, hd] at h4
        rw [Addr.add_mid]
        exact h4
    obtain ⟨v', w', hr, h2, h3, _, h5⟩ := run_append_own_at (P := P) w base t rt ty i z sz bytes ht hi hz hsize hby hzs hsz v l.length _ o a ys.length c (ys.flatMap cs) (flat_len hcs ys) hcell
      (fun u hu => by obtain ⟨x, _, hx⟩ := List.mem_flatMap.1 hu; exact h1 x u hx) h63 hbytes hbase
    refine ⟨v', w', hr, ?_, h3, h5⟩
    unfold OwnL
    rw [List.flatMap_append, List.length_append]
    exact h2
/-- One that was just laid. -/
theorem ls_one {g c : Nat} {x : α} {fr : Nat × Nat} (hg : w.heap[g]? = some (.cells (cs x).toArray ty fr)) (hc : 1 ≤ c := by decide) : Ls sz cs w (.slice (some ⟨g, 0, none⟩) 1 c) [x] :=
  ⟨_, c, rfl, hc, .inr ⟨g, 0, rfl, (Array.getElem?_eq_some_iff.1 hg).1, fun i y hi j u hu => by
    match i, hi with
    | 0, hi =>
      obtain rfl : x = y := by simpa using hi
      simp only [Nat.zero_mul, Nat.zero_add]
      rw [cell_of_row w g j _ _ _ hg]
      simpa using hu⟩⟩
/-- In a plain region. -/
theorem wpl_append_ls {i : TypeInfo} {z : Value} {bytes t : Nat} (ht : P.underlying t = some (.slice ty)) (hi : P.info? ty = some i) (hz : i.zero = some z) (hsize : i.size = sz) (hby : i.bytes = bytes) (hzs : z.cells.size = sz) (hsz : 0 < sz)
    (hcs : ∀ x, (cs x).length = sz) (h1 : ∀ x, ∀ u ∈ cs x, u.oneCell' = true) {ops : Array Oper} {Q : Exit → Act → World → Prop} {rest : List Oper} {op : Oper} {a : Act} {s x : Operand} (hgd : op.guard = none) (hop : op.op = .call { callee := .builtin .append, args := #[s, x], argTypes := #[t, t] })
    (hs : a.eval s = v) {ys : List α} {A : Option Addr} {m c : Nat} (hx : a.eval x = .slice A m c) (o : OwnL sz cs w base ty v l) (hm : m = ys.length) (hy : Ls sz cs w (.slice A m c) ys)
    (h63 : l.length + m ≤ maxLen) (hbytes : (l.length + m) * bytes ≤ 140737488355328) (hbase : base ≤ w.heap.size)
    (h : ∀ v' w', OwnL sz cs w' base ty v' (l ++ ys) → w.grownBy w' v.ownBlock → wpList P ops Q rest (a.put op.dst v') w') : wpList P ops Q (op :: rest) a w := by
  refine wpList_plain hgd fun K hK => ?_
  obtain ⟨v', w', hr, h2, h3, _⟩ := run_append_ls (P := P) ht hi hz hsize hby hzs hsz hcs h1 op.type o hm hy h63 hbytes hbase
  unfold Oper.wp execOp
  simp only [hop, resolve, invoke, builtin, Sem.run_bind, Sem.run_pure, Result.andThen_ok, List.map_toArray, List.map_cons, List.map_nil, hs, hx, hr]
  exact hK _ _ (h v' w' h2 h3)
/-- In a schedule. -/
theorem sched_append_ls {i : TypeInfo} {z : Value} {bytes t : Nat} (ht : P.underlying t = some (.slice ty)) (hi : P.info? ty = some i) (hz : i.zero = some z) (hsize : i.size = sz) (hby : i.bytes = bytes) (hzs : z.cells.size = sz) (hsz : 0 < sz)
    (hcs : ∀ x, (cs x).length = sz) (h1 : ∀ x, ∀ u ∈ cs x, u.oneCell' = true) {Q : Exit → Act → World → Prop} {ops : List Oper} {n k d : Nat} {r : Sched} {a : Act} {s x : Operand} (op : Oper) (hop0 : ops[k]? = some op) (hgd : op.guard = none) (hop : op.op = .call { callee := .builtin .append, args := #[s, x], argTypes := #[t, t] }) (hd : op.dst = some d)
    (hs : a.eval s = v) {ys : List α} {A : Option Addr} {m c : Nat} (hx : a.eval x = .slice A m c) (hkn : ¬ k < n) (o : OwnL sz cs w base ty v l) (hm : m = ys.length) (hy : Ls sz cs w (.slice A m c) ys)
    (h63 : l.length + m ≤ maxLen) (hbytes : (l.length + m) * bytes ≤ 140737488355328) (hbase : base ≤ w.heap.size)
    (h : ∀ v' W W', Ext w W → OwnL sz cs W' base ty v' (l ++ ys) → W.grownBy W' v.ownBlock → wpSched P ops Q n r (a.put (some d) v') W') : wpSched P ops Q n ((false, [k]) :: r) a w := by
  refine sched_one op hop0 hgd fun W hW => ?_
  obtain ⟨v', w', hr, h2, h3, _⟩ := run_append_ls (P := P) ht hi hz hsize hby hzs hsz hcs h1 op.type (o.keep hW) hm (hy.ext hW) h63 hbytes (Nat.le_trans hbase (Below.size hW))
  unfold Oper.wp execOp
  simp only [hop, resolve, invoke, builtin, Sem.run_bind, Sem.run_pure, Result.andThen_ok, List.map_toArray, List.map_cons, List.map_nil, hs, hx, hr]
  show (k < n → Ext W w') ∧ _
  rw [hd]
  exact ⟨fun h => absurd h hkn, h v' W w' hW h2 h3⟩
/-- An argument, opened. -/
theorem ls_of {H : Type} {enc : TypeId × Value → H} {t e fuel base : Nat} {sp : Nat → Bool} {hd : Bool} {d : DataW H} {p : List MemPlace} (ht : P.underlying t = some (.slice e)) (hsz : P.cellsOf e = sz) (h0 : 0 < sz)
    (he : ∀ n cs' y, DataW.trod enc P w base sp hd n e cs' = some y → ∃ x, cs' = cs x) (hf : DataW.trod enc P w base sp hd fuel t [v] = some (d, p)) : ∃ l : List α, Ls sz cs w v l := by
  rcases Go.Deep.open_slice ht hf with ⟨h, _⟩ | ⟨a, len, cap, m, n, D, Pl, h, _, hlc, _, hm, _, hx⟩
  · simp only [List.cons.injEq, and_true] at h
    rw [h]
    exact ⟨[], Ls.nil _ _ _⟩
  · simp only [List.cons.injEq, and_true] at h
    have hlm : len ≤ m := by rw [hm]; split <;> omega
    have each : ∀ i, i < len → ∃ x : α, (cs x).length = sz ∧ ∀ j u, (cs x)[j]? = some u → w.cell? ((a.add (i * sz)).add j) = some u := by
      intro i hi
      obtain ⟨cs', h1, h2⟩ := hx i (by omega)
      rw [hsz] at h1
      obtain ⟨_, hlen, hcell⟩ := World.cells?_some h1
      obtain ⟨x, rfl⟩ := he _ _ _ h2
      refine ⟨x, hlen, fun j u hu => ?_⟩
      have hj := (List.getElem?_eq_some_iff.1 hu).1
      rw [hcell j (by omega), hu]
    by_cases hl0 : len = 0
    · rw [h, hl0]
      exact ⟨[], Ls.nil _ _ _⟩
    · obtain ⟨x0, _⟩ := each 0 (by omega)
      haveI : Inhabited α := ⟨x0⟩
      obtain ⟨q, hq⟩ := Go.Deep.choose_lt each
      refine ⟨(List.range len).map q, some a, cap, by rw [h]; simp, by simpa using hlc, .inr ?_⟩
      obtain ⟨b, off, spot⟩ := a
      have h00 : ∃ u, (cs (q 0))[0]? = some u := ⟨_, List.getElem?_eq_getElem (by rw [(hq 0 (by omega)).1]; exact h0)⟩
      obtain ⟨u0, hu0⟩ := h00
      have hc0 := (hq 0 (by omega)).2 0 u0 hu0
      have hspot : spot = none := by simpa [Addr.add] using World.cell?_spot hc0
      subst hspot
      have hblk : b < w.heap.size := by
        have := World.block_lt_of_cell? w _ hc0
        simpa [Addr.add] using this
      refine ⟨b, off, rfl, hblk, fun i x hi j u hu => ?_⟩
      have hil : i < len := by
        have := (List.getElem?_eq_some_iff.1 hi).1
        simpa using this
      obtain rfl : q i = x := by simpa [hil] using hi
      have := (hq i hil).2 j u hu
      rw [Addr.add_mid, Addr.add_mid] at this
      exact this
end
end Go.Proofs.Ytoikgkjkcampkaa
