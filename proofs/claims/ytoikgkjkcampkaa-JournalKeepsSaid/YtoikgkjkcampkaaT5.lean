/-
  Appends in schedules: bytes behind an empty slice, a field behind fields; slices cut in the middle.
-/
import Derived.Test.YtoikgkjkcampkaaT4
import Derived.ArgAppend
namespace Go.Proofs.Ytoikgkjkcampkaa
open Go.RowKit

theorem infoT1 : (Try.prog.info? 5).map (fun i => (i.zero, i.size, i.bytes)) = some (some (.int .u8 0), 1, 1) := by kernel_rfl
/-- No block that was there. -/
def Fresh (w : World) (A : Option Addr) (bs : List Nat) : Prop := bs.length = 0 ∨ ∀ b o, A = some ⟨b, o, none⟩ → w.heap.size ≤ b
theorem Fresh.off {w : World} {A : Option Addr} {bs : List Nat} {row : Option Nat} (h : Fresh w A bs) (hr : ∀ k, row = some k → k < w.heap.size) : Off A bs row :=
  h.imp id fun h b o e e2 => by have := h b o e; have := hr b e2; omega
theorem append_empty {w : World} (ty : TypeId) {g m c : Nat} {A : Option Addr} {bs : List Nat} (hg : w.heap[g]? = some (.cells #[] 5 (0, 0))) (hb : Bs w A bs) (hm : m = bs.length) (hle : m ≤ 1000000000) :
    ∃ A' c' w', (Builtin.append_ #[23, 23] ty #[.slice (some ⟨g, 0, none⟩) 0 0, .slice A m c]).run Try.prog w = .ok (.slice A' m c') w' ∧ Ext w w' ∧ m ≤ c' ∧ Bs w' A' bs ∧ Fresh w A' bs := by
  subst hm
  obtain ⟨i, hi, hz, hsz, hby⟩ := info_parts infoT1
  have hgl : g < w.heap.size := (Array.getElem?_eq_some_iff.1 hg).1
  have o0 : Own w g 5 (.slice (some ⟨g, 0, none⟩) 0 0) 0 (fun j => .int .u8 (bs.getD j 0 : Nat)) :=
    ⟨by simp, .inr ⟨g, 0, #[], rfl, Nat.le_refl _, hg, Nat.le_refl _, by unfold maxLen; omega, by simp, by simp⟩⟩
  obtain ⟨v', w', hr, h2, h3, h5, _⟩ := own_append (P := Try.prog) w g 23 ty 5 i _ 1 Try.underlying23 hi hz hsz hby rfl _ 0 _ o0 A bs.length c (fun j => .int .u8 (bs.getD j 0 : Nat)) hb.from (fun _ => rfl) (by unfold maxLen; omega) (by omega) (by omega)
  rw [Nat.zero_add] at h2
  have hO : OwnB w' g v' bs := OwnB.of h2 hb.1 rfl fun j hj => by rw [if_neg (by omega), Nat.sub_zero]
  obtain ⟨A', c', rfl, hc', hB'⟩ := hO.bs
  by_cases h0 : bs.length = 0
  · rcases A with _ | ad
    · have hw : w' = w := by
        have : (Builtin.append_ #[23, 23] ty #[.slice (some ⟨g, 0, none⟩) 0 0, .slice none bs.length c]).run Try.prog w = .ok (.slice (some ⟨g, 0, none⟩) 0 0) w := by
          rw [h0]
          simp [Builtin.append_, run_underlying Try.underlying23, sizeOf, typeInfo, hi, Builtin.lenOf, Builtin.firstCells, storeCells]
        rw [hr] at this
        injection this
      subst hw
      exact ⟨A', c', w', hr, Ext.refl _, hc', hB', .inl h0⟩
    · have hr2 := run_append_room_cells (P := Try.prog) (w := w) 23 ty 5 i Try.underlying23 hi g 0 0 0 ad bs.length c [] (by rw [h0]; simp) (fun j u hu => by simp at hu) (fun u hu => by simp at hu) (by omega) (fun j hj => by simp at hj) (fun j hj => by simp at hj)
      rw [hr] at hr2
      injection hr2 with _ hw
      have hw' : w' = w := hw
      subst hw'
      exact ⟨A', c', w', hr, Ext.refl _, hc', hB', .inl h0⟩
  · rcases hb.2 with h | ⟨b, o, rfl, hbl, hcl⟩
    · exact absurd h h0
    · have hr2 := run_append_grow (P := Try.prog) w 23 ty 5 i _ Try.underlying23 hi hz ⟨g, 0, none⟩ 0 0 [] (by simp) (fun j u hu => by simp at hu) ⟨b, o, none⟩ bs.length c ((List.range bs.length).map fun j => .int .u8 (bs.getD j 0 : Nat)) (by simp [hsz]) (fun j u hu => by
        have hj : j < bs.length := by have := (List.getElem?_eq_some_iff.1 hu).1; simpa using this
        rw [Addr.add_mid, hcl j hj, ← hu]; simp [hj]) (by omega) (by omega) (growslice_fits (by omega) (by rw [hby]; omega))
      rw [hr] at hr2
      injection hr2 with hv hw
      injection hv with hA _ _
      subst hA
      exact ⟨_, c', w', hr, by rw [hw]; exact (Ext.drew w).trans (Ext.alloc _ _), hc', hB', .inr fun b' o' e => by injection e with e; injection e with e; omega⟩

/-! ### in schedules -/
section
variable {Q : Exit → Act → World → Prop} {l : List Oper} {n k d : Nat} {r : Sched} {a : Act} {w : World}
/-- A value, where no other operation may be taken first. -/
theorem sched_val {v : Value} (o : Oper) (ho : l[k]? = some o) (hg : o.guard = none) (hd : o.dst = some d) (hm : ∀ W, Ext w W → (execOp a.eval o).run Try.prog W = .ok (.value v) W)
    (h : ∀ W, Ext w W → wpSched Try.prog l Q n r (a.put (some d) v) W) : wpSched Try.prog l Q n ((false, [k]) :: r) a w := by
  refine sched_one o ho hg fun W hW => ?_
  unfold Oper.wp
  rw [hm W hW, Oper.upon_value, hd]
  exact ⟨fun _ => Ext.refl W, h W hW⟩
theorem run_assign_v {o : Oper} {x : Operand} {v : Value} (ho : o.op = .assign x) (hx : a.eval x = v) (W : World) : (execOp a.eval o).run Try.prog W = .ok (.value v) W := by
  unfold execOp
  simp only [ho, hx, Sem.run_pure]
theorem sched_assign {x : Operand} (v : Value) (o : Oper) (ho : l[k]? = some o) (hg : o.guard = none) (hd : o.dst = some d) (hop : o.op = .assign x) (hx : a.eval x = v)
    (h : ∀ W, Ext w W → wpSched Try.prog l Q n r (a.put (some d) v) W) : wpSched Try.prog l Q n ((false, [k]) :: r) a w := sched_val o ho hg hd (fun W _ => run_assign_v hop hx W) h
/-- Bytes, behind an empty slice that was just laid. -/
theorem sched_append0 {s x : Operand} {g m c : Nat} {A : Option Addr} {bs : List Nat} (o : Oper) (ho : l[k]? = some o) (hgd : o.guard = none) (hop : o.op = .call { callee := .builtin .append, args := #[s, x], argTypes := #[23, 23] }) (hd : o.dst = some d)
    (hs : a.eval s = .slice (some ⟨g, 0, none⟩) 0 0) (hx : a.eval x = .slice A m c) (hg : w.heap[g]? = some (.cells #[] 5 (0, 0))) (hb : Bs w A bs) (hm : m = bs.length) (hle : m ≤ 1000000000)
    (h : ∀ A' c' W, Ext w W → m ≤ c' → Bs W A' bs → Fresh w A' bs → wpSched Try.prog l Q n r (a.put (some d) (.slice A' m c')) W) : wpSched Try.prog l Q n ((false, [k]) :: r) a w := by
  refine sched_one o ho hgd fun W hW => ?_
  obtain ⟨A', c', w', hr, hE, hc, hB, hF⟩ := append_empty (c := c) o.type (hW.block hg) (hb.ext hW) hm hle
  unfold Oper.wp execOp
  simp only [hop, resolve, invoke, builtin, Sem.run_bind, Sem.run_pure, Result.andThen_ok, List.map_toArray, List.map_cons, List.map_nil, hs, hx, hr]
  show (k < n → Ext W w') ∧ _
  rw [hd]
  exact ⟨fun _ => hE, h A' c' w' (hW.trans hE) hc hB (hF.imp id fun h b o e => Nat.le_trans (Below.size hW) (h b o e))⟩
end
/-- The same in a plain region. -/
theorem wpl_append0 {Q : Exit → Act → World → Prop} {ops : Array Oper} {rest : List Oper} {a : Act} {w : World} {s x : Operand} {g m c : Nat} {A : Option Addr} {bs : List Nat} {o : Oper} (hgd : o.guard = none) (hop : o.op = .call { callee := .builtin .append, args := #[s, x], argTypes := #[23, 23] })
    (hs : a.eval s = .slice (some ⟨g, 0, none⟩) 0 0) (hx : a.eval x = .slice A m c) (hg : w.heap[g]? = some (.cells #[] 5 (0, 0))) (hb : Bs w A bs) (hm : m = bs.length) (hle : m ≤ 1000000000)
    (h : ∀ A' c' W, Ext w W → m ≤ c' → Bs W A' bs → Fresh w A' bs → wpList Try.prog ops Q rest (a.put o.dst (.slice A' m c')) W) : wpList Try.prog ops Q (o :: rest) a w := by
  refine wpList_plain hgd fun K hK => ?_
  obtain ⟨A', c', w', hr, hE, hc, hB, hF⟩ := append_empty (c := c) o.type hg hb hm hle
  unfold Oper.wp execOp
  simp only [hop, resolve, invoke, builtin, Sem.run_bind, Sem.run_pure, Result.andThen_ok, List.map_toArray, List.map_cons, List.map_nil, hs, hx, hr]
  exact hK _ _ (h A' c' w' hE hc hB hF)
/-- s[p:q]. -/
theorem cut_mid (A : Option Addr) (r c p n : Nat) (hp : p + n ≤ c) (w : World) {x y : Int} (hx : x = (p : Int)) (hy : y = ((p + n : Nat) : Int)) : (Instr.sliceAt 23 (.slice A r c) (some (.int .i64 x)) (some (.int .i64 y)) none).run Try.prog w = .ok (.slice (cutA A p c) n (c - p)) w := by
  subst hx hy
  have e2 : ((sizeOf (Try.prog.elem 23)).run Try.prog w) = .ok 1 w := by kernel_rfl
  rw [run_sliceAt_slice w 23 _ _ _ _ (by kernel_rfl), run_slice_lh w 23 A r c (by kernel_rfl) .i64 .i64 (p : Int) ((p + n : Nat) : Int) (by omega) (by omega) (by omega), e2]
  simp [sliced, Result.andThen, cutA]
  omega
theorem wpl_val {P : Program} {ops : Array Oper} {Q : Exit → Act → World → Prop} {rest : List Oper} {a : Act} {w : World} {o : Oper} (v : Value) (hg : o.guard = none) (hr : (execOp a.eval o).run P w = .ok (.value v) w) (h : wpList P ops Q rest (a.put o.dst v) w) : wpList P ops Q (o :: rest) a w := by
  refine wpList_plain hg fun K hK => ?_
  unfold Oper.wp
  rw [hr, Oper.upon_value]
  exact hK _ _ h
theorem run_slice_hv {P : Program} {o : Oper} {a : Act} {t : TypeId} {x z : Operand} {v v' vz : Value} {W : World} (ho : o.op = .slice t x none (some z) none) (hx : a.eval x = v) (hz : a.eval z = vz)
    (h : (Instr.sliceAt t v none (some vz) none).run P W = .ok v' W) : (execOp a.eval o).run P W = .ok (.value v') W := by
  unfold execOp
  simp only [ho, hx, hz, Option.map_some, Option.map_none, Sem.run_bind, h, Result.andThen_ok, Sem.run_pure]
theorem cutA_zero (A : Option Addr) (c : Nat) : cutA A 0 c = A := by
  unfold cutA
  split
  · rfl
  · cases A with
    | none => rfl
    | some a => simp [Addr.add]
theorem cut_to_b (A : Option Addr) (r c m : Nat) (hm : m ≤ c) (w : World) {y : Int} (hy : y = (m : Int)) : (Instr.sliceAt 23 (.slice A r c) none (some (.int .i64 y)) none).run Try.prog w = .ok (.slice A m c) w := by
  subst hy
  rw [cut_to A r c m hm w, cutA_zero]
theorem Fl.take {w : World} {A : Option Addr} {n c : Nat} {fs : List Fd} (h : Fl w (.slice A n c) fs) {m : Nat} (hm : m ≤ n) : Fl w (.slice A m c) (fs.take m) := by
  obtain ⟨hB, AL, c', he, hc, hx⟩ := h
  injection he with e1 e2 e3
  subst e1 e3
  have hl : (fs.take m).length = m := by rw [List.length_take]; omega
  have hg : ∀ i, i < m → tgF (fs.take m) i = tgF fs i ∧ bsF (fs.take m) i = bsF fs i := fun i hi => by
    unfold tgF bsF
    simp only [List.getD_eq_getElem?_getD, List.getElem?_take_of_lt hi, and_self]
  refine ⟨fun f hf => hB f (List.mem_of_mem_take hf), A, c, by rw [hl], by rw [hl]; omega, ?_⟩
  rw [hl]
  by_cases h0 : m = 0
  · exact .inl h0
  · refine .inr ?_
    obtain ⟨b, o, e, hb, hcl⟩ := hx.resolve_left (by omega)
    refine ⟨b, o, e, hb, fun i hi => ?_⟩
    obtain ⟨g1, g2⟩ := hg i hi
    rw [g1, g2]
    exact hcl i (by omega)
theorem bs_take {w : World} {A : Option Addr} {bs : List Nat} (h : Bs w A bs) (m : Nat) : Bs w A (bs.take m) := by
  refine ⟨h.1.take m, ?_⟩
  rcases h.2 with h | ⟨b, o, e, hb, hc⟩
  · exact .inl (by rw [List.length_take]; omega)
  · refine .inr ⟨b, o, e, hb, fun j hj => ?_⟩
    rw [List.length_take] at hj
    rw [hc j (by omega)]
    simp only [List.getD_eq_getElem?_getD, List.getElem?_take_of_lt (show j < m by omega)]
end Go.Proofs.Ytoikgkjkcampkaa
