/-
  clapperlaw13.RouteLater walked.
-/
import Derived.Test.YtebcdhfmhnhalaaNwi
import Derived.Deep.RegionHeld3
namespace Go.Proofs.Ytebcdhfmhnhalaa
open Go.RowKit

section
variable {α : Type} {sz : Nat} {cs : α → List Value} {P : Program} {w : World} {base ty : Nat}
/-- Appended to a slice of no room: new memory, or nothing. -/
theorem run_append_ls0 {i : TypeInfo} {z : Value} {bytes t : Nat} (ht : P.underlying t = some (.slice ty)) (hi : P.info? ty = some i) (hz : i.zero = some z) (hsize : i.size = sz) (hby : i.bytes = bytes) (hzs : z.cells.size = sz) (hsz : 0 < sz)
    (hcs : ∀ x, (cs x).length = sz) (h1 : ∀ x, ∀ u ∈ cs x, u.oneCell' = true) (rt : TypeId) (g : Addr) {ys : List α} {A : Option Addr} {m c : Nat} (hm : m = ys.length) (hp : 0 < m) (hy : Ls sz cs w (.slice A m c) ys)
    (h63 : m ≤ maxLen) (hbytes : m * bytes ≤ 140737488355328) (hbase : base ≤ w.heap.size) :
    ∃ v' w', (Builtin.append_ #[t, t] rt #[.slice (some g) 0 0, .slice A m c]).run P w = .ok v' w' ∧ OwnL sz cs w' base ty v' ys ∧ Ext w w' := by
  obtain ⟨v', w', hr, hO, _, _⟩ := run_append_ls (P := P) (l := []) ht hi hz hsize hby hzs hsz hcs h1 rt (OwnL.nil w base ty) hm hy (by simpa using h63) (by simpa using hbytes) hbase
  obtain ⟨A', c', e, hc, hx⟩ := hy
  rcases hx with hx | ⟨b, o, rfl, hb, hrg⟩
  · omega
  · injection e with e1 e2 e3
    subst e1 e3
    have hcell : ∀ j u, (ys.flatMap cs)[j]? = some u → w.cell? ((⟨b, o, none⟩ : Addr).add j) = some u := by
      intro j u hu
      have hj := (List.getElem?_eq_some_iff.1 hu).1
      rw [flat_len hcs] at hj
      have hq : j / sz < ys.length := (Nat.div_lt_iff_lt_mul hsz).2 hj
      have hr2 := hrg (j / sz) _ (List.getElem?_eq_getElem hq)
      have hd : j / sz * sz + j % sz = j := by rw [Nat.mul_comm]; exact Nat.div_add_mod j sz
      have hlt : j % sz < (cs ys[j / sz]).length := by rw [hcs]; exact Nat.mod_lt _ hsz
      have h3 := flat_at hcs (List.getElem?_eq_getElem hq) (List.getElem?_eq_getElem hlt)
      rw [hd, hu] at h3
      obtain rfl := Option.some.inj h3
      have h4 := hr2 _ _ (List.getElem?_eq_getElem hlt)
      rw [Nat.add_assoc, hd] at h4
      rw [Addr.add_mid]
      exact h4
    have hl : (ys.flatMap cs).length = m * i.size := by rw [flat_len hcs, hm, hsize]
    have h63' : (m : Int) ≤ 9223372036854775807 := by unfold maxLen at h63; omega
    have hfit : Builtin.nextslicecap (0 + m) 0 * i.bytes ≤ 281474976710656 := by rw [Nat.zero_add, nextslicecap_zero hp, hby]; omega
    have r1 := run_append_nil (P := P) (w := w) t rt ty i z ht hi hz ⟨b, o, none⟩ m c (ys.flatMap cs) hl hcell hp h63' (by rw [hby]; omega)
    have r2 := run_append_grow (P := P) (w := w) t rt ty i z ht hi hz g 0 0 [] (by simp) (by simp) ⟨b, o, none⟩ m c (ys.flatMap cs) hl hcell (by omega) (by simpa using h63') hfit
    rw [r1] at hr
    injection hr with hv hw
    refine ⟨v', w', ?_, hO, ?_⟩
    · rw [r2, ← hv, ← hw]
      simp
    · rw [← hw]
      exact (Ext.drew w).trans (Ext.alloc _ _)
end
/-! ### the region 'append(append([]api.Conn{}, l...), c)', operation by operation -/
section
variable {g : Nat} {ops : Array Oper} {K : Act → World → Prop} {Q : Exit → Act → World → Prop} {E : Prop} {o : Oper} {a : Act} {W W0 : World} {ys : List Cn} {c : Cn}
theorem wp_gen13 {P : Program} {C : Code} {Q : Exit → Act → World → Prop} {a0 : Act} {w : World} (h : ∀ a, a = a0 → C.wp P Q a w) : C.wp P Q a0 w := h a0 rfl
theorem ready_last {P : Program} {md : Region.Mode} {ops : Array Oper} {Q : Exit → Act → World → Prop} {S : World → Prop} {fuel : Nat} {listed : Array Bool} {a : Act} {w : World} {i : Nat} (hi : i < ops.size)
    (h : ∀ K' : Act → World → Prop, Shut (∀ a w, S w → (S w → wpAnyH P md ops Q S fuel (listed.setIfInBounds i true) a w) → K' a w) → if Region.wanted ops[i] (yielded ops a.tmps) = true then Oper.wp P ops[i] a w K' Q else K' (a.put ops[i].dst undef) w) : AllReadyH P md ops Q S fuel listed a w [i] :=
  AllReadyH.cons (by simp [hi]) h AllReadyH.nil
theorem put13_ne {a : Act} {d k : Nat} {v : Value} (h : d ≠ k) : (a.put (some d) v).eval (.tmp k) = a.eval (.tmp k) := by
  simp [Act.put, Act.eval, Array.getD_eq_getD_getElem?, Array.getElem?_setIfInBounds_ne h]
theorem put13_eq {a : Act} {d : Nat} {v : Value} (h : d < a.tmps.size) : (a.put (some d) v).eval (.tmp d) = v := by
  simp [Act.put, Act.eval, Array.getD_eq_getD_getElem?, h]
theorem put13_size {a : Act} {d : Nat} {v : Value} : (a.put (some d) v).tmps.size = a.tmps.size := by
  simp [Act.put]
theorem step_v13 {P : Program} {W' : World} {v : Value} (hgd : o.guard = none) (hr : (execOp a.eval o).run P W = .ok (.value v) W') (h : K (a.put o.dst v) W') : if Region.wanted o (yielded ops a.tmps) = true then Oper.wp P o a W K Q else E := by
  have hw : Region.wanted o (yielded ops a.tmps) = true := by simp [Region.wanted, hgd]
  rw [if_pos hw]
  unfold Oper.wp
  rw [hr, Oper.upon_value]
  exact h
theorem run_fa13 {x : Operand} {f : Nat} {W : World} (ho : o.op = .fieldAddr 25 x f) (hx : a.eval x = .pointer (some ⟨g, 0, none⟩)) (hf : f = 0 ∨ f = 1) : (execOp a.eval o).run Try.prog W = .ok (.value (.pointer (some ⟨g, f, none⟩))) W := by
  unfold execOp
  rcases hf with rfl | rfl <;> (simp only [ho, hx]; go_simp)
theorem run_ldS13 {x : Operand} {ad : Addr} {A : Option Addr} {m k : Nat} {W : World} (ho : o.op = .load 22 x) (hx : a.eval x = .pointer (some ad)) (hc : W.cell? ad = some (.slice A m k)) : (execOp a.eval o).run Try.prog W = .ok (.value (.slice A m k)) W := by
  unfold execOp
  simp only [ho, hx]
  go_simp
theorem run_ldC13 {x : Operand} {ad : Addr} {A : Option Addr} {m k : Nat} {W : World} (ho : o.op = .load 23 x) (hx : a.eval x = .pointer (some ad)) (hc : W.cell? ad = some (.slice A m k)) : (execOp a.eval o).run Try.prog W = .ok (.value (.slice A m k)) W := by
  unfold execOp
  simp only [ho, hx]
  go_simp
theorem run_ldc13 {x : Operand} {c : Cn} {W : World} (ho : o.op = .load 39 x) (hx : a.eval x = .pointer (some ⟨g, 0, none⟩)) (hc : W.heap[g]? = some (.cells (cnC c).toArray 39 (0, 0))) : (execOp a.eval o).run Try.prog W = .ok (.value (.agg (cnC c).toArray)) W := by
  have hl : (loadVar 39 ⟨g, 0, none⟩).run Try.prog W = .ok (.agg (cnC c).toArray) W := run_loadVar_mid W g 0 39 (cnC c) _ (fun j v hv => by rw [cell_of_row W g (0 + j) _ _ _ hc, Nat.zero_add]; simpa using hv) Try.underlying39 rfl (by show _ = some 5; kernel_rfl)
  unfold execOp
  simp only [ho, hx, Instr.loadAt, Instr.sureAddr, Sem.run_bind, Sem.run_pure, Result.andThen_ok, hl]
theorem step_b0 (hgd : o.guard = none) (ho : o.op = .buildSlice 23 0 #[]) (h : ∀ gE W', Ext W W' → K (a.put o.dst (.slice (some ⟨gE, 0, none⟩) 0 0)) W') : if Region.wanted o (yielded ops a.tmps) = true then Oper.wp Try.prog o a W K Q else E :=
  step_v13 (W' := W.alloc (.cells #[] 39)) (v := .slice (some ⟨W.heap.size, 0, none⟩) 0 0) hgd (by unfold execOp; simp [ho, Instr.buildSlice, go_sem]) (h _ _ (Ext.alloc _ _))
theorem bslC13 (c : Cn) (W : World) : (Instr.buildSlice 23 1 [(0, .agg (cnC c).toArray)].toArray).run Try.prog W = .ok (.slice (some ⟨W.heap.size, 0, none⟩) 1 1) (W.alloc (.cells (cnC c).toArray 39)) := by
  unfold cnC
  simp [Instr.buildSlice, go_sem]
theorem step_b1 {x : Operand} (hgd : o.guard = none) (ho : o.op = .buildSlice 23 1 [(0, x)].toArray) (hx : a.eval x = .agg (cnC c).toArray)
    (h : ∀ gB W', Ext W W' → W'.heap[gB]? = some (.cells (cnC c).toArray 39 (0, 0)) → K (a.put o.dst (.slice (some ⟨gB, 0, none⟩) 1 1)) W') : if Region.wanted o (yielded ops a.tmps) = true then Oper.wp Try.prog o a W K Q else E :=
  step_v13 (W' := W.alloc (.cells (cnC c).toArray 39)) (v := .slice (some ⟨W.heap.size, 0, none⟩) 1 1) hgd (by
    unfold execOp
    simp only [ho, List.map_toArray, List.map_cons, List.map_nil, hx]
    simp only [Sem.run_bind, bslC13, Result.andThen_ok, Sem.run_pure]) (h _ _ (Ext.alloc _ _) (heap_new _ _))
theorem step_z (hgd : o.guard = none) (ho : o.op = .alloc 25)
    (h : ∀ gZ W', Ext W W' → W.heap.size ≤ gZ → W'.heap[gZ]? = some (.cells #[.slice none 0 0, .slice none 0 0] 25 (0, 0)) → K (a.put o.dst (ptrTo gZ)) W') : if Region.wanted o (yielded ops a.tmps) = true then Oper.wp Try.prog o a W K Q else E :=
  step_v13 (W' := W.alloc (.cells #[.slice none 0 0, .slice none 0 0] 25)) (v := ptrTo W.heap.size) hgd (by unfold execOp; simp [ho, Instr.alloc, go_sem]) (h _ _ (Ext.alloc _ _) (Nat.le_refl _) (heap_new _ _))
/-- What the first append leaves: F: blocks that are not its own. -/
def App13 (W0 W : World) (v : Value) (ys : List Cn) (F : Nat → Prop) : Prop := (OwnL 5 cnC W W0.heap.size 39 v ys ∧ ∀ z, F z → v.ownBlock ≠ some z) ∨ (ys = [] ∧ ∃ g, v = .slice (some g) 0 0)
theorem App13.keep {W' : World} {v : Value} {F : Nat → Prop} (h : App13 W0 W v ys F) (hX : Ext W W') : App13 W0 W' v ys F := h.imp (fun h => ⟨h.1.keep hX, h.2⟩) id
theorem App13.mono {v : Value} {F F' : Nat → Prop} (h : App13 W0 W v ys F) (hX : ∀ z, F' z → F z) : App13 W0 W v ys F' := h.imp (fun h => ⟨h.1, fun z hz => h.2 z (hX z hz)⟩) id
theorem App13.new {v : Value} {F : Nat → Prop} {g : Nat} (h : App13 W0 W v ys F) (hg : W.heap.size ≤ g) : App13 W0 W v ys (fun z => z = g) := h.imp (fun h => ⟨h.1, fun z hz e => by
  subst hz
  have := (h.1.lt e).2
  omega⟩) id
theorem info13 : ∃ i z, Try.prog.info? 39 = some i ∧ i.zero = some z ∧ i.size = 5 ∧ i.bytes = 40 ∧ z.cells.size = 5 := by
  have h : (Try.prog.info? 39).map (fun i => (i.zero.map fun z => z.cells.size, i.size, i.bytes)) = some (some 5, 5, 40) := by kernel_rfl
  cases hi : Try.prog.info? 39 with
  | none => rw [hi] at h; cases h
  | some i =>
    rw [hi] at h
    simp only [Option.map_some, Option.some.injEq, Prod.mk.injEq] at h
    cases hz : i.zero with
    | none => rw [hz] at h; cases h.1
    | some z =>
      rw [hz] at h
      exact ⟨i, z, rfl, hz, h.2.1, h.2.2, by simpa using h.1⟩
theorem cn_one13 (x : Cn) : ∀ u ∈ cnC x, u.oneCell' = true := fun u hu => by
  simp only [cnC, List.mem_cons, List.not_mem_nil, or_false] at hu
  rcases hu with rfl | rfl | rfl | rfl | rfl <;> rfl
theorem run_app13 {s x : Operand} {vs vx v' : Value} {W' : World} (ho : o.op = .call { callee := .builtin .append, args := #[s, x], argTypes := #[23, 23] }) (hs : a.eval s = vs) (hx : a.eval x = vx)
    (hr : (Builtin.append_ #[23, 23] o.type #[vs, vx]).run Try.prog W = .ok v' W') : (execOp a.eval o).run Try.prog W = .ok (.value v') W' := by
  unfold execOp
  simp only [ho, resolve, invoke, builtin, Sem.run_bind, Sem.run_pure, Result.andThen_ok, List.map_toArray, List.map_cons, List.map_nil, hs, hx, hr]
theorem step_app0 {s x : Operand} {gE m c' : Nat} {A : Option Addr} (hgd : o.guard = none) (ho : o.op = .call { callee := .builtin .append, args := #[s, x], argTypes := #[23, 23] })
    (hs : a.eval s = .slice (some ⟨gE, 0, none⟩) 0 0) (hx : a.eval x = .slice A m c') (hm : m = ys.length) (hy : Cs13 W (.slice A m c') ys) (hl : m ≤ 200) (hE : Ext W0 W)
    (h : ∀ v5 W', Ext W W' → App13 W0 W' v5 ys (fun z => z < W.heap.size) → K (a.put o.dst v5) W') : if Region.wanted o (yielded ops a.tmps) = true then Oper.wp Try.prog o a W K Q else E := by
  obtain ⟨i, z, hi, hz, h5, h40, hzs⟩ := info13
  by_cases h0 : 0 < m
  · obtain ⟨v', W', hr, hO, hX⟩ := run_append_ls0 (P := Try.prog) (base := W.heap.size) Try.underlying23 hi hz h5 h40 hzs (by decide) (fun _ => rfl) cn_one13 o.type ⟨gE, 0, none⟩ hm h0 hy (by unfold maxLen; omega) (by omega) (Nat.le_refl _)
    refine step_v13 hgd (run_app13 ho hs hx hr) (h _ _ hX (.inl ⟨⟨hO.1, hO.2.imp id ?_⟩, fun z hz e => ?_⟩))
    · rintro ⟨g, cap, cur, e, hg, r⟩
      exact ⟨g, cap, cur, e, Nat.le_trans (Below.size hE) hg, r⟩
    · have := (hO.lt e).1
      omega
  · have hm0 : m = 0 := by omega
    have hys : ys = [] := List.length_eq_zero_iff.1 (by omega)
    subst hm0
    have hr : (Builtin.append_ #[23, 23] o.type #[.slice (some ⟨gE, 0, none⟩) 0 0, .slice A 0 c']).run Try.prog W = .ok (.slice (some ⟨gE, 0, none⟩) 0 0) W := by
      cases A with
      | none => simp [Builtin.append_, run_underlying Try.underlying23, sizeOf, typeInfo, hi, Builtin.lenOf, Builtin.firstCells, storeCells]
      | some ad =>
        have hf := run_firstCells_some (P := Try.prog) W i.size 0 ad 0 c' [] (by simp) (by simp)
        simp [Builtin.append_, run_underlying Try.underlying23, sizeOf, typeInfo, hi, Builtin.lenOf, hf, storeCells]
    exact step_v13 hgd (run_app13 ho hs hx hr) (h _ _ (Ext.refl _) (.inr ⟨hys, _, rfl⟩))
theorem step_app1 {s x : Operand} {gB : Nat} {v5 : Value} {F : Nat → Prop} (hgd : o.guard = none) (ho : o.op = .call { callee := .builtin .append, args := #[s, x], argTypes := #[23, 23] })
    (hs : a.eval s = v5) (hx : a.eval x = .slice (some ⟨gB, 0, none⟩) 1 1) (hB : W.heap[gB]? = some (.cells (cnC c).toArray 39 (0, 0))) (hA : App13 W0 W v5 ys F) (hl : ys.length ≤ 200) (hE : Ext W0 W)
    (h : ∀ v8 W', Ext W0 W' → OwnL 5 cnC W' W0.heap.size 39 v8 (ys ++ [c]) → (∀ z o, F z → W.heap[z]? = some o → W'.heap[z]? = some o) → K (a.put o.dst v8) W') : if Region.wanted o (yielded ops a.tmps) = true then Oper.wp Try.prog o a W K Q else E := by
  obtain ⟨i, z, hi, hz, h5, h40, hzs⟩ := info13
  have hy : Ls 5 cnC W (.slice (some ⟨gB, 0, none⟩) 1 1) [c] := ls_one hB
  rcases hA with ⟨hO, hF⟩ | ⟨rfl, g, rfl⟩
  · obtain ⟨v', W', hr, hO', hG, _⟩ := run_append_ls (P := Try.prog) Try.underlying23 hi hz h5 h40 hzs (by decide) (fun _ => rfl) cn_one13 o.type hO (ys := [c]) (m := 1) rfl hy (by unfold maxLen; omega) (by omega) (Below.size hE)
    exact step_v13 hgd (run_app13 ho hs hx hr) (h _ _ (hE.grown hG (Below.size hE) fun k hk => (hO.lt hk).1) hO' fun z o hz ho => by
      have := hG.block z (Array.getElem?_eq_some_iff.1 ho).1 (fun e => hF z hz e.symm)
      rw [this, ho])
  · obtain ⟨v', W', hr, hO, hX⟩ := run_append_ls0 (P := Try.prog) (base := W0.heap.size) Try.underlying23 hi hz h5 h40 hzs (by decide) (fun _ => rfl) cn_one13 o.type g (ys := [c]) (m := 1) rfl (by decide) hy (by unfold maxLen; omega) (by omega) (Below.size hE)
    exact step_v13 hgd (run_app13 ho hs hx hr) (h _ _ (hE.trans hX) hO fun z o _ ho => hX.block ho)
theorem slice_one {w : World} {v : Value} {α : Type} {sz : Nat} {cs : α → List Value} {l : List α} (h : Ls sz cs w v l) : v.oneCell' = true := by
  obtain ⟨A, c, rfl, _⟩ := h
  rfl
theorem run_build13 {x y : Operand} {A A' : Option Addr} {n n' k k' : Nat} (ho : o.op = .build 25 [(0, x), (1, y)].toArray) (hx : a.eval x = .slice A n k) (hy : a.eval y = .slice A' n' k') : (execOp a.eval o).run Try.prog W = .ok (.value (.agg #[.slice A n k, .slice A' n' k'])) W := by
  have hb : (Instr.build 25 [(0, .slice A n k), (1, .slice A' n' k')].toArray).run Try.prog W = .ok (.agg #[.slice A n k, .slice A' n' k']) W := by simp [Instr.build, go_sem]
  unfold execOp
  simp only [ho, List.map_toArray, List.map_cons, List.map_nil, hx, hy]
  simp only [Sem.run_bind, hb, Result.andThen_ok, Sem.run_pure]
theorem cs_own13 {v : Value} {l : List Cn} {B : Nat} (h : OwnL 5 cnC W B 39 v l) : Cs13 W v l := OwnL.ls (fun _ => rfl) h
theorem store13 {x y : Operand} {gZ : Nat} {vS vN : Value} {old : Array Value} (hgd : o.guard = none) (ho : o.op = .store 25 x y) (hd : o.dst = none) (hx : a.eval x = ptrTo gZ) (hy : a.eval y = .agg #[vS, vN])
    (hZ : W.heap[gZ]? = some (.cells old 25 (0, 0))) (hold : old.size = 2) (h1 : vS.oneCell' = true) (h2 : vN.oneCell' = true) (h : K a (W.setRow gZ #[vS, vN])) : if Region.wanted o (yielded ops a.tmps) = true then Oper.wp Try.prog o a W K Q else E := by
  have hw : Region.wanted o (yielded ops a.tmps) = true := by simp [Region.wanted, hgd]
  rw [if_pos hw]
  exact wp_store_row 25 x y ho gZ #[vS, vN] hx hy 25 old hZ iNw hold (by simp [h1, h2]) (by rw [hd]; exact h)
theorem own_setRow {v : Value} {l : List Cn} {B gZ : Nat} {old C : Array Value} (hO : OwnL 5 cnC W B 39 v l) (hZ : W.heap[gZ]? = some (.cells old 25 (0, 0))) : OwnL 5 cnC (W.setRow gZ C) B 39 v l :=
  ⟨hO.1, hO.2.imp id fun ⟨g, cap, cur, e, hg, hh, r⟩ => ⟨g, cap, cur, e, hg, by
    have hne : g ≠ gZ := fun e => by
      rw [e, hZ] at hh
      injection hh with hh
      injection hh with _ h2 _
      exact absurd h2 (by decide)
    exact (setRow_far W C (by first | exact hne | exact hne.symm)).trans hh, r⟩⟩
end

theorem later_ways {n : Nw} {fr at_ tu till t u wait : Int} {is was : Bool} {fv : Value} (hw : 0 ≤ wait) (h : EarlA n fr at_ tu till t is .nilIface) (k : EarlA n fr (at_ + wait) tu till u was fv) :
    fv = errArg ∨ (fv = .nilIface ∧ was = false) ∨ (fv = .nilIface ∧ was = true ∧ is = true ∧ t ≤ u) := by
  rcases h with ⟨_, _, _, h⟩ | ⟨_, h1, _⟩
  · cases h
  · rcases k with ⟨_, _, _, k⟩ | ⟨_, k1, k2⟩
    · exact .inl k
    · cases was with
      | false => exact .inr (.inl ⟨k2, rfl⟩)
      | true =>
        obtain ⟨e1, e2⟩ := earl_wait hw h1 k1
        exact .inr (.inr ⟨k2, rfl, e1, e2⟩)
theorem ride_ways {n : Nw} {c : Cn} {fr at_ tu till t u : Int} {is more : Bool} {gv : Value} (h : EarlA n fr at_ tu till t is .nilIface) (k : EarlA ⟨n.ss, n.cs ++ [c]⟩ fr at_ tu till u more gv) :
    gv = errArg ∨ (gv = .nilIface ∧ is = false) ∨ (gv = .nilIface ∧ is = true ∧ more = true ∧ u ≤ t) := by
  rcases h with ⟨_, _, _, h⟩ | ⟨_, h1, _⟩
  · cases h
  · rcases k with ⟨_, _, _, k⟩ | ⟨_, k1, k2⟩
    · exact .inl k
    · cases is with
      | false => exact .inr (.inl ⟨k2, rfl⟩)
      | true =>
        obtain ⟨e1, e2⟩ := earl_ride h1 k1
        exact .inr (.inr ⟨k2, rfl, e1, e2⟩)
theorem earlA_fair {n : Nw} {fr at_ tu till t : Int} {is : Bool} (h : EarlA n fr at_ tu till t is .nilIface) : 0 ≤ at_ ∧ at_ ≤ 1073741824 := by
  rcases h with ⟨_, _, _, h⟩ | ⟨h, _⟩
  · cases h
  · obtain ⟨_, _, _, h1, h2, _⟩ := fairN_is h
    exact ⟨h1, h2⟩
theorem wrap_in (x : Int) : In64 (IntKind.i64.wrap x) := by unfold In64; rw [IntKind.wrap_i64]; omega

set_option linter.unusedSimpArgs false in
set_option linter.unusedVariables false in
set_option maxRecDepth 100000 in
set_option maxHeartbeats 8000000 in
theorem rlater_walk (C : Code13) (v : Value) (n : Nw) (fr at_ wait tu till : Int) (c : Cn) (w : World) (hF : Nv13 w v n) (i1 : In64 fr) (i2 : In64 at_) (i5 : In64 wait) (i3 : In64 tu) (i4 : In64 till) :
    Calls Try.prog 5 #[v, .int .i64 fr, .int .i64 at_, .int .i64 wait, .int .i64 tu, .int .i64 till, .agg (cnC c).toArray] w fun e w' => e = .returned (.bool true) ∧ Ext w w' := by
  have HF := veil hF
  obtain ⟨vS, vC, ws, rfl, hWs, hss, hCs⟩ := hF
  have HD := veil (And.intro hWs (And.intro hss hCs))
  have HC := veil C
  have HI := veil (And.intro i1 (And.intro i2 (And.intro i3 (And.intro i4 i5))))
  have KF := veil (fun W (h : Ext w W) => few13_calls _ n W (HF.out.ext h))
  have hE0 := (Ext.alloc w (.cells #[vS, vC] 25)).trans (Ext.alloc _ (.cells (cnC c).toArray 39))
  have hS0 := (NwAt.new w vS vC).ext (Ext.alloc _ (.cells (cnC c).toArray 39))
  have hT0 : CnAt ((w.alloc (.cells #[vS, vC] 25)).alloc (.cells (cnC c).toArray 39)) (w.heap.size + 1) c := by
    have := heap_new (w.alloc (.cells #[vS, vC] 25)) (.cells (cnC c).toArray 39)
    rwa [World.size_alloc] at this
  clear C i1 i2 i3 i4 i5 hWs hss hCs
  obtain ⟨few, hfew⟩ : ∃ few, few = fewN n := ⟨_, rfl⟩
  rw [← hfew] at KF
  have HFew := veil hfew
  clear hfew
  go_enter Try.func5, Try.ntmps5
  go_upto_region 1 with (fail)
  obtain ⟨g, hg⟩ : ∃ g, g = w.heap.size := ⟨_, rfl⟩
  obtain ⟨g2, hg2⟩ : ∃ g, g = w.heap.size + 1 := ⟨_, rfl⟩
  rw [← hg2] at hT0 ⊢
  rw [← hg] at hS0 ⊢
  generalize (w.alloc (.cells #[vS, vC] 25)).alloc (.cells (cnC c).toArray 39) = w0 at *
  have KU := veil (up13_calls HC.out w0)
  have HE := veil hE0
  have HS := veil (And.intro hS0 hT0)
  clear hE0 hS0 hT0 hg hg2
  cases few with
  | false =>
    go_wp2_with (first
      | (go_at_call 7; refine KU.out.mono ?_; rintro e w1 ⟨rfl, hE1⟩; have HE1 := veil (HE.out.trans hE1); have HS1 := veil (And.intro (HS.out.1.ext hE1) (HS.out.2.ext hE1)); clear hE1)
      | ((with_reducible refine at_slot 28 ?_); refine wpList_load_row rfl 25 _ rfl g rfl 25 #[vS, vC] (0, 0) _ HS1.out.1 Try.underlying25 rfl iNw ?_)
      | (go_at_call 8; refine (KF.out _ HE1.out).mono ?_; rintro e w2 ⟨rfl, hE2⟩))
    go_ret
    exact ⟨rfl, HE1.out.trans hE2⟩
  | true =>
  have hf1 := few1_of HFew.out.symm
  have hf2 := few1_more HFew.out.symm c
  have KE := veil (fun a x y z W (h : Ext w W) i1 i2 i3 i4 => HC.out.earl _ n a x y z W (HF.out.ext h) hf1 i1 i2 i3 i4)
  have KE1 := veil (fun W h => KE.out fr at_ tu till W h HI.out.1 HI.out.2.1 HI.out.2.2.1 HI.out.2.2.2.1)
  have KE2 := veil (fun W h => KE.out fr (IntKind.i64.wrap (at_ + wait)) tu till W h HI.out.1 (wrap_in _) HI.out.2.2.1 HI.out.2.2.2.1)
  have KE3 := veil (fun vN W (h : Ext w W) (hc : Cs13 W vN (n.cs ++ [c])) => HC.out.earl (.agg #[vS, vN]) ⟨n.ss, n.cs ++ [c]⟩ fr at_ tu till W ⟨vS, vN, ws, rfl, HD.out.1.ext h, HD.out.2.1, hc⟩ hf2 HI.out.1 HI.out.2.1 HI.out.2.2.1 HI.out.2.2.2.1)
  clear hf1 hf2 KE
  go_upto_region 3 with (first
    | (go_at_call 7; refine KU.out.mono ?_; rintro e w1 ⟨rfl, hE1⟩; have HE1 := veil (HE.out.trans hE1); have HS1 := veil (And.intro (HS.out.1.ext hE1) (HS.out.2.ext hE1)); clear hE1)
    | ((with_reducible refine at_slot 28 ?_); refine wpList_load_row rfl 25 _ rfl g rfl 25 #[vS, vC] (0, 0) _ HS1.out.1 Try.underlying25 rfl iNw ?_)
    | (go_at_call 8; refine (KF.out _ HE1.out).mono ?_; rintro e w2 ⟨rfl, hE2⟩))
  have HE2 := veil (HE1.out.trans hE2)
  have HS2 := veil (And.intro (HS1.out.1.ext hE2) (HS1.out.2.ext hE2))
  clear hE2 HE1 HS1 HE HS KU KF
  by_cases g0 : wait < 0
  · have f0 : decide (wait < 0) = true := decide_eq_true g0
    go_wp2
    go_ret
    exact ⟨rfl, HE2.out⟩
  have f0 : decide (wait < 0) = false := decide_eq_false g0
  by_cases g1 : (4320 : Int) < wait
  · have f1 : decide ((4320 : Int) < wait) = true := decide_eq_true g1
    go_wp2
    go_ret
    exact ⟨rfl, HE2.out⟩
  have f1 : decide ((4320 : Int) < wait) = false := decide_eq_false g1
  have HWt := veil (show 0 ≤ wait ∧ wait ≤ 4320 by omega)
  clear g0 g1
  go_upto_region 6 with (first
    | ((with_reducible refine at_slot 42 ?_); refine wpList_load_row rfl 25 _ rfl g rfl 25 #[vS, vC] (0, 0) _ HS2.out.1 Try.underlying25 rfl iNw ?_)
    | (go_at_call 9; refine (KE1.out _ HE2.out).mono ?_; rintro e w3 ⟨t, is, ev, rfl, hE3, hP⟩))
  have HE3 := veil (HE2.out.trans hE3)
  have HS3 := veil (And.intro (HS2.out.1.ext hE3) (HS2.out.2.ext hE3))
  clear hE3 HE2 HS2 KE1 f0 f1
  have k2 := neNil13
  have k3 := neErr13
  have k1 := eqNil13
  have k4 := eqErrNil13
  have HP := veil hP
  clear hP
  obtain ⟨x, hx⟩ : ∃ x, x = IntKind.i64.wrap (at_ + wait) := ⟨_, rfl⟩
  rw [← hx] at KE2
  have hx' := hx.symm
  have HXx := veil hx
  clear hx
  go_upto_region 7 with (first
    | ((with_reducible refine at_slot 52 ?_); refine wpList_load_row rfl 25 _ rfl g rfl 25 #[vS, vC] (0, 0) _ HS3.out.1 Try.underlying25 rfl iNw ?_)
    | (go_at_call 9; refine (KE2.out _ HE3.out).mono ?_; rintro e w4 ⟨u, was, fv, rfl, hE4, hQ⟩))
  have HE4 := veil (HE3.out.trans hE4)
  have HS4 := veil (And.intro (HS3.out.1.ext hE4) (HS3.out.2.ext hE4))
  clear hE4 HE3 HS3 KE2 hx'
  rcases earlA_ev HP.out with rfl | rfl
  · unfold errArg
    clear hQ
    go_wp2
    go_ret
    exact ⟨rfl, HE4.out⟩
  have hQ2 : EarlA n fr (at_ + wait) tu till u was fv := by
    have h1 := earlA_fair HP.out
    have h2 := HWt.out
    have : x = at_ + wait := by rw [HXx.out, IntKind.wrap_i64]; omega
    rwa [this] at hQ
  have hways := later_ways HWt.out.1 HP.out hQ2
  clear hQ hQ2
  have HW9 := veil hways
  clear hways
  go_upto_region 9 with (fail)
  go_cut [79] from 66 to 79 (fun b wx => b = .bool false ∧ wx = w4)
  case first =>
    rcases HW9.out with rfl | ⟨rfl, rfl⟩ | ⟨rfl, rfl, rfl, h⟩
    · unfold errArg
      go_wp2
      go_meet
      case rel => exact ⟨rfl, rfl⟩
    · go_wp2
      go_meet
      case rel => exact ⟨rfl, rfl⟩
    · have f0 : decide (u < t) = false := decide_eq_false (by omega)
      go_wp2
      go_meet
      case rel => exact ⟨rfl, rfl⟩
  case rest =>
  obtain ⟨rfl, rfl⟩ := hcut
  clear HW9
  go_upto_region 11 with (fail)
  go_cut [23] from 80 to 89 (fun s23 wx => ∃ g3 vN, s23 = .pointer (some ⟨g3, 0, none⟩) ∧ NwAt wx g3 vS vN ∧ Cs13 wx vN (n.cs ++ [c]) ∧ Ext wc wx)
  case first =>
    have kc0 : ∀ W, Ext wc W → W.cell? ⟨g, 0, none⟩ = some vS := fun W h => (HS4.out.1.ext h).at0
    have kc1 : ∀ W, Ext wc W → W.cell? ⟨g, 1, none⟩ = some vC := fun W h => (HS4.out.1.ext h).at1
    obtain ⟨AS, cS, hvS, _, _⟩ := HD.out.1.1
    obtain ⟨kS, hkS⟩ : ∃ k, k = ws.length := ⟨_, rfl⟩
    rw [← hkS] at hvS
    subst hvS
    obtain ⟨AC, cC, rfl, hcC, hCl⟩ := HD.out.2.2
    obtain ⟨m, hm⟩ : ∃ m, m = n.cs.length := ⟨_, rfl⟩
    rw [← hm] at kc1 ⊢
    have HM := veil (show m = n.cs.length ∧ m ≤ 200 ∧ ∀ W, Ext wc W → Cs13 W (.slice AC m cC) n.cs from ⟨hm, by have := (fewN_is HFew.out.symm).2.1; omega, fun W h => by have := HD.out.2.2.ext (HE4.out.trans h); rwa [← hm] at this⟩)
    clear hcC hCl hm
    refine wp_gen13 fun a ha => ?_
    have s7 : a.eval (.tmp 7) = .pointer (some ⟨g, 0, none⟩) := by rw [ha]; rfl
    have s13 : a.eval (.tmp 13) = .pointer (some ⟨g2, 0, none⟩) := by rw [ha]; rfl
    have sz : a.tmps.size = 117 := by rw [ha]; rfl
    refine wp_region_noPanic (wp_region_held_drew (S := fun W => Ext wc W) (by kernel_rfl) (Ext.drew _) fun hE => ?_)
    refine wpAnyH_take (i := 0) (oi := _) (v := .pointer (some ⟨g, 0, none⟩)) rfl (by kernel_rfl) (by kernel_rfl) (by kernel_rfl) (fun _ _ _ h => h) (Or.inl ⟨by rfl, fun W hW => run_fa13 (x := .tmp 7) rfl s7 (.inl rfl)⟩) hE ?_
    simp only [List.getElem_toArray, List.getElem_cons_zero, List.getElem_cons_succ]
    refine wpAnyH_take (i := 1) (oi := _) (v := .slice AS kS cS) rfl (by kernel_rfl) (by kernel_rfl) (by kernel_rfl) (fun _ _ _ h => h) (Or.inl ⟨by rfl, fun W hW => run_ldS13 (x := .tmp 80) rfl (by simp [put13_ne, put13_eq, put13_size, s7, s13, sz]) (kc0 W hW)⟩) hE ?_
    simp only [List.getElem_toArray, List.getElem_cons_zero, List.getElem_cons_succ]
    refine wpAnyH_take (i := 3) (oi := _) (v := .pointer (some ⟨g, 1, none⟩)) rfl (by kernel_rfl) (by kernel_rfl) (by kernel_rfl) (fun _ _ _ h => h) (Or.inl ⟨by rfl, fun W hW => run_fa13 (x := .tmp 7) rfl (by simp [put13_ne, put13_eq, put13_size, s7, s13, sz]) (.inr rfl)⟩) hE ?_
    simp only [List.getElem_toArray, List.getElem_cons_zero, List.getElem_cons_succ]
    refine wpAnyH_take (i := 4) (oi := _) (v := .slice AC m cC) rfl (by kernel_rfl) (by kernel_rfl) (by kernel_rfl) (fun _ _ _ h => h) (Or.inl ⟨by rfl, fun W hW => run_ldC13 (x := .tmp 83) rfl (by simp [put13_ne, put13_eq, put13_size, s7, s13, sz]) (kc1 W hW)⟩) hE ?_
    simp only [List.getElem_toArray, List.getElem_cons_zero, List.getElem_cons_succ]
    refine wpAnyH_take (i := 6) (oi := _) (v := .agg (cnC c).toArray) rfl (by kernel_rfl) (by kernel_rfl) (by kernel_rfl) (fun _ _ _ h => h) (Or.inl ⟨by rfl, fun W hW => run_ldc13 (x := .tmp 13) rfl (by simp [put13_ne, put13_eq, put13_size, s7, s13, sz]) (HS4.out.2.ext hW)⟩) hE ?_
    simp only [List.getElem_toArray, List.getElem_cons_zero, List.getElem_cons_succ]
    clear kc0 kc1
    refine wpAnyH_ready (rs := [2, 7, 10]) (by kernel_rfl) (by simp) ?_
    refine AllReadyH.cons rfl (fun K hK => ?_) (AllReadyH.cons rfl (fun K hK => ?_) (AllReadyH.cons rfl (fun K hK => ?_) AllReadyH.nil))
    · refine step_b0 rfl rfl fun gE W hX => ?_
      refine hK.out _ _ (hE.trans hX) fun hE => ?_
      simp only [List.getElem_toArray, List.getElem_cons_zero, List.getElem_cons_succ]
      refine wpAnyH_ready (rs := [5, 7, 10]) (by kernel_rfl) (by simp) ?_
      refine AllReadyH.cons rfl (fun K hK => ?_) (AllReadyH.cons rfl (fun K hK => ?_) (AllReadyH.cons rfl (fun K hK => ?_) AllReadyH.nil))
      · refine step_app0 (W0 := wc) (ys := n.cs) (s := .tmp 82) (x := .tmp 84) (gE := gE) (A := AC) (m := m) (c' := cC) rfl rfl (by simp [put13_ne, put13_eq, put13_size, s7, s13, sz]) (by simp [put13_ne, put13_eq, put13_size, s7, s13, sz]) HM.out.1 (HM.out.2.2 _ hE) HM.out.2.1 hE fun v5 W hX hO => ?_
        refine hK.out _ _ (hE.trans hX) fun hE => ?_
        have hO := hO.mono (F' := fun _ => False) fun z hz => hz.elim
        simp only [List.getElem_toArray, List.getElem_cons_zero, List.getElem_cons_succ]
        refine wpAnyH_ready (rs := [7, 10]) (by kernel_rfl) (by simp) ?_
        refine AllReadyH.cons rfl (fun K hK => ?_) (AllReadyH.cons rfl (fun K hK => ?_) AllReadyH.nil)
        · refine step_b1 (c := c) (x := .tmp 86) rfl rfl (by simp [put13_ne, put13_eq, put13_size, s7, s13, sz]) fun gB W hX hB => ?_
          refine hK.out _ _ (hE.trans hX) fun hE => ?_
          have hO := hO.keep hX
          simp only [List.getElem_toArray, List.getElem_cons_zero, List.getElem_cons_succ]
          refine wpAnyH_ready (rs := [8, 10]) (by kernel_rfl) (by simp) ?_
          refine AllReadyH.cons rfl (fun K hK => ?_) (AllReadyH.cons rfl (fun K hK => ?_) AllReadyH.nil)
          · refine step_app1 (W0 := wc) (ys := n.cs) (c := c) (s := .tmp 85) (x := .tmp 87) (gB := gB) (v5 := v5) rfl rfl (by simp [put13_ne, put13_eq, put13_size, s7, s13, sz]) (by simp [put13_ne, put13_eq, put13_size, s7, s13, sz]) hB hO (by have := HM.out.1; have := HM.out.2.1; omega) hE fun v8 W hE2 hN hbl => ?_
            refine hK.out _ _ hE2 fun hE => ?_
            simp only [List.getElem_toArray, List.getElem_cons_zero, List.getElem_cons_succ]
            obtain ⟨A8, c8, rfl, _⟩ := cs_own13 hN
            refine wpAnyH_take (i := 9) (oi := _) (v := .agg #[.slice AS kS cS, .slice A8 (n.cs ++ [c]).length c8]) rfl (by kernel_rfl) (by kernel_rfl) (by kernel_rfl) (fun _ _ _ h => h) (Or.inl ⟨by rfl, fun W hW => run_build13 (x := .tmp 81) (y := .tmp 88) rfl (by simp [put13_ne, put13_eq, put13_size, s7, s13, sz]) (by simp [put13_ne, put13_eq, put13_size, s7, s13, sz])⟩) hE ?_
            simp only [List.getElem_toArray, List.getElem_cons_zero, List.getElem_cons_succ]
            refine wpAnyH_ready (rs := [10]) (by kernel_rfl) (by simp) ?_
            refine AllReadyH.cons rfl (fun K hK => ?_) AllReadyH.nil
            · refine step_z rfl rfl fun gZ W hX hgZ hZ => ?_
              have hgz := Nat.le_trans (Below.size hE) hgZ
              refine hK.out _ _ (hE.trans hX) fun hE => ?_
              have hN := hN.keep hX
              simp only [List.getElem_toArray, List.getElem_cons_zero, List.getElem_cons_succ]
              refine wpAnyH_ready (rs := [11]) (by kernel_rfl) (by simp) ?_
              refine ready_last (by decide) fun K hK => ?_
              with_reducible refine store13 (x := .tmp 23) (y := .tmp 89) (gZ := gZ) (vS := .slice AS kS cS) (vN := .slice A8 (n.cs ++ [c]).length c8) (old := #[.slice none 0 0, .slice none 0 0]) ?_ ?_ ?_ ?_ ?_ hZ ?_ ?_ ?_ ?_
              · rfl
              · rfl
              · rfl
              · exact (by simp [put13_ne, put13_eq, put13_size, s7, s13, sz])
              · exact (by simp [put13_ne, put13_eq, put13_size, s7, s13, sz])
              · rfl
              · rfl
              · rfl
              refine hK.out _ _ (ext_setRow hE hgz _) fun hE => ?_
              refine wpAnyH_done (by kernel_rfl) ?_ _
              refine NoPanic.normal ?_
              subst ha
              have hm9 := HM.out.1
              subst hm9
              simp only [Act.put, List.setIfInBounds_toArray, List.set_cons_zero, List.set_cons_succ]
              go_step
              go_step
              go_meet
              case rel => exact ⟨gZ, _, rfl, setRow_heap _ _ _ _ _ _ hZ, cs_own13 (own_setRow hN hZ), hE⟩
          · refine step_z rfl rfl fun gZ W hX hgZ hZ => ?_
            have hgz := Nat.le_trans (Below.size hE) hgZ
            refine hK.out _ _ (hE.trans hX) fun hE => ?_
            have hO := hO.new hgZ
            have hB := hX.block hB
            have hO := hO.keep hX
            simp only [List.getElem_toArray, List.getElem_cons_zero, List.getElem_cons_succ]
            refine wpAnyH_ready (rs := [8]) (by kernel_rfl) (by simp) ?_
            refine AllReadyH.cons rfl (fun K hK => ?_) AllReadyH.nil
            · refine step_app1 (W0 := wc) (ys := n.cs) (c := c) (s := .tmp 85) (x := .tmp 87) (gB := gB) (v5 := v5) rfl rfl (by simp [put13_ne, put13_eq, put13_size, s7, s13, sz]) (by simp [put13_ne, put13_eq, put13_size, s7, s13, sz]) hB hO (by have := HM.out.1; have := HM.out.2.1; omega) hE fun v8 W hE2 hN hbl => ?_
              refine hK.out _ _ hE2 fun hE => ?_
              have hZ := hbl _ _ rfl hZ
              simp only [List.getElem_toArray, List.getElem_cons_zero, List.getElem_cons_succ]
              obtain ⟨A8, c8, rfl, _⟩ := cs_own13 hN
              refine wpAnyH_take (i := 9) (oi := _) (v := .agg #[.slice AS kS cS, .slice A8 (n.cs ++ [c]).length c8]) rfl (by kernel_rfl) (by kernel_rfl) (by kernel_rfl) (fun _ _ _ h => h) (Or.inl ⟨by rfl, fun W hW => run_build13 (x := .tmp 81) (y := .tmp 88) rfl (by simp [put13_ne, put13_eq, put13_size, s7, s13, sz]) (by simp [put13_ne, put13_eq, put13_size, s7, s13, sz])⟩) hE ?_
              simp only [List.getElem_toArray, List.getElem_cons_zero, List.getElem_cons_succ]
              refine wpAnyH_ready (rs := [11]) (by kernel_rfl) (by simp) ?_
              refine ready_last (by decide) fun K hK => ?_
              with_reducible refine store13 (x := .tmp 23) (y := .tmp 89) (gZ := gZ) (vS := .slice AS kS cS) (vN := .slice A8 (n.cs ++ [c]).length c8) (old := #[.slice none 0 0, .slice none 0 0]) ?_ ?_ ?_ ?_ ?_ hZ ?_ ?_ ?_ ?_
              · rfl
              · rfl
              · rfl
              · exact (by simp [put13_ne, put13_eq, put13_size, s7, s13, sz])
              · exact (by simp [put13_ne, put13_eq, put13_size, s7, s13, sz])
              · rfl
              · rfl
              · rfl
              refine hK.out _ _ (ext_setRow hE hgz _) fun hE => ?_
              refine wpAnyH_done (by kernel_rfl) ?_ _
              refine NoPanic.normal ?_
              subst ha
              have hm9 := HM.out.1
              subst hm9
              simp only [Act.put, List.setIfInBounds_toArray, List.set_cons_zero, List.set_cons_succ]
              go_step
              go_step
              go_meet
              case rel => exact ⟨gZ, _, rfl, setRow_heap _ _ _ _ _ _ hZ, cs_own13 (own_setRow hN hZ), hE⟩
        · refine step_z rfl rfl fun gZ W hX hgZ hZ => ?_
          have hgz := Nat.le_trans (Below.size hE) hgZ
          refine hK.out _ _ (hE.trans hX) fun hE => ?_
          have hO := hO.new hgZ
          have hO := hO.keep hX
          simp only [List.getElem_toArray, List.getElem_cons_zero, List.getElem_cons_succ]
          refine wpAnyH_ready (rs := [7]) (by kernel_rfl) (by simp) ?_
          refine AllReadyH.cons rfl (fun K hK => ?_) AllReadyH.nil
          · refine step_b1 (c := c) (x := .tmp 86) rfl rfl (by simp [put13_ne, put13_eq, put13_size, s7, s13, sz]) fun gB W hX hB => ?_
            refine hK.out _ _ (hE.trans hX) fun hE => ?_
            have hO := hO.keep hX
            have hZ := hX.block hZ
            simp only [List.getElem_toArray, List.getElem_cons_zero, List.getElem_cons_succ]
            refine wpAnyH_ready (rs := [8]) (by kernel_rfl) (by simp) ?_
            refine AllReadyH.cons rfl (fun K hK => ?_) AllReadyH.nil
            · refine step_app1 (W0 := wc) (ys := n.cs) (c := c) (s := .tmp 85) (x := .tmp 87) (gB := gB) (v5 := v5) rfl rfl (by simp [put13_ne, put13_eq, put13_size, s7, s13, sz]) (by simp [put13_ne, put13_eq, put13_size, s7, s13, sz]) hB hO (by have := HM.out.1; have := HM.out.2.1; omega) hE fun v8 W hE2 hN hbl => ?_
              refine hK.out _ _ hE2 fun hE => ?_
              have hZ := hbl _ _ rfl hZ
              simp only [List.getElem_toArray, List.getElem_cons_zero, List.getElem_cons_succ]
              obtain ⟨A8, c8, rfl, _⟩ := cs_own13 hN
              refine wpAnyH_take (i := 9) (oi := _) (v := .agg #[.slice AS kS cS, .slice A8 (n.cs ++ [c]).length c8]) rfl (by kernel_rfl) (by kernel_rfl) (by kernel_rfl) (fun _ _ _ h => h) (Or.inl ⟨by rfl, fun W hW => run_build13 (x := .tmp 81) (y := .tmp 88) rfl (by simp [put13_ne, put13_eq, put13_size, s7, s13, sz]) (by simp [put13_ne, put13_eq, put13_size, s7, s13, sz])⟩) hE ?_
              simp only [List.getElem_toArray, List.getElem_cons_zero, List.getElem_cons_succ]
              refine wpAnyH_ready (rs := [11]) (by kernel_rfl) (by simp) ?_
              refine ready_last (by decide) fun K hK => ?_
              with_reducible refine store13 (x := .tmp 23) (y := .tmp 89) (gZ := gZ) (vS := .slice AS kS cS) (vN := .slice A8 (n.cs ++ [c]).length c8) (old := #[.slice none 0 0, .slice none 0 0]) ?_ ?_ ?_ ?_ ?_ hZ ?_ ?_ ?_ ?_
              · rfl
              · rfl
              · rfl
              · exact (by simp [put13_ne, put13_eq, put13_size, s7, s13, sz])
              · exact (by simp [put13_ne, put13_eq, put13_size, s7, s13, sz])
              · rfl
              · rfl
              · rfl
              refine hK.out _ _ (ext_setRow hE hgz _) fun hE => ?_
              refine wpAnyH_done (by kernel_rfl) ?_ _
              refine NoPanic.normal ?_
              subst ha
              have hm9 := HM.out.1
              subst hm9
              simp only [Act.put, List.setIfInBounds_toArray, List.set_cons_zero, List.set_cons_succ]
              go_step
              go_step
              go_meet
              case rel => exact ⟨gZ, _, rfl, setRow_heap _ _ _ _ _ _ hZ, cs_own13 (own_setRow hN hZ), hE⟩
      · refine step_b1 (c := c) (x := .tmp 86) rfl rfl (by simp [put13_ne, put13_eq, put13_size, s7, s13, sz]) fun gB W hX hB => ?_
        refine hK.out _ _ (hE.trans hX) fun hE => ?_
        simp only [List.getElem_toArray, List.getElem_cons_zero, List.getElem_cons_succ]
        refine wpAnyH_ready (rs := [5, 10]) (by kernel_rfl) (by simp) ?_
        refine AllReadyH.cons rfl (fun K hK => ?_) (AllReadyH.cons rfl (fun K hK => ?_) AllReadyH.nil)
        · refine step_app0 (W0 := wc) (ys := n.cs) (s := .tmp 82) (x := .tmp 84) (gE := gE) (A := AC) (m := m) (c' := cC) rfl rfl (by simp [put13_ne, put13_eq, put13_size, s7, s13, sz]) (by simp [put13_ne, put13_eq, put13_size, s7, s13, sz]) HM.out.1 (HM.out.2.2 _ hE) HM.out.2.1 hE fun v5 W hX hO => ?_
          refine hK.out _ _ (hE.trans hX) fun hE => ?_
          have hO := hO.mono (F' := fun _ => False) fun z hz => hz.elim
          have hB := hX.block hB
          simp only [List.getElem_toArray, List.getElem_cons_zero, List.getElem_cons_succ]
          refine wpAnyH_ready (rs := [8, 10]) (by kernel_rfl) (by simp) ?_
          refine AllReadyH.cons rfl (fun K hK => ?_) (AllReadyH.cons rfl (fun K hK => ?_) AllReadyH.nil)
          · refine step_app1 (W0 := wc) (ys := n.cs) (c := c) (s := .tmp 85) (x := .tmp 87) (gB := gB) (v5 := v5) rfl rfl (by simp [put13_ne, put13_eq, put13_size, s7, s13, sz]) (by simp [put13_ne, put13_eq, put13_size, s7, s13, sz]) hB hO (by have := HM.out.1; have := HM.out.2.1; omega) hE fun v8 W hE2 hN hbl => ?_
            refine hK.out _ _ hE2 fun hE => ?_
            simp only [List.getElem_toArray, List.getElem_cons_zero, List.getElem_cons_succ]
            obtain ⟨A8, c8, rfl, _⟩ := cs_own13 hN
            refine wpAnyH_take (i := 9) (oi := _) (v := .agg #[.slice AS kS cS, .slice A8 (n.cs ++ [c]).length c8]) rfl (by kernel_rfl) (by kernel_rfl) (by kernel_rfl) (fun _ _ _ h => h) (Or.inl ⟨by rfl, fun W hW => run_build13 (x := .tmp 81) (y := .tmp 88) rfl (by simp [put13_ne, put13_eq, put13_size, s7, s13, sz]) (by simp [put13_ne, put13_eq, put13_size, s7, s13, sz])⟩) hE ?_
            simp only [List.getElem_toArray, List.getElem_cons_zero, List.getElem_cons_succ]
            refine wpAnyH_ready (rs := [10]) (by kernel_rfl) (by simp) ?_
            refine AllReadyH.cons rfl (fun K hK => ?_) AllReadyH.nil
            · refine step_z rfl rfl fun gZ W hX hgZ hZ => ?_
              have hgz := Nat.le_trans (Below.size hE) hgZ
              refine hK.out _ _ (hE.trans hX) fun hE => ?_
              have hN := hN.keep hX
              simp only [List.getElem_toArray, List.getElem_cons_zero, List.getElem_cons_succ]
              refine wpAnyH_ready (rs := [11]) (by kernel_rfl) (by simp) ?_
              refine ready_last (by decide) fun K hK => ?_
              with_reducible refine store13 (x := .tmp 23) (y := .tmp 89) (gZ := gZ) (vS := .slice AS kS cS) (vN := .slice A8 (n.cs ++ [c]).length c8) (old := #[.slice none 0 0, .slice none 0 0]) ?_ ?_ ?_ ?_ ?_ hZ ?_ ?_ ?_ ?_
              · rfl
              · rfl
              · rfl
              · exact (by simp [put13_ne, put13_eq, put13_size, s7, s13, sz])
              · exact (by simp [put13_ne, put13_eq, put13_size, s7, s13, sz])
              · rfl
              · rfl
              · rfl
              refine hK.out _ _ (ext_setRow hE hgz _) fun hE => ?_
              refine wpAnyH_done (by kernel_rfl) ?_ _
              refine NoPanic.normal ?_
              subst ha
              have hm9 := HM.out.1
              subst hm9
              simp only [Act.put, List.setIfInBounds_toArray, List.set_cons_zero, List.set_cons_succ]
              go_step
              go_step
              go_meet
              case rel => exact ⟨gZ, _, rfl, setRow_heap _ _ _ _ _ _ hZ, cs_own13 (own_setRow hN hZ), hE⟩
          · refine step_z rfl rfl fun gZ W hX hgZ hZ => ?_
            have hgz := Nat.le_trans (Below.size hE) hgZ
            refine hK.out _ _ (hE.trans hX) fun hE => ?_
            have hO := hO.new hgZ
            have hB := hX.block hB
            have hO := hO.keep hX
            simp only [List.getElem_toArray, List.getElem_cons_zero, List.getElem_cons_succ]
            refine wpAnyH_ready (rs := [8]) (by kernel_rfl) (by simp) ?_
            refine AllReadyH.cons rfl (fun K hK => ?_) AllReadyH.nil
            · refine step_app1 (W0 := wc) (ys := n.cs) (c := c) (s := .tmp 85) (x := .tmp 87) (gB := gB) (v5 := v5) rfl rfl (by simp [put13_ne, put13_eq, put13_size, s7, s13, sz]) (by simp [put13_ne, put13_eq, put13_size, s7, s13, sz]) hB hO (by have := HM.out.1; have := HM.out.2.1; omega) hE fun v8 W hE2 hN hbl => ?_
              refine hK.out _ _ hE2 fun hE => ?_
              have hZ := hbl _ _ rfl hZ
              simp only [List.getElem_toArray, List.getElem_cons_zero, List.getElem_cons_succ]
              obtain ⟨A8, c8, rfl, _⟩ := cs_own13 hN
              refine wpAnyH_take (i := 9) (oi := _) (v := .agg #[.slice AS kS cS, .slice A8 (n.cs ++ [c]).length c8]) rfl (by kernel_rfl) (by kernel_rfl) (by kernel_rfl) (fun _ _ _ h => h) (Or.inl ⟨by rfl, fun W hW => run_build13 (x := .tmp 81) (y := .tmp 88) rfl (by simp [put13_ne, put13_eq, put13_size, s7, s13, sz]) (by simp [put13_ne, put13_eq, put13_size, s7, s13, sz])⟩) hE ?_
              simp only [List.getElem_toArray, List.getElem_cons_zero, List.getElem_cons_succ]
              refine wpAnyH_ready (rs := [11]) (by kernel_rfl) (by simp) ?_
              refine ready_last (by decide) fun K hK => ?_
              with_reducible refine store13 (x := .tmp 23) (y := .tmp 89) (gZ := gZ) (vS := .slice AS kS cS) (vN := .slice A8 (n.cs ++ [c]).length c8) (old := #[.slice none 0 0, .slice none 0 0]) ?_ ?_ ?_ ?_ ?_ hZ ?_ ?_ ?_ ?_
              · rfl
              · rfl
              · rfl
              · exact (by simp [put13_ne, put13_eq, put13_size, s7, s13, sz])
              · exact (by simp [put13_ne, put13_eq, put13_size, s7, s13, sz])
              · rfl
              · rfl
              · rfl
              refine hK.out _ _ (ext_setRow hE hgz _) fun hE => ?_
              refine wpAnyH_done (by kernel_rfl) ?_ _
              refine NoPanic.normal ?_
              subst ha
              have hm9 := HM.out.1
              subst hm9
              simp only [Act.put, List.setIfInBounds_toArray, List.set_cons_zero, List.set_cons_succ]
              go_step
              go_step
              go_meet
              case rel => exact ⟨gZ, _, rfl, setRow_heap _ _ _ _ _ _ hZ, cs_own13 (own_setRow hN hZ), hE⟩
        · refine step_z rfl rfl fun gZ W hX hgZ hZ => ?_
          have hgz := Nat.le_trans (Below.size hE) hgZ
          refine hK.out _ _ (hE.trans hX) fun hE => ?_
          have hB := hX.block hB
          simp only [List.getElem_toArray, List.getElem_cons_zero, List.getElem_cons_succ]
          refine wpAnyH_ready (rs := [5]) (by kernel_rfl) (by simp) ?_
          refine AllReadyH.cons rfl (fun K hK => ?_) AllReadyH.nil
          · refine step_app0 (W0 := wc) (ys := n.cs) (s := .tmp 82) (x := .tmp 84) (gE := gE) (A := AC) (m := m) (c' := cC) rfl rfl (by simp [put13_ne, put13_eq, put13_size, s7, s13, sz]) (by simp [put13_ne, put13_eq, put13_size, s7, s13, sz]) HM.out.1 (HM.out.2.2 _ hE) HM.out.2.1 hE fun v5 W hX hO => ?_
            refine hK.out _ _ (hE.trans hX) fun hE => ?_
            have hO := hO.mono (F' := fun z => z = gZ) fun z hz => by rw [hz]; exact (Array.getElem?_eq_some_iff.1 hZ).1
            have hB := hX.block hB
            have hZ := hX.block hZ
            simp only [List.getElem_toArray, List.getElem_cons_zero, List.getElem_cons_succ]
            refine wpAnyH_ready (rs := [8]) (by kernel_rfl) (by simp) ?_
            refine AllReadyH.cons rfl (fun K hK => ?_) AllReadyH.nil
            · refine step_app1 (W0 := wc) (ys := n.cs) (c := c) (s := .tmp 85) (x := .tmp 87) (gB := gB) (v5 := v5) rfl rfl (by simp [put13_ne, put13_eq, put13_size, s7, s13, sz]) (by simp [put13_ne, put13_eq, put13_size, s7, s13, sz]) hB hO (by have := HM.out.1; have := HM.out.2.1; omega) hE fun v8 W hE2 hN hbl => ?_
              refine hK.out _ _ hE2 fun hE => ?_
              have hZ := hbl _ _ rfl hZ
              simp only [List.getElem_toArray, List.getElem_cons_zero, List.getElem_cons_succ]
              obtain ⟨A8, c8, rfl, _⟩ := cs_own13 hN
              refine wpAnyH_take (i := 9) (oi := _) (v := .agg #[.slice AS kS cS, .slice A8 (n.cs ++ [c]).length c8]) rfl (by kernel_rfl) (by kernel_rfl) (by kernel_rfl) (fun _ _ _ h => h) (Or.inl ⟨by rfl, fun W hW => run_build13 (x := .tmp 81) (y := .tmp 88) rfl (by simp [put13_ne, put13_eq, put13_size, s7, s13, sz]) (by simp [put13_ne, put13_eq, put13_size, s7, s13, sz])⟩) hE ?_
              simp only [List.getElem_toArray, List.getElem_cons_zero, List.getElem_cons_succ]
              refine wpAnyH_ready (rs := [11]) (by kernel_rfl) (by simp) ?_
              refine ready_last (by decide) fun K hK => ?_
              with_reducible refine store13 (x := .tmp 23) (y := .tmp 89) (gZ := gZ) (vS := .slice AS kS cS) (vN := .slice A8 (n.cs ++ [c]).length c8) (old := #[.slice none 0 0, .slice none 0 0]) ?_ ?_ ?_ ?_ ?_ hZ ?_ ?_ ?_ ?_
              · rfl
              · rfl
              · rfl
              · exact (by simp [put13_ne, put13_eq, put13_size, s7, s13, sz])
              · exact (by simp [put13_ne, put13_eq, put13_size, s7, s13, sz])
              · rfl
              · rfl
              · rfl
              refine hK.out _ _ (ext_setRow hE hgz _) fun hE => ?_
              refine wpAnyH_done (by kernel_rfl) ?_ _
              refine NoPanic.normal ?_
              subst ha
              have hm9 := HM.out.1
              subst hm9
              simp only [Act.put, List.setIfInBounds_toArray, List.set_cons_zero, List.set_cons_succ]
              go_step
              go_step
              go_meet
              case rel => exact ⟨gZ, _, rfl, setRow_heap _ _ _ _ _ _ hZ, cs_own13 (own_setRow hN hZ), hE⟩
      · refine step_z rfl rfl fun gZ W hX hgZ hZ => ?_
        have hgz := Nat.le_trans (Below.size hE) hgZ
        refine hK.out _ _ (hE.trans hX) fun hE => ?_
        simp only [List.getElem_toArray, List.getElem_cons_zero, List.getElem_cons_succ]
        refine wpAnyH_ready (rs := [5, 7]) (by kernel_rfl) (by simp) ?_
        refine AllReadyH.cons rfl (fun K hK => ?_) (AllReadyH.cons rfl (fun K hK => ?_) AllReadyH.nil)
        · refine step_app0 (W0 := wc) (ys := n.cs) (s := .tmp 82) (x := .tmp 84) (gE := gE) (A := AC) (m := m) (c' := cC) rfl rfl (by simp [put13_ne, put13_eq, put13_size, s7, s13, sz]) (by simp [put13_ne, put13_eq, put13_size, s7, s13, sz]) HM.out.1 (HM.out.2.2 _ hE) HM.out.2.1 hE fun v5 W hX hO => ?_
          refine hK.out _ _ (hE.trans hX) fun hE => ?_
          have hO := hO.mono (F' := fun z => z = gZ) fun z hz => by rw [hz]; exact (Array.getElem?_eq_some_iff.1 hZ).1
          have hZ := hX.block hZ
          simp only [List.getElem_toArray, List.getElem_cons_zero, List.getElem_cons_succ]
          refine wpAnyH_ready (rs := [7]) (by kernel_rfl) (by simp) ?_
          refine AllReadyH.cons rfl (fun K hK => ?_) AllReadyH.nil
          · refine step_b1 (c := c) (x := .tmp 86) rfl rfl (by simp [put13_ne, put13_eq, put13_size, s7, s13, sz]) fun gB W hX hB => ?_
            refine hK.out _ _ (hE.trans hX) fun hE => ?_
            have hO := hO.keep hX
            have hZ := hX.block hZ
            simp only [List.getElem_toArray, List.getElem_cons_zero, List.getElem_cons_succ]
            refine wpAnyH_ready (rs := [8]) (by kernel_rfl) (by simp) ?_
            refine AllReadyH.cons rfl (fun K hK => ?_) AllReadyH.nil
            · refine step_app1 (W0 := wc) (ys := n.cs) (c := c) (s := .tmp 85) (x := .tmp 87) (gB := gB) (v5 := v5) rfl rfl (by simp [put13_ne, put13_eq, put13_size, s7, s13, sz]) (by simp [put13_ne, put13_eq, put13_size, s7, s13, sz]) hB hO (by have := HM.out.1; have := HM.out.2.1; omega) hE fun v8 W hE2 hN hbl => ?_
              refine hK.out _ _ hE2 fun hE => ?_
              have hZ := hbl _ _ rfl hZ
              simp only [List.getElem_toArray, List.getElem_cons_zero, List.getElem_cons_succ]
              obtain ⟨A8, c8, rfl, _⟩ := cs_own13 hN
              refine wpAnyH_take (i := 9) (oi := _) (v := .agg #[.slice AS kS cS, .slice A8 (n.cs ++ [c]).length c8]) rfl (by kernel_rfl) (by kernel_rfl) (by kernel_rfl) (fun _ _ _ h => h) (Or.inl ⟨by rfl, fun W hW => run_build13 (x := .tmp 81) (y := .tmp 88) rfl (by simp [put13_ne, put13_eq, put13_size, s7, s13, sz]) (by simp [put13_ne, put13_eq, put13_size, s7, s13, sz])⟩) hE ?_
              simp only [List.getElem_toArray, List.getElem_cons_zero, List.getElem_cons_succ]
              refine wpAnyH_ready (rs := [11]) (by kernel_rfl) (by simp) ?_
              refine ready_last (by decide) fun K hK => ?_
              with_reducible refine store13 (x := .tmp 23) (y := .tmp 89) (gZ := gZ) (vS := .slice AS kS cS) (vN := .slice A8 (n.cs ++ [c]).length c8) (old := #[.slice none 0 0, .slice none 0 0]) ?_ ?_ ?_ ?_ ?_ hZ ?_ ?_ ?_ ?_
              · rfl
              · rfl
              · rfl
              · exact (by simp [put13_ne, put13_eq, put13_size, s7, s13, sz])
              · exact (by simp [put13_ne, put13_eq, put13_size, s7, s13, sz])
              · rfl
              · rfl
              · rfl
              refine hK.out _ _ (ext_setRow hE hgz _) fun hE => ?_
              refine wpAnyH_done (by kernel_rfl) ?_ _
              refine NoPanic.normal ?_
              subst ha
              have hm9 := HM.out.1
              subst hm9
              simp only [Act.put, List.setIfInBounds_toArray, List.set_cons_zero, List.set_cons_succ]
              go_step
              go_step
              go_meet
              case rel => exact ⟨gZ, _, rfl, setRow_heap _ _ _ _ _ _ hZ, cs_own13 (own_setRow hN hZ), hE⟩
        · refine step_b1 (c := c) (x := .tmp 86) rfl rfl (by simp [put13_ne, put13_eq, put13_size, s7, s13, sz]) fun gB W hX hB => ?_
          refine hK.out _ _ (hE.trans hX) fun hE => ?_
          have hZ := hX.block hZ
          simp only [List.getElem_toArray, List.getElem_cons_zero, List.getElem_cons_succ]
          refine wpAnyH_ready (rs := [5]) (by kernel_rfl) (by simp) ?_
          refine AllReadyH.cons rfl (fun K hK => ?_) AllReadyH.nil
          · refine step_app0 (W0 := wc) (ys := n.cs) (s := .tmp 82) (x := .tmp 84) (gE := gE) (A := AC) (m := m) (c' := cC) rfl rfl (by simp [put13_ne, put13_eq, put13_size, s7, s13, sz]) (by simp [put13_ne, put13_eq, put13_size, s7, s13, sz]) HM.out.1 (HM.out.2.2 _ hE) HM.out.2.1 hE fun v5 W hX hO => ?_
            refine hK.out _ _ (hE.trans hX) fun hE => ?_
            have hO := hO.mono (F' := fun z => z = gZ) fun z hz => by rw [hz]; exact (Array.getElem?_eq_some_iff.1 hZ).1
            have hB := hX.block hB
            have hZ := hX.block hZ
            simp only [List.getElem_toArray, List.getElem_cons_zero, List.getElem_cons_succ]
            refine wpAnyH_ready (rs := [8]) (by kernel_rfl) (by simp) ?_
            refine AllReadyH.cons rfl (fun K hK => ?_) AllReadyH.nil
            · refine step_app1 (W0 := wc) (ys := n.cs) (c := c) (s := .tmp 85) (x := .tmp 87) (gB := gB) (v5 := v5) rfl rfl (by simp [put13_ne, put13_eq, put13_size, s7, s13, sz]) (by simp [put13_ne, put13_eq, put13_size, s7, s13, sz]) hB hO (by have := HM.out.1; have := HM.out.2.1; omega) hE fun v8 W hE2 hN hbl => ?_
              refine hK.out _ _ hE2 fun hE => ?_
              have hZ := hbl _ _ rfl hZ
              simp only [List.getElem_toArray, List.getElem_cons_zero, List.getElem_cons_succ]
              obtain ⟨A8, c8, rfl, _⟩ := cs_own13 hN
              refine wpAnyH_take (i := 9) (oi := _) (v := .agg #[.slice AS kS cS, .slice A8 (n.cs ++ [c]).length c8]) rfl (by kernel_rfl) (by kernel_rfl) (by kernel_rfl) (fun _ _ _ h => h) (Or.inl ⟨by rfl, fun W hW => run_build13 (x := .tmp 81) (y := .tmp 88) rfl (by simp [put13_ne, put13_eq, put13_size, s7, s13, sz]) (by simp [put13_ne, put13_eq, put13_size, s7, s13, sz])⟩) hE ?_
              simp only [List.getElem_toArray, List.getElem_cons_zero, List.getElem_cons_succ]
              refine wpAnyH_ready (rs := [11]) (by kernel_rfl) (by simp) ?_
              refine ready_last (by decide) fun K hK => ?_
              with_reducible refine store13 (x := .tmp 23) (y := .tmp 89) (gZ := gZ) (vS := .slice AS kS cS) (vN := .slice A8 (n.cs ++ [c]).length c8) (old := #[.slice none 0 0, .slice none 0 0]) ?_ ?_ ?_ ?_ ?_ hZ ?_ ?_ ?_ ?_
              · rfl
              · rfl
              · rfl
              · exact (by simp [put13_ne, put13_eq, put13_size, s7, s13, sz])
              · exact (by simp [put13_ne, put13_eq, put13_size, s7, s13, sz])
              · rfl
              · rfl
              · rfl
              refine hK.out _ _ (ext_setRow hE hgz _) fun hE => ?_
              refine wpAnyH_done (by kernel_rfl) ?_ _
              refine NoPanic.normal ?_
              subst ha
              have hm9 := HM.out.1
              subst hm9
              simp only [Act.put, List.setIfInBounds_toArray, List.set_cons_zero, List.set_cons_succ]
              go_step
              go_step
              go_meet
              case rel => exact ⟨gZ, _, rfl, setRow_heap _ _ _ _ _ _ hZ, cs_own13 (own_setRow hN hZ), hE⟩
    · refine step_b1 (c := c) (x := .tmp 86) rfl rfl (by simp [put13_ne, put13_eq, put13_size, s7, s13, sz]) fun gB W hX hB => ?_
      refine hK.out _ _ (hE.trans hX) fun hE => ?_
      simp only [List.getElem_toArray, List.getElem_cons_zero, List.getElem_cons_succ]
      refine wpAnyH_ready (rs := [2, 10]) (by kernel_rfl) (by simp) ?_
      refine AllReadyH.cons rfl (fun K hK => ?_) (AllReadyH.cons rfl (fun K hK => ?_) AllReadyH.nil)
      · refine step_b0 rfl rfl fun gE W hX => ?_
        refine hK.out _ _ (hE.trans hX) fun hE => ?_
        have hB := hX.block hB
        simp only [List.getElem_toArray, List.getElem_cons_zero, List.getElem_cons_succ]
        refine wpAnyH_ready (rs := [5, 10]) (by kernel_rfl) (by simp) ?_
        refine AllReadyH.cons rfl (fun K hK => ?_) (AllReadyH.cons rfl (fun K hK => ?_) AllReadyH.nil)
        · refine step_app0 (W0 := wc) (ys := n.cs) (s := .tmp 82) (x := .tmp 84) (gE := gE) (A := AC) (m := m) (c' := cC) rfl rfl (by simp [put13_ne, put13_eq, put13_size, s7, s13, sz]) (by simp [put13_ne, put13_eq, put13_size, s7, s13, sz]) HM.out.1 (HM.out.2.2 _ hE) HM.out.2.1 hE fun v5 W hX hO => ?_
          refine hK.out _ _ (hE.trans hX) fun hE => ?_
          have hO := hO.mono (F' := fun _ => False) fun z hz => hz.elim
          have hB := hX.block hB
          simp only [List.getElem_toArray, List.getElem_cons_zero, List.getElem_cons_succ]
          refine wpAnyH_ready (rs := [8, 10]) (by kernel_rfl) (by simp) ?_
          refine AllReadyH.cons rfl (fun K hK => ?_) (AllReadyH.cons rfl (fun K hK => ?_) AllReadyH.nil)
          · refine step_app1 (W0 := wc) (ys := n.cs) (c := c) (s := .tmp 85) (x := .tmp 87) (gB := gB) (v5 := v5) rfl rfl (by simp [put13_ne, put13_eq, put13_size, s7, s13, sz]) (by simp [put13_ne, put13_eq, put13_size, s7, s13, sz]) hB hO (by have := HM.out.1; have := HM.out.2.1; omega) hE fun v8 W hE2 hN hbl => ?_
            refine hK.out _ _ hE2 fun hE => ?_
            simp only [List.getElem_toArray, List.getElem_cons_zero, List.getElem_cons_succ]
            obtain ⟨A8, c8, rfl, _⟩ := cs_own13 hN
            refine wpAnyH_take (i := 9) (oi := _) (v := .agg #[.slice AS kS cS, .slice A8 (n.cs ++ [c]).length c8]) rfl (by kernel_rfl) (by kernel_rfl) (by kernel_rfl) (fun _ _ _ h => h) (Or.inl ⟨by rfl, fun W hW => run_build13 (x := .tmp 81) (y := .tmp 88) rfl (by simp [put13_ne, put13_eq, put13_size, s7, s13, sz]) (by simp [put13_ne, put13_eq, put13_size, s7, s13, sz])⟩) hE ?_
            simp only [List.getElem_toArray, List.getElem_cons_zero, List.getElem_cons_succ]
            refine wpAnyH_ready (rs := [10]) (by kernel_rfl) (by simp) ?_
            refine AllReadyH.cons rfl (fun K hK => ?_) AllReadyH.nil
            · refine step_z rfl rfl fun gZ W hX hgZ hZ => ?_
              have hgz := Nat.le_trans (Below.size hE) hgZ
              refine hK.out _ _ (hE.trans hX) fun hE => ?_
              have hN := hN.keep hX
              simp only [List.getElem_toArray, List.getElem_cons_zero, List.getElem_cons_succ]
              refine wpAnyH_ready (rs := [11]) (by kernel_rfl) (by simp) ?_
              refine ready_last (by decide) fun K hK => ?_
              with_reducible refine store13 (x := .tmp 23) (y := .tmp 89) (gZ := gZ) (vS := .slice AS kS cS) (vN := .slice A8 (n.cs ++ [c]).length c8) (old := #[.slice none 0 0, .slice none 0 0]) ?_ ?_ ?_ ?_ ?_ hZ ?_ ?_ ?_ ?_
              · rfl
              · rfl
              · rfl
              · exact (by simp [put13_ne, put13_eq, put13_size, s7, s13, sz])
              · exact (by simp [put13_ne, put13_eq, put13_size, s7, s13, sz])
              · rfl
              · rfl
              · rfl
              refine hK.out _ _ (ext_setRow hE hgz _) fun hE => ?_
              refine wpAnyH_done (by kernel_rfl) ?_ _
              refine NoPanic.normal ?_
              subst ha
              have hm9 := HM.out.1
              subst hm9
              simp only [Act.put, List.setIfInBounds_toArray, List.set_cons_zero, List.set_cons_succ]
              go_step
              go_step
              go_meet
              case rel => exact ⟨gZ, _, rfl, setRow_heap _ _ _ _ _ _ hZ, cs_own13 (own_setRow hN hZ), hE⟩
          · refine step_z rfl rfl fun gZ W hX hgZ hZ => ?_
            have hgz := Nat.le_trans (Below.size hE) hgZ
            refine hK.out _ _ (hE.trans hX) fun hE => ?_
            have hO := hO.new hgZ
            have hB := hX.block hB
            have hO := hO.keep hX
            simp only [List.getElem_toArray, List.getElem_cons_zero, List.getElem_cons_succ]
            refine wpAnyH_ready (rs := [8]) (by kernel_rfl) (by simp) ?_
            refine AllReadyH.cons rfl (fun K hK => ?_) AllReadyH.nil
            · refine step_app1 (W0 := wc) (ys := n.cs) (c := c) (s := .tmp 85) (x := .tmp 87) (gB := gB) (v5 := v5) rfl rfl (by simp [put13_ne, put13_eq, put13_size, s7, s13, sz]) (by simp [put13_ne, put13_eq, put13_size, s7, s13, sz]) hB hO (by have := HM.out.1; have := HM.out.2.1; omega) hE fun v8 W hE2 hN hbl => ?_
              refine hK.out _ _ hE2 fun hE => ?_
              have hZ := hbl _ _ rfl hZ
              simp only [List.getElem_toArray, List.getElem_cons_zero, List.getElem_cons_succ]
              obtain ⟨A8, c8, rfl, _⟩ := cs_own13 hN
              refine wpAnyH_take (i := 9) (oi := _) (v := .agg #[.slice AS kS cS, .slice A8 (n.cs ++ [c]).length c8]) rfl (by kernel_rfl) (by kernel_rfl) (by kernel_rfl) (fun _ _ _ h => h) (Or.inl ⟨by rfl, fun W hW => run_build13 (x := .tmp 81) (y := .tmp 88) rfl (by simp [put13_ne, put13_eq, put13_size, s7, s13, sz]) (by simp [put13_ne, put13_eq, put13_size, s7, s13, sz])⟩) hE ?_
              simp only [List.getElem_toArray, List.getElem_cons_zero, List.getElem_cons_succ]
              refine wpAnyH_ready (rs := [11]) (by kernel_rfl) (by simp) ?_
              refine ready_last (by decide) fun K hK => ?_
              with_reducible refine store13 (x := .tmp 23) (y := .tmp 89) (gZ := gZ) (vS := .slice AS kS cS) (vN := .slice A8 (n.cs ++ [c]).length c8) (old := #[.slice none 0 0, .slice none 0 0]) ?_ ?_ ?_ ?_ ?_ hZ ?_ ?_ ?_ ?_
              · rfl
              · rfl
              · rfl
              · exact (by simp [put13_ne, put13_eq, put13_size, s7, s13, sz])
              · exact (by simp [put13_ne, put13_eq, put13_size, s7, s13, sz])
              · rfl
              · rfl
              · rfl
              refine hK.out _ _ (ext_setRow hE hgz _) fun hE => ?_
              refine wpAnyH_done (by kernel_rfl) ?_ _
              refine NoPanic.normal ?_
              subst ha
              have hm9 := HM.out.1
              subst hm9
              simp only [Act.put, List.setIfInBounds_toArray, List.set_cons_zero, List.set_cons_succ]
              go_step
              go_step
              go_meet
              case rel => exact ⟨gZ, _, rfl, setRow_heap _ _ _ _ _ _ hZ, cs_own13 (own_setRow hN hZ), hE⟩
        · refine step_z rfl rfl fun gZ W hX hgZ hZ => ?_
          have hgz := Nat.le_trans (Below.size hE) hgZ
          refine hK.out _ _ (hE.trans hX) fun hE => ?_
          have hB := hX.block hB
          simp only [List.getElem_toArray, List.getElem_cons_zero, List.getElem_cons_succ]
          refine wpAnyH_ready (rs := [5]) (by kernel_rfl) (by simp) ?_
          refine AllReadyH.cons rfl (fun K hK => ?_) AllReadyH.nil
          · refine step_app0 (W0 := wc) (ys := n.cs) (s := .tmp 82) (x := .tmp 84) (gE := gE) (A := AC) (m := m) (c' := cC) rfl rfl (by simp [put13_ne, put13_eq, put13_size, s7, s13, sz]) (by simp [put13_ne, put13_eq, put13_size, s7, s13, sz]) HM.out.1 (HM.out.2.2 _ hE) HM.out.2.1 hE fun v5 W hX hO => ?_
            refine hK.out _ _ (hE.trans hX) fun hE => ?_
            have hO := hO.mono (F' := fun z => z = gZ) fun z hz => by rw [hz]; exact (Array.getElem?_eq_some_iff.1 hZ).1
            have hB := hX.block hB
            have hZ := hX.block hZ
            simp only [List.getElem_toArray, List.getElem_cons_zero, List.getElem_cons_succ]
            refine wpAnyH_ready (rs := [8]) (by kernel_rfl) (by simp) ?_
            refine AllReadyH.cons rfl (fun K hK => ?_) AllReadyH.nil
            · refine step_app1 (W0 := wc) (ys := n.cs) (c := c) (s := .tmp 85) (x := .tmp 87) (gB := gB) (v5 := v5) rfl rfl (by simp [put13_ne, put13_eq, put13_size, s7, s13, sz]) (by simp [put13_ne, put13_eq, put13_size, s7, s13, sz]) hB hO (by have := HM.out.1; have := HM.out.2.1; omega) hE fun v8 W hE2 hN hbl => ?_
              refine hK.out _ _ hE2 fun hE => ?_
              have hZ := hbl _ _ rfl hZ
              simp only [List.getElem_toArray, List.getElem_cons_zero, List.getElem_cons_succ]
              obtain ⟨A8, c8, rfl, _⟩ := cs_own13 hN
              refine wpAnyH_take (i := 9) (oi := _) (v := .agg #[.slice AS kS cS, .slice A8 (n.cs ++ [c]).length c8]) rfl (by kernel_rfl) (by kernel_rfl) (by kernel_rfl) (fun _ _ _ h => h) (Or.inl ⟨by rfl, fun W hW => run_build13 (x := .tmp 81) (y := .tmp 88) rfl (by simp [put13_ne, put13_eq, put13_size, s7, s13, sz]) (by simp [put13_ne, put13_eq, put13_size, s7, s13, sz])⟩) hE ?_
              simp only [List.getElem_toArray, List.getElem_cons_zero, List.getElem_cons_succ]
              refine wpAnyH_ready (rs := [11]) (by kernel_rfl) (by simp) ?_
              refine ready_last (by decide) fun K hK => ?_
              with_reducible refine store13 (x := .tmp 23) (y := .tmp 89) (gZ := gZ) (vS := .slice AS kS cS) (vN := .slice A8 (n.cs ++ [c]).length c8) (old := #[.slice none 0 0, .slice none 0 0]) ?_ ?_ ?_ ?_ ?_ hZ ?_ ?_ ?_ ?_
              · rfl
              · rfl
              · rfl
              · exact (by simp [put13_ne, put13_eq, put13_size, s7, s13, sz])
              · exact (by simp [put13_ne, put13_eq, put13_size, s7, s13, sz])
              · rfl
              · rfl
              · rfl
              refine hK.out _ _ (ext_setRow hE hgz _) fun hE => ?_
              refine wpAnyH_done (by kernel_rfl) ?_ _
              refine NoPanic.normal ?_
              subst ha
              have hm9 := HM.out.1
              subst hm9
              simp only [Act.put, List.setIfInBounds_toArray, List.set_cons_zero, List.set_cons_succ]
              go_step
              go_step
              go_meet
              case rel => exact ⟨gZ, _, rfl, setRow_heap _ _ _ _ _ _ hZ, cs_own13 (own_setRow hN hZ), hE⟩
      · refine step_z rfl rfl fun gZ W hX hgZ hZ => ?_
        have hgz := Nat.le_trans (Below.size hE) hgZ
        refine hK.out _ _ (hE.trans hX) fun hE => ?_
        have hB := hX.block hB
        simp only [List.getElem_toArray, List.getElem_cons_zero, List.getElem_cons_succ]
        refine wpAnyH_ready (rs := [2]) (by kernel_rfl) (by simp) ?_
        refine AllReadyH.cons rfl (fun K hK => ?_) AllReadyH.nil
        · refine step_b0 rfl rfl fun gE W hX => ?_
          refine hK.out _ _ (hE.trans hX) fun hE => ?_
          have hB := hX.block hB
          have hZ := hX.block hZ
          simp only [List.getElem_toArray, List.getElem_cons_zero, List.getElem_cons_succ]
          refine wpAnyH_ready (rs := [5]) (by kernel_rfl) (by simp) ?_
          refine AllReadyH.cons rfl (fun K hK => ?_) AllReadyH.nil
          · refine step_app0 (W0 := wc) (ys := n.cs) (s := .tmp 82) (x := .tmp 84) (gE := gE) (A := AC) (m := m) (c' := cC) rfl rfl (by simp [put13_ne, put13_eq, put13_size, s7, s13, sz]) (by simp [put13_ne, put13_eq, put13_size, s7, s13, sz]) HM.out.1 (HM.out.2.2 _ hE) HM.out.2.1 hE fun v5 W hX hO => ?_
            refine hK.out _ _ (hE.trans hX) fun hE => ?_
            have hO := hO.mono (F' := fun z => z = gZ) fun z hz => by rw [hz]; exact (Array.getElem?_eq_some_iff.1 hZ).1
            have hB := hX.block hB
            have hZ := hX.block hZ
            simp only [List.getElem_toArray, List.getElem_cons_zero, List.getElem_cons_succ]
            refine wpAnyH_ready (rs := [8]) (by kernel_rfl) (by simp) ?_
            refine AllReadyH.cons rfl (fun K hK => ?_) AllReadyH.nil
            · refine step_app1 (W0 := wc) (ys := n.cs) (c := c) (s := .tmp 85) (x := .tmp 87) (gB := gB) (v5 := v5) rfl rfl (by simp [put13_ne, put13_eq, put13_size, s7, s13, sz]) (by simp [put13_ne, put13_eq, put13_size, s7, s13, sz]) hB hO (by have := HM.out.1; have := HM.out.2.1; omega) hE fun v8 W hE2 hN hbl => ?_
              refine hK.out _ _ hE2 fun hE => ?_
              have hZ := hbl _ _ rfl hZ
              simp only [List.getElem_toArray, List.getElem_cons_zero, List.getElem_cons_succ]
              obtain ⟨A8, c8, rfl, _⟩ := cs_own13 hN
              refine wpAnyH_take (i := 9) (oi := _) (v := .agg #[.slice AS kS cS, .slice A8 (n.cs ++ [c]).length c8]) rfl (by kernel_rfl) (by kernel_rfl) (by kernel_rfl) (fun _ _ _ h => h) (Or.inl ⟨by rfl, fun W hW => run_build13 (x := .tmp 81) (y := .tmp 88) rfl (by simp [put13_ne, put13_eq, put13_size, s7, s13, sz]) (by simp [put13_ne, put13_eq, put13_size, s7, s13, sz])⟩) hE ?_
              simp only [List.getElem_toArray, List.getElem_cons_zero, List.getElem_cons_succ]
              refine wpAnyH_ready (rs := [11]) (by kernel_rfl) (by simp) ?_
              refine ready_last (by decide) fun K hK => ?_
              with_reducible refine store13 (x := .tmp 23) (y := .tmp 89) (gZ := gZ) (vS := .slice AS kS cS) (vN := .slice A8 (n.cs ++ [c]).length c8) (old := #[.slice none 0 0, .slice none 0 0]) ?_ ?_ ?_ ?_ ?_ hZ ?_ ?_ ?_ ?_
              · rfl
              · rfl
              · rfl
              · exact (by simp [put13_ne, put13_eq, put13_size, s7, s13, sz])
              · exact (by simp [put13_ne, put13_eq, put13_size, s7, s13, sz])
              · rfl
              · rfl
              · rfl
              refine hK.out _ _ (ext_setRow hE hgz _) fun hE => ?_
              refine wpAnyH_done (by kernel_rfl) ?_ _
              refine NoPanic.normal ?_
              subst ha
              have hm9 := HM.out.1
              subst hm9
              simp only [Act.put, List.setIfInBounds_toArray, List.set_cons_zero, List.set_cons_succ]
              go_step
              go_step
              go_meet
              case rel => exact ⟨gZ, _, rfl, setRow_heap _ _ _ _ _ _ hZ, cs_own13 (own_setRow hN hZ), hE⟩
    · refine step_z rfl rfl fun gZ W hX hgZ hZ => ?_
      have hgz := Nat.le_trans (Below.size hE) hgZ
      refine hK.out _ _ (hE.trans hX) fun hE => ?_
      simp only [List.getElem_toArray, List.getElem_cons_zero, List.getElem_cons_succ]
      refine wpAnyH_ready (rs := [2, 7]) (by kernel_rfl) (by simp) ?_
      refine AllReadyH.cons rfl (fun K hK => ?_) (AllReadyH.cons rfl (fun K hK => ?_) AllReadyH.nil)
      · refine step_b0 rfl rfl fun gE W hX => ?_
        refine hK.out _ _ (hE.trans hX) fun hE => ?_
        have hZ := hX.block hZ
        simp only [List.getElem_toArray, List.getElem_cons_zero, List.getElem_cons_succ]
        refine wpAnyH_ready (rs := [5, 7]) (by kernel_rfl) (by simp) ?_
        refine AllReadyH.cons rfl (fun K hK => ?_) (AllReadyH.cons rfl (fun K hK => ?_) AllReadyH.nil)
        · refine step_app0 (W0 := wc) (ys := n.cs) (s := .tmp 82) (x := .tmp 84) (gE := gE) (A := AC) (m := m) (c' := cC) rfl rfl (by simp [put13_ne, put13_eq, put13_size, s7, s13, sz]) (by simp [put13_ne, put13_eq, put13_size, s7, s13, sz]) HM.out.1 (HM.out.2.2 _ hE) HM.out.2.1 hE fun v5 W hX hO => ?_
          refine hK.out _ _ (hE.trans hX) fun hE => ?_
          have hO := hO.mono (F' := fun z => z = gZ) fun z hz => by rw [hz]; exact (Array.getElem?_eq_some_iff.1 hZ).1
          have hZ := hX.block hZ
          simp only [List.getElem_toArray, List.getElem_cons_zero, List.getElem_cons_succ]
          refine wpAnyH_ready (rs := [7]) (by kernel_rfl) (by simp) ?_
          refine AllReadyH.cons rfl (fun K hK => ?_) AllReadyH.nil
          · refine step_b1 (c := c) (x := .tmp 86) rfl rfl (by simp [put13_ne, put13_eq, put13_size, s7, s13, sz]) fun gB W hX hB => ?_
            refine hK.out _ _ (hE.trans hX) fun hE => ?_
            have hO := hO.keep hX
            have hZ := hX.block hZ
            simp only [List.getElem_toArray, List.getElem_cons_zero, List.getElem_cons_succ]
            refine wpAnyH_ready (rs := [8]) (by kernel_rfl) (by simp) ?_
            refine AllReadyH.cons rfl (fun K hK => ?_) AllReadyH.nil
            · refine step_app1 (W0 := wc) (ys := n.cs) (c := c) (s := .tmp 85) (x := .tmp 87) (gB := gB) (v5 := v5) rfl rfl (by simp [put13_ne, put13_eq, put13_size, s7, s13, sz]) (by simp [put13_ne, put13_eq, put13_size, s7, s13, sz]) hB hO (by have := HM.out.1; have := HM.out.2.1; omega) hE fun v8 W hE2 hN hbl => ?_
              refine hK.out _ _ hE2 fun hE => ?_
              have hZ := hbl _ _ rfl hZ
              simp only [List.getElem_toArray, List.getElem_cons_zero, List.getElem_cons_succ]
              obtain ⟨A8, c8, rfl, _⟩ := cs_own13 hN
              refine wpAnyH_take (i := 9) (oi := _) (v := .agg #[.slice AS kS cS, .slice A8 (n.cs ++ [c]).length c8]) rfl (by kernel_rfl) (by kernel_rfl) (by kernel_rfl) (fun _ _ _ h => h) (Or.inl ⟨by rfl, fun W hW => run_build13 (x := .tmp 81) (y := .tmp 88) rfl (by simp [put13_ne, put13_eq, put13_size, s7, s13, sz]) (by simp [put13_ne, put13_eq, put13_size, s7, s13, sz])⟩) hE ?_
              simp only [List.getElem_toArray, List.getElem_cons_zero, List.getElem_cons_succ]
              refine wpAnyH_ready (rs := [11]) (by kernel_rfl) (by simp) ?_
              refine ready_last (by decide) fun K hK => ?_
              with_reducible refine store13 (x := .tmp 23) (y := .tmp 89) (gZ := gZ) (vS := .slice AS kS cS) (vN := .slice A8 (n.cs ++ [c]).length c8) (old := #[.slice none 0 0, .slice none 0 0]) ?_ ?_ ?_ ?_ ?_ hZ ?_ ?_ ?_ ?_
              · rfl
              · rfl
              · rfl
              · exact (by simp [put13_ne, put13_eq, put13_size, s7, s13, sz])
              · exact (by simp [put13_ne, put13_eq, put13_size, s7, s13, sz])
              · rfl
              · rfl
              · rfl
              refine hK.out _ _ (ext_setRow hE hgz _) fun hE => ?_
              refine wpAnyH_done (by kernel_rfl) ?_ _
              refine NoPanic.normal ?_
              subst ha
              have hm9 := HM.out.1
              subst hm9
              simp only [Act.put, List.setIfInBounds_toArray, List.set_cons_zero, List.set_cons_succ]
              go_step
              go_step
              go_meet
              case rel => exact ⟨gZ, _, rfl, setRow_heap _ _ _ _ _ _ hZ, cs_own13 (own_setRow hN hZ), hE⟩
        · refine step_b1 (c := c) (x := .tmp 86) rfl rfl (by simp [put13_ne, put13_eq, put13_size, s7, s13, sz]) fun gB W hX hB => ?_
          refine hK.out _ _ (hE.trans hX) fun hE => ?_
          have hZ := hX.block hZ
          simp only [List.getElem_toArray, List.getElem_cons_zero, List.getElem_cons_succ]
          refine wpAnyH_ready (rs := [5]) (by kernel_rfl) (by simp) ?_
          refine AllReadyH.cons rfl (fun K hK => ?_) AllReadyH.nil
          · refine step_app0 (W0 := wc) (ys := n.cs) (s := .tmp 82) (x := .tmp 84) (gE := gE) (A := AC) (m := m) (c' := cC) rfl rfl (by simp [put13_ne, put13_eq, put13_size, s7, s13, sz]) (by simp [put13_ne, put13_eq, put13_size, s7, s13, sz]) HM.out.1 (HM.out.2.2 _ hE) HM.out.2.1 hE fun v5 W hX hO => ?_
            refine hK.out _ _ (hE.trans hX) fun hE => ?_
            have hO := hO.mono (F' := fun z => z = gZ) fun z hz => by rw [hz]; exact (Array.getElem?_eq_some_iff.1 hZ).1
            have hB := hX.block hB
            have hZ := hX.block hZ
            simp only [List.getElem_toArray, List.getElem_cons_zero, List.getElem_cons_succ]
            refine wpAnyH_ready (rs := [8]) (by kernel_rfl) (by simp) ?_
            refine AllReadyH.cons rfl (fun K hK => ?_) AllReadyH.nil
            · refine step_app1 (W0 := wc) (ys := n.cs) (c := c) (s := .tmp 85) (x := .tmp 87) (gB := gB) (v5 := v5) rfl rfl (by simp [put13_ne, put13_eq, put13_size, s7, s13, sz]) (by simp [put13_ne, put13_eq, put13_size, s7, s13, sz]) hB hO (by have := HM.out.1; have := HM.out.2.1; omega) hE fun v8 W hE2 hN hbl => ?_
              refine hK.out _ _ hE2 fun hE => ?_
              have hZ := hbl _ _ rfl hZ
              simp only [List.getElem_toArray, List.getElem_cons_zero, List.getElem_cons_succ]
              obtain ⟨A8, c8, rfl, _⟩ := cs_own13 hN
              refine wpAnyH_take (i := 9) (oi := _) (v := .agg #[.slice AS kS cS, .slice A8 (n.cs ++ [c]).length c8]) rfl (by kernel_rfl) (by kernel_rfl) (by kernel_rfl) (fun _ _ _ h => h) (Or.inl ⟨by rfl, fun W hW => run_build13 (x := .tmp 81) (y := .tmp 88) rfl (by simp [put13_ne, put13_eq, put13_size, s7, s13, sz]) (by simp [put13_ne, put13_eq, put13_size, s7, s13, sz])⟩) hE ?_
              simp only [List.getElem_toArray, List.getElem_cons_zero, List.getElem_cons_succ]
              refine wpAnyH_ready (rs := [11]) (by kernel_rfl) (by simp) ?_
              refine ready_last (by decide) fun K hK => ?_
              with_reducible refine store13 (x := .tmp 23) (y := .tmp 89) (gZ := gZ) (vS := .slice AS kS cS) (vN := .slice A8 (n.cs ++ [c]).length c8) (old := #[.slice none 0 0, .slice none 0 0]) ?_ ?_ ?_ ?_ ?_ hZ ?_ ?_ ?_ ?_
              · rfl
              · rfl
              · rfl
              · exact (by simp [put13_ne, put13_eq, put13_size, s7, s13, sz])
              · exact (by simp [put13_ne, put13_eq, put13_size, s7, s13, sz])
              · rfl
              · rfl
              · rfl
              refine hK.out _ _ (ext_setRow hE hgz _) fun hE => ?_
              refine wpAnyH_done (by kernel_rfl) ?_ _
              refine NoPanic.normal ?_
              subst ha
              have hm9 := HM.out.1
              subst hm9
              simp only [Act.put, List.setIfInBounds_toArray, List.set_cons_zero, List.set_cons_succ]
              go_step
              go_step
              go_meet
              case rel => exact ⟨gZ, _, rfl, setRow_heap _ _ _ _ _ _ hZ, cs_own13 (own_setRow hN hZ), hE⟩
      · refine step_b1 (c := c) (x := .tmp 86) rfl rfl (by simp [put13_ne, put13_eq, put13_size, s7, s13, sz]) fun gB W hX hB => ?_
        refine hK.out _ _ (hE.trans hX) fun hE => ?_
        have hZ := hX.block hZ
        simp only [List.getElem_toArray, List.getElem_cons_zero, List.getElem_cons_succ]
        refine wpAnyH_ready (rs := [2]) (by kernel_rfl) (by simp) ?_
        refine AllReadyH.cons rfl (fun K hK => ?_) AllReadyH.nil
        · refine step_b0 rfl rfl fun gE W hX => ?_
          refine hK.out _ _ (hE.trans hX) fun hE => ?_
          have hB := hX.block hB
          have hZ := hX.block hZ
          simp only [List.getElem_toArray, List.getElem_cons_zero, List.getElem_cons_succ]
          refine wpAnyH_ready (rs := [5]) (by kernel_rfl) (by simp) ?_
          refine AllReadyH.cons rfl (fun K hK => ?_) AllReadyH.nil
          · refine step_app0 (W0 := wc) (ys := n.cs) (s := .tmp 82) (x := .tmp 84) (gE := gE) (A := AC) (m := m) (c' := cC) rfl rfl (by simp [put13_ne, put13_eq, put13_size, s7, s13, sz]) (by simp [put13_ne, put13_eq, put13_size, s7, s13, sz]) HM.out.1 (HM.out.2.2 _ hE) HM.out.2.1 hE fun v5 W hX hO => ?_
            refine hK.out _ _ (hE.trans hX) fun hE => ?_
            have hO := hO.mono (F' := fun z => z = gZ) fun z hz => by rw [hz]; exact (Array.getElem?_eq_some_iff.1 hZ).1
            have hB := hX.block hB
            have hZ := hX.block hZ
            simp only [List.getElem_toArray, List.getElem_cons_zero, List.getElem_cons_succ]
            refine wpAnyH_ready (rs := [8]) (by kernel_rfl) (by simp) ?_
            refine AllReadyH.cons rfl (fun K hK => ?_) AllReadyH.nil
            · refine step_app1 (W0 := wc) (ys := n.cs) (c := c) (s := .tmp 85) (x := .tmp 87) (gB := gB) (v5 := v5) rfl rfl (by simp [put13_ne, put13_eq, put13_size, s7, s13, sz]) (by simp [put13_ne, put13_eq, put13_size, s7, s13, sz]) hB hO (by have := HM.out.1; have := HM.out.2.1; omega) hE fun v8 W hE2 hN hbl => ?_
              refine hK.out _ _ hE2 fun hE => ?_
              have hZ := hbl _ _ rfl hZ
              simp only [List.getElem_toArray, List.getElem_cons_zero, List.getElem_cons_succ]
              obtain ⟨A8, c8, rfl, _⟩ := cs_own13 hN
              refine wpAnyH_take (i := 9) (oi := _) (v := .agg #[.slice AS kS cS, .slice A8 (n.cs ++ [c]).length c8]) rfl (by kernel_rfl) (by kernel_rfl) (by kernel_rfl) (fun _ _ _ h => h) (Or.inl ⟨by rfl, fun W hW => run_build13 (x := .tmp 81) (y := .tmp 88) rfl (by simp [put13_ne, put13_eq, put13_size, s7, s13, sz]) (by simp [put13_ne, put13_eq, put13_size, s7, s13, sz])⟩) hE ?_
              simp only [List.getElem_toArray, List.getElem_cons_zero, List.getElem_cons_succ]
              refine wpAnyH_ready (rs := [11]) (by kernel_rfl) (by simp) ?_
              refine ready_last (by decide) fun K hK => ?_
              with_reducible refine store13 (x := .tmp 23) (y := .tmp 89) (gZ := gZ) (vS := .slice AS kS cS) (vN := .slice A8 (n.cs ++ [c]).length c8) (old := #[.slice none 0 0, .slice none 0 0]) ?_ ?_ ?_ ?_ ?_ hZ ?_ ?_ ?_ ?_
              · rfl
              · rfl
              · rfl
              · exact (by simp [put13_ne, put13_eq, put13_size, s7, s13, sz])
              · exact (by simp [put13_ne, put13_eq, put13_size, s7, s13, sz])
              · rfl
              · rfl
              · rfl
              refine hK.out _ _ (ext_setRow hE hgz _) fun hE => ?_
              refine wpAnyH_done (by kernel_rfl) ?_ _
              refine NoPanic.normal ?_
              subst ha
              have hm9 := HM.out.1
              subst hm9
              simp only [Act.put, List.setIfInBounds_toArray, List.set_cons_zero, List.set_cons_succ]
              go_step
              go_step
              go_meet
              case rel => exact ⟨gZ, _, rfl, setRow_heap _ _ _ _ _ _ hZ, cs_own13 (own_setRow hN hZ), hE⟩
  case rest =>
  obtain ⟨g3, vN, rfl, hA3, hC3, hE3⟩ := hcut
  have HE5 := veil (HE4.out.trans hE3)
  have KE4 := veil (KE3.out vN _ HE5.out hC3)
  have HS5 := veil hA3
  clear hA3 hC3 hE3 HE4 HS4 KE3
  go_upto_region 13 with (first
    | ((with_reducible refine at_slot 91 ?_); refine wpList_load_row rfl 25 _ rfl g3 rfl 25 #[vS, vN] (0, 0) _ HS5.out Try.underlying25 rfl iNw ?_)
    | (go_at_call 9; refine KE4.out.mono ?_; rintro e w6 ⟨v, more, gv, rfl, hE6, hR⟩))
  have HE6 := veil (HE5.out.trans hE6)
  have hr := ride_ways HP.out hR
  clear HE5 HS5 KE4 hE6 hR
  rcases hr with rfl | ⟨rfl, rfl⟩ | ⟨rfl, rfl, rfl, h⟩
  · unfold errArg
    go_wp2
    go_ret
    exact ⟨rfl, HE6.out⟩
  · go_wp2
    go_ret
    exact ⟨rfl, HE6.out⟩
  · have f0 : decide (v ≤ t) = true := decide_eq_true h
    go_wp2
    go_ret
    exact ⟨rfl, HE6.out⟩
end Go.Proofs.Ytebcdhfmhnhalaa
