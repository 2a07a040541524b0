/-
  Arguments api.Network and api.Conn, opened.
-/
import Derived.Test.YtebcdhfmhnhalaaNwc
import Derived.Test.YtebcdhfmhnhalaaArgS
namespace Go.Proofs.Ytebcdhfmhnhalaa
open Go.ChangeShapes Go.WideShapes Go.RowKit

theorem clist5 {cs : List Value} (h : cs.length = 5) : ∃ c0 c1 c2 c3 c4, cs = [c0, c1, c2, c3, c4] := by
  match cs, h with
  | [c0, c1, c2, c3, c4], _ => exact ⟨c0, c1, c2, c3, c4, rfl⟩
theorem underC13 : ∃ f0 f1 f2 f3 f4 : Field, Try.prog.underlying 39 = some (.struct #[f0, f1, f2, f3, f4]) ∧ (f0.offset = 0 ∧ f1.offset = 1 ∧ f2.offset = 2 ∧ f3.offset = 3 ∧ f4.offset = 4) ∧ f0.type = 3 ∧ f1.type = 3 ∧ f2.type = 3 ∧ f3.type = 3 ∧ f4.type = 3 := ⟨_, _, _, _, _, Try.underlying39, ⟨rfl, rfl, rfl, rfl, rfl⟩, rfl, rfl, rfl, rfl, rfl⟩
theorem underN13 : ∃ f0 f1 : Field, Try.prog.underlying 25 = some (.struct #[f0, f1]) ∧ f0.offset = 0 ∧ f1.offset = 1 ∧ f0.type = 22 ∧ f1.type = 23 := ⟨_, _, Try.underlying25, rfl, rfl, rfl, rfl⟩
theorem cellsC13 : Try.prog.cellsOf 39 = 5 := by kernel_rfl
theorem cellsN13 : Try.prog.cellsOf 25 = 2 := by kernel_rfl
theorem cellsSS13 : Try.prog.cellsOf 22 = 1 := by kernel_rfl
theorem cellsCC13 : Try.prog.cellsOf 23 = 1 := by kernel_rfl
section
variable {H : Type} {enc : TypeId × Value → H} {W : World} {base : Nat} {sp : Nat → Bool} {hd : Bool} {fuel : Nat}
set_option maxRecDepth 100000 in
theorem cn_of_trod {cs : List Value} {x : DataW H × List MemPlace} (hf : DataW.trod enc Try.prog W base sp hd fuel 39 cs = some x) : ∃ c : Cn, cs = cnC c := by
  obtain ⟨f0, f1, f2, f3, f4, hu, ⟨o0, o1, o2, o3, o4⟩, t0, t1, t2, t3, t4⟩ := underC13
  obtain ⟨d, p⟩ := x
  obtain ⟨xs, n, _, hx, hl, hlen, hf⟩ := DataW.trod_struct hu hf
  rw [cellsC13] at hl
  obtain ⟨c0, c1, c2, c3, c4, rfl⟩ := clist5 hl
  have at_ : ∀ (i : Nat) (f : Field), (#[f0, f1, f2, f3, f4] : Array Field)[i]? = some f → ∃ y, xs[i]? = some y := by
    intro i f hi
    cases hy : xs[i]? with
    | none => exact absurd (List.getElem?_eq_none_iff.1 hy) (Nat.not_le.2 (by rw [hlen]; exact (Array.getElem?_eq_some_iff.1 hi).1))
    | some y => exact ⟨y, rfl⟩
  have each : ∀ (i : Nat) (f : Field) (c : Value), (#[f0, f1, f2, f3, f4] : Array Field)[i]? = some f → f.type = 3 → (([c0, c1, c2, c3, c4].drop f.offset).take 1) = [c] → ∃ z, c = .int .i64 z := by
    intro i f c hi ht hc
    have h1 := hf i f hi
    rw [ht, cellsI1, hc] at h1
    obtain ⟨y, hy⟩ := at_ i f hi
    rw [hy] at h1
    obtain ⟨z, h2, _⟩ := DataW.trod_int Try.underlying3 (by simpa using h1)
    simp only [List.cons.injEq, and_true] at h2
    exact ⟨z, h2⟩
  obtain ⟨z0, rfl⟩ := each 0 f0 c0 rfl t0 (by rw [o0]; rfl)
  obtain ⟨z1, rfl⟩ := each 1 f1 c1 rfl t1 (by rw [o1]; rfl)
  obtain ⟨z2, rfl⟩ := each 2 f2 c2 rfl t2 (by rw [o2]; rfl)
  obtain ⟨z3, rfl⟩ := each 3 f3 c3 rfl t3 (by rw [o3]; rfl)
  obtain ⟨z4, rfl⟩ := each 4 f4 c4 rfl t4 (by rw [o4]; rfl)
  exact ⟨⟨z0, z1, z2, z3, z4⟩, rfl⟩
/-- A service whose days lie in memory. -/
def GoodS (W : World) (x : Sw) : Prop := Ds W x.2.1 x.1.ex ∧ Ds W x.2.2 x.1.ec
set_option maxRecDepth 100000 in
theorem sw_of_trod {cs : List Value} {x : DataW H × List MemPlace} (hf : DataW.trod enc Try.prog W base sp hd fuel 43 cs = some x) : ∃ s : Sw, GoodS W s ∧ cs = swC s := by
  obtain ⟨f0, f1, f2, f3, f4, hu, ⟨o0, o1, o2, o3, o4⟩, t0, t1, t2, t3, t4⟩ := underS12
  obtain ⟨d, p⟩ := x
  obtain ⟨xs, n, _, hx, hl, hlen, hf⟩ := DataW.trod_struct hu hf
  rw [cellsS12] at hl
  obtain ⟨c0, c1, c2, c3, c4, rfl⟩ := clist5 hl
  have at_ : ∀ (i : Nat) (f : Field), (#[f0, f1, f2, f3, f4] : Array Field)[i]? = some f → ∃ y, xs[i]? = some y := by
    intro i f hi
    cases hy : xs[i]? with
    | none => exact absurd (List.getElem?_eq_none_iff.1 hy) (Nat.not_le.2 (by rw [hlen]; exact (Array.getElem?_eq_some_iff.1 hi).1))
    | some y => exact ⟨y, rfl⟩
  have each : ∀ (i : Nat) (f : Field) (c : Value), (#[f0, f1, f2, f3, f4] : Array Field)[i]? = some f → f.type = 3 → (([c0, c1, c2, c3, c4].drop f.offset).take 1) = [c] → ∃ z, c = .int .i64 z := by
    intro i f c hi ht hc
    have h1 := hf i f hi
    rw [ht, cellsI1, hc] at h1
    obtain ⟨y, hy⟩ := at_ i f hi
    rw [hy] at h1
    obtain ⟨z, h2, _⟩ := DataW.trod_int Try.underlying3 (by simpa using h1)
    simp only [List.cons.injEq, and_true] at h2
    exact ⟨z, h2⟩
  have each2 : ∀ (i : Nat) (f : Field) (c : Value), (#[f0, f1, f2, f3, f4] : Array Field)[i]? = some f → f.type = 41 → (([c0, c1, c2, c3, c4].drop f.offset).take 1) = [c] → ∃ l, Ds W c l := by
    intro i f c hi ht hc
    have h1 := hf i f hi
    rw [ht, cellsL12, hc] at h1
    obtain ⟨⟨y, q⟩, hy⟩ := at_ i f hi
    rw [hy] at h1
    exact ds_of (by simpa using h1)
  obtain ⟨z0, rfl⟩ := each 0 f0 c0 rfl t0 (by rw [o0]; rfl)
  obtain ⟨z1, rfl⟩ := each 1 f1 c1 rfl t1 (by rw [o1]; rfl)
  obtain ⟨z2, rfl⟩ := each 2 f2 c2 rfl t2 (by rw [o2]; rfl)
  obtain ⟨l3, h3⟩ := each2 3 f3 c3 rfl t3 (by rw [o3]; rfl)
  obtain ⟨l4, h4⟩ := each2 4 f4 c4 rfl t4 (by rw [o4]; rfl)
  exact ⟨(⟨z0, z1, z2, l3, l4⟩, c3, c4), ⟨h3, h4⟩, rfl⟩
theorem cs_of {v : Value} {d : DataW H} {p : List MemPlace} (hf : DataW.trod enc Try.prog W base sp hd fuel 23 [v] = some (d, p)) : ∃ l : List Cn, Cs13 W v l :=
  ls_of (cs := cnC) Try.underlying23 cellsC13 (by decide) (fun _ _ _ h => cn_of_trod h) hf
theorem ws_of {v : Value} {d : DataW H} {p : List MemPlace} (hf : DataW.trod enc Try.prog W base sp hd fuel 22 [v] = some (d, p)) : ∃ l : List Sw, Ws13 W v l := by
  obtain ⟨l, A, c, e, hc, hx⟩ := ls_of (α := {x : Sw // GoodS W x}) (cs := fun x => swC x.1) Try.underlying22 cellsS12 (by decide) (fun n cs' y h => by
    obtain ⟨s, hs, e⟩ := sw_of_trod h
    exact ⟨⟨s, hs⟩, e⟩) hf
  refine ⟨l.map (·.1), ⟨A, c, by rw [List.length_map]; exact e, by rw [List.length_map]; exact hc, ?_⟩, fun x hx => ?_⟩
  · rw [List.length_map]
    refine hx.imp id ?_
    rintro ⟨b, o, ha, hb, hr⟩
    refine ⟨b, o, ha, hb, fun i x hi => ?_⟩
    rw [List.getElem?_map] at hi
    cases h : l[i]? with
    | none => rw [h] at hi; cases hi
    | some y =>
      rw [h] at hi
      rw [← Option.some.inj hi]
      exact hr i y h
  · obtain ⟨y, _, rfl⟩ := List.mem_map.1 hx
    exact y.2
theorem nw_of {cs : List Value} {x : DataW H × List MemPlace} (hf : DataW.trod enc Try.prog W base sp hd fuel 25 cs = some x) : ∃ vS vC n, cs = [vS, vC] ∧ Nv13 W (.agg #[vS, vC]) n := by
  obtain ⟨f0, f1, hu, o0, o1, t0, t1⟩ := underN13
  obtain ⟨⟨d0, p0⟩, ⟨d1, p1⟩, m, _, hl, h0, h1⟩ := Go.ChangeShapes.trod_struct2 hu hf
  rw [cellsN13] at hl
  match cs, hl with
  | [c0, c1], _ =>
    rw [t0, o0, cellsSS13] at h0
    rw [t1, o1, cellsCC13] at h1
    obtain ⟨ws, hw⟩ := ws_of (v := c0) (by simpa using h0)
    obtain ⟨cs, hc⟩ := cs_of (v := c1) (by simpa using h1)
    exact ⟨c0, c1, ⟨ws.map (·.1), cs⟩, rfl, c0, c1, ws, rfl, hw, rfl, hc⟩
end
theorem open_nw {H : Type} {enc : TypeId × Value → H} {W : World} {base : Nat} {v : Value} {d : DataW H} {p : List MemPlace} (hv : Value.okWide Try.prog W .any base 25 v) (h : DataW.Trod enc Try.prog W 0 (fun _ => true) true 25 v d p) : ∃ n : Nw, Nv13 W v n := by
  obtain ⟨f0, f1, hu, o0, o1, t0, t1⟩ := underN13
  obtain ⟨cs, rfl, hsz⟩ := okWide_struct hu hv
  obtain ⟨fuel, hf⟩ := h
  obtain ⟨vS, vC, n, e, hn⟩ := nw_of hf
  have e2 : cs = #[vS, vC] := by
    have : cs.toList = [vS, vC] := e
    rw [← Array.toArray_toList (xs := cs), this]
  rw [e2]
  exact ⟨n, hn⟩
theorem open_cn {H : Type} {enc : TypeId × Value → H} {W : World} {base : Nat} {v : Value} {d : DataW H} {p : List MemPlace} (hv : Value.okWide Try.prog W .any base 39 v) (h : DataW.Trod enc Try.prog W 0 (fun _ => true) true 39 v d p) : ∃ c : Cn, v = .agg (cnC c).toArray := by
  obtain ⟨f0, f1, f2, f3, f4, hu, _⟩ := underC13
  obtain ⟨cs, rfl, hsz⟩ := okWide_struct hu hv
  obtain ⟨fuel, hf⟩ := h
  obtain ⟨c, e⟩ := cn_of_trod hf
  have e2 : cs = (cnC c).toArray := by
    have : cs.toList = cnC c := e
    rw [← Array.toArray_toList (xs := cs), this]
  exact ⟨c, by rw [e2]⟩
end Go.Proofs.Ytebcdhfmhnhalaa
