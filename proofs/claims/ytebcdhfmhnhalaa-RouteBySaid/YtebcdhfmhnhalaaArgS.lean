/-
  An argument api.Service, opened.
-/
import Derived.Test.YtebcdhfmhnhalaaSvc
import Derived.Test.YtebcdhfmhnhalaaArgB
import Derived.Carry
namespace Go.Proofs.Ytebcdhfmhnhalaa
open Go.ChangeShapes Go.WideShapes Go.RowKit

theorem list5 {cs : Array Value} (h : cs.size = 5) : ∃ c0 c1 c2 c3 c4, cs = #[c0, c1, c2, c3, c4] := by
  obtain ⟨l⟩ := cs
  match l, h with
  | [c0, c1, c2, c3, c4], _ => exact ⟨c0, c1, c2, c3, c4, rfl⟩
theorem underS12 : ∃ f0 f1 f2 f3 f4 : Field, Try.prog.underlying 43 = some (.struct #[f0, f1, f2, f3, f4]) ∧ (f0.offset = 0 ∧ f1.offset = 1 ∧ f2.offset = 2 ∧ f3.offset = 3 ∧ f4.offset = 4) ∧ f0.type = 3 ∧ f1.type = 3 ∧ f2.type = 3 ∧ f3.type = 41 ∧ f4.type = 41 := ⟨_, _, _, _, _, Try.underlying43, ⟨rfl, rfl, rfl, rfl, rfl⟩, rfl, rfl, rfl, rfl, rfl⟩
theorem cellsS12 : Try.prog.cellsOf 43 = 5 := by kernel_rfl
theorem cellsL12 : Try.prog.cellsOf 41 = 1 := by kernel_rfl
section
variable {H : Type} {enc : TypeId × Value → H} {W : World} {base : Nat}
theorem d_of_trod {sp : Nat → Bool} {hd : Bool} {fuel : Nat} {cs : List Value} {x : DataW H × List MemPlace} (hf : DataW.trod enc Try.prog W base sp hd fuel 3 cs = some x) : ∃ k : Int, cs = dC k := by
  obtain ⟨z, e, _, _⟩ := DataW.trod_int Try.underlying3 hf
  exact ⟨z, e⟩
theorem ds_of {sp : Nat → Bool} {hd : Bool} {fuel : Nat} {v : Value} {d : DataW H} {p : List MemPlace} (hf : DataW.trod enc Try.prog W base sp hd fuel 41 [v] = some (d, p)) : ∃ l : List Int, Ds W v l :=
  ls_of (cs := dC) Try.underlying41 cellsI1 (by decide) (fun _ _ _ h => d_of_trod h) hf
set_option maxRecDepth 100000 in
theorem open_sv {v : Value} {d : DataW H} {p : List MemPlace} (hv : Value.okWide Try.prog W .any base 43 v) (h : DataW.Trod enc Try.prog W 0 (fun _ => true) true 43 v d p) : ∃ s : Sv, Vs12 W v s := by
  obtain ⟨f0, f1, f2, f3, f4, hu, ⟨o0, o1, o2, o3, o4⟩, t0, t1, t2, t3, t4⟩ := underS12
  obtain ⟨cs, rfl, hsz⟩ := okWide_struct hu hv
  rw [cellsS12] at hsz
  obtain ⟨c0, c1, c2, c3, c4, rfl⟩ := list5 hsz
  obtain ⟨fuel, hf⟩ := h
  obtain ⟨xs, n, _, hx, hl, hlen, hf⟩ := DataW.trod_struct hu hf
  have at_ : ∀ (i : Nat) (f : Field), (#[f0, f1, f2, f3, f4] : Array Field)[i]? = some f → ∃ y, xs[i]? = some y := by
    intro i f hi
    cases hy : xs[i]? with
    | none => exact absurd (List.getElem?_eq_none_iff.1 hy) (Nat.not_le.2 (by rw [hlen]; exact (Array.getElem?_eq_some_iff.1 hi).1))
    | some y => exact ⟨y, rfl⟩
  have each : ∀ (i : Nat) (f : Field) (c : Value), (#[f0, f1, f2, f3, f4] : Array Field)[i]? = some f → f.type = 3 → (((Value.agg #[c0, c1, c2, c3, c4]).cells.toList.drop f.offset).take 1) = [c] → ∃ z, c = .int .i64 z := by
    intro i f c hi ht hc
    have h1 := hf i f hi
    rw [ht, cellsI1, hc] at h1
    obtain ⟨y, hy⟩ := at_ i f hi
    rw [hy] at h1
    obtain ⟨z, h2, _⟩ := DataW.trod_int Try.underlying3 (by simpa using h1)
    simp only [List.cons.injEq, and_true] at h2
    exact ⟨z, h2⟩
  have each2 : ∀ (i : Nat) (f : Field) (c : Value), (#[f0, f1, f2, f3, f4] : Array Field)[i]? = some f → f.type = 41 → (((Value.agg #[c0, c1, c2, c3, c4]).cells.toList.drop f.offset).take 1) = [c] → ∃ l, Ds W c l := by
    intro i f c hi ht hc
    have h1 := hf i f hi
    rw [ht, cellsL12, hc] at h1
    obtain ⟨⟨y, q⟩, hy⟩ := at_ i f hi
    rw [hy] at h1
    exact ds_of (by simpa using h1)
  obtain ⟨z0, rfl⟩ := each 0 f0 c0 rfl t0 (by rw [o0]; rfl)
  obtain ⟨z1, rfl⟩ := each 1 f1 c1 rfl t1 (by rw [o1]; rfl)
  obtain ⟨z2, rfl⟩ := each 2 f2 c2 rfl t2 (by rw [o2]; rfl)
  obtain ⟨l3, h3⟩ := each2 3 f3 c3 rfl t3 (by rw [o3]; rfl)
  obtain ⟨l4, h4⟩ := each2 4 f4 c4 rfl t4 (by rw [o4]; rfl)
  exact ⟨⟨z0, z1, z2, l3, l4⟩, c3, c4, rfl, h3, h4⟩
end
end Go.Proofs.Ytebcdhfmhnhalaa
