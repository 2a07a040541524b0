/-
  Arguments [][]byte, opened.
-/
import Derived.Test.YtoikgkjkcampkaaJob
import Derived.Test.YtoikgkjkcampkaaArgB
namespace Go.Proofs.Ytoikgkjkcampkaa
open Go.ChangeShapes Go.WideShapes Go.RowKit

section
variable {H : Type} {enc : TypeId × Value → H} {W : World} {base : Nat} {sp : Nat → Bool} {hd : Bool} {fuel : Nat}
theorem cellsBB16 : Try.prog.cellsOf 23 = 1 := by kernel_rfl
theorem tv_of_trod {cs : List Value} {x : DataW H × List MemPlace} (hf : DataW.trod enc Try.prog W base sp hd fuel 23 cs = some x) : ∃ y : Tv, TvAt W y ∧ cs = tvC y := by
  obtain ⟨d, p⟩ := x
  have h1 : ∃ v, cs = [v] := by
    rcases DataW.trod_slice Try.underlying23 hf with ⟨h, _⟩ | ⟨a, len, cap, _, _, _, _, h, _⟩
    · exact ⟨_, h⟩
    · exact ⟨_, h⟩
  obtain ⟨v, rfl⟩ := h1
  obtain ⟨A, m, c, bs, rfl, hm, hb, hc⟩ := bs_of hf
  exact ⟨(.slice A m c, bs), ⟨A, c, by rw [hm], by show bs.length ≤ c; omega, hb⟩, rfl⟩
theorem tx_of {v : Value} {d : DataW H} {p : List MemPlace} (hf : DataW.trod enc Try.prog W base sp hd fuel 22 [v] = some (d, p)) : ∃ l : List Tv, Tx W v l := by
  obtain ⟨l, A, c, e, hc, hx⟩ := ls_of (α := {x : Tv // TvAt W x}) (cs := fun x => tvC x.1) Try.underlying22 cellsBB16 (by decide) (fun n cs' y h => by
    obtain ⟨s, hs, e⟩ := tv_of_trod h
    exact ⟨⟨s, hs⟩, e⟩) hf
  refine ⟨l.map (·.1), ⟨A, c, by rw [List.length_map]; exact e, by rw [List.length_map]; exact hc, ?_⟩, fun x hx => ?_⟩
  · rw [List.length_map]
    refine hx.imp id ?_
    rintro ⟨b, o, ha, hb, hr⟩
    refine ⟨b, o, ha, hb, fun i x hi => ?_⟩
    rw [List.getElem?_map] at hi
    cases h : l[i]? with
    | none => rw [h] at hi; cases hi
    | some y =>
      rw [h] at hi
      rw [← Option.some.inj hi]
      exact hr i y h
  · obtain ⟨y, _, rfl⟩ := List.mem_map.1 hx
    exact y.2
end
end Go.Proofs.Ytoikgkjkcampkaa
