/-
  service.Next: the landed package's own; all that the laws ask of it.
-/
import Derived.Test.YtebcdhfmhnhalaaSvq
namespace Go.Proofs.Ytebcdhfmhnhalaa
open Go.RowKit

def NextA (s : Sv) (d : Int) (e : Ending) : Prop := ∃ r is, e = .returned (.tuple #[.int .i64 r, .bool is]) ∧ NextP s d r is
def ExtraA (l : List Int) (d : Int) (y : Int) (f : Bool) : Prop := ∃ i : Nat, AtD l d i ∧ ((i = l.length ∧ y = 0 ∧ f = false) ∨ (i < l.length ∧ y = l.getD i 0 ∧ f = true))
theorem extra_no {l : List Int} {d y : Int} (h : ExtraA l d y false) {x : Int} (hx : d ≤ x) : decide (x ∈ l) = false := by
  obtain ⟨i, hA, ⟨h1, -, -⟩ | ⟨-, -, h⟩⟩ := h
  · exact d_not fun j hj e => by have := hA.2.1 j (by omega); omega
  · cases h
theorem extra_0 {l : List Int} {d y : Int} (h : ExtraA l d y false) : y = 0 := by
  obtain ⟨i, hA, ⟨-, h2, -⟩ | ⟨-, -, h⟩⟩ := h
  · exact h2
  · cases h
theorem extra_yes {l : List Int} {d y : Int} (hr : riseD l) (h : ExtraA l d y true) : decide (y ∈ l) = true ∧ d ≤ y ∧ ∀ x, d ≤ x → x < y → decide (x ∈ l) = false := by
  obtain ⟨i, hA, ⟨-, -, h⟩ | ⟨h1, h2, -⟩⟩ := h
  · cases h
  · subst h2
    refine ⟨d_is h1 rfl, hA.2.2 i (by omega) h1, fun x hx hy => d_not fun j hj e => ?_⟩
    by_cases c : j < i
    · have := hA.2.1 j c
      omega
    · by_cases c2 : j = i
      · subst c2; omega
      · have := hr i j (by omega) hj
        omega
theorem nextP_week {s : Sv} {d t r : Int} (hM : mayV s = true) (hd : 0 ≤ d) (h : WeekP s d t r true) (he : ∀ x, d ≤ x → x < t → decide (x ∈ s.ex) = false) : NextP s d r true := by
  obtain ⟨-, h1, h2, h3, h4⟩ | ⟨h, -⟩ := h
  · exact .inl ⟨rfl, hM, hd, h1, by rw [runsV_w, h3, Bool.or_true], fun x hx hy => by rw [runsV_w, h4 x hx hy, he x hx (by omega)]; rfl⟩
  · cases h
theorem nextP_extra {s : Sv} {d t r y : Int} (hM : mayV s = true) (hd : 0 ≤ d) (h : WeekP s d t r false) (ht : s.to ≤ t ∨ y ≤ t) (he : ExtraA s.ex d y true) : NextP s d y true := by
  obtain ⟨h, -⟩ | ⟨-, -, h4⟩ := h
  · cases h
  · obtain ⟨e1, e2, e3⟩ := extra_yes (rise_of (mayV_parts hM).1) he
    refine .inl ⟨rfl, hM, hd, e2, by rw [runsV_w, e1]; rfl, fun x hx hy => ?_⟩
    rw [runsV_w, e3 x hx hy]
    by_cases c : x < t
    · rw [h4 x hx c]; rfl
    · rw [weekV_to (by omega)]; rfl
theorem nextP_none {s : Sv} {d r y : Int} (h : WeekP s d s.to r false) (he : ExtraA s.ex d y false) : NextP s d y false := by
  obtain ⟨h, -⟩ | ⟨-, -, h4⟩ := h
  · cases h
  · refine .inr ⟨rfl, extra_0 he, .inr (.inr fun x hx => ?_)⟩
    rw [runsV_w, extra_no he hx]
    by_cases c : x < s.to
    · rw [h4 x hx c]; rfl
    · rw [weekV_to (by omega)]; rfl

end Go.Proofs.Ytebcdhfmhnhalaa
