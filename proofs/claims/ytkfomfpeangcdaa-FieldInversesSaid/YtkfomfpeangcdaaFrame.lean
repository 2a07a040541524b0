/-
  How a number by value is read ahead of a law's call and behind it.
-/
import Derived.Test.YtkfomfpeangcdaaRows
import Derived.Test.YtkfomfpeangcdaaMem
import Derived.WalkKit
import Derived.ProofKit
import Derived.Lib.SmallJoins
import Derived.Laws.IdiomArrays
namespace Go.Proofs.Ytkfomfpeangcdaa
open Go.ChangeShapes Go.WideShapes Go.ChangeAt Go.RowKit

theorem own : ownKnob Try.prog.godebug = none := by kernel_rfl
theorem cellsWord : Try.prog.cellsOf 22 = 1 := by kernel_rfl
theorem cellsNum : Try.prog.cellsOf 24 = 4 := by kernel_rfl

/-- A number, as data. -/
def numD {H : Type} (X : Nat) : DataW H := .agg [.lit (.int .u64 (wd X 0)), .lit (.int .u64 (wd X 1)), .lit (.int .u64 (wd X 2)), .lit (.int .u64 (wd X 3))]

theorem wf_u64 {x : Int} (h : (Lit.int .u64 x).wf = true) : 0 ≤ x ∧ x < 18446744073709551616 := by
  simp only [Lit.wf, Bool.and_eq_true, decide_eq_true_eq] at h
  have e1 : IntKind.u64.min = 0 := rfl
  have e2 : IntKind.u64.max = 18446744073709551615 := rfl
  omega
theorem wf_wd (X i : Nat) : (Lit.int .u64 (wd X i)).wf = true := WalkArith.wf_u64 ⟨wd_lo X i, wd_le X i⟩

section
variable {H : Type} {enc : TypeId × Value → H}
theorem shut_num (W : World) (base : Nat) (sp : Nat → Bool) (hd : Bool) (X : Nat) : DataW.Trod enc Try.prog W base sp hd 24 (.agg #[.int .u64 (wd (X) 0), .int .u64 (wd (X) 1), .int .u64 (wd (X) 2), .int .u64 (wd (X) 3)]) (numD X) [] :=
  ⟨2, by simp [numD, DataW.trod, Value.cells, Try.underlying24, Try.underlying22, cellsNum, cellsWord, wf_wd, show List.range 4 = [0, 1, 2, 3] from rfl]⟩

theorem open_num {W : World} {base : Nat} {v : Value} {d : DataW H} {p : List MemPlace} (hv : Value.okWide Try.prog W .any base 24 v) (h : DataW.Trod enc Try.prog W 0 (fun _ => true) true 24 v d p) :
    ∃ X, X < top ∧ v = .agg #[.int .u64 (wd (X) 0), .int .u64 (wd (X) 1), .int .u64 (wd (X) 2), .int .u64 (wd (X) 3)] ∧ d = numD X ∧ p = [] := by
  obtain ⟨cs, rfl, hsz, _⟩ : ∃ cs, v = .agg cs ∧ cs.size = Try.prog.cellsOf 24 ∧ Row.okWide Try.prog W .any base 24 cs := by
    simpa [Value.okWide, Try.underlying24] using hv
  rw [cellsNum] at hsz
  obtain ⟨c0, c1, c2, c3, rfl⟩ := Joins.array4 hsz
  obtain ⟨fuel, hf⟩ := h
  obtain ⟨y0, y1, y2, y3, m, hx, hy0, hy1, hy2, hy3⟩ := trod_array4 Try.underlying24 cellsWord hf
  obtain ⟨x0, e0, rfl, w0⟩ := DataW.trod_int Try.underlying22 hy0
  obtain ⟨x1, e1, rfl, w1⟩ := DataW.trod_int Try.underlying22 hy1
  obtain ⟨x2, e2, rfl, w2⟩ := DataW.trod_int Try.underlying22 hy2
  obtain ⟨x3, e3, rfl, w3⟩ := DataW.trod_int Try.underlying22 hy3
  simp at e0 e1 e2 e3
  subst e0 e1 e2 e3
  simp only [Prod.mk.injEq] at hx
  obtain ⟨rfl, rfl⟩ := hx
  obtain ⟨a0, b0⟩ := wf_u64 w0
  obtain ⟨a1, b1⟩ := wf_u64 w1
  obtain ⟨a2, b2⟩ := wf_u64 w2
  obtain ⟨a3, b3⟩ := wf_u64 w3
  obtain ⟨g0, g1, g2, g3⟩ := wd_ofWords a0 b0 a1 b1 a2 b2 a3 b3
  refine ⟨ofWords x0 x1 x2 x3, ofWords_lt b0 b1 b2 b3, ?_, ?_, rfl⟩
  · rw [g0, g1, g2, g3]
  · unfold numD
    rw [g0, g1, g2, g3]
end
end Go.Proofs.Ytkfomfpeangcdaa
