/-
  Arguments []byte and []api.Field, opened.
-/
import Derived.Test.YtebcdhfmhnhalaaT1
import Derived.ChangeSlices
import Derived.Carry
import Derived.BigFrame
import Derived.ProofKit
import Derived.Lib.SmallJoins
namespace Go.Proofs.Ytebcdhfmhnhalaa
open Go.ChangeShapes Go.WideShapes Go.RowKit

theorem ownT : ownKnob Try.prog.godebug = none := by kernel_rfl
theorem laidOutT : laidOutB Try.prog = true := by kernel_rfl
theorem cellsT1 : Try.prog.cellsOf 5 = 1 := by kernel_rfl
theorem cellsI1 : Try.prog.cellsOf 3 = 1 := by kernel_rfl
end Go.Proofs.Ytebcdhfmhnhalaa
