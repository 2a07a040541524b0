/-
  PointSums: whether any points are on the curve, their sum, and the one that takes one away, are as the document says, by definition; so are p, n and the base.
  No condition.
-/
import Derived.Test.YtppfcdpokgnpfaaY13
import Derived.Test.YtppfcdpokgnpfaaZ11
namespace Go.Proofs.Ytppfcdpokgnpfaa
open Go.RowKit

theorem PointSums_holds : Rows.PointSumsSaid :=
  PointSums_over fun X Y f X' Y' f' hX hY hX' hY' w => by
    cases ha : onB X Y f with
    | true =>
      obtain ⟨q, rfl, rfl, rfl⟩ := onB_some ha
      cases hb : onB X' Y' f' with
      | true =>
        obtain ⟨r, rfl, rfl, rfl⟩ := onB_some hb
        exact sums_yy q r w
      | false => exact sums_yn q X' Y' f' hX' hY' hb w
    | false =>
      cases hb : onB X' Y' f' with
      | true =>
        obtain ⟨r, rfl, rfl, rfl⟩ := onB_some hb
        exact sums_ny X Y f hX hY ha r w
      | false => exact sums_nn X Y f hX hY ha X' Y' f' hX' hY' hb w
end Go.Proofs.Ytppfcdpokgnpfaa
