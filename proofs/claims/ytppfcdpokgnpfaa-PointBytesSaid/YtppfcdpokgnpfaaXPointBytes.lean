/-
  PointBytes: the bytes of any point, and the point of any bytes, are as the document says, by definition.
  No condition.
-/
import Derived.Test.YtppfcdpokgnpfaaX14
import Derived.Test.YtppfcdpokgnpfaaX15
import Derived.Test.YtppfcdpokgnpfaaZ11
namespace Go.Proofs.Ytppfcdpokgnpfaa
open Go.RowKit

theorem PointBytes_holds : Rows.PointBytesSaid :=
  PointBytes_over fun X Y f A n c y hX hY hy hc w hs => by
    by_cases hn : n = 64
    · subst hn
      rcases hs with h | ⟨b, o, rfl, hlt, hcell⟩
      · exact absurd h (by decide)
      cases ho : onB (be32 y 0) (be32 y 32) false with
      | true =>
        cases ha : onB X Y f with
        | false => exact pb_off_on w X Y f hX hY ha b o c y hy hc hlt hcell ho
        | true =>
          obtain ⟨q, rfl, rfl, rfl⟩ := onB_some ha
          cases hf : Pt.pFar q.1 with
          | true => exact pb_far_on w q hf b o c y hy hc hlt hcell ho
          | false => exact pb_near_on w q hf b o c y hy hc hlt hcell ho
      | false =>
        cases ha : onB X Y f with
        | false => exact pb_off_off w X Y f hX hY ha b o c y hy hc hlt hcell ho
        | true =>
          obtain ⟨q, rfl, rfl, rfl⟩ := onB_some ha
          cases hf : Pt.pFar q.1 with
          | true => exact pb_far_off w q hf b o c y hy hc hlt hcell ho
          | false => exact pb_near_off w q hf b o c y hy hc hlt hcell ho
    · cases ha : onB X Y f with
      | false => exact pb_off_none w X Y f hX hY ha A n c hn
      | true =>
        obtain ⟨q, rfl, rfl, rfl⟩ := onB_some ha
        cases hf : Pt.pFar q.1 with
        | true => exact pb_far_none w q hf A n c hn
        | false => exact pb_near_none w q hf A n c hn
end Go.Proofs.Ytppfcdpokgnpfaa
