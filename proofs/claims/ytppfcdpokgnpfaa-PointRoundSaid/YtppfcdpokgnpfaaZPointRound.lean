/-
  PointRound: Behind n multiples they come again.
  No condition.
-/
import Derived.Test.YtppfcdpokgnpfaaZ12
namespace Go.Proofs.Ytppfcdpokgnpfaa
open Go.RowKit

theorem PointRound_holds : Rows.PointRoundSaid := PointRound_of code
end Go.Proofs.Ytppfcdpokgnpfaa
