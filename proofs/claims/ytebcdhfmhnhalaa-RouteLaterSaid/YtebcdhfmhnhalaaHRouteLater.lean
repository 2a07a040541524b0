/-
  RouteLater: called with any arguments (who leaves later is not there earlier; with a ride more one is not there later) it answers true and leaves its arguments as they were, over the landed package route.
  Conditions: none beyond those of the given statement.
-/
import Derived.Test.YtebcdhfmhnhalaaNxd
import Derived.Test.YtebcdhfmhnhalaaNwl
namespace Go.Proofs.Ytebcdhfmhnhalaa

theorem RouteLater_holds : Rows.RouteLaterSaid := RouteLater_of code13
end Go.Proofs.Ytebcdhfmhnhalaa
