/-
  RouteBy: called with any arguments (one can be there by then just if the earliest minute is not behind it; with more time that minute is the same) it answers true and leaves its arguments as they were, over the landed package route.
  Conditions: none beyond those of the given statement.
-/
import Derived.Test.YtebcdhfmhnhalaaNxb
import Derived.Test.YtebcdhfmhnhalaaNwl
namespace Go.Proofs.Ytebcdhfmhnhalaa

theorem RouteBy_holds : Rows.RouteBySaid := RouteBy_of code13
end Go.Proofs.Ytebcdhfmhnhalaa
