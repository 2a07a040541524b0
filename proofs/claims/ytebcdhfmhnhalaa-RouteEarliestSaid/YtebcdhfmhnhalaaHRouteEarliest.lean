/-
  RouteEarliest: called with any arguments (how soon one can be anywhere in a network, or that it may not be asked) it answers true and leaves its arguments as they were, over the landed package route.
  Conditions: none beyond those of the given statement.
-/
import Derived.Test.YtebcdhfmhnhalaaNxa
import Derived.Test.YtebcdhfmhnhalaaNwl
namespace Go.Proofs.Ytebcdhfmhnhalaa

theorem RouteEarliest_holds : Rows.RouteEarliestSaid := RouteEarliest_of code13
end Go.Proofs.Ytebcdhfmhnhalaa
