/-
  RouteOn: called with any arguments (who can be at a stop, and from there, then, at another one, can be there, not later) it answers true and leaves its arguments as they were, over the landed package route.
  Conditions: none beyond those of the given statement.
-/
import Derived.Test.YtebcdhfmhnhalaaNxc
import Derived.Test.YtebcdhfmhnhalaaNwl
namespace Go.Proofs.Ytebcdhfmhnhalaa

theorem RouteOn_holds : Rows.RouteOnSaid := RouteOn_of code13
end Go.Proofs.Ytebcdhfmhnhalaa
