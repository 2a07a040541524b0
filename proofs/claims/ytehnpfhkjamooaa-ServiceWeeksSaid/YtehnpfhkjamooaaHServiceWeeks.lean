/-
  ServiceWeeks: called with any arguments (without extra and excepted days a service runs on a day just if it does a week later) it answers true and leaves its arguments as they were, over the landed package service.
  Conditions: none beyond those of the given statement.
-/
import Derived.Test.YtehnpfhkjamooaaSvz
import Derived.Test.YtehnpfhkjamooaaSvl
namespace Go.Proofs.Ytehnpfhkjamooaa

theorem ServiceWeeks_holds : Rows.ServiceWeeksSaid := ServiceWeeks_of code12
end Go.Proofs.Ytehnpfhkjamooaa
