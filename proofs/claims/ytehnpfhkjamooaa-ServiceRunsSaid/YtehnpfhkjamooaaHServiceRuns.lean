/-
  ServiceRuns: called with any arguments (whether a service may be, and runs on a day; the day of any minute) it answers true and leaves its arguments as they were, over the landed package service.
  Conditions: none beyond those of the given statement.
-/
import Derived.Test.YtehnpfhkjamooaaSvx
import Derived.Test.YtehnpfhkjamooaaSvl
namespace Go.Proofs.Ytehnpfhkjamooaa

theorem ServiceRuns_holds : Rows.ServiceRunsSaid := ServiceRuns_of code12
end Go.Proofs.Ytehnpfhkjamooaa
