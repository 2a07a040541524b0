/-
  ServiceNext: called with any arguments (the next day on which a service runs, or that there is none) it answers true and leaves its arguments as they were, over the landed package service.
  Conditions: none beyond those of the given statement.
-/
import Derived.Test.YtehnpfhkjamooaaSvy
import Derived.Test.YtehnpfhkjamooaaSvl
namespace Go.Proofs.Ytehnpfhkjamooaa

theorem ServiceNext_holds : Rows.ServiceNextSaid := ServiceNext_of code12
end Go.Proofs.Ytehnpfhkjamooaa
