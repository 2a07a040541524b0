/-
  Slices cut anywhere.
-/
import Derived.Test.YtehnpfhkjamooaaRows
import Derived.WalkKit
import Derived.WalkSpells
import Derived.WalkLawsBesides
namespace Go.Proofs.Ytehnpfhkjamooaa
open Go.RowKit

/-- Where s[m:] begins. -/
def cutA (A : Option Addr) (m c : Nat) : Option Addr := if c = m then A else A.map (·.add (m * 1))
end Go.Proofs.Ytehnpfhkjamooaa
