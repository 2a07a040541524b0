/-
  Slices cut anywhere.
-/
import Derived.Test.YtebcdhfmhnhalaaRows
import Derived.WalkKit
import Derived.WalkSpells
import Derived.WalkLawsBesides
namespace Go.Proofs.Ytebcdhfmhnhalaa
open Go.RowKit

/-- Where s[m:] begins. -/
def cutA (A : Option Addr) (m c : Nat) : Option Addr := if c = m then A else A.map (·.add (m * 1))
end Go.Proofs.Ytebcdhfmhnhalaa
