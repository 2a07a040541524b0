/-
  On a flash of zeros a journal's records are there again behind a write that was cut off anywhere, and opened twice it is as opened once: the law JournalKeeps, called with any arguments, answers true and leaves its arguments as they were.
  Conditions: none beyond those of the given statement.
-/
import Derived.Test.YtoikgkjkcampkaaJoe
import Derived.Test.YtoikgkjkcampkaaJpm
namespace Go.Proofs.Ytoikgkjkcampkaa
open Go.RowKit

theorem JournalKeeps_holds : Rows.JournalKeepsSaid := JournalKeeps_of code16
end Go.Proofs.Ytoikgkjkcampkaa
