/-
  tlv.Put: the landed package's own.
-/
import Derived.Test.YtoikgkjkcampkaaTF
import Derived.Test.YtoikgkjkcampkaaTA
namespace Go.Proofs.Ytoikgkjkcampkaa
open Go.RowKit

theorem infoTG : (Try.prog.info? 5).map (fun i => (i.zero, i.size, i.bytes)) = some (some (.int .u8 0), 1, 1) := by kernel_rfl
end Go.Proofs.Ytoikgkjkcampkaa
