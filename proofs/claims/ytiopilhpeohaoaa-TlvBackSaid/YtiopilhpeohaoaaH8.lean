/-
  Each of the four laws of layer 8 (TlvPuts, TlvNumbers, TlvBack, TlvCut), called with any arguments, answers true and leaves its arguments as they were, over the landed package tlv.
  Conditions: none beyond those of the given statements.
-/
import Derived.Test.YtiopilhpeohaoaaLT8
import Derived.Test.YtiopilhpeohaoaaTI
namespace Go.Proofs.Ytiopilhpeohaoaa

theorem TlvPuts_holds : Rows.TlvPutsSaid := TlvPuts_of code8
theorem TlvNumbers_holds : Rows.TlvNumbersSaid := TlvNumbers_of code8
theorem TlvBack_holds : Rows.TlvBackSaid := TlvBack_of code8
theorem TlvCut_holds : Rows.TlvCutSaid := TlvCut_of code8
end Go.Proofs.Ytiopilhpeohaoaa
