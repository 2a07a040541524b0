/-
  What the laws of layer 8 ask of the code; the document's example.
-/
import Derived.Test.YtoikgkjkcampkaaT7
import Derived.Test.YtoikgkjkcampkaaT8
import Derived.Test.YtoikgkjkcampkaaT9
import Derived.Lib.SmallJoins
namespace Go.Proofs.Ytoikgkjkcampkaa
open Go.RowKit

def PutA (w' : World) (fs : List Fd) (x ev : Value) : Prop :=
  (mayFs fs = false ∧ (∃ A c, x = .slice A 0 c) ∧ ev = .iface 39 (.int .i64 1)) ∨
  (mayFs fs = true ∧ ev = .nilIface ∧ ∃ A c, x = .slice A (encF fs).length c ∧ (encF fs).length ≤ c ∧ Bs w' A (encF fs))
def GetA (w' : World) (bs : List Nat) (x ev : Value) : Prop :=
  (getFs bs = none ∧ (∃ A c, x = .slice A 0 c) ∧ ev = .iface 39 (.int .i64 2)) ∨ (∃ fs, getFs bs = some fs ∧ ev = .nilIface ∧ Fl w' x fs)
def OfA (bs : List Nat) (x ev : Value) : Prop := (ofB bs < 0 ∧ x = .int .i64 0 ∧ ev = .iface 39 (.int .i64 2)) ∨ (0 ≤ ofB bs ∧ x = .int .i64 (ofB bs) ∧ ev = .nilIface)
/-- What the document's Get answers. -/
def RGetA (w' : World) (bs : List Nat) (x y : Value) : Prop := (getFs bs = none ∧ x = .slice none 0 0 ∧ y = .bool false) ∨ (∃ fs, getFs bs = some fs ∧ Fl w' x fs ∧ y = .bool true)
/-- What the laws ask of the code. -/
structure Code8 : Prop where

theorem eqErr2 (w : World) : (binOp .eql 27 (.iface 39 (.int .i64 2)) (.iface 39 (.int .i64 2))).run Try.prog w = .ok (.bool true) w := by kernel_rfl
theorem neErr2 (w : World) : (binOp .neq 27 (.iface 39 (.int .i64 2)) (.iface 39 (.int .i64 2))).run Try.prog w = .ok (.bool false) w := by kernel_rfl
theorem neErr1 (w : World) : (binOp .neq 27 (.iface 39 (.int .i64 1)) (.iface 39 (.int .i64 1))).run Try.prog w = .ok (.bool false) w := by kernel_rfl
theorem bs_one {w : World} {g x : Nat} {fr : Nat × Nat} (hg : w.heap[g]? = some (.cells #[.int .u8 (x : Int)] 5 fr)) (hx : x < 256) : Bs w (some ⟨g, 0, none⟩) [x] := by
  refine ⟨fun y hy => by rw [List.mem_singleton.1 hy]; exact hx, .inr ⟨g, 0, rfl, (Array.getElem?_eq_some_iff.1 hg).1, fun j hj => ?_⟩⟩
  obtain rfl : j = 0 := by simpa using hj
  rw [cell_of_row w g _ _ _ _ hg]
  rfl

end Go.Proofs.Ytoikgkjkcampkaa
