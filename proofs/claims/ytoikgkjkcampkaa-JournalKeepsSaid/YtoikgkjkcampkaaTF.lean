/-
  tlv.sizeOf, tlv.sizeOfFirst, tlv.May, bytes.Clone: the landed package's own parts.
-/
import Derived.Test.YtoikgkjkcampkaaT5
namespace Go.Proofs.Ytoikgkjkcampkaa
open Go.RowKit

theorem rng_fd {w : World} {b o : Nat} {x y : Value} (h0 : w.cell? ⟨b, o, none⟩ = some x) (h1 : w.cell? ⟨b, o + 1, none⟩ = some y) : w.rangeAt b o [x, y] := fun j v hv => by
  match j, hv with
  | 0, hv => rw [Nat.add_zero, h0]; simpa using hv
  | 1, hv => rw [h1]; simpa using hv
theorem one_fd {T : Int} {A : Option Addr} {L c : Nat} : (#[.int .i64 T, .slice A L c] : Array Value).all (·.oneCell') = true := by simp [Value.oneCell']

/-- How many bytes fields have. -/
theorem encF_take_len (fs : List Fd) {i : Nat} (hi : i < fs.length) : (encF (fs.take (i + 1))).length = (encF (fs.take i)).length + (3 + (bsF fs i).length) := by
  rw [encF_take fs hi, List.length_append, enc1_length]

/-- How many bytes the first field has by its head. -/
def szB (bs : List Nat) : Nat := if bs.length < 3 then 3 else 3 + (256 * bs.getD 1 0 + bs.getD 2 0)
end Go.Proofs.Ytoikgkjkcampkaa
