/-
  What a region that draws keeps.
-/
import Derived.Test.YtkfomfpeangcdaaMem
namespace Go.Proofs.Ytkfomfpeangcdaa
open Go.RowKit

/-- All that was there at wz reads as it did, and is below. -/
def Held (wz w' : World) : Prop := (∀ b o, b < wz.heap.size → w'.cell? ⟨b, o, none⟩ = wz.cell? ⟨b, o, none⟩) ∧ Below wz.heap.size wz w'
theorem look_below {W w' : World} (hb : Below W.heap.size W w') : (∀ b o, b < W.heap.size → w'.cell? ⟨b, o, none⟩ = W.cell? ⟨b, o, none⟩) ∧ (∀ b o, b < W.heap.size → w'.frozen? ⟨b, o, none⟩ = W.frozen? ⟨b, o, none⟩) ∧ (∀ b, b < W.heap.size → b < w'.heap.size) :=
  ⟨fun b o h => hb.cell (p := ⟨b, o, none⟩) h, fun b o h => hb.frozen (p := ⟨b, o, none⟩) h, fun _ h => Nat.lt_of_lt_of_le h hb.size⟩
end Go.Proofs.Ytkfomfpeangcdaa
