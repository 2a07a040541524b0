/-
  Texts that come in parts: the parts of an argument, what the first ones hold together.
-/
import Derived.Test.YtmgogcoafhompaaDoorHLaw
import Derived.Deep.Matrix
namespace Go.Proofs.YtmgogcoafhompaaDoor
open Go.RowKit

/-- The parts that came in: part r is C r's first L r bytes, from A r on. -/
structure Parts3 (W : World) (AL : Option Addr) (nl : Nat) (A : Nat → Option Addr) (L C : Nat → Nat) (Y : Nat → Nat → Nat) : Prop where
  row : nl = 0 ∨ ∃ b o, AL = some ⟨b, o, none⟩ ∧ b < W.heap.size ∧ ∀ r, r < nl → W.cell? ⟨b, o + r, none⟩ = some (.slice (A r) (L r) (C r))
  src : ∀ r, r < nl → Src W (A r) (L r) (Y r) W.heap.size
  cap : ∀ r, r < nl → L r ≤ C r
  lt : ∀ r j, Y r j < 256
/-- All that the first i parts hold. -/
def lenN (L : Nat → Nat) : Nat → Nat
  | 0 => 0
  | i + 1 => lenN L i + L i
def textN (L : Nat → Nat) (Y : Nat → Nat → Nat) : Nat → Nat → Nat
  | 0 => fun _ => 0
  | i + 1 => cat (textN L Y i) (lenN L i) (Y i)
theorem lenN_le {L : Nat → Nat} : ∀ i, (∀ r, r < i → L r ≤ 1000) → lenN L i ≤ 1000 * i
  | 0, _ => by simp [lenN]
  | i + 1, h => by
    have h1 := lenN_le i fun r hr => h r (by omega)
    have h2 := h i (by omega)
    show lenN L i + L i ≤ _
    omega
theorem textN_lt {L : Nat → Nat} {Y : Nat → Nat → Nat} (h : ∀ r j, Y r j < 256) : ∀ i j, textN L Y i j < 256
  | 0, _ => by show (0 : Nat) < 256; decide
  | i + 1, j => cat_lt (textN_lt h i) (h i) j


section
open Go.ChangeShapes Go.WideShapes Go.ChangeAt
theorem cellsSlice : Tryd.prog.cellsOf 22 = 1 := by kernel_rfl
theorem parts_of {H : Type} {enc : TypeId × Value → H} {W : World} {AL : Option Addr} {len cap fuel : Nat} {d : DataW H} {p : List MemPlace}
    (hf : DataW.trod enc Tryd.prog W 0 (fun _ => true) true fuel 23 [.slice AL len cap] = some (d, p)) : ∃ A L C Y, Parts3 W AL len A L C Y := by
  rcases Go.Deep.open_int_rows Tryd.underlying23 Tryd.underlying22 Tryd.underlying5 cellsSlice cellsByte hf with ⟨hcs, _⟩ | ⟨a, len', cap', A, L, C, Z, hcs, _, hlc, _, _, hr⟩
  · simp only [List.cons.injEq, Value.slice.injEq, and_true] at hcs
    obtain ⟨_, rfl, _⟩ := hcs
    exact ⟨fun _ => none, fun _ => 0, fun _ => 0, fun _ _ => 0, .inl rfl, fun r h => by omega, fun r h => by omega, fun _ _ => by decide⟩
  · simp only [List.cons.injEq, Value.slice.injEq, and_true] at hcs
    obtain ⟨rfl, rfl, rfl⟩ := hcs
    have hb : ∀ r, r < cap → ∀ j, 0 ≤ (Z r).getD j 0 ∧ (Z r).getD j 0 < 256 := fun r h j => by
      obtain ⟨_, _, _, _, hwz, _⟩ := hr r h
      by_cases hj : j < (Z r).length
      · have h := hwz ((Z r).getD j 0) (by rw [List.getD_eq_getElem?_getD, List.getElem?_eq_getElem hj]; exact List.getElem_mem hj)
        simp only [Lit.wf, Bool.and_eq_true, decide_eq_true_eq] at h
        have e1 : IntKind.u8.min = 0 := rfl
        have e2 : IntKind.u8.max = 255 := rfl
        omega
      · rw [List.getD_eq_getElem?_getD, List.getElem?_eq_none (by omega)]; exact ⟨by decide, by decide⟩
    refine ⟨A, L, C, fun r j => if r < cap then ((Z r).getD j 0).toNat else 0, ?_, fun r h => ?_, fun r h => (hr r (by omega)).2.1, fun r j => ?_⟩
    · by_cases h0 : len = 0
      · exact .inl h0
      · obtain ⟨b, off, spot⟩ := a
        have h00 := (hr 0 (by omega)).1
        have hspot : spot = none := by simpa [Addr.add] using World.cell?_spot h00
        subst hspot
        have hblk : b < W.heap.size := by
          have := World.block_lt_of_cell? W _ h00
          simpa [Addr.add] using this
        exact .inr ⟨b, off, rfl, hblk, fun r h => by rw [← add_plain]; exact (hr r (by omega)).1⟩
    · obtain ⟨_, hLC, _, hZ, _, hno, hyes⟩ := hr r (by omega)
      by_cases h0 : L r = 0
      · exact .inl h0
      · cases hA : A r with
        | none => have := hno hA; omega
        | some ad =>
          obtain ⟨_, hcell⟩ := hyes ad hA
          obtain ⟨b, off, spot⟩ := ad
          have h00 := hcell 0 (by omega)
          have hspot : spot = none := by simpa [Addr.add] using World.cell?_spot h00
          subst hspot
          have hblk : b < W.heap.size := by
            have := World.block_lt_of_cell? W _ h00
            simpa [Addr.add] using this
          refine .inr ⟨b, off, rfl, hblk, by omega, fun j hj => ?_⟩
          rw [← add_plain, hcell j (by omega)]
          dsimp only
          rw [if_pos (by omega), Int.toNat_of_nonneg (hb r (by omega) j).1]
    · show (if r < cap then ((Z r).getD j 0).toNat else 0) < 256
      by_cases h : r < cap
      · rw [if_pos h]; have := hb r h j; omega
      · rw [if_neg h]; decide
end
end Go.Proofs.YtmgogcoafhompaaDoor
