/-
  Arguments []byte and []api.Field, opened.
-/
import Derived.Test.YtoikgkjkcampkaaT1
import Derived.ChangeSlices
import Derived.Carry
import Derived.BigFrame
import Derived.ProofKit
import Derived.Lib.SmallJoins
namespace Go.Proofs.Ytoikgkjkcampkaa
open Go.ChangeShapes Go.WideShapes Go.RowKit

theorem ownT : ownKnob Try.prog.godebug = none := by kernel_rfl
theorem laidOutT : laidOutB Try.prog = true := by kernel_rfl
theorem cellsT1 : Try.prog.cellsOf 5 = 1 := by kernel_rfl
theorem bs_of {H : Type} {enc : TypeId × Value → H} {W : World} {v : Value} {fuel : Nat} {d : DataW H} {p : List MemPlace} {base : Nat} {sp : Nat → Bool} {held : Bool}
    (hf : DataW.trod enc Try.prog W base sp held fuel 23 [v] = some (d, p)) : ∃ (A : Option Addr) (len cap : Nat) (bs : List Nat), v = .slice A len cap ∧ len = bs.length ∧ Bs W A bs ∧ len ≤ cap := by
  rcases open_ints Try.underlying23 Try.underlying5 cellsT1 hf with ⟨hcs, hx⟩ | ⟨a, len, cap, zs, hcs, _, hlc, _, hz, hx, hcell, hwz⟩
  · simp only [List.cons.injEq, and_true] at hcs
    exact ⟨none, 0, 0, [], hcs, rfl, Bs.nil _ _, Nat.le_refl _⟩
  · simp only [List.cons.injEq, and_true] at hcs
    have hzl : len ≤ zs.length := by rw [hz]; split <;> omega
    have hb : ∀ z ∈ zs, 0 ≤ z ∧ z < 256 := fun z hz' => by
      have h := hwz z hz'
      simp only [Lit.wf, Bool.and_eq_true, decide_eq_true_eq] at h
      have e1 : IntKind.u8.min = 0 := rfl
      have e2 : IntKind.u8.max = 255 := rfl
      omega
    have hl : ((zs.take len).map fun z => z.toNat).length = len := by simp; omega
    refine ⟨some a, len, cap, (zs.take len).map fun z => z.toNat, hcs, hl.symm, ⟨fun x hx' => ?_, ?_⟩, hlc⟩
    · obtain ⟨z, hz1, rfl⟩ := List.mem_map.1 hx'
      have := hb z (List.mem_of_mem_take hz1)
      omega
    · by_cases h0 : len = 0
      · exact .inl (by rw [hl]; exact h0)
      · clear hcs hx
        obtain ⟨b, off, spot⟩ := a
        have h00 := hcell 0 (by omega)
        have hspot : spot = none := by simpa [Addr.add] using World.cell?_spot h00
        subst hspot
        have hblk : b < W.heap.size := by
          have := World.block_lt_of_cell? W _ h00
          simpa [Addr.add] using this
        refine .inr ⟨b, off, rfl, hblk, fun j hj => ?_⟩
        rw [hl] at hj
        have hjz : j < zs.length := by omega
        have hzj := hb (zs[j]) (List.getElem_mem hjz)
        have e1 : ((zs.take len).map fun z => z.toNat).getD j 0 = (zs[j]).toNat := by
          simp [List.getD_eq_getElem?_getD, List.getElem?_take_of_lt hj, hjz]
        have e2 : zs.getD j 0 = zs[j] := by simp [List.getD_eq_getElem?_getD, hjz]
        rw [← Addr.add_mid, hcell j hjz, e1, e2, Int.toNat_of_nonneg hzj.1]
theorem cellsI1 : Try.prog.cellsOf 3 = 1 := by kernel_rfl
theorem cellsB1 : Try.prog.cellsOf 23 = 1 := by kernel_rfl
end Go.Proofs.Ytoikgkjkcampkaa
