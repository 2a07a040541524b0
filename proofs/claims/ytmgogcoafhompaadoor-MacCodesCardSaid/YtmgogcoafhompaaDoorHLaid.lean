/-
  What the laws of layer 3 share: the table of round words out of the condition that a tied row lays; the start that meets it; '==' and '!=' between sums.
-/
import Derived.Test.YtmgogcoafhompaaDoorHSum
import Derived.ProofKit
import Derived.LaidMore
import Derived.OpenShut
import Derived.Stop.Joined
import Derived.MakeChecks
import Derived.Carry
import Derived.ChangeKeysEq
namespace Go.Proofs.YtmgogcoafhompaaDoor
open Go.ChangeShapes Go.WideShapes Go.ChangeAt Go.RowKit

theorem own : ownKnob Tryd.prog.godebug = none := by kernel_rfl
def laidL : List (String × DataW Unit) := [("clapper/sha.roundWords", Rows.laid_clapper_sha_roundWords)]
theorem gRound : Tryd.prog.globalNamed "clapper/sha.roundWords" = some 0 := by kernel_rfl
theorem tRound : (Tryd.prog.globals[0]?).map (·.type) = some 51 := by kernel_rfl
theorem cellsU32 : Tryd.prog.cellsOf 42 = 1 := by kernel_rfl
theorem laid_list : Rows.laid_clapper_sha_roundWords (H := Unit) = .agg (kList.map fun (k : Nat) => (.lit (.int .u32 (k : Int)) : DataW Unit)) := rfl
theorem kc_get {j : Nat} (hj : j < 64) : kList[j]? = some (kc j) := by
  have hl : kList.length = 64 := by decide
  unfold kc
  simp [List.getD, hl, hj]

theorem kt_of_laid {W : World} (h : laidMetH Tryd.prog laidL W) : KT W := by
  unfold laidL at h
  rw [MakeChecks.laidMetH_plain _ _ _ (by kernel_rfl)] at h
  obtain ⟨ps, ⟨g0, t0, cs0, f0, p0, q0, hg0, ht0, hv0, hd0, _⟩, _, _⟩ := h
  obtain rfl := Option.some.inj (gRound.symm.trans hg0)
  obtain rfl := Option.some.inj (tRound.symm.trans ht0)
  obtain ⟨xs, m1, rfl, hx1, hlen, hn, hel⟩ := DataW.trod_array Tryd.underlying51 hd0
  have hx2 : xs.map (·.1) = kList.map fun (k : Nat) => (.lit (.int .u32 (k : Int)) : DataW Unit) := by
    rw [laid_list] at hx1
    simp only [Prod.mk.injEq, DataW.agg.injEq] at hx1
    exact hx1.1.symm
  have cell : ∀ j, j < 64 → W.cell? ⟨0, j, none⟩ = some (.int .u32 (kc j : Nat)) := fun j hj => by
    have h1 := hel j hj
    rw [cellsU32, Nat.mul_one] at h1
    obtain ⟨x, hx⟩ : ∃ x, xs[j]? = some x := ⟨xs[j], by rw [List.getElem?_eq_getElem]⟩
    rw [hx] at h1
    obtain ⟨k, e1, e2, _⟩ := DataW.trod_int Tryd.underlying42 h1
    have h3 : (xs.map (·.1))[j]? = some (.lit (.int .u32 k)) := by simp [hx, e2]
    rw [hx2] at h3
    simp only [List.getElem?_map, kc_get hj, Option.map_some, Option.some.injEq, DataW.lit.injEq, Lit.int.injEq, true_and] at h3
    have h4 : cs0.toList[j]? = some (.int .u32 k) := by
      have : ((cs0.toList.drop j).take 1)[0]? = some (.int .u32 k) := by rw [e1]; rfl
      simpa [List.getElem?_take, List.getElem?_drop] using this
    have h5 := World.var?_cell hg0 hv0 j
    rw [h5, h3]
    simpa using h4
  exact ⟨World.block_lt_of_cell? W _ (cell 0 (by decide)), cell⟩

/-- The door's own heap meets the condition. -/
theorem door_met (os : Os) (args : Array Value) : laidMetH Tryd.prog laidL ((World.doorLaid Tryd.prog 14 os).forCall (fun _ _ => 0) ⟨#[], args, []⟩).memory :=
  laidMetH_of_parts3 (fuel := 8) (laidMet_of_run' 8 (by kernel_rfl) (by kernel_rfl)) (by kernel_rfl) (by kernel_rfl)
end Go.Proofs.YtmgogcoafhompaaDoor
