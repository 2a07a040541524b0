/-
  Arguments []byte and []api.Field, opened.
-/
import Derived.Test.YtldnncamaglofaaT1
import Derived.ChangeSlices
import Derived.Carry
import Derived.BigFrame
import Derived.ProofKit
import Derived.Lib.SmallJoins
namespace Go.Proofs.Ytldnncamaglofaa
open Go.ChangeShapes Go.WideShapes Go.RowKit

theorem ownT : ownKnob Try.prog.godebug = none := by kernel_rfl
theorem laidOutT : laidOutB Try.prog = true := by kernel_rfl
theorem cellsT1 : Try.prog.cellsOf 5 = 1 := by kernel_rfl
theorem bs_of {H : Type} {enc : TypeId × Value → H} {W : World} {v : Value} {fuel : Nat} {d : DataW H} {p : List MemPlace} {base : Nat} {sp : Nat → Bool} {held : Bool}
    (hf : DataW.trod enc Try.prog W base sp held fuel 23 [v] = some (d, p)) : ∃ (A : Option Addr) (len cap : Nat) (bs : List Nat), v = .slice A len cap ∧ len = bs.length ∧ Bs W A bs ∧ len ≤ cap := by
  rcases open_ints Try.underlying23 Try.underlying5 cellsT1 hf with ⟨hcs, hx⟩ | ⟨a, len, cap, zs, hcs, _, hlc, _, hz, hx, hcell, hwz⟩
  · simp only [List.cons.injEq, and_true] at hcs
    exact ⟨none, 0, 0, [], hcs, rfl, Bs.nil _ _, Nat.le_refl _⟩
  · simp only [List.cons.injEq, and_true] at hcs
    have hzl : len ≤ zs.length := by rw [hz]; split <;> omega
    have hb : ∀ z ∈ zs, 0 ≤ z ∧ z < 256 := fun z hz' => by
      have h := hwz z hz'
      simp only [Lit.wf, Bool.and_eq_true, decide_eq_true_eq] at h
      have e1 : IntKind.u8.min = 0 := rfl
      have e2 : IntKind.u8.max = 255 := rfl
      omega
    have hl : ((zs.take len).map fun z => z.toNat).length = len := by simp; omega
    refine ⟨some a, len, cap, (zs.take len).map fun z => z.toNat, hcs, hl.symm, ⟨fun x hx' => ?_, ?_⟩, hlc⟩
    · obtain ⟨z, hz1, rfl⟩ := List.mem_map.1 hx'
      have := hb z (List.mem_of_mem_take hz1)
      omega
    · by_cases h0 : len = 0
      · exact .inl (by rw [hl]; exact h0)
      · clear hcs hx
        obtain ⟨b, off, spot⟩ := a
        have h00 := hcell 0 (by omega)
        have hspot : spot = none := by simpa [Addr.add] using World.cell?_spot h00
        subst hspot
        have hblk : b < W.heap.size := by
          have := World.block_lt_of_cell? W _ h00
          simpa [Addr.add] using this
        refine .inr ⟨b, off, rfl, hblk, fun j hj => ?_⟩
        rw [hl] at hj
        have hjz : j < zs.length := by omega
        have hzj := hb (zs[j]) (List.getElem_mem hjz)
        have e1 : ((zs.take len).map fun z => z.toNat).getD j 0 = (zs[j]).toNat := by
          simp [List.getD_eq_getElem?_getD, List.getElem?_take_of_lt hj, hjz]
        have e2 : zs.getD j 0 = zs[j] := by simp [List.getD_eq_getElem?_getD, hjz]
        rw [← Addr.add_mid, hcell j hjz, e1, e2, Int.toNat_of_nonneg hzj.1]
theorem underF : ∃ f0 f1 : Field, Try.prog.underlying 48 = some (.struct #[f0, f1]) ∧ f0.offset = 0 ∧ f1.offset = 1 ∧ f0.type = 3 ∧ f1.type = 23 := ⟨_, _, Try.underlying48, rfl, rfl, rfl, rfl⟩
theorem cellsF2 : Try.prog.cellsOf 48 = 2 := by kernel_rfl
theorem cellsI1 : Try.prog.cellsOf 3 = 1 := by kernel_rfl
theorem cellsB1 : Try.prog.cellsOf 23 = 1 := by kernel_rfl
theorem fl_of {H : Type} {enc : TypeId × Value → H} {W : World} {v : Value} {fuel : Nat} {d : DataW H} {p : List MemPlace} {base : Nat} {sp : Nat → Bool} {held : Bool}
    (hf : DataW.trod enc Try.prog W base sp held fuel 49 [v] = some (d, p)) : ∃ fs : List Fd, Fl W v fs := by
  obtain ⟨f0, f1, hu, o0, o1, t0, t1⟩ := underF
  rcases Go.Deep.open_slice_pairs Try.underlying49 hu cellsF2 o0 o1 (by rw [t0]; exact cellsI1) (by rw [t1]; exact cellsB1) hf with ⟨hcs, hx⟩ | ⟨a, len, cap, m, n, V0, V1, D0, D1, P0, P1, hcs, _, hlc, _, hm, hx, hcell⟩
  · simp only [List.cons.injEq, and_true] at hcs
    rw [hcs]
    exact ⟨[], Fl.nil _⟩
  · simp only [List.cons.injEq, and_true] at hcs
    have hlm : len ≤ m := by rw [hm]; split <;> omega
    have each : ∀ i, i < len → ∃ q : Int × List Nat × Option Addr × Nat, W.cell? (a.add (i * 2)) = some (.int .i64 q.1) ∧ W.cell? (a.add (i * 2 + 1)) = some (.slice q.2.2.1 q.2.1.length q.2.2.2) ∧ q.2.1.length ≤ q.2.2.2 ∧ Bs W q.2.2.1 q.2.1 := by
      intro i hi
      obtain ⟨c0, c1, h0, h1⟩ := hcell i (by omega)
      rw [t0] at h0
      rw [t1] at h1
      obtain ⟨A, l, c, bs, hv, hl, hB, hc⟩ := bs_of h1
      obtain ⟨z, hz⟩ : ∃ z, V0 i = .int .i64 z := by
        obtain ⟨z, h, _⟩ := DataW.trod_int Try.underlying3 h0
        simp only [List.cons.injEq, and_true] at h
        exact ⟨z, h⟩
      exact ⟨(z, bs, A, c), by rw [c0, hz], by rw [c1, hv, hl], by rw [← hl]; exact hc, hB⟩
    obtain ⟨q, hq⟩ := Go.Deep.choose_lt each
    refine ⟨(List.range len).map fun i => ((q i).1, (q i).2.1), ?_⟩
    have hl : ((List.range len).map fun i => ((q i).1, (q i).2.1)).length = len := by simp
    have hg : ∀ i, i < len → tgF ((List.range len).map fun i => ((q i).1, (q i).2.1)) i = (q i).1 ∧ bsF ((List.range len).map fun i => ((q i).1, (q i).2.1)) i = (q i).2.1 := fun i hi => by
      unfold tgF bsF
      simp [List.getD_eq_getElem?_getD, hi]
    refine ⟨fun f hf' => ?_, some a, cap, by rw [hl]; exact hcs, by rw [hl]; exact hlc, ?_⟩
    · obtain ⟨i, hi, rfl⟩ := List.mem_map.1 hf'
      exact (hq i (by simpa using hi)).2.2.2.1
    · by_cases h0 : len = 0
      · exact .inl (by rw [hl]; exact h0)
      · right
        clear hcs hx
        obtain ⟨b, off, spot⟩ := a
        have h00 := (hq 0 (by omega)).1
        have hspot : spot = none := by simpa [Addr.add] using World.cell?_spot h00
        subst hspot
        have hblk : b < W.heap.size := by
          have := World.block_lt_of_cell? W _ h00
          simpa [Addr.add] using this
        refine ⟨b, off, rfl, hblk, fun i hi => ?_⟩
        rw [hl] at hi
        obtain ⟨g1, g2⟩ := hg i hi
        obtain ⟨x0, x1, x2, x3⟩ := hq i hi
        rw [g1, g2]
        rw [Addr.add_mid] at x0 x1
        exact ⟨x0, _, _, by rw [Nat.add_assoc]; exact x1, x2, x3⟩
end Go.Proofs.Ytldnncamaglofaa
