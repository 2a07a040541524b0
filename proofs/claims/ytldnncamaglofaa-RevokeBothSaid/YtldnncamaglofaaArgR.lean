/-
  An argument []api.Revoked, opened.
-/
import Derived.Test.YtldnncamaglofaaRc
import Derived.Test.YtldnncamaglofaaArgB
import Derived.Carry
namespace Go.Proofs.Ytldnncamaglofaa
open Go.ChangeShapes Go.WideShapes Go.RowKit

theorem underR11 : ∃ f0 f1 : Field, Try.prog.underlying 43 = some (.struct #[f0, f1]) ∧ f0.offset = 0 ∧ f1.offset = 1 ∧ f0.type = 3 ∧ f1.type = 3 := ⟨_, _, Try.underlying43, rfl, rfl, rfl, rfl⟩
theorem list2 {cs : List Value} (h : cs.length = 2) : ∃ c0 c1, cs = [c0, c1] := by
  match cs, h with
  | [c0, c1], _ => exact ⟨c0, c1, rfl⟩
section
variable {H : Type} {enc : TypeId × Value → H} {W : World} {base : Nat} {sp : Nat → Bool} {hd : Bool} {fuel : Nat}
set_option maxRecDepth 100000 in
theorem rv_of_trod {cs : List Value} {x : DataW H × List MemPlace} (hf : DataW.trod enc Try.prog W base sp hd fuel 43 cs = some x) : ∃ k : Rv, cs = rvC k := by
  obtain ⟨f0, f1, hu, o0, o1, t0, t1⟩ := underR11
  obtain ⟨y0, y1, m, _, hl, h0, h1⟩ := Go.ChangeShapes.trod_struct2 hu hf
  rw [cellsR11] at hl
  obtain ⟨c0, c1, rfl⟩ := list2 hl
  rw [t0, o0, cellsI11] at h0
  rw [t1, o1, cellsI11] at h1
  obtain ⟨z0, e0, _, _⟩ := DataW.trod_int Try.underlying3 h0
  obtain ⟨z1, e1, _, _⟩ := DataW.trod_int Try.underlying3 h1
  simp at e0 e1
  exact ⟨(z0, z1), by rw [e0, e1]; rfl⟩
theorem rs_of {v : Value} {d : DataW H} {p : List MemPlace} (hf : DataW.trod enc Try.prog W base sp hd fuel 22 [v] = some (d, p)) : ∃ l : List Rv, Rs W v l :=
  ls_of (cs := rvC) Try.underlying22 cellsR11 (by decide) (fun n cs' y h => rv_of_trod h) hf
end
section
variable {H : Type} {enc : TypeId × Value → H} {P : Program} {W : World} {base : Nat} {sp : Nat → Bool} {hd : Bool}
theorem trodAll_five {t0 t1 t2 t3 t4 : TypeId} {args : Array Value} {ds : List (DataW H)} {ps : List MemPlace} (h : DataW.TrodAll enc P W base sp hd [t0, t1, t2, t3, t4] args.toList ds ps) :
    ∃ v0 v1 v2 v3 v4 d0 d1 d2 d3 d4 p0 p1 p2 p3 p4, args = #[v0, v1, v2, v3, v4] ∧ ds = [d0, d1, d2, d3, d4] ∧ ps = p0 ++ p1 ++ p2 ++ p3 ++ p4 ∧ DataW.Trod enc P W base sp hd t0 v0 d0 p0 ∧ DataW.Trod enc P W base sp hd t1 v1 d1 p1 ∧ DataW.Trod enc P W base sp hd t2 v2 d2 p2 ∧ DataW.Trod enc P W base sp hd t3 v3 d3 p3 ∧ DataW.Trod enc P W base sp hd t4 v4 d4 p4 := by
  obtain ⟨v0, r0, d0, e0, p0, q0, ha, rfl, rfl, h0, k0⟩ := trodAll_cons h
  obtain ⟨v1, r1, d1, e1, p1, q1, rfl, rfl, rfl, h1, k1⟩ := trodAll_cons k0
  obtain ⟨v2, r2, d2, e2, p2, q2, rfl, rfl, rfl, h2, k2⟩ := trodAll_cons k1
  obtain ⟨v3, r3, d3, e3, p3, q3, rfl, rfl, rfl, h3, k3⟩ := trodAll_cons k2
  obtain ⟨v4, r4, d4, e4, p4, q4, rfl, rfl, rfl, h4, k4⟩ := trodAll_cons k3
  obtain ⟨rfl, rfl, rfl⟩ := trodAll_nil k4
  exact ⟨v0, v1, v2, v3, v4, d0, d1, d2, d3, d4, p0, p1, p2, p3, p4, by cases args; simp_all, rfl, by simp, h0, h1, h2, h3, h4⟩
theorem trodAll_mk5 {t0 t1 t2 t3 t4 : TypeId} {v0 v1 v2 v3 v4 : Value} {d0 d1 d2 d3 d4 : DataW H} {p0 p1 p2 p3 p4 : List MemPlace} (h0 : DataW.Trod enc P W base sp hd t0 v0 d0 p0) (h1 : DataW.Trod enc P W base sp hd t1 v1 d1 p1) (h2 : DataW.Trod enc P W base sp hd t2 v2 d2 p2) (h3 : DataW.Trod enc P W base sp hd t3 v3 d3 p3) (h4 : DataW.Trod enc P W base sp hd t4 v4 d4 p4) :
    DataW.TrodAll enc P W base sp hd [t0, t1, t2, t3, t4] [v0, v1, v2, v3, v4] [d0, d1, d2, d3, d4] (p0 ++ (p1 ++ (p2 ++ (p3 ++ p4)))) := ⟨p0, p1 ++ (p2 ++ (p3 ++ p4)), h0, trodAll_mk4 h1 h2 h3 h4, rfl⟩
end
end Go.Proofs.Ytldnncamaglofaa
