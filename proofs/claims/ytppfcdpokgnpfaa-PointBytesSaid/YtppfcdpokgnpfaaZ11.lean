/-
  Merged: Frame QArg QLaws.
-/
import Derived.WalkKit
import Derived.ProofKit
import Derived.Lib.SmallJoins
import Derived.Laws.IdiomArrays
import Derived.Deep.Strs
import Derived.Laws.BytesString
import Derived.Carry
import Derived.BigFrame
import Derived.Test.YtppfcdpokgnpfaaRows
import Derived.Test.YtppfcdpokgnpfaaZ1
import Derived.Test.YtppfcdpokgnpfaaZ7

/-
  How a number by value is read ahead of a law's call and behind it.
-/
namespace Go.Proofs.Ytppfcdpokgnpfaa
open Go.ChangeShapes Go.WideShapes Go.ChangeAt Go.RowKit

theorem own : ownKnob Try.prog.godebug = none := by kernel_rfl
theorem cellsWord : Try.prog.cellsOf 22 = 1 := by kernel_rfl
theorem cellsNum : Try.prog.cellsOf 24 = 4 := by kernel_rfl

/-- A number, as data. -/
def numD {H : Type} (X : Nat) : DataW H := .agg [.lit (.int .u64 (wd X 0)), .lit (.int .u64 (wd X 1)), .lit (.int .u64 (wd X 2)), .lit (.int .u64 (wd X 3))]

theorem wf_u64 {x : Int} (h : (Lit.int .u64 x).wf = true) : 0 ≤ x ∧ x < 18446744073709551616 := by
  simp only [Lit.wf, Bool.and_eq_true, decide_eq_true_eq] at h
  have e1 : IntKind.u64.min = 0 := rfl
  have e2 : IntKind.u64.max = 18446744073709551615 := rfl
  omega
theorem wf_wd (X i : Nat) : (Lit.int .u64 (wd X i)).wf = true := WalkArith.wf_u64 ⟨wd_lo X i, wd_le X i⟩

section
variable {H : Type} {enc : TypeId × Value → H}
set_option maxRecDepth 100000 in
theorem shut_num (W : World) (base : Nat) (sp : Nat → Bool) (hd : Bool) (X : Nat) : DataW.Trod enc Try.prog W base sp hd 24 (.agg #[.int .u64 (wd (X) 0), .int .u64 (wd (X) 1), .int .u64 (wd (X) 2), .int .u64 (wd (X) 3)]) (numD X) [] :=
  ⟨2, by simp [numD, DataW.trod, Value.cells, Try.underlying24, Try.underlying22, cellsNum, cellsWord, wf_wd, show List.range 4 = [0, 1, 2, 3] from rfl]⟩

set_option maxRecDepth 100000 in
theorem open_num {W : World} {base : Nat} {v : Value} {d : DataW H} {p : List MemPlace} (hv : Value.okWide Try.prog W .any base 24 v) (h : DataW.Trod enc Try.prog W 0 (fun _ => true) true 24 v d p) :
    ∃ X, X < top ∧ v = .agg #[.int .u64 (wd (X) 0), .int .u64 (wd (X) 1), .int .u64 (wd (X) 2), .int .u64 (wd (X) 3)] ∧ d = numD X ∧ p = [] := by
  obtain ⟨cs, rfl, hsz, _⟩ : ∃ cs, v = .agg cs ∧ cs.size = Try.prog.cellsOf 24 ∧ Row.okWide Try.prog W .any base 24 cs := by
    simpa [Value.okWide, Try.underlying24] using hv
  rw [cellsNum] at hsz
  obtain ⟨c0, c1, c2, c3, rfl⟩ := Joins.array4 hsz
  obtain ⟨fuel, hf⟩ := h
  obtain ⟨y0, y1, y2, y3, m, hx, hy0, hy1, hy2, hy3⟩ := trod_array4 Try.underlying24 cellsWord hf
  obtain ⟨x0, e0, rfl, w0⟩ := DataW.trod_int Try.underlying22 hy0
  obtain ⟨x1, e1, rfl, w1⟩ := DataW.trod_int Try.underlying22 hy1
  obtain ⟨x2, e2, rfl, w2⟩ := DataW.trod_int Try.underlying22 hy2
  obtain ⟨x3, e3, rfl, w3⟩ := DataW.trod_int Try.underlying22 hy3
  simp at e0 e1 e2 e3
  subst e0 e1 e2 e3
  simp only [Prod.mk.injEq] at hx
  obtain ⟨rfl, rfl⟩ := hx
  obtain ⟨a0, b0⟩ := wf_u64 w0
  obtain ⟨a1, b1⟩ := wf_u64 w1
  obtain ⟨a2, b2⟩ := wf_u64 w2
  obtain ⟨a3, b3⟩ := wf_u64 w3
  obtain ⟨g0, g1, g2, g3⟩ := wd_ofWords a0 b0 a1 b1 a2 b2 a3 b3
  refine ⟨ofWords x0 x1 x2 x3, ofWords_lt b0 b1 b2 b3, ?_, ?_, rfl⟩
  · rw [g0, g1, g2, g3]
  · unfold numD
    rw [g0, g1, g2, g3]
end
end Go.Proofs.Ytppfcdpokgnpfaa


/-
  How a point by value is read ahead of a law's call and behind it.
-/
namespace Go.Proofs.Ytppfcdpokgnpfaa
open Go.ChangeShapes Go.WideShapes Go.ChangeAt Go.RowKit

/-- A point, as data. -/
def pointD {H : Type} (X Y : Nat) (f : Bool) : DataW H := .agg [numD X, numD Y, .lit (.bool f)]
set_option maxRecDepth 100000 in
theorem array9 {cs : Array Value} (h : cs.size = 9) : ∃ c0 c1 c2 c3 c4 c5 c6 c7 c8, cs = #[c0, c1, c2, c3, c4, c5, c6, c7, c8] := by
  obtain ⟨l⟩ := cs
  match l, h with
  | [c0, c1, c2, c3, c4, c5, c6, c7, c8], _ => exact ⟨c0, c1, c2, c3, c4, c5, c6, c7, c8, rfl⟩

section
variable {H : Type} {enc : TypeId × Value → H}
set_option maxRecDepth 100000 in
theorem num_of_trod {W : World} {base : Nat} {sp : Nat → Bool} {hd : Bool} {fuel : Nat} {c0 c1 c2 c3 : Value} {x : DataW H × List MemPlace} (hf : DataW.trod enc Try.prog W base sp hd fuel 24 [c0, c1, c2, c3] = some x) :
    ∃ X, X < top ∧ c0 = .int .u64 (wd X 0) ∧ c1 = .int .u64 (wd X 1) ∧ c2 = .int .u64 (wd X 2) ∧ c3 = .int .u64 (wd X 3) ∧ x = (numD X, []) := by
  obtain ⟨y0, y1, y2, y3, m, hx, hy0, hy1, hy2, hy3⟩ := trod_array4 Try.underlying24 cellsWord hf
  obtain ⟨x0, e0, rfl, w0⟩ := DataW.trod_int Try.underlying22 hy0
  obtain ⟨x1, e1, rfl, w1⟩ := DataW.trod_int Try.underlying22 hy1
  obtain ⟨x2, e2, rfl, w2⟩ := DataW.trod_int Try.underlying22 hy2
  obtain ⟨x3, e3, rfl, w3⟩ := DataW.trod_int Try.underlying22 hy3
  simp at e0 e1 e2 e3
  subst e0 e1 e2 e3
  subst hx
  obtain ⟨a0, b0⟩ := wf_u64 w0
  obtain ⟨a1, b1⟩ := wf_u64 w1
  obtain ⟨a2, b2⟩ := wf_u64 w2
  obtain ⟨a3, b3⟩ := wf_u64 w3
  obtain ⟨g0, g1, g2, g3⟩ := wd_ofWords a0 b0 a1 b1 a2 b2 a3 b3
  refine ⟨ofWords x0 x1 x2 x3, ofWords_lt b0 b1 b2 b3, ?_, ?_, ?_, ?_, ?_⟩
  · rw [g0]
  · rw [g1]
  · rw [g2]
  · rw [g3]
  · unfold numD
    rw [g0, g1, g2, g3]
    rfl
set_option maxRecDepth 100000 in
theorem open_point {W : World} {base : Nat} {v : Value} {d : DataW H} {p : List MemPlace} (hv : Value.okWide Try.prog W .any base 26 v) (h : DataW.Trod enc Try.prog W 0 (fun _ => true) true 26 v d p) :
    ∃ X Y f, X < top ∧ Y < top ∧ v = .agg #[.int .u64 (wd (X) 0), .int .u64 (wd (X) 1), .int .u64 (wd (X) 2), .int .u64 (wd (X) 3), .int .u64 (wd (Y) 0), .int .u64 (wd (Y) 1), .int .u64 (wd (Y) 2), .int .u64 (wd (Y) 3), .bool (f)] ∧ d = pointD X Y f ∧ p = [] := by
  obtain ⟨cs, rfl, hsz⟩ := okWide_struct Try.underlying26 hv
  rw [cells_pt] at hsz
  obtain ⟨c0, c1, c2, c3, c4, c5, c6, c7, c8, rfl⟩ := array9 hsz
  obtain ⟨fuel, hf⟩ := h
  obtain ⟨y0, y1, y2, m, hx, _, hy0, hy1, hy2⟩ := Deep.trod_struct3 Try.underlying26 hf
  have hy0 : DataW.trod enc Try.prog W 0 (fun _ => true) true m 24 [c0, c1, c2, c3] = some y0 := by simpa [Value.cells, cells_num] using hy0
  have hy1 : DataW.trod enc Try.prog W 0 (fun _ => true) true m 24 [c4, c5, c6, c7] = some y1 := by simpa [Value.cells, cells_num] using hy1
  have hy2 : DataW.trod enc Try.prog W 0 (fun _ => true) true m 4 [c8] = some y2 := by simpa [Value.cells, cells_bool] using hy2
  obtain ⟨X, lX, rfl, rfl, rfl, rfl, rfl⟩ := num_of_trod hy0
  obtain ⟨Y, lY, rfl, rfl, rfl, rfl, rfl⟩ := num_of_trod hy1
  obtain ⟨f, e, rfl⟩ := DataW.trod_bool Try.underlying4 hy2
  obtain rfl := List.head_eq_of_cons_eq e
  simp only [Prod.mk.injEq, List.append_nil] at hx
  obtain ⟨rfl, rfl⟩ := hx
  exact ⟨X, Y, f, lX, lY, rfl, rfl, rfl⟩
set_option maxRecDepth 100000 in
theorem shut_point (W : World) (base : Nat) (sp : Nat → Bool) (hd : Bool) (X Y : Nat) (f : Bool) : DataW.Trod enc Try.prog W base sp hd 26 (.agg #[.int .u64 (wd (X) 0), .int .u64 (wd (X) 1), .int .u64 (wd (X) 2), .int .u64 (wd (X) 3), .int .u64 (wd (Y) 0), .int .u64 (wd (Y) 1), .int .u64 (wd (Y) 2), .int .u64 (wd (Y) 3), .bool (f)]) (pointD X Y f) [] :=
  ⟨3, by simp [pointD, numD, DataW.trod, Value.cells, Try.underlying26, Try.underlying24, Try.underlying22, Try.underlying4, cells_pt, cells_num, cells_word, cells_bool, wf_wd, show List.range 4 = [0, 1, 2, 3] from rfl]⟩
end
end Go.Proofs.Ytppfcdpokgnpfaa


/-
  Each law of layer 5 from its walk.
-/
namespace Go.Proofs.Ytppfcdpokgnpfaa
open Go.ChangeShapes Go.WideShapes Go.ChangeAt Go.RowKit

set_option maxRecDepth 100000 in
theorem laidOut : laidOutB Try.prog = true := by kernel_rfl
set_option maxRecDepth 100000 in
theorem cellsByte : Try.prog.cellsOf 5 = 1 := by kernel_rfl
/-- A slice of n bytes y. -/
def SrcB (w : World) (A : Option Addr) (n : Nat) (y : Nat → Nat) : Prop :=
  n = 0 ∨ ∃ b o, A = some ⟨b, o, none⟩ ∧ b < w.heap.size ∧ ∀ j, j < n → w.cell? ⟨b, o + j, none⟩ = some (.int .u8 (y j : Nat))
set_option maxRecDepth 100000 in
theorem bytes_of {H : Type} {enc : TypeId × Value → H} {W : World} {A : Option Addr} {len cap fuel : Nat} {d : DataW H} {p : List MemPlace}
    (hf : DataW.trod enc Try.prog W 0 (fun _ => true) true fuel 43 [.slice A len cap] = some (d, p)) (hlt : ∀ x ∈ p, x.block < W.heap.size) : ∃ y : Nat → Nat, (∀ j, y j < 256) ∧ len ≤ cap ∧ SrcB W A len y := by
  rcases open_ints Try.underlying43 Try.underlying5 cellsByte hf with ⟨hcs, hx⟩ | ⟨a, len', cap', zs, hcs, _, hl, _, hz, hx, hcell, hwz⟩
  · simp only [List.cons.injEq, Value.slice.injEq, and_true] at hcs
    obtain ⟨_, rfl, rfl⟩ := hcs
    exact ⟨fun _ => 0, fun _ => (by decide : (0 : Nat) < 256), Nat.le_refl _, .inl rfl⟩
  · simp only [List.cons.injEq, Value.slice.injEq, and_true] at hcs
    obtain ⟨rfl, rfl, rfl⟩ := hcs
    simp only [Prod.mk.injEq] at hx
    obtain ⟨_, rfl⟩ := hx
    simp only [if_true] at hz
    have hb : ∀ j, 0 ≤ zs.getD j 0 ∧ zs.getD j 0 < 256 := fun j => by
      by_cases hj : j < zs.length
      · have h := hwz (zs.getD j 0) (by rw [List.getD_eq_getElem?_getD, List.getElem?_eq_getElem hj]; exact List.getElem_mem hj)
        simp only [Lit.wf, Bool.and_eq_true, decide_eq_true_eq] at h
        have e1 : IntKind.u8.min = 0 := rfl
        have e2 : IntKind.u8.max = 255 := rfl
        omega
      · rw [List.getD_eq_getElem?_getD, List.getElem?_eq_none (by omega)]; exact ⟨by decide, by decide⟩
    refine ⟨fun j => (zs.getD j 0).toNat, fun j => by have := hb j; show (zs.getD j 0).toNat < 256; omega, hl, ?_⟩
    by_cases h0 : len = 0
    · exact .inl h0
    · obtain ⟨b, off, spot⟩ := a
      have hspot : spot = none := by simpa [Addr.add] using World.cell?_spot (hcell 0 (by omega))
      subst hspot
      refine .inr ⟨b, off, rfl, hlt (.cell b off) (MemPlace.mem_row.2 ⟨0, by omega, by simp⟩), fun j hj => ?_⟩
      rw [← add_plain, hcell j (by omega), Int.toNat_of_nonneg (hb j).1]

set_option maxRecDepth 100000 in
theorem PointSums_lifted (walk : ∀ (X0 Y0 : Nat) (f0 : Bool) (X1 Y1 : Nat) (f1 : Bool), X0 < top → Y0 < top → X1 < top → Y1 < top → ∀ w : World,  Calls Try.prog 3 #[.agg #[.int .u64 (wd (X0) 0), .int .u64 (wd (X0) 1), .int .u64 (wd (X0) 2), .int .u64 (wd (X0) 3), .int .u64 (wd (Y0) 0), .int .u64 (wd (Y0) 1), .int .u64 (wd (Y0) 2), .int .u64 (wd (Y0) 3), .bool (f0)], .agg #[.int .u64 (wd (X1) 0), .int .u64 (wd (X1) 1), .int .u64 (wd (X1) 2), .int .u64 (wd (X1) 3), .int .u64 (wd (Y1) 0), .int .u64 (wd (Y1) 1), .int .u64 (wd (Y1) 2), .int .u64 (wd (Y1) 3), .bool (f1)]] w fun e w' => e = .returned (.bool true) ∧ Below w.heap.size w w')
    (os : Os) (started : os.Started) (H : Type) (enc : TypeId × Value → H) :
    ReturnsInHanded {} Try.checked os 3 .any (Rows.pointSumsSpec.pre6 enc Try.prog Try.f3 Rows.pointSumsRow.domain false) (Rows.pointSumsSpec.post enc Try.prog Try.f3 false true false false) := by
  refine returnsInHanded_of_change (C := Try.checked) own started (by kernel_rfl) Try.func3
    (ChangeSpec.witness6 (enc := enc) (C := Try.checked) false ⟨#[], #[.agg #[.int .u64 0, .int .u64 0, .int .u64 0, .int .u64 0, .int .u64 0, .int .u64 0, .int .u64 0, .int .u64 0, .bool false], .agg #[.int .u64 0, .int .u64 0, .int .u64 0, .int .u64 0, .int .u64 0, .int .u64 0, .int .u64 0, .int .u64 0, .bool false]], []⟩ 8 (by kernel_rfl) (by kernel_rfl) (by kernel_rfl) (by kernel_rfl)) ?_
  intro W base args ds gs before hval0 hW _ _
  have hval : ∀ (j : Nat) t v, Try.f3.params[j]? = some t → args[j]? = some v → Value.okWide Try.prog W .any base t v := hval0
  have hW' := hW
  obtain ⟨p, q, hA0, hV, rfl, _, _⟩ := hW
  have hA : DataW.TrodAll enc Try.prog W 0 (fun _ => true) true Try.f3.params.toList args.toList ds p := hA0
  rw [Try.params3] at hA hval
  obtain ⟨v0, v1, d0, d1, p0, p1, rfl, rfl, rfl, h0, h1⟩ := trodAll_two hA
  obtain ⟨rfl, rfl⟩ := trodVars_none hV
  obtain ⟨X0, Y0, f0, hX0, hY0, rfl, rfl, rfl⟩ := open_point (hval 0 26 v0 rfl rfl) h0
  obtain ⟨X1, Y1, f1, hX1, hY1, rfl, rfl, rfl⟩ := open_point (hval 1 26 v1 rfl rfl) h1
  clear hA0 hval0
  simp only [List.append_nil] at hW'
  refine (walk X0 Y0 f0 X1 Y1 f1 hX0 hY0 hX1 hY1 W ).mono fun e W' ⟨he, hb⟩ => ?_
  subst he
  exact ⟨_, rfl, _, _, _, [], [], [], hW', trodAll_mk1 (shut_bool Try.underlying4 true), trodAll_mk2 (shut_point W' 0 _ true X0 Y0 f0) (shut_point W' 0 _ true X1 Y1 f1), rfl, hb.frame _, fun h => by cases h⟩

set_option maxRecDepth 100000 in
theorem PointSums_over (walk : ∀ (X0 Y0 : Nat) (f0 : Bool) (X1 Y1 : Nat) (f1 : Bool), X0 < top → Y0 < top → X1 < top → Y1 < top → ∀ w : World,  Calls Try.prog 3 #[.agg #[.int .u64 (wd (X0) 0), .int .u64 (wd (X0) 1), .int .u64 (wd (X0) 2), .int .u64 (wd (X0) 3), .int .u64 (wd (Y0) 0), .int .u64 (wd (Y0) 1), .int .u64 (wd (Y0) 2), .int .u64 (wd (Y0) 3), .bool (f0)], .agg #[.int .u64 (wd (X1) 0), .int .u64 (wd (X1) 1), .int .u64 (wd (X1) 2), .int .u64 (wd (X1) 3), .int .u64 (wd (Y1) 0), .int .u64 (wd (Y1) 1), .int .u64 (wd (Y1) 2), .int .u64 (wd (Y1) 3), .bool (f1)]] w fun e w' => e = .returned (.bool true) ∧ Below w.heap.size w w') :
    Rows.pointSumsRow.holds Try.pinned (OpenSpec.ofChange Rows.pointSumsSpec) :=
  OpenClaim.holds_of_wide 3 Try.f3 rfl rfl rfl rfl rfl rfl rfl ⟨rfl, rfl, rfl, rfl, rfl⟩ rfl rfl rfl rfl rfl (by kernel_rfl) Try.func3 (by kernel_rfl)
    (of_decide_eq_true (by kernel_rfl)) (by unfold Func.isWrapper; rw [if_neg (of_decide_eq_false (by kernel_rfl))]; exact ⟨rfl, rfl⟩)
    (fun os started H enc _ => PointSums_lifted walk os started H enc)

set_option maxRecDepth 100000 in
theorem PointMultiples_lifted (walk : ∀ (X0 : Nat) (X1 Y1 : Nat) (f1 : Bool), X0 < top → X1 < top → Y1 < top → ∀ w : World,  Calls Try.prog 4 #[.agg #[.int .u64 (wd (X0) 0), .int .u64 (wd (X0) 1), .int .u64 (wd (X0) 2), .int .u64 (wd (X0) 3)], .agg #[.int .u64 (wd (X1) 0), .int .u64 (wd (X1) 1), .int .u64 (wd (X1) 2), .int .u64 (wd (X1) 3), .int .u64 (wd (Y1) 0), .int .u64 (wd (Y1) 1), .int .u64 (wd (Y1) 2), .int .u64 (wd (Y1) 3), .bool (f1)]] w fun e w' => e = .returned (.bool true) ∧ Below w.heap.size w w')
    (os : Os) (started : os.Started) (H : Type) (enc : TypeId × Value → H) :
    ReturnsInHanded {} Try.checked os 4 .any (Rows.pointMultiplesSpec.pre6 enc Try.prog Try.f4 Rows.pointMultiplesRow.domain false) (Rows.pointMultiplesSpec.post enc Try.prog Try.f4 false true false false) := by
  refine returnsInHanded_of_change (C := Try.checked) own started (by kernel_rfl) Try.func4
    (ChangeSpec.witness6 (enc := enc) (C := Try.checked) false ⟨#[], #[.agg #[.int .u64 0, .int .u64 0, .int .u64 0, .int .u64 0], .agg #[.int .u64 0, .int .u64 0, .int .u64 0, .int .u64 0, .int .u64 0, .int .u64 0, .int .u64 0, .int .u64 0, .bool false]], []⟩ 8 (by kernel_rfl) (by kernel_rfl) (by kernel_rfl) (by kernel_rfl)) ?_
  intro W base args ds gs before hval0 hW _ _
  have hval : ∀ (j : Nat) t v, Try.f4.params[j]? = some t → args[j]? = some v → Value.okWide Try.prog W .any base t v := hval0
  have hW' := hW
  obtain ⟨p, q, hA0, hV, rfl, _, _⟩ := hW
  have hA : DataW.TrodAll enc Try.prog W 0 (fun _ => true) true Try.f4.params.toList args.toList ds p := hA0
  rw [Try.params4] at hA hval
  obtain ⟨v0, v1, d0, d1, p0, p1, rfl, rfl, rfl, h0, h1⟩ := trodAll_two hA
  obtain ⟨rfl, rfl⟩ := trodVars_none hV
  obtain ⟨X0, hX0, rfl, rfl, rfl⟩ := open_num (hval 0 24 v0 rfl rfl) h0
  obtain ⟨X1, Y1, f1, hX1, hY1, rfl, rfl, rfl⟩ := open_point (hval 1 26 v1 rfl rfl) h1
  clear hA0 hval0
  simp only [List.append_nil] at hW'
  refine (walk X0 X1 Y1 f1 hX0 hX1 hY1 W ).mono fun e W' ⟨he, hb⟩ => ?_
  subst he
  exact ⟨_, rfl, _, _, _, [], [], [], hW', trodAll_mk1 (shut_bool Try.underlying4 true), trodAll_mk2 (shut_num W' 0 _ true X0) (shut_point W' 0 _ true X1 Y1 f1), rfl, hb.frame _, fun h => by cases h⟩

set_option maxRecDepth 100000 in
theorem PointMultiples_over (walk : ∀ (X0 : Nat) (X1 Y1 : Nat) (f1 : Bool), X0 < top → X1 < top → Y1 < top → ∀ w : World,  Calls Try.prog 4 #[.agg #[.int .u64 (wd (X0) 0), .int .u64 (wd (X0) 1), .int .u64 (wd (X0) 2), .int .u64 (wd (X0) 3)], .agg #[.int .u64 (wd (X1) 0), .int .u64 (wd (X1) 1), .int .u64 (wd (X1) 2), .int .u64 (wd (X1) 3), .int .u64 (wd (Y1) 0), .int .u64 (wd (Y1) 1), .int .u64 (wd (Y1) 2), .int .u64 (wd (Y1) 3), .bool (f1)]] w fun e w' => e = .returned (.bool true) ∧ Below w.heap.size w w') :
    Rows.pointMultiplesRow.holds Try.pinned (OpenSpec.ofChange Rows.pointMultiplesSpec) :=
  OpenClaim.holds_of_wide 4 Try.f4 rfl rfl rfl rfl rfl rfl rfl ⟨rfl, rfl, rfl, rfl, rfl⟩ rfl rfl rfl rfl rfl (by kernel_rfl) Try.func4 (by kernel_rfl)
    (of_decide_eq_true (by kernel_rfl)) (by unfold Func.isWrapper; rw [if_neg (of_decide_eq_false (by kernel_rfl))]; exact ⟨rfl, rfl⟩)
    (fun os started H enc _ => PointMultiples_lifted walk os started H enc)

set_option maxRecDepth 100000 in
theorem PointBytes_lifted (walk : ∀ (X0 Y0 : Nat) (f0 : Bool) (A1 : Option Addr) (n1 c1 : Nat) (y1 : Nat → Nat), X0 < top → Y0 < top → (∀ j, y1 j < 256) → n1 ≤ c1 → ∀ w : World, SrcB w A1 n1 y1 → Calls Try.prog 5 #[.agg #[.int .u64 (wd (X0) 0), .int .u64 (wd (X0) 1), .int .u64 (wd (X0) 2), .int .u64 (wd (X0) 3), .int .u64 (wd (Y0) 0), .int .u64 (wd (Y0) 1), .int .u64 (wd (Y0) 2), .int .u64 (wd (Y0) 3), .bool (f0)], .slice A1 n1 c1] w fun e w' => e = .returned (.bool true) ∧ Below w.heap.size w w')
    (os : Os) (started : os.Started) (H : Type) (enc : TypeId × Value → H) :
    ReturnsInHanded {} Try.checked os 5 .any (Rows.pointBytesSpec.pre6 enc Try.prog Try.f5 Rows.pointBytesRow.domain false) (Rows.pointBytesSpec.post enc Try.prog Try.f5 false true false false) := by
  refine returnsInHanded_of_change (C := Try.checked) own started (by kernel_rfl) Try.func5
    (ChangeSpec.witness6 (enc := enc) (C := Try.checked) false ⟨#[], #[.agg #[.int .u64 0, .int .u64 0, .int .u64 0, .int .u64 0, .int .u64 0, .int .u64 0, .int .u64 0, .int .u64 0, .bool false], .slice none 0 0], []⟩ 8 (by kernel_rfl) (by kernel_rfl) (by kernel_rfl) (by kernel_rfl)) ?_
  intro W base args ds gs before hval0 hW _ _
  have hval : ∀ (j : Nat) t v, Try.f5.params[j]? = some t → args[j]? = some v → Value.okWide Try.prog W .any base t v := hval0
  have hW' := hW
  obtain ⟨p, q, hA0, hV, rfl, _, _⟩ := hW
  have hA : DataW.TrodAll enc Try.prog W 0 (fun _ => true) true Try.f5.params.toList args.toList ds p := hA0
  rw [Try.params5] at hA hval
  obtain ⟨v0, v1, d0, d1, p0, p1, rfl, rfl, rfl, h0, h1⟩ := trodAll_two hA
  obtain ⟨rfl, rfl⟩ := trodVars_none hV
  obtain ⟨X0, Y0, f0, hX0, hY0, rfl, rfl, rfl⟩ := open_point (hval 0 26 v0 rfl rfl) h0
  obtain ⟨A1, n1, c1, rfl⟩ := okWide_slice Try.underlying43 (hval 1 43 v1 rfl rfl)
  have h1k := h1
  obtain ⟨fuel1, hf1⟩ := h1
  clear hA0 hval0
  simp only [List.append_nil, List.nil_append] at hW'
  have hlt1 : ∀ x ∈ p1, x.block < W.heap.size := fun x hx => by simpa using hW'.lt x (by simp [hx])
  obtain ⟨y1, hy1, hc1, hs1⟩ := bytes_of (by simpa [Value.cells] using hf1) hlt1
  refine (walk X0 Y0 f0 A1 n1 c1 y1 hX0 hY0 hy1 hc1 W hs1).mono fun e W' ⟨he, hb⟩ => ?_
  subst he
  exact ⟨_, rfl, _, _, _, [], p1, [], hW', trodAll_mk1 (shut_bool Try.underlying4 true), trodAll_mk2 (shut_point W' 0 _ true X0 Y0 f0) (Below.trod laidOut (by kernel_rfl) (of_decide_eq_true (by kernel_rfl)) h1k hb hlt1), rfl, hb.frame _, fun h => by cases h⟩

set_option maxRecDepth 100000 in
theorem PointBytes_over (walk : ∀ (X0 Y0 : Nat) (f0 : Bool) (A1 : Option Addr) (n1 c1 : Nat) (y1 : Nat → Nat), X0 < top → Y0 < top → (∀ j, y1 j < 256) → n1 ≤ c1 → ∀ w : World, SrcB w A1 n1 y1 → Calls Try.prog 5 #[.agg #[.int .u64 (wd (X0) 0), .int .u64 (wd (X0) 1), .int .u64 (wd (X0) 2), .int .u64 (wd (X0) 3), .int .u64 (wd (Y0) 0), .int .u64 (wd (Y0) 1), .int .u64 (wd (Y0) 2), .int .u64 (wd (Y0) 3), .bool (f0)], .slice A1 n1 c1] w fun e w' => e = .returned (.bool true) ∧ Below w.heap.size w w') :
    Rows.pointBytesRow.holds Try.pinned (OpenSpec.ofChange Rows.pointBytesSpec) :=
  OpenClaim.holds_of_wide 5 Try.f5 rfl rfl rfl rfl rfl rfl rfl ⟨rfl, rfl, rfl, rfl, rfl⟩ rfl rfl rfl rfl rfl (by kernel_rfl) Try.func5 (by kernel_rfl)
    (of_decide_eq_true (by kernel_rfl)) (by unfold Func.isWrapper; rw [if_neg (of_decide_eq_false (by kernel_rfl))]; exact ⟨rfl, rfl⟩)
    (fun os started H enc _ => PointBytes_lifted walk os started H enc)

set_option maxRecDepth 100000 in
theorem PointGroup_lifted (walk : ∀ (X0 Y0 : Nat) (f0 : Bool) (X1 Y1 : Nat) (f1 : Bool) (X2 Y2 : Nat) (f2 : Bool), X0 < top → Y0 < top → X1 < top → Y1 < top → X2 < top → Y2 < top → ∀ w : World,  Calls Try.prog 6 #[.agg #[.int .u64 (wd (X0) 0), .int .u64 (wd (X0) 1), .int .u64 (wd (X0) 2), .int .u64 (wd (X0) 3), .int .u64 (wd (Y0) 0), .int .u64 (wd (Y0) 1), .int .u64 (wd (Y0) 2), .int .u64 (wd (Y0) 3), .bool (f0)], .agg #[.int .u64 (wd (X1) 0), .int .u64 (wd (X1) 1), .int .u64 (wd (X1) 2), .int .u64 (wd (X1) 3), .int .u64 (wd (Y1) 0), .int .u64 (wd (Y1) 1), .int .u64 (wd (Y1) 2), .int .u64 (wd (Y1) 3), .bool (f1)], .agg #[.int .u64 (wd (X2) 0), .int .u64 (wd (X2) 1), .int .u64 (wd (X2) 2), .int .u64 (wd (X2) 3), .int .u64 (wd (Y2) 0), .int .u64 (wd (Y2) 1), .int .u64 (wd (Y2) 2), .int .u64 (wd (Y2) 3), .bool (f2)]] w fun e w' => e = .returned (.bool true) ∧ Below w.heap.size w w')
    (os : Os) (started : os.Started) (H : Type) (enc : TypeId × Value → H) :
    ReturnsInHanded {} Try.checked os 6 .any (Rows.pointGroupSpec.pre6 enc Try.prog Try.f6 Rows.pointGroupRow.domain false) (Rows.pointGroupSpec.post enc Try.prog Try.f6 false true false false) := by
  refine returnsInHanded_of_change (C := Try.checked) own started (by kernel_rfl) Try.func6
    (ChangeSpec.witness6 (enc := enc) (C := Try.checked) false ⟨#[], #[.agg #[.int .u64 0, .int .u64 0, .int .u64 0, .int .u64 0, .int .u64 0, .int .u64 0, .int .u64 0, .int .u64 0, .bool false], .agg #[.int .u64 0, .int .u64 0, .int .u64 0, .int .u64 0, .int .u64 0, .int .u64 0, .int .u64 0, .int .u64 0, .bool false], .agg #[.int .u64 0, .int .u64 0, .int .u64 0, .int .u64 0, .int .u64 0, .int .u64 0, .int .u64 0, .int .u64 0, .bool false]], []⟩ 8 (by kernel_rfl) (by kernel_rfl) (by kernel_rfl) (by kernel_rfl)) ?_
  intro W base args ds gs before hval0 hW _ _
  have hval : ∀ (j : Nat) t v, Try.f6.params[j]? = some t → args[j]? = some v → Value.okWide Try.prog W .any base t v := hval0
  have hW' := hW
  obtain ⟨p, q, hA0, hV, rfl, _, _⟩ := hW
  have hA : DataW.TrodAll enc Try.prog W 0 (fun _ => true) true Try.f6.params.toList args.toList ds p := hA0
  rw [Try.params6] at hA hval
  obtain ⟨v0, v1, v2, d0, d1, d2, p0, p1, p2, rfl, rfl, rfl, h0, h1, h2⟩ := trodAll_three hA
  obtain ⟨rfl, rfl⟩ := trodVars_none hV
  obtain ⟨X0, Y0, f0, hX0, hY0, rfl, rfl, rfl⟩ := open_point (hval 0 26 v0 rfl rfl) h0
  obtain ⟨X1, Y1, f1, hX1, hY1, rfl, rfl, rfl⟩ := open_point (hval 1 26 v1 rfl rfl) h1
  obtain ⟨X2, Y2, f2, hX2, hY2, rfl, rfl, rfl⟩ := open_point (hval 2 26 v2 rfl rfl) h2
  clear hA0 hval0
  simp only [List.append_nil] at hW'
  refine (walk X0 Y0 f0 X1 Y1 f1 X2 Y2 f2 hX0 hY0 hX1 hY1 hX2 hY2 W ).mono fun e W' ⟨he, hb⟩ => ?_
  subst he
  exact ⟨_, rfl, _, _, _, [], [], [], hW', trodAll_mk1 (shut_bool Try.underlying4 true), trodAll_mk3 (shut_point W' 0 _ true X0 Y0 f0) (shut_point W' 0 _ true X1 Y1 f1) (shut_point W' 0 _ true X2 Y2 f2), rfl, hb.frame _, fun h => by cases h⟩

set_option maxRecDepth 100000 in
theorem PointGroup_over (walk : ∀ (X0 Y0 : Nat) (f0 : Bool) (X1 Y1 : Nat) (f1 : Bool) (X2 Y2 : Nat) (f2 : Bool), X0 < top → Y0 < top → X1 < top → Y1 < top → X2 < top → Y2 < top → ∀ w : World,  Calls Try.prog 6 #[.agg #[.int .u64 (wd (X0) 0), .int .u64 (wd (X0) 1), .int .u64 (wd (X0) 2), .int .u64 (wd (X0) 3), .int .u64 (wd (Y0) 0), .int .u64 (wd (Y0) 1), .int .u64 (wd (Y0) 2), .int .u64 (wd (Y0) 3), .bool (f0)], .agg #[.int .u64 (wd (X1) 0), .int .u64 (wd (X1) 1), .int .u64 (wd (X1) 2), .int .u64 (wd (X1) 3), .int .u64 (wd (Y1) 0), .int .u64 (wd (Y1) 1), .int .u64 (wd (Y1) 2), .int .u64 (wd (Y1) 3), .bool (f1)], .agg #[.int .u64 (wd (X2) 0), .int .u64 (wd (X2) 1), .int .u64 (wd (X2) 2), .int .u64 (wd (X2) 3), .int .u64 (wd (Y2) 0), .int .u64 (wd (Y2) 1), .int .u64 (wd (Y2) 2), .int .u64 (wd (Y2) 3), .bool (f2)]] w fun e w' => e = .returned (.bool true) ∧ Below w.heap.size w w') :
    Rows.pointGroupRow.holds Try.pinned (OpenSpec.ofChange Rows.pointGroupSpec) :=
  OpenClaim.holds_of_wide 6 Try.f6 rfl rfl rfl rfl rfl rfl rfl ⟨rfl, rfl, rfl, rfl, rfl⟩ rfl rfl rfl rfl rfl (by kernel_rfl) Try.func6 (by kernel_rfl)
    (of_decide_eq_true (by kernel_rfl)) (by unfold Func.isWrapper; rw [if_neg (of_decide_eq_false (by kernel_rfl))]; exact ⟨rfl, rfl⟩)
    (fun os started H enc _ => PointGroup_lifted walk os started H enc)

set_option maxRecDepth 100000 in
theorem PointTimes_lifted (walk : ∀ (z0 : Int) (z1 : Int) (X2 Y2 : Nat) (f2 : Bool), 0 ≤ z0 → z0 < 18446744073709551616 → 0 ≤ z1 → z1 < 18446744073709551616 → X2 < top → Y2 < top → ∀ w : World,  Calls Try.prog 7 #[.int .u64 z0, .int .u64 z1, .agg #[.int .u64 (wd (X2) 0), .int .u64 (wd (X2) 1), .int .u64 (wd (X2) 2), .int .u64 (wd (X2) 3), .int .u64 (wd (Y2) 0), .int .u64 (wd (Y2) 1), .int .u64 (wd (Y2) 2), .int .u64 (wd (Y2) 3), .bool (f2)]] w fun e w' => e = .returned (.bool true) ∧ Below w.heap.size w w')
    (os : Os) (started : os.Started) (H : Type) (enc : TypeId × Value → H) :
    ReturnsInHanded {} Try.checked os 7 .any (Rows.pointTimesSpec.pre6 enc Try.prog Try.f7 Rows.pointTimesRow.domain false) (Rows.pointTimesSpec.post enc Try.prog Try.f7 false true false false) := by
  refine returnsInHanded_of_change (C := Try.checked) own started (by kernel_rfl) Try.func7
    (ChangeSpec.witness6 (enc := enc) (C := Try.checked) false ⟨#[], #[.int .u64 0, .int .u64 0, .agg #[.int .u64 0, .int .u64 0, .int .u64 0, .int .u64 0, .int .u64 0, .int .u64 0, .int .u64 0, .int .u64 0, .bool false]], []⟩ 8 (by kernel_rfl) (by kernel_rfl) (by kernel_rfl) (by kernel_rfl)) ?_
  intro W base args ds gs before hval0 hW _ _
  have hval : ∀ (j : Nat) t v, Try.f7.params[j]? = some t → args[j]? = some v → Value.okWide Try.prog W .any base t v := hval0
  have hW' := hW
  obtain ⟨p, q, hA0, hV, rfl, _, _⟩ := hW
  have hA : DataW.TrodAll enc Try.prog W 0 (fun _ => true) true Try.f7.params.toList args.toList ds p := hA0
  rw [Try.params7] at hA hval
  obtain ⟨v0, v1, v2, d0, d1, d2, p0, p1, p2, rfl, rfl, rfl, h0, h1, h2⟩ := trodAll_three hA
  obtain ⟨rfl, rfl⟩ := trodVars_none hV
  obtain ⟨z0, rfl, rfl, rfl, w0⟩ := open_int Try.underlying22 (hval 0 22 v0 rfl rfl) h0
  obtain ⟨l0, u0⟩ := wf_u64 w0
  obtain ⟨z1, rfl, rfl, rfl, w1⟩ := open_int Try.underlying22 (hval 1 22 v1 rfl rfl) h1
  obtain ⟨l1, u1⟩ := wf_u64 w1
  obtain ⟨X2, Y2, f2, hX2, hY2, rfl, rfl, rfl⟩ := open_point (hval 2 26 v2 rfl rfl) h2
  clear hA0 hval0
  simp only [List.append_nil] at hW'
  refine (walk z0 z1 X2 Y2 f2 l0 u0 l1 u1 hX2 hY2 W ).mono fun e W' ⟨he, hb⟩ => ?_
  subst he
  exact ⟨_, rfl, _, _, _, [], [], [], hW', trodAll_mk1 (shut_bool Try.underlying4 true), trodAll_mk3 (shut_int Try.underlying22 w0) (shut_int Try.underlying22 w1) (shut_point W' 0 _ true X2 Y2 f2), rfl, hb.frame _, fun h => by cases h⟩

set_option maxRecDepth 100000 in
theorem PointTimes_over (walk : ∀ (z0 : Int) (z1 : Int) (X2 Y2 : Nat) (f2 : Bool), 0 ≤ z0 → z0 < 18446744073709551616 → 0 ≤ z1 → z1 < 18446744073709551616 → X2 < top → Y2 < top → ∀ w : World,  Calls Try.prog 7 #[.int .u64 z0, .int .u64 z1, .agg #[.int .u64 (wd (X2) 0), .int .u64 (wd (X2) 1), .int .u64 (wd (X2) 2), .int .u64 (wd (X2) 3), .int .u64 (wd (Y2) 0), .int .u64 (wd (Y2) 1), .int .u64 (wd (Y2) 2), .int .u64 (wd (Y2) 3), .bool (f2)]] w fun e w' => e = .returned (.bool true) ∧ Below w.heap.size w w') :
    Rows.pointTimesRow.holds Try.pinned (OpenSpec.ofChange Rows.pointTimesSpec) :=
  OpenClaim.holds_of_wide 7 Try.f7 rfl rfl rfl rfl rfl rfl rfl ⟨rfl, rfl, rfl, rfl, rfl⟩ rfl rfl rfl rfl rfl (by kernel_rfl) Try.func7 (by kernel_rfl)
    (of_decide_eq_true (by kernel_rfl)) (by unfold Func.isWrapper; rw [if_neg (of_decide_eq_false (by kernel_rfl))]; exact ⟨rfl, rfl⟩)
    (fun os started H enc _ => PointTimes_lifted walk os started H enc)

set_option maxRecDepth 100000 in
theorem PointRound_lifted (walk : ∀ (X0 : Nat) (X1 Y1 : Nat) (f1 : Bool), X0 < top → X1 < top → Y1 < top → ∀ w : World,  Calls Try.prog 8 #[.agg #[.int .u64 (wd (X0) 0), .int .u64 (wd (X0) 1), .int .u64 (wd (X0) 2), .int .u64 (wd (X0) 3)], .agg #[.int .u64 (wd (X1) 0), .int .u64 (wd (X1) 1), .int .u64 (wd (X1) 2), .int .u64 (wd (X1) 3), .int .u64 (wd (Y1) 0), .int .u64 (wd (Y1) 1), .int .u64 (wd (Y1) 2), .int .u64 (wd (Y1) 3), .bool (f1)]] w fun e w' => e = .returned (.bool true) ∧ Below w.heap.size w w')
    (os : Os) (started : os.Started) (H : Type) (enc : TypeId × Value → H) :
    ReturnsInHanded {} Try.checked os 8 .any (Rows.pointRoundSpec.pre6 enc Try.prog Try.f8 Rows.pointRoundRow.domain false) (Rows.pointRoundSpec.post enc Try.prog Try.f8 false true false false) := by
  refine returnsInHanded_of_change (C := Try.checked) own started (by kernel_rfl) Try.func8
    (ChangeSpec.witness6 (enc := enc) (C := Try.checked) false ⟨#[], #[.agg #[.int .u64 0, .int .u64 0, .int .u64 0, .int .u64 0], .agg #[.int .u64 0, .int .u64 0, .int .u64 0, .int .u64 0, .int .u64 0, .int .u64 0, .int .u64 0, .int .u64 0, .bool false]], []⟩ 8 (by kernel_rfl) (by kernel_rfl) (by kernel_rfl) (by kernel_rfl)) ?_
  intro W base args ds gs before hval0 hW _ _
  have hval : ∀ (j : Nat) t v, Try.f8.params[j]? = some t → args[j]? = some v → Value.okWide Try.prog W .any base t v := hval0
  have hW' := hW
  obtain ⟨p, q, hA0, hV, rfl, _, _⟩ := hW
  have hA : DataW.TrodAll enc Try.prog W 0 (fun _ => true) true Try.f8.params.toList args.toList ds p := hA0
  rw [Try.params8] at hA hval
  obtain ⟨v0, v1, d0, d1, p0, p1, rfl, rfl, rfl, h0, h1⟩ := trodAll_two hA
  obtain ⟨rfl, rfl⟩ := trodVars_none hV
  obtain ⟨X0, hX0, rfl, rfl, rfl⟩ := open_num (hval 0 24 v0 rfl rfl) h0
  obtain ⟨X1, Y1, f1, hX1, hY1, rfl, rfl, rfl⟩ := open_point (hval 1 26 v1 rfl rfl) h1
  clear hA0 hval0
  simp only [List.append_nil] at hW'
  refine (walk X0 X1 Y1 f1 hX0 hX1 hY1 W ).mono fun e W' ⟨he, hb⟩ => ?_
  subst he
  exact ⟨_, rfl, _, _, _, [], [], [], hW', trodAll_mk1 (shut_bool Try.underlying4 true), trodAll_mk2 (shut_num W' 0 _ true X0) (shut_point W' 0 _ true X1 Y1 f1), rfl, hb.frame _, fun h => by cases h⟩

set_option maxRecDepth 100000 in
theorem PointRound_over (walk : ∀ (X0 : Nat) (X1 Y1 : Nat) (f1 : Bool), X0 < top → X1 < top → Y1 < top → ∀ w : World,  Calls Try.prog 8 #[.agg #[.int .u64 (wd (X0) 0), .int .u64 (wd (X0) 1), .int .u64 (wd (X0) 2), .int .u64 (wd (X0) 3)], .agg #[.int .u64 (wd (X1) 0), .int .u64 (wd (X1) 1), .int .u64 (wd (X1) 2), .int .u64 (wd (X1) 3), .int .u64 (wd (Y1) 0), .int .u64 (wd (Y1) 1), .int .u64 (wd (Y1) 2), .int .u64 (wd (Y1) 3), .bool (f1)]] w fun e w' => e = .returned (.bool true) ∧ Below w.heap.size w w') :
    Rows.pointRoundRow.holds Try.pinned (OpenSpec.ofChange Rows.pointRoundSpec) :=
  OpenClaim.holds_of_wide 8 Try.f8 rfl rfl rfl rfl rfl rfl rfl ⟨rfl, rfl, rfl, rfl, rfl⟩ rfl rfl rfl rfl rfl (by kernel_rfl) Try.func8 (by kernel_rfl)
    (of_decide_eq_true (by kernel_rfl)) (by unfold Func.isWrapper; rw [if_neg (of_decide_eq_false (by kernel_rfl))]; exact ⟨rfl, rfl⟩)
    (fun os started H enc _ => PointRound_lifted walk os started H enc)
end Go.Proofs.Ytppfcdpokgnpfaa
