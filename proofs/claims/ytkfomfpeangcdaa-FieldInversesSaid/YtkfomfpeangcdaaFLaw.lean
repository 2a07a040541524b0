/-
  What the laws of layer 2 share.
-/
import Derived.Test.YtkfomfpeangcdaaFUp
import Derived.Test.YtkfomfpeangcdaaFAdd2
import Derived.Test.YtkfomfpeangcdaaFPow
import Derived.Test.YtkfomfpeangcdaaFrame
import Derived.Carry
import Derived.Deep.CutRange
namespace Go.Proofs.Ytkfomfpeangcdaa
open Go.ChangeShapes Go.WideShapes Go.ChangeAt Go.RowKit

theorem good_of {M : Nat} (h : ¬ oddB M = false) : M % 2 = 1 ∧ 2 < M := by
  unfold oddB at h
  simp at h
  omega
theorem new_bad (M : Nat) (h : oddB M = false) (hM : M < top) (w : World) :
    Calls Try.prog 11 #[.agg #[.int .u64 (wd (M) 0), .int .u64 (wd (M) 1), .int .u64 (wd (M) 2), .int .u64 (wd (M) 3)]] w fun e w' => e = .returned (.tuple #[.pointer none, .iface 34 (.int .i64 1)]) ∧ Below w.heap.size w w' := by
  by_cases h2 : M % 2 = 0
  · exact new_even M h2 w
  · have : M = 1 := by unfold oddB at h; simp at h; omega
    exact new_low M (by omega) (by omega) hM w
theorem held_fb {wz W : World} {b M : Nat} {N : Int} {Q : Nat} (h : Fb wz b M N Q) (s : (∀ b o, b < wz.heap.size → W.cell? ⟨b, o, none⟩ = wz.cell? ⟨b, o, none⟩) ∧ Below wz.heap.size wz W) : Fb W b M N Q := h.call s.2

theorem pow_mod' (X E M : Nat) : (X % M) ^ E % M = X ^ E % M := (Nat.pow_mod X E M).symm
theorem ring_back (A B M : Nat) (h : 0 < M) : ((A % M + B % M) % M % M + M - B % M) % M = A % M := by
  have ha := Nat.mod_lt A h
  have hb := Nat.mod_lt B h
  rw [Nat.mod_mod]
  generalize A % M = a at *
  generalize B % M = c at *
  by_cases hl : a + c < M
  · rw [Nat.mod_eq_of_lt hl, show a + c + M - c = a + M by omega, Nat.add_mod_right, Nat.mod_eq_of_lt ha]
  · rw [Nat.mod_eq_sub_mod (by omega : M ≤ a + c), Nat.mod_eq_of_lt (by omega : a + c - M < M), show a + c - M + M - c = a by omega, Nat.mod_eq_of_lt ha]
theorem fadd_zero (b X M : Nat) (N : Int) (Q Z : Nat) (hX : X < top) (hK : Fok M N Q) (hZ : X % M = Z) (w : World) (hF : Fb w b M N Q) :
    Calls Try.prog 17 #[.pointer (some ⟨b, 0, none⟩), .agg #[.int .u64 (wd (X) 0), .int .u64 (wd (X) 1), .int .u64 (wd (X) 2), .int .u64 (wd (X) 3)], .agg #[.int .u64 0, .int .u64 0, .int .u64 0, .int .u64 0]] w fun e w' => e = .returned (.agg #[.int .u64 (wd (Z) 0), .int .u64 (wd (Z) 1), .int .u64 (wd (Z) 2), .int .u64 (wd (Z) 3)]) ∧ Below w.heap.size w w' := by
  have h := fadd2_calls b X 0 M N Q Z hX top_pos hK (by rw [Nat.zero_mod, Nat.add_zero, Nat.mod_mod]; exact hZ) w hF
  rw [lit_num 0 (by decide)] at h
  exact h
theorem fpow_lit (b X E M : Nat) (N : Int) (Q Z : Nat) (hX : X < top) (hE : E < w64) (hK : Fok M N Q) (hZ : X ^ E % M = Z) (w : World) (hF : Fb w b M N Q) :
    Calls Try.prog 23 #[.pointer (some ⟨b, 0, none⟩), .agg #[.int .u64 (wd (X) 0), .int .u64 (wd (X) 1), .int .u64 (wd (X) 2), .int .u64 (wd (X) 3)], .agg #[.int .u64 (E : Int), .int .u64 0, .int .u64 0, .int .u64 0]] w fun e w' => e = .returned (.agg #[.int .u64 (wd (Z) 0), .int .u64 (wd (Z) 1), .int .u64 (wd (Z) 2), .int .u64 (wd (Z) 3)]) ∧ Below w.heap.size w w' := by
  have h := fpow_calls b X E M N Q Z hX (Nat.lt_trans hE (by decide : w64 < top)) hK hZ w hF
  rw [lit_num E hE] at h
  exact h
theorem cellsWide : Try.prog.cellsOf 26 = 8 := by kernel_rfl
/-- A wide number, as data. -/
def wideD {H : Type} (X : Nat) : DataW H := .agg [.lit (.int .u64 (wd X 0)), .lit (.int .u64 (wd X 1)), .lit (.int .u64 (wd X 2)), .lit (.int .u64 (wd X 3)), .lit (.int .u64 (wd X 4)), .lit (.int .u64 (wd X 5)), .lit (.int .u64 (wd X 6)), .lit (.int .u64 (wd X 7))]
theorem array8 {α : Type} {cs : Array α} (h : cs.size = 8) : ∃ c0 c1 c2 c3 c4 c5 c6 c7, cs = #[c0, c1, c2, c3, c4, c5, c6, c7] := by
  refine ⟨cs[0], cs[1], cs[2], cs[3], cs[4], cs[5], cs[6], cs[7], ?_⟩
  apply Array.ext
  · simpa using h
  · intro i h1 h2
    have h3 : i < 8 := by omega
    match i, h3 with
    | 0, _ => rfl
    | 1, _ => rfl
    | 2, _ => rfl
    | 3, _ => rfl
    | 4, _ => rfl
    | 5, _ => rfl
    | 6, _ => rfl
    | 7, _ => rfl
section
variable {H : Type} {enc : TypeId × Value → H} {P : Program} {w : World} {base : Nat} {spare : Nat → Bool} {held : Bool}
theorem trod_array8 {t e : TypeId} {fuel : Nat} {c0 c1 c2 c3 c4 c5 c6 c7 : Value} {x : DataW H × List MemPlace} (ht : P.underlying t = some (.array 8 e)) (hce : P.cellsOf e = 1)
    (h : DataW.trod enc P w base spare held fuel t [c0, c1, c2, c3, c4, c5, c6, c7] = some x) :
    ∃ y0 y1 y2 y3 y4 y5 y6 y7 n, x = (.agg [y0.1, y1.1, y2.1, y3.1, y4.1, y5.1, y6.1, y7.1], y0.2 ++ (y1.2 ++ (y2.2 ++ (y3.2 ++ (y4.2 ++ (y5.2 ++ (y6.2 ++ y7.2))))))) ∧ DataW.trod enc P w base spare held n e [c0] = some y0 ∧ DataW.trod enc P w base spare held n e [c1] = some y1 ∧ DataW.trod enc P w base spare held n e [c2] = some y2 ∧ DataW.trod enc P w base spare held n e [c3] = some y3
      ∧ DataW.trod enc P w base spare held n e [c4] = some y4 ∧ DataW.trod enc P w base spare held n e [c5] = some y5 ∧ DataW.trod enc P w base spare held n e [c6] = some y6 ∧ DataW.trod enc P w base spare held n e [c7] = some y7 := by
  cases fuel with
  | zero => simp [DataW.trod] at h
  | succ n =>
    unfold DataW.trod at h
    rw [ht] at h
    have r8 : List.range 8 = [0, 1, 2, 3, 4, 5, 6, 7] := rfl
    simp [r8, hce] at h
    obtain ⟨_, h⟩ := h
    cases h0 : DataW.trod enc P w base spare held n e [c0] with
    | none => simp [h0] at h
    | some y0 =>
    cases h1 : DataW.trod enc P w base spare held n e [c1] with
    | none => simp [h0, h1] at h
    | some y1 =>
    cases h2 : DataW.trod enc P w base spare held n e [c2] with
    | none => simp [h0, h1, h2] at h
    | some y2 =>
    cases h3 : DataW.trod enc P w base spare held n e [c3] with
    | none => simp [h0, h1, h2, h3] at h
    | some y3 =>
    cases h4 : DataW.trod enc P w base spare held n e [c4] with
    | none => simp [h0, h1, h2, h3, h4] at h
    | some y4 =>
    cases h5 : DataW.trod enc P w base spare held n e [c5] with
    | none => simp [h0, h1, h2, h3, h4, h5] at h
    | some y5 =>
    cases h6 : DataW.trod enc P w base spare held n e [c6] with
    | none => simp [h0, h1, h2, h3, h4, h5, h6] at h
    | some y6 =>
    cases h7 : DataW.trod enc P w base spare held n e [c7] with
    | none => simp [h0, h1, h2, h3, h4, h5, h6, h7] at h
    | some y7 =>
      simp [h0, h1, h2, h3, h4, h5, h6, h7] at h
      exact ⟨y0, y1, y2, y3, y4, y5, y6, y7, n, h.symm, h0, h1, h2, h3, h4, h5, h6, h7⟩
end
/-- A number of eight words. -/
theorem wd_ofWide {a b : Nat} (ha : a < top) (hb : b < top) : a + top * b < top8 ∧ (∀ i, i < 4 → wd (a + top * b) i = wd a i) ∧ (∀ i, i < 4 → wd (a + top * b) (4 + i) = wd b i) := by
  refine ⟨?_, fun i hi => ?_, fun i _ => ?_⟩
  · rw [top8_eq]
    have : top * (b + 1) ≤ top * top := Nat.mul_le_mul_left _ hb
    rw [Nat.mul_add] at this; omega
  · rw [← wd_mod _ i hi, Nat.add_mul_mod_self_left, wd_mod _ i hi]
  · unfold wd dg
    rw [Nat.pow_add, ← Nat.div_div_eq_div_mul, show w64 ^ 4 = top from rfl, Nat.add_mul_div_left _ _ top_pos, Nat.div_eq_of_lt ha, Nat.zero_add]
section
variable {H : Type} {enc : TypeId × Value → H}
theorem shut_wide (W : World) (base : Nat) (sp : Nat → Bool) (hd : Bool) (X : Nat) : DataW.Trod enc Try.prog W base sp hd 26 (.agg #[.int .u64 (wd (X) 0), .int .u64 (wd (X) 1), .int .u64 (wd (X) 2), .int .u64 (wd (X) 3), .int .u64 (wd (X) 4), .int .u64 (wd (X) 5), .int .u64 (wd (X) 6), .int .u64 (wd (X) 7)]) (wideD X) [] :=
  ⟨2, by simp [wideD, DataW.trod, Value.cells, Try.underlying26, Try.underlying22, cellsWide, cellsWord, wf_wd, show List.range 8 = [0, 1, 2, 3, 4, 5, 6, 7] from rfl]⟩
theorem open_wide {W : World} {base : Nat} {v : Value} {d : DataW H} {p : List MemPlace} (hv : Value.okWide Try.prog W .any base 26 v) (h : DataW.Trod enc Try.prog W 0 (fun _ => true) true 26 v d p) :
    ∃ X, X < top8 ∧ v = .agg #[.int .u64 (wd (X) 0), .int .u64 (wd (X) 1), .int .u64 (wd (X) 2), .int .u64 (wd (X) 3), .int .u64 (wd (X) 4), .int .u64 (wd (X) 5), .int .u64 (wd (X) 6), .int .u64 (wd (X) 7)] ∧ d = wideD X ∧ p = [] := by
  obtain ⟨cs, rfl, hsz, _⟩ : ∃ cs, v = .agg cs ∧ cs.size = Try.prog.cellsOf 26 ∧ Row.okWide Try.prog W .any base 26 cs := by
    simpa [Value.okWide, Try.underlying26] using hv
  rw [cellsWide] at hsz
  obtain ⟨c0, c1, c2, c3, c4, c5, c6, c7, rfl⟩ := array8 hsz
  obtain ⟨fuel, hf⟩ := h
  obtain ⟨y0, y1, y2, y3, y4, y5, y6, y7, m, hx, hy0, hy1, hy2, hy3, hy4, hy5, hy6, hy7⟩ := trod_array8 Try.underlying26 cellsWord hf
  obtain ⟨x0, e0, rfl, w0⟩ := DataW.trod_int Try.underlying22 hy0
  obtain ⟨x1, e1, rfl, w1⟩ := DataW.trod_int Try.underlying22 hy1
  obtain ⟨x2, e2, rfl, w2⟩ := DataW.trod_int Try.underlying22 hy2
  obtain ⟨x3, e3, rfl, w3⟩ := DataW.trod_int Try.underlying22 hy3
  obtain ⟨x4, e4, rfl, w4⟩ := DataW.trod_int Try.underlying22 hy4
  obtain ⟨x5, e5, rfl, w5⟩ := DataW.trod_int Try.underlying22 hy5
  obtain ⟨x6, e6, rfl, w6⟩ := DataW.trod_int Try.underlying22 hy6
  obtain ⟨x7, e7, rfl, w7⟩ := DataW.trod_int Try.underlying22 hy7
  simp at e0 e1 e2 e3 e4 e5 e6 e7
  subst e0 e1 e2 e3 e4 e5 e6 e7
  simp only [Prod.mk.injEq] at hx
  obtain ⟨rfl, rfl⟩ := hx
  obtain ⟨a0, b0⟩ := wf_u64 w0
  obtain ⟨a1, b1⟩ := wf_u64 w1
  obtain ⟨a2, b2⟩ := wf_u64 w2
  obtain ⟨a3, b3⟩ := wf_u64 w3
  obtain ⟨a4, b4⟩ := wf_u64 w4
  obtain ⟨a5, b5⟩ := wf_u64 w5
  obtain ⟨a6, b6⟩ := wf_u64 w6
  obtain ⟨a7, b7⟩ := wf_u64 w7
  obtain ⟨g0, g1, g2, g3⟩ := wd_ofWords a0 b0 a1 b1 a2 b2 a3 b3
  obtain ⟨g4, g5, g6, g7⟩ := wd_ofWords a4 b4 a5 b5 a6 b6 a7 b7
  have hlo := ofWords_lt b0 b1 b2 b3
  have hhi := ofWords_lt b4 b5 b6 b7
  generalize ofWords x0 x1 x2 x3 = L at *
  generalize ofWords x4 x5 x6 x7 = U at *
  obtain ⟨r1, r2, r3⟩ := wd_ofWide hlo hhi
  have s0 := r2 0 (by omega)
  have s1 := r2 1 (by omega)
  have s2 := r2 2 (by omega)
  have s3 := r2 3 (by omega)
  have s4 := r3 0 (by omega)
  have s5 := r3 1 (by omega)
  have s6 := r3 2 (by omega)
  have s7 := r3 3 (by omega)
  simp only [Nat.add_zero, Nat.reduceAdd] at s4 s5 s6 s7
  refine ⟨L + top * U, r1, ?_, ?_, rfl⟩
  · rw [s0, s1, s2, s3, s4, s5, s6, s7, g0, g1, g2, g3, g4, g5, g6, g7]
  · unfold wideD
    rw [s0, s1, s2, s3, s4, s5, s6, s7, g0, g1, g2, g3, g4, g5, g6, g7]
end
end Go.Proofs.Ytkfomfpeangcdaa
