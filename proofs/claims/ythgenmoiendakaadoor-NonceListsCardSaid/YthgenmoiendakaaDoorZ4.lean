/-
  Merged: FShr FShr2 FCut FCutn FAdd2.
-/
import Derived.Deep.CutRange
import Derived.Test.YthgenmoiendakaaDoorZ3
import Derived.Test.YthgenmoiendakaaDoorZ2

/-
  (*field.Field).shrunk: divided by 2^256, modulo the modulus.
-/
namespace Go.Proofs.YthgenmoiendakaaDoor
open Go.RowKit

set_option maxRecDepth 100000 in
theorem index_num (M j : Nat) (hj : j < 4) (w : World) : (Instr.index 24 (.agg #[.int .u64 (wd (M) 0), .int .u64 (wd (M) 1), .int .u64 (wd (M) 2), .int .u64 (wd (M) 3)]) (.int .i64 (j : Int))).run Tryd.prog w = .ok (.int .u64 (wd M j)) w := by
  match j, hj with
  | 0, _ => rfl
  | 1, _ => rfl
  | 2, _ => rfl
  | 3, _ => rfl

/-- What a column does: the product of two words, what was carried, and the word there. -/
structure Col (tm mj c x : Int) where
  H : Int
  L : Int
  L1 : Int
  c1 : Int
  L2 : Int
  c2 : Int
  mul : ∀ W : World, Calls Tryd.prog 77 #[.int .u64 tm, .int .u64 mj] W fun e w' => e = .returned (.tuple #[.int .u64 H, .int .u64 L]) ∧ w' = W
  a1 : ∀ W : World, (callFunc 73 #[.int .u64 L, .int .u64 c, .int .u64 0]).run Tryd.prog W = .ok (.value (.tuple #[.int .u64 L1, .int .u64 c1])) W
  a2 : ∀ W : World, (callFunc 73 #[.int .u64 x, .int .u64 L1, .int .u64 0]).run Tryd.prog W = .ok (.value (.tuple #[.int .u64 L2, .int .u64 c2])) W
  bH : 0 ≤ H
  bL1 : 0 ≤ L1
  bL2 : 0 ≤ L2
  bL2' : L2 ≤ 18446744073709551615
  bc1 : 0 ≤ c1
  bc2 : 0 ≤ c2
  b4 : H + c1 ≤ 18446744073709551615
  b5 : H + c1 + c2 ≤ 18446744073709551615
  sum : L2 + 18446744073709551616 * (H + c1 + c2) = tm * mj + c + x
set_option maxRecDepth 100000 in
theorem col_is (tm mj c x : Int) (ht : 0 ≤ tm) (ht2 : tm ≤ 18446744073709551615) (hm : 0 ≤ mj) (hm2 : mj ≤ 18446744073709551615) (hc : 0 ≤ c) (hc2 : c ≤ 18446744073709551615) (hx : 0 ≤ x) (hx2 : x ≤ 18446744073709551615) :
    Nonempty (Col tm mj c x) := by
  obtain ⟨p0, p1⟩ := ma_bound ht ht2 hm hm2
  have hM := fun W => mul64 tm mj ht ht2 hm hm2 W
  obtain ⟨P, hP⟩ : ∃ P, P = tm * mj := ⟨_, rfl⟩
  rw [← hP] at p0 p1 hM
  refine ⟨⟨P / 18446744073709551616, P % 18446744073709551616, (P % 18446744073709551616 + c + 0) % 18446744073709551616, (P % 18446744073709551616 + c + 0) / 18446744073709551616,
    (x + (P % 18446744073709551616 + c + 0) % 18446744073709551616 + 0) % 18446744073709551616, (x + (P % 18446744073709551616 + c + 0) % 18446744073709551616 + 0) / 18446744073709551616,
    hM, fun W => add64 _ _ _ (by omega) hc (by omega) (by omega) W, fun W => add64 _ _ _ hx (by omega) (by omega) (by omega) W, ?_, ?_, ?_, ?_, ?_, ?_, ?_, ?_, ?_⟩⟩
  all_goals try rw [← hP]
  all_goals omega

set_option maxRecDepth 100000 in
theorem dg_nat {a : Int} (h : 0 ≤ a) (M j : Nat) : ((a.toNat * dg w64 M j : Nat) : Int) = a * wd M j := by
  unfold wd; rw [Int.natCast_mul, Int.toNat_of_nonneg h]

/-- What the loop over the words keeps. -/
def ShrO (X M k Z T : Nat) (o : Int) : Prop := Z < top8 ∧ Z % w64 ^ k = 0 ∧ T < w64 ^ k ∧ Z + o.toNat * w64 ^ (k + 4) = X + T * M
/-- What the loop over the modulus keeps. -/
def ShrI (M k Z j Z1 : Nat) (tm c : Int) : Prop := Z1 < top8 ∧ Z1 + c.toNat * w64 ^ (k + j) = Z + tm.toNat * (M % w64 ^ j) * w64 ^ k
set_option maxRecDepth 100000 in
theorem shrI_start {M k Z : Nat} {tm : Int} (h : Z < top8) : ShrI M k Z 0 Z tm 0 := by
  refine ⟨h, ?_⟩
  rw [Nat.pow_zero, Nat.mod_one]; simp
set_option maxRecDepth 100000 in
theorem shrI_step {M k Z j Z1 t : Nat} {tm c : Int} (ht : t = k + j) (ht8 : t < 8) (htm : 0 ≤ tm) (hc : 0 ≤ c) (h : ShrI M k Z j Z1 tm c) (C : Col tm (wd M j) c (wd Z1 t)) :
    ∃ Z', (∀ m, wd Z' m = if m = t then C.L2 else wd Z1 m) ∧ ShrI M k Z (j + 1) Z' tm (C.H + C.c1 + C.c2) := by
  obtain ⟨Z', h1, h2, h3⟩ := setwd Z1 t C.L2 ht8 h.1 C.bL2 C.bL2'
  refine ⟨Z', h2, h1, ?_⟩
  subst ht
  refine col_step (c := c.toNat) (x := C.L2.toNat) (m := dg w64 M j) rfl h.2 ?_ h3
  have e := C.sum
  have e1 := dg_nat htm M j
  rw [← e1] at e
  have := C.bL2; have := C.bH; have := C.bc1; have := C.bc2
  have e2 : wd Z1 (k + j) = ((dg w64 Z1 (k + j) : Nat) : Int) := rfl
  generalize C.L2 = a1 at *
  generalize C.H = a2 at *
  generalize C.c1 = a3 at *
  generalize C.c2 = a4 at *
  rw [e2] at e
  show a1.toNat + 18446744073709551616 * (a2 + a3 + a4).toNat = tm.toNat * dg w64 M j + c.toNat + dg w64 Z1 (k + j)
  generalize tm.toNat * dg w64 M j = a5 at *
  generalize dg w64 Z1 (k + j) = a6 at *
  omega
set_option maxRecDepth 100000 in
theorem shrO_start {X M : Nat} (h : X < top8) : ShrO X M 0 X 0 0 := ⟨h, by rw [Nat.pow_zero, Nat.mod_one], by rw [Nat.pow_zero]; omega, by simp⟩
set_option maxRecDepth 100000 in
theorem shrO_step {X M k Z T Z1 t : Nat} {tm c o x o' : Int} (ht : t = k + 4) (hk : k < 4) (hM : M < top) (htm : 0 ≤ tm) (htm2 : tm ≤ 18446744073709551615) (hc : 0 ≤ c) (ho : 0 ≤ o) (hx : 0 ≤ x) (hx2 : x ≤ 18446744073709551615) (ho' : 0 ≤ o')
    (h : ShrO X M k Z T o) (hI : ShrI M k Z 4 Z1 tm c) (h0 : (wd Z k + tm * wd M 0) % 18446744073709551616 = 0) (hs : x + 18446744073709551616 * o' = wd Z1 t + c + o) :
    ∃ Z2 T', (∀ m, wd Z2 m = if m = t then x else wd Z1 m) ∧ ShrO X M (k + 1) Z2 T' o' := by
  obtain ⟨Z2, h1, h2, h3⟩ := setwd Z1 t x (by omega) hI.1 hx hx2
  subst ht
  have r := row_done (B := w64) (M := M) (X := X) (Z := Z) (Z1 := Z1) (Z2 := Z2) (T := T) (t := tm.toNat) (c := c.toNat) (o := o.toNat) (o' := o'.toNat) (x := x.toNat) (k := k) h.2.1 h.2.2.1 (by rw [w64_val]; omega) hM h.2.2.2 ?_ hI.2 ?_ h3
  · exact ⟨Z2, T + w64 ^ k * tm.toNat, h2, h1, r.1, r.2.1, r.2.2⟩
  · have e1 := dg_nat htm M 0
    rw [← e1] at h0
    unfold wd at h0
    rw [w64_val]
    rw [w64_val] at h0
    omega
  · unfold wd at hs
    rw [w64_val]
    rw [w64_val] at hs
    omega
set_option maxRecDepth 100000 in
theorem shr_times {Z k M : Nat} {N : Int} (h : (18446744073709551616 : Int) ∣ wd M 0 * N - 1) :
    ∃ tm : Int, IntKind.u64.wrap (IntKind.u64.wrap (-(wd Z k)) * N) = tm ∧ 0 ≤ tm ∧ tm ≤ 18446744073709551615 ∧ (wd Z k + tm * wd M 0) % 18446744073709551616 = 0 := by
  refine ⟨_, rfl, ?_, ?_, ?_⟩
  · rw [IntKind.wrap_u64]; omega
  · rw [IntKind.wrap_u64]; omega
  · rw [IntKind.wrap_u64, IntKind.wrap_u64]; exact times_zero h
set_option maxRecDepth 100000 in
/-- The words behind both loops: what is left, once the modulus. -/
theorem shr_end {X M Z T : Nat} {N : Int} {Q : Nat} {o : Int} (hK : Fok M N Q) (hX : X < top8) (ho : 0 ≤ o) (ho1 : o ≤ 1) (h : ShrO X M 4 Z T o) :
    ∃ R, R < top ∧ (∀ j, wd Z (4 + j) = wd R j) ∧ (o = 1 ∨ ¬ R < M → ∃ D, (R + top - M) % top = D ∧ D < top ∧ D * top % M = X % M ∧ (X < M * top → D < M)) ∧
      (o = 0 → R < M → R * top % M = X % M) := by
  obtain ⟨h1, h2, h3, h4⟩ := h
  have hM0 : 0 < M := by have := hK.m2; omega
  have hMt := hK.mt
  have hs := shr_sum (M := M) (T := T) (o := o.toNat) hX h3 hM0 h2 h4
  have e8 : top8 = top * top := top8_eq
  have hR : Z / top < top := by
    rw [Nat.div_lt_iff_lt_mul top_pos, ← e8]; exact h1
  refine ⟨Z / top, hR, fun j => ?_, fun hor => ?_, fun h0 hlt => ?_⟩
  · unfold wd dg; rw [Nat.pow_add, ← Nat.div_div_eq_div_mul]; rfl
  · obtain ⟨s1, s2, s3⟩ := hs
    obtain ⟨R, hRR⟩ : ∃ R, R = Z / top := ⟨_, rfl⟩
    rw [← hRR] at hor hR s1 s2 s3 ⊢
    have ho2 : o = 0 ∨ o = 1 := by omega
    have hD : (R + top - M) % top = R + o.toNat * top - M := by
      rcases ho2 with rfl | rfl
      · have : ¬ R < M := by rcases hor with h | h <;> omega
        rw [show R + top - M = (R - M) + top by omega, Nat.add_mod_right, Nat.mod_eq_of_lt (by omega)]; simp
      · simp only [Int.toNat_one, Nat.one_mul] at s2 ⊢
        exact Nat.mod_eq_of_lt (by omega)
    have hge : M ≤ R + o.toNat * top := by
      rcases ho2 with rfl | rfl
      · have : ¬ R < M := by rcases hor with h | h <;> omega
        omega
      · simp only [Int.toNat_one, Nat.one_mul]; omega
    refine ⟨_, rfl, ?_, ?_, fun h => ?_⟩
    · exact Nat.mod_lt _ top_pos
    · rw [hD, Nat.sub_mul, s1]
      have : M * top ≤ X + T * M := by rw [← s1]; exact Nat.mul_le_mul_right _ hge
      have e1 : X + T * M = (X + T * M - M * top) + M * top := by omega
      have e2 : (X + T * M - M * top) % M = (X + T * M) % M := by
        conv => rhs; rw [e1, Nat.add_mul_mod_self_left]
      rw [e2, Nat.add_mul_mod_self_right]
    · rw [hD]
      have := s3 h; omega
  · subst h0
    obtain ⟨s1, s2, s3⟩ := hs
    simp only [Int.toNat_zero, Nat.zero_mul, Nat.add_zero] at s1
    rw [s1, Nat.add_mul_mod_self_right]
end Go.Proofs.YthgenmoiendakaaDoor


/-
  (*field.Field).shrunk: the walk.
-/
namespace Go.Proofs.YthgenmoiendakaaDoor
open Go.RowKit

set_option maxRecDepth 100000 in
set_option maxHeartbeats 8000000 in
theorem shrunk_any (b X M : Nat) (N : Int) (Q : Nat) (hX : X < top8) (hK : Fok M N Q) (w : World) (hF : Fb w b M N Q) :
    Calls Tryd.prog 75 #[.pointer (some ⟨b, 0, none⟩), .agg #[.int .u64 (wd (X) 0), .int .u64 (wd (X) 1), .int .u64 (wd (X) 2), .int .u64 (wd (X) 3), .int .u64 (wd (X) 4), .int .u64 (wd (X) 5), .int .u64 (wd (X) 6), .int .u64 (wd (X) 7)]] w fun e w' => (∃ Z, Z < top ∧ Z * top % M = X % M ∧ (X < M * top → Z < M) ∧ e = .returned (.agg #[.int .u64 (wd (Z) 0), .int .u64 (wd (Z) 1), .int .u64 (wd (Z) 2), .int .u64 (wd (Z) 3)])) ∧ Below w.heap.size w w' := by
  have hA0 : ((w.alloc (.cells #[.int .u64 (wd (X) 0), .int .u64 (wd (X) 1), .int .u64 (wd (X) 2), .int .u64 (wd (X) 3), .int .u64 (wd (X) 4), .int .u64 (wd (X) 5), .int .u64 (wd (X) 6), .int .u64 (wd (X) 7)] 65)).alloc (.cells #[.int .u64 0, .int .u64 0, .int .u64 0, .int .u64 0] 24)).rowIs w.heap.size 65 8 (fun j => .int .u64 (wd X j)) := (row_new (n := 8) (by simp) rfl (arr8 fun j => .int .u64 (wd X j))).alloc _
  have hR0 : ((w.alloc (.cells #[.int .u64 (wd (X) 0), .int .u64 (wd (X) 1), .int .u64 (wd (X) 2), .int .u64 (wd (X) 3), .int .u64 (wd (X) 4), .int .u64 (wd (X) 5), .int .u64 (wd (X) 6), .int .u64 (wd (X) 7)] 65)).alloc (.cells #[.int .u64 0, .int .u64 0, .int .u64 0, .int .u64 0] 24)).rowIs (w.heap.size + 1) 24 4 (fun _ => .int .u64 0) := row_new (n := 4) (by simp) rfl (arr4 fun _ => .int .u64 0)
  have hb0 : Below w.heap.size w ((w.alloc (.cells #[.int .u64 (wd (X) 0), .int .u64 (wd (X) 1), .int .u64 (wd (X) 2), .int .u64 (wd (X) 3), .int .u64 (wd (X) 4), .int .u64 (wd (X) 5), .int .u64 (wd (X) 6), .int .u64 (wd (X) 7)] 65)).alloc (.cells #[.int .u64 0, .int .u64 0, .int .u64 0, .int .u64 0] 24)) := ((Below.refl _ _).alloc (by simp) _).alloc (by simp) _
  have hbs := hF.lt
  have HX := veil hX
  have HF := veil hF
  clear hX hF
  go_enter Tryd.func75, Tryd.ntmps75
  go_wp2
  generalize ((w.alloc (.cells #[.int .u64 (wd (X) 0), .int .u64 (wd (X) 1), .int .u64 (wd (X) 2), .int .u64 (wd (X) 3), .int .u64 (wd (X) 4), .int .u64 (wd (X) 5), .int .u64 (wd (X) 6), .int .u64 (wd (X) 7)] 65)).alloc (.cells #[.int .u64 0, .int .u64 0, .int .u64 0, .int .u64 0] 24)) = w0 at *
  go_loopw [5, 15] (fun ov i wr => ∃ (k Z T : Nat) (o : Int), k ≤ 4 ∧ i = .int .i64 (k : Int) ∧ ov = .int .u64 o ∧ 0 ≤ o ∧ o ≤ 1 ∧ Hid (ShrO X M k Z T o) ∧ wr.rowIs w.heap.size 65 8 (fun j => .int .u64 (wd Z j)) ∧ wr.rowIs (w.heap.size + 1) 24 4 (fun _ => .int .u64 0) ∧ Below w.heap.size w wr)
    (fun _ i _ => 4 - (intOf i).toNat)
  case atStart => exact ⟨0, X, 0, 0, by omega, rfl, rfl, by omega, by omega, veil (shrO_start HX.out), hA0, hR0, hb0⟩
  case round =>
    obtain ⟨k, Z, T, o, hk, rfl, rfl, ho0, ho1, hS, hA, hR, hbel⟩ := hrel
    clear hA0 hR0 hb0
    by_cases hlt : k < 4
    · have hki : (k : Int) < 8 := by omega
      have hd : decide ((k : Int) < 4) = true := by simp; omega
      have c1 := hA.cell (show k < 8 by omega)
      have hFr := HF.out.below hbel hbs
      have c2 := hFr.inv
      obtain ⟨m0, m1, m2, m3⟩ := hFr.mod
      obtain ⟨tm, ht, ht0, ht1, hz⟩ := shr_times (Z := Z) (k := k) hK.inv
      have HZ := veil hz
      have HT := veil ht
      clear hz ht hFr
      go_wp2
      go_quiet (fail)
      rw [HT.out]
      clear c1 c2
      go_wp2
      clear m0 m1 m2 m3
      replace hA := row_drewN hA nq
      replace hR := row_drewN hR nq
      replace hbel := below_drewN hbel nq
      obtain ⟨wo, hwo⟩ : ∃ wo : World, wo = wr.drewN nq := ⟨_, rfl⟩
      rw [← hwo] at hA hR hbel ⊢
      clear hwo
      go_loopw [8, 31] (fun cc q wq => ∃ (j Z1 : Nat) (c : Int), j ≤ 4 ∧ q = .int .i64 (j : Int) ∧ cc = .int .u64 c ∧ 0 ≤ c ∧ c ≤ 18446744073709551615 ∧ Hid (ShrI M k Z j Z1 tm c) ∧ wq.rowIs w.heap.size 65 8 (fun j => .int .u64 (wd Z1 j)) ∧ wq.rowIs (w.heap.size + 1) 24 4 (fun _ => .int .u64 0) ∧ Below w.heap.size w wq)
        (fun _ q _ => 4 - (intOf q).toNat)
      case atStart => exact ⟨0, Z, 0, by omega, rfl, rfl, by omega, by omega, veil (shrI_start hS.out.1), hA, hR, hbel⟩
      case round =>
        obtain ⟨j, Z1, c, hj, rfl, rfl, hc0, hc1, hI, hA1, hR1, hbel1⟩ := hrel
        clear hA hR hbel
        by_cases hlj : j < 4
        · have hx := index_num M j hlj
          obtain ⟨t, ht⟩ : ∃ t, t = k + j := ⟨_, rfl⟩
          have hti : (k : Int) + (j : Int) = (t : Int) := by omega
          have ht8 : (t : Int) < 8 := by omega
          have htz : (0 : Int) ≤ (t : Int) := by omega
          have htw : IntKind.i64.wrap (t : Int) = (t : Int) := IntWalk.i64_in _ (by omega)
          have htn : (t : Int).toNat = t := by omega
          have c3 := hA1.cell (i := t) (by omega)
          have f3 := hA1.frozen t
          obtain ⟨C⟩ := col_is tm (wd M j) c (wd Z1 t) ht0 ht1 (wd_lo _ _) (wd_le _ _) hc0 hc1 (wd_lo _ _) (wd_le _ _)
          obtain ⟨Z', hz1, hz2⟩ := shrI_step ht (by omega) ht0 hc0 hI.out C
          obtain ⟨H, L, L1, c1, L2, c2, hmul, ha1, ha2, bH, bL1, bL2, bL2', bc1, bc2, b4, b5, hsum⟩ := C
          dsimp only at hz1 hz2
          have HM := veil hmul
          have H1 := veil hz1
          have H2 := veil hz2
          have HTT := veil ht
          clear hmul hz1 hz2 hsum ht hI hS
          go_wp2_with (go_at_call 77; refine (HM.out _).mono ?_; rintro e w' ⟨rfl, rfl⟩)
          go_roundw
          case rel => exact ⟨j + 1, Z', H + c1 + c2, by omega, by go_num, rfl, by omega, b5, H2, (hA1.set t _).congr (fun m _ => by rw [H1.out m]; split <;> rfl), row_far hR1 (by omega) _, below_set hbel1 (by omega) _⟩
          case measure => simp [intOf]; omega
        · obtain rfl : j = 4 := by omega
          obtain ⟨t, ht⟩ : ∃ t, t = k + 4 := ⟨_, rfl⟩
          have hti : (k : Int) + 4 = (t : Int) := by omega
          have ht8 : (t : Int) < 8 := by omega
          have htz : (0 : Int) ≤ (t : Int) := by omega
          have htw : IntKind.i64.wrap (t : Int) = (t : Int) := IntWalk.i64_in _ (by omega)
          have htn : (t : Int).toNat = t := by omega
          have c3 := hA1.cell (i := t) (by omega)
          have f3 := hA1.frozen t
          have l1 := wd_lo Z1 t
          have l2 := wd_le Z1 t
          have ha := fun W => add64 (wd Z1 t) c o l1 hc0 ho0 ho1 W
          obtain ⟨x, hx⟩ : ∃ x, x = (wd Z1 t + c + o) % 18446744073709551616 := ⟨_, rfl⟩
          obtain ⟨o', ho'⟩ : ∃ o', o' = (wd Z1 t + c + o) / 18446744073709551616 := ⟨_, rfl⟩
          rw [← hx, ← ho'] at ha
          have hs : x + 18446744073709551616 * o' = wd Z1 t + c + o := by omega
          have x0 : 0 ≤ x := by omega
          have x1 : x ≤ 18446744073709551615 := by omega
          have o0 : 0 ≤ o' := by omega
          have o1 : o' ≤ 1 := by omega
          obtain ⟨Z2, T', hz1, hz2⟩ := shrO_step ht hlt hK.mt ht0 ht1 hc0 ho0 x0 x1 o0 hS.out hI.out HZ.out hs
          have H1 := veil hz1
          have H2 := veil hz2
          clear hz1 hz2 hs hx ho' ht hI hS hc0 hc1 l1 l2 ho0 ho1
          go_wp2_with fail
          go_roundw
          case rel => exact ⟨k + 1, Z2, T', o', by omega, by go_num, rfl, o0, o1, H2, (hA1.set t _).congr (fun m _ => by rw [H1.out m]; split <;> rfl), row_far hR1 (by omega) _, below_set hbel1 (by omega) _⟩
          case measure => simp [intOf]; omega
    · obtain rfl : k = 4 := by omega
      obtain ⟨R, hRt, hw, hDD, hN⟩ := shr_end hK HX.out ho0 ho1 hS.out
      have c4 := hA.cell (i := 4) (by omega)
      have c5 := hA.cell (i := 5) (by omega)
      have c6 := hA.cell (i := 6) (by omega)
      have c7 := hA.cell (i := 7) (by omega)
      rw [hw 0] at c4
      rw [hw 1] at c5
      rw [hw 2] at c6
      rw [hw 3] at c7
      have hFr := HF.out.below hbel hbs
      have hMt := hK.mt
      have HDD := veil hDD
      have HN := veil hN
      have hg1 := hA.lt
      have hg2 := hR.lt
      have hg3 := hFr.lt
      clear hA hw hDD hN hS
      go_wp2_with fail
      clear c4 c5 c6 c7
      have hT : (wr.alloc (.cells #[.int .u64 (wd (R) 0), .int .u64 (wd (R) 1), .int .u64 (wd (R) 2), .int .u64 (wd (R) 3)] 24)).rowIs wr.heap.size 24 4 (fun j => .int .u64 (wd R j)) := row_new (n := 4) (by simp) rfl (arr4 fun j => .int .u64 (wd R j))
      replace hR := hR.alloc (.cells #[.int .u64 (wd (R) 0), .int .u64 (wd (R) 1), .int .u64 (wd (R) 2), .int .u64 (wd (R) 3)] 24)
      replace hFr := hFr.alloc (.cells #[.int .u64 (wd (R) 0), .int .u64 (wd (R) 1), .int .u64 (wd (R) 2), .int .u64 (wd (R) 3)] 24)
      have hgz : w.heap.size + 1 < wr.heap.size := hg2
      replace hbel := hbel.alloc (by omega) (.cells #[.int .u64 (wd (R) 0), .int .u64 (wd (R) 1), .int .u64 (wd (R) 2), .int .u64 (wd (R) 3)] 24)
      generalize wr.heap.size = g at *
      generalize wr.alloc (.cells #[.int .u64 (wd (R) 0), .int .u64 (wd (R) 1), .int .u64 (wd (R) 2), .int .u64 (wd (R) 3)] 24) = wz at *
      obtain ⟨t0, t1, t2, t3⟩ := row_c4 hT
      obtain ⟨ft0, ft1, ft2, ft3⟩ := row_f4 hT
      obtain ⟨m0, m1, m2, m3⟩ := hFr.mod
      have ho : o = 0 ∨ o = 1 := by omega
      rcases ho with rfl | rfl
      · by_cases hlt2 : R < M
        · obtain ⟨c, hc⟩ : ∃ c, c = cmpN R M := ⟨_, rfl⟩
          have hcn : c = -1 := by rw [hc]; unfold cmpN; rw [if_pos hlt2]
          have KC := veil (fun W => kcmp R M c hc.symm hRt hMt W)
          have HV := veil (HN.out rfl hlt2)
          have HL := veil hlt2
          subst hcn
          clear hc hlt2 HDD HN
          have z1 := hT.lt
          have z2 := hR.lt
          have z3 := hFr.lt
          go_region_with (go_at_call 24; refine (KC.out _).mono ?_; rintro e wm ⟨rfl, hbm⟩; have hTm := row_below (by exact hT) hbm (by exact hT.lt); have hRm := row_below (by exact hR) hbm (by exact hR.lt); have hFm := Fb.below (by exact hFr) hbm (by exact hFr.lt); have hBm := Below.trans (by first | exact hbel | exact hbel.drew) (hbm.mono (by exact hbel.size)))
          all_goals
            clear t0 t1 t2 t3 ft0 ft1 ft2 ft3 m0 m1 m2 m3 z1 z2 z3 hbm
            replace hT := hTm
            replace hR := hRm
            replace hFr := hFm
            replace hbel := hBm
            clear hTm hRm hFm hBm
            obtain ⟨t0, t1, t2, t3⟩ := row_c4 hT
            obtain ⟨f0, f1, f2, f3⟩ := row_f4 hR
            obtain ⟨d0, d1, d2, d3⟩ := row_c4 hR
            go_wp2
            refine bodyPost_ret (results_cell_row rfl _ _ (w.heap.size + 1) 24 #[.int .u64 (wd (R) 0), .int .u64 (wd (R) 1), .int .u64 (wd (R) 2), .int .u64 (wd (R) 3)] (0, 0) _ rfl (blk4 (put4 hR fun j => .int .u64 (wd R j))) Tryd.underlying24 rfl (by kernel_rfl)) rfl ⟨⟨R, hRt, HV.out, fun _ => HL.out, rfl⟩, below_put4 hbel (by omega) _ _ _ _⟩
        · obtain ⟨c, hc⟩ : ∃ c, c = cmpN R M := ⟨_, rfl⟩
          have hcn : 0 ≤ c := by rw [hc, cmp_ge]; exact hlt2
          have KC := veil (fun W => kcmp R M c hc.symm hRt hMt W)
          obtain ⟨D, hD1, hD2, hD3, hD4⟩ := HDD.out (Or.inr hlt2)
          have K := veil (fun W => ksub R M D _ hD1 rfl hRt hMt W)
          have HD := veil (And.intro hD2 (And.intro hD3 hD4))
          clear hD1 hD2 hD3 hD4 HDD HN
          clear hc hlt2
          have z1 := hT.lt
          have z2 := hR.lt
          have z3 := hFr.lt
          go_region_with (go_at_call 24; refine (KC.out _).mono ?_; rintro e wm ⟨rfl, hbm⟩; have hTm := row_below (by exact hT) hbm (by exact hT.lt); have hRm := row_below (by exact hR) hbm (by exact hR.lt); have hFm := Fb.below (by exact hFr) hbm (by exact hFr.lt); have hBm := Below.trans (by first | exact hbel | exact hbel.drew) (hbm.mono (by exact hbel.size)))
          all_goals
            clear t0 t1 t2 t3 ft0 ft1 ft2 ft3 m0 m1 m2 m3 z1 z2 z3 hbm
            replace hT := hTm
            replace hR := hRm
            replace hFr := hFm
            replace hbel := hBm
            clear hTm hRm hFm hBm
            obtain ⟨t0, t1, t2, t3⟩ := row_c4 hT
            obtain ⟨ft0, ft1, ft2, ft3⟩ := row_f4 hT
            obtain ⟨m0, m1, m2, m3⟩ := hFr.mod
            have z1 := hT.lt
            have z2 := hR.lt
            have z3 := hFr.lt
            go_wp2_with fail
            go_region_with (go_at_call 68; refine (K.out _).mono ?_; rintro e wq ⟨rfl, hbq⟩; have hTq := row_below (by exact hT) hbq (by exact hT.lt); have hRq := row_below (by exact hR) hbq (by exact hR.lt); have hBq := Below.trans (by first | exact hbel | exact hbel.drew) (hbq.mono (by exact hbel.size)); obtain ⟨q0, q1, q2, q3⟩ := row_c4 hTq; obtain ⟨fq0, fq1, fq2, fq3⟩ := row_f4 hTq)
            all_goals
              clear t0 t1 t2 t3 ft0 ft1 ft2 ft3 m0 m1 m2 m3 q0 q1 q2 q3 fq0 fq1 fq2 fq3 hbq hFr
              replace hR := row_far4 hRq (b' := g) (by omega) (.int .u64 (wd D 0)) (.int .u64 (wd D 1)) (.int .u64 (wd D 2)) (.int .u64 (wd D 3))
              replace hT := put4 hTq (fun j => .int .u64 (wd D j))
              replace hbel := below_put4 (b := g) hBq (by omega) (.int .u64 (wd D 0)) (.int .u64 (wd D 1)) (.int .u64 (wd D 2)) (.int .u64 (wd D 3))
              clear hRq hTq hBq z1 z2 z3
              generalize ((((wq.setCell ⟨g, 0, none⟩ (.int .u64 (wd D 0))).setCell ⟨g, 1, none⟩ (.int .u64 (wd D 1))).setCell ⟨g, 2, none⟩ (.int .u64 (wd D 2))).setCell ⟨g, 3, none⟩ (.int .u64 (wd D 3))) = wp at *
              obtain ⟨t0, t1, t2, t3⟩ := row_c4 hT
              obtain ⟨f0, f1, f2, f3⟩ := row_f4 hR
              obtain ⟨d0, d1, d2, d3⟩ := row_c4 hR
              go_wp2
              refine bodyPost_ret (results_cell_row rfl _ _ (w.heap.size + 1) 24 #[.int .u64 (wd (D) 0), .int .u64 (wd (D) 1), .int .u64 (wd (D) 2), .int .u64 (wd (D) 3)] (0, 0) _ rfl (blk4 (put4 hR fun j => .int .u64 (wd D j))) Tryd.underlying24 rfl (by kernel_rfl)) rfl ⟨⟨D, HD.out.1, HD.out.2.1, HD.out.2.2, rfl⟩, below_put4 hbel (by omega) _ _ _ _⟩
      · obtain ⟨D, hD1, hD2, hD3, hD4⟩ := HDD.out (Or.inl rfl)
        have K := veil (fun W => ksub R M D _ hD1 rfl hRt hMt W)
        have HD := veil (And.intro hD2 (And.intro hD3 hD4))
        clear hD1 hD2 hD3 hD4 HDD HN
        go_quiet (fail)
        replace hR := row_drewN hR nq
        replace hT := row_drewN hT nq
        replace hFr : Fb (wz.drewN nq) b M N Q := row_drewN hFr nq
        replace hbel := below_drewN hbel nq
        clear t0 t1 t2 t3 ft0 ft1 ft2 ft3 m0 m1 m2 m3
        generalize wz.drewN nq = wy at *
        obtain ⟨t0, t1, t2, t3⟩ := row_c4 hT
        obtain ⟨ft0, ft1, ft2, ft3⟩ := row_f4 hT
        obtain ⟨m0, m1, m2, m3⟩ := hFr.mod
        have z1 := hT.lt
        have z2 := hR.lt
        have z3 := hFr.lt
        go_wp2_with fail
        go_region_with (go_at_call 68; refine (K.out _).mono ?_; rintro e wq ⟨rfl, hbq⟩; have hTq := row_below (by exact hT) hbq (by exact hT.lt); have hRq := row_below (by exact hR) hbq (by exact hR.lt); have hBq := Below.trans (by first | exact hbel | exact hbel.drew) (hbq.mono (by exact hbel.size)); obtain ⟨q0, q1, q2, q3⟩ := row_c4 hTq; obtain ⟨fq0, fq1, fq2, fq3⟩ := row_f4 hTq)
        all_goals
          clear t0 t1 t2 t3 ft0 ft1 ft2 ft3 m0 m1 m2 m3 q0 q1 q2 q3 fq0 fq1 fq2 fq3 hbq hFr
          replace hR := row_far4 hRq (b' := g) (by omega) (.int .u64 (wd D 0)) (.int .u64 (wd D 1)) (.int .u64 (wd D 2)) (.int .u64 (wd D 3))
          replace hT := put4 hTq (fun j => .int .u64 (wd D j))
          replace hbel := below_put4 (b := g) hBq (by omega) (.int .u64 (wd D 0)) (.int .u64 (wd D 1)) (.int .u64 (wd D 2)) (.int .u64 (wd D 3))
          clear hRq hTq hBq z1 z2 z3
          generalize ((((wq.setCell ⟨g, 0, none⟩ (.int .u64 (wd D 0))).setCell ⟨g, 1, none⟩ (.int .u64 (wd D 1))).setCell ⟨g, 2, none⟩ (.int .u64 (wd D 2))).setCell ⟨g, 3, none⟩ (.int .u64 (wd D 3))) = wp at *
          obtain ⟨t0, t1, t2, t3⟩ := row_c4 hT
          obtain ⟨f0, f1, f2, f3⟩ := row_f4 hR
          obtain ⟨d0, d1, d2, d3⟩ := row_c4 hR
          go_wp2
          refine bodyPost_ret (results_cell_row rfl _ _ (w.heap.size + 1) 24 #[.int .u64 (wd (D) 0), .int .u64 (wd (D) 1), .int .u64 (wd (D) 2), .int .u64 (wd (D) 3)] (0, 0) _ rfl (blk4 (put4 hR fun j => .int .u64 (wd D j))) Tryd.underlying24 rfl (by kernel_rfl)) rfl ⟨⟨D, HD.out.1, HD.out.2.1, HD.out.2.2, rfl⟩, below_put4 hbel (by omega) _ _ _ _⟩
end Go.Proofs.YthgenmoiendakaaDoor


/-
  (*field.Field).Cut: a wide number, modulo the modulus.
-/
namespace Go.Proofs.YthgenmoiendakaaDoor
open Go.RowKit

set_option maxRecDepth 100000 in
theorem kshr (b X M : Nat) (N : Int) (Q V Z : Nat) (hV : V * top % M = X % M) (hlt : X < M * top) (hX : X < top8) (hZ : V % M = Z) (hK : Fok M N Q) (w : World) (hF : Fb w b M N Q) :
    Calls Tryd.prog 75 #[.pointer (some ⟨b, 0, none⟩), .agg #[.int .u64 (wd (X) 0), .int .u64 (wd (X) 1), .int .u64 (wd (X) 2), .int .u64 (wd (X) 3), .int .u64 (wd (X) 4), .int .u64 (wd (X) 5), .int .u64 (wd (X) 6), .int .u64 (wd (X) 7)]] w fun e w' => e = .returned (.agg #[.int .u64 (wd (Z) 0), .int .u64 (wd (Z) 1), .int .u64 (wd (Z) 2), .int .u64 (wd (Z) 3)]) ∧ Below w.heap.size w w' := by
  refine (shrunk_any b X M N Q hX hK w hF).mono ?_
  rintro e w' ⟨⟨Z', h1, h2, h3, rfl⟩, hb⟩
  have e1 := cut_top hK.odd (h2.trans hV.symm)
  rw [Nat.mod_eq_of_lt (h3 hlt), hZ] at e1
  subst e1
  exact ⟨rfl, hb⟩
set_option maxRecDepth 100000 in
theorem sq_num {Z X M : Nat} {N : Int} {Q : Nat} (hK : Fok M N Q) (h : Z * top % M = X % M) : X * top % M = Z * Q % M := by
  rw [hK.q, Nat.mul_mod_mod, top8_eq, ← Nat.mul_assoc, ← Nat.mod_mul_mod (Z * top), h, Nat.mod_mul_mod]
set_option maxRecDepth 100000 in
theorem mul_lt8 {X Y : Nat} (hX : X < top) (hY : Y < top) : X * Y < top8 := by
  rw [top8_eq]; exact Nat.mul_lt_mul'' hX hY
set_option maxRecDepth 100000 in
theorem mul_ltm {X Q M : Nat} (hX : X < top) (hQ : Q < M) : X * Q < M * top := by
  rw [Nat.mul_comm M]; exact Nat.mul_lt_mul'' hX hQ

set_option maxRecDepth 100000 in
set_option maxHeartbeats 8000000 in
theorem cutw_calls (b X M : Nat) (N : Int) (Q P : Nat) (hX : X < top8) (hK : Fok M N Q) (hP : X % M = P) (w : World) (hF : Fb w b M N Q) :
    Calls Tryd.prog 69 #[.pointer (some ⟨b, 0, none⟩), .agg #[.int .u64 (wd (X) 0), .int .u64 (wd (X) 1), .int .u64 (wd (X) 2), .int .u64 (wd (X) 3), .int .u64 (wd (X) 4), .int .u64 (wd (X) 5), .int .u64 (wd (X) 6), .int .u64 (wd (X) 7)]] w fun e w' => e = .returned (.agg #[.int .u64 (wd (P) 0), .int .u64 (wd (P) 1), .int .u64 (wd (P) 2), .int .u64 (wd (P) 3)]) ∧ Below w.heap.size w w' := by
  have hQ := hK.qm
  have hQt : Q < top := by have := hK.mt; omega
  have HX := veil hX
  have HQ := veil hQ
  have HP := veil hP
  clear hX hQ hP
  have hA : ((w.alloc (.cells #[.int .u64 (wd (X) 0), .int .u64 (wd (X) 1), .int .u64 (wd (X) 2), .int .u64 (wd (X) 3), .int .u64 (wd (X) 4), .int .u64 (wd (X) 5), .int .u64 (wd (X) 6), .int .u64 (wd (X) 7)] 65)).alloc (.cells #[.int .u64 0, .int .u64 0, .int .u64 0, .int .u64 0] 24)).rowIs w.heap.size 65 8 (fun j => .int .u64 (wd X j)) := (row_new (n := 8) (by simp) rfl (arr8 fun j => .int .u64 (wd X j))).alloc _
  have hR : ((w.alloc (.cells #[.int .u64 (wd (X) 0), .int .u64 (wd (X) 1), .int .u64 (wd (X) 2), .int .u64 (wd (X) 3), .int .u64 (wd (X) 4), .int .u64 (wd (X) 5), .int .u64 (wd (X) 6), .int .u64 (wd (X) 7)] 65)).alloc (.cells #[.int .u64 0, .int .u64 0, .int .u64 0, .int .u64 0] 24)).rowIs (w.heap.size + 1) 24 4 (fun _ => .int .u64 0) := row_new (n := 4) (by simp) rfl (arr4 fun _ => .int .u64 0)
  have hbel : Below w.heap.size w ((w.alloc (.cells #[.int .u64 (wd (X) 0), .int .u64 (wd (X) 1), .int .u64 (wd (X) 2), .int .u64 (wd (X) 3), .int .u64 (wd (X) 4), .int .u64 (wd (X) 5), .int .u64 (wd (X) 6), .int .u64 (wd (X) 7)] 65)).alloc (.cells #[.int .u64 0, .int .u64 0, .int .u64 0, .int .u64 0] 24)) := ((Below.refl _ _).alloc (by simp) _).alloc (by simp) _
  have hFr : Fb ((w.alloc (.cells #[.int .u64 (wd (X) 0), .int .u64 (wd (X) 1), .int .u64 (wd (X) 2), .int .u64 (wd (X) 3), .int .u64 (wd (X) 4), .int .u64 (wd (X) 5), .int .u64 (wd (X) 6), .int .u64 (wd (X) 7)] 65)).alloc (.cells #[.int .u64 0, .int .u64 0, .int .u64 0, .int .u64 0] 24)) b M N Q := ((hF).alloc _).alloc _
  have hbs := hF.lt
  clear hF
  go_enter Tryd.func69, Tryd.ntmps69
  go_wp2_with fail
  generalize ((w.alloc (.cells #[.int .u64 (wd (X) 0), .int .u64 (wd (X) 1), .int .u64 (wd (X) 2), .int .u64 (wd (X) 3), .int .u64 (wd (X) 4), .int .u64 (wd (X) 5), .int .u64 (wd (X) 6), .int .u64 (wd (X) 7)] 65)).alloc (.cells #[.int .u64 0, .int .u64 0, .int .u64 0, .int .u64 0] 24)) = w0 at *
  obtain ⟨a0, a1, a2, a3, a4, a5, a6, a7⟩ := row_c8 hA
  obtain ⟨s0, s1, s2, s3⟩ := hFr.sq
  obtain ⟨f0, f1, f2, f3⟩ := row_f4 hR
  obtain ⟨d0, d1, d2, d3⟩ := row_c4 hR
  go_region_with (first
    | (go_at_call 75; refine (kshr b (Z * Q) M N Q X P (sq_num hK HZ.out) (mul_ltm hZt HQ.out) (mul_lt8 hZt hQt) HP.out hK _ (by exact hFr)).mono ?_; rintro e w3 ⟨rfl, hb3⟩; replace hR := row_below (by exact hR) hb3 (by exact hR.lt); replace hFr := Fb.below (by exact hFr) hb3 (by exact hFr.lt); replace hbel := Below.trans (by first | exact hbel | exact hbel.drew) (hb3.mono (by exact hbel.size)); obtain ⟨f0, f1, f2, f3⟩ := row_f4 hR; obtain ⟨d0, d1, d2, d3⟩ := row_c4 hR)
    | (go_at_call 75; refine (shrunk_any b X M N Q HX.out hK _ (by exact hFr)).mono ?_; rintro e w1 ⟨⟨Z, hZt, hZ1, _, rfl⟩, hb1⟩; replace hR := row_below (by exact hR) hb1 (by exact hR.lt); replace hFr := Fb.below (by exact hFr) hb1 (by exact hFr.lt); replace hbel := Below.trans (by first | exact hbel | exact hbel.drew) (hb1.mono (by exact hbel.size)); have HZ := veil hZ1; clear hZ1; obtain ⟨s0, s1, s2, s3⟩ := hFr.sq)
    | (go_at_call 76; refine (kmul Z Q _ rfl hZt hQt _).mono ?_; rintro e w2 ⟨rfl, hb2⟩; replace hR := row_below (by exact hR) hb2 (by exact hR.lt); replace hFr := Fb.below (by exact hFr) hb2 (by exact hFr.lt); replace hbel := Below.trans (by first | exact hbel | exact hbel.drew) (hb2.mono (by exact hbel.size))))
  all_goals
    clear a0 a1 a2 a3 a4 a5 a6 a7 s0 s1 s2 s3 f0 f1 f2 f3 d0 d1 d2 d3
    go_wp2
    refine bodyPost_ret (results_cell_row rfl _ _ (w.heap.size + 1) 24 #[.int .u64 (wd (P) 0), .int .u64 (wd (P) 1), .int .u64 (wd (P) 2), .int .u64 (wd (P) 3)] (0, 0) _ rfl (blk4 (put4 hR fun j => .int .u64 (wd (P) j))) Tryd.underlying24 rfl (by kernel_rfl)) rfl ⟨rfl, below_put4 hbel (by omega) _ _ _ _⟩
end Go.Proofs.YthgenmoiendakaaDoor


/-
  (*field.Field)'s cut, Add, Sub, Mul: of any numbers.
-/
namespace Go.Proofs.YthgenmoiendakaaDoor
open Go.RowKit

set_option maxRecDepth 100000 in
theorem top_lt8 {X : Nat} (h : X < top) : X < top8 := by
  rw [top8_eq]; exact Nat.lt_of_lt_of_le h (Nat.le_mul_of_pos_right _ top_pos)
set_option maxRecDepth 100000 in
set_option maxHeartbeats 8000000 in
theorem fcut_less (b X M : Nat) (N : Int) (Q P : Nat) (hX : X < top) (hK : Fok M N Q) (hP : X % M = P) (hl : X < M) (w : World) (hF : Fb w b M N Q) :
    Calls Tryd.prog 56 #[.pointer (some ⟨b, 0, none⟩), .agg #[.int .u64 (wd (X) 0), .int .u64 (wd (X) 1), .int .u64 (wd (X) 2), .int .u64 (wd (X) 3)]] w fun e w' => e = .returned (.agg #[.int .u64 (wd (P) 0), .int .u64 (wd (P) 1), .int .u64 (wd (P) 2), .int .u64 (wd (P) 3)]) ∧ Below w.heap.size w w' := by
  obtain ⟨c, hc⟩ : ∃ c, c = cmpN X M := ⟨_, rfl⟩
  have hcn : c = -1 := by rw [hc]; unfold cmpN; rw [if_pos hl]
  have KC := veil (fun W => kcmp X M c hc.symm hX hK.mt W)
  rw [Nat.mod_eq_of_lt hl] at hP
  subst hP
  subst hcn
  clear hc hl hX
  have hA : ((w.alloc (.cells #[.int .u64 (wd (X) 0), .int .u64 (wd (X) 1), .int .u64 (wd (X) 2), .int .u64 (wd (X) 3)] 24)).alloc (.cells #[.int .u64 0, .int .u64 0, .int .u64 0, .int .u64 0] 24)).rowIs w.heap.size 24 4 (fun j => .int .u64 (wd X j)) := (row_new (n := 4) (by simp) rfl (arr4 fun j => .int .u64 (wd X j))).alloc _
  have hR : ((w.alloc (.cells #[.int .u64 (wd (X) 0), .int .u64 (wd (X) 1), .int .u64 (wd (X) 2), .int .u64 (wd (X) 3)] 24)).alloc (.cells #[.int .u64 0, .int .u64 0, .int .u64 0, .int .u64 0] 24)).rowIs (w.heap.size + 1) 24 4 (fun _ => .int .u64 0) := row_new (n := 4) (by simp) rfl (arr4 fun _ => .int .u64 0)
  have hbel : Below w.heap.size w ((w.alloc (.cells #[.int .u64 (wd (X) 0), .int .u64 (wd (X) 1), .int .u64 (wd (X) 2), .int .u64 (wd (X) 3)] 24)).alloc (.cells #[.int .u64 0, .int .u64 0, .int .u64 0, .int .u64 0] 24)) := ((Below.refl _ _).alloc (by simp) _).alloc (by simp) _
  have hFr : Fb ((w.alloc (.cells #[.int .u64 (wd (X) 0), .int .u64 (wd (X) 1), .int .u64 (wd (X) 2), .int .u64 (wd (X) 3)] 24)).alloc (.cells #[.int .u64 0, .int .u64 0, .int .u64 0, .int .u64 0] 24)) b M N Q := ((hF).alloc _).alloc _
  have hbs := hF.lt
  clear hF
  go_enter Tryd.func56, Tryd.ntmps56
  go_wp2_with fail
  generalize ((w.alloc (.cells #[.int .u64 (wd (X) 0), .int .u64 (wd (X) 1), .int .u64 (wd (X) 2), .int .u64 (wd (X) 3)] 24)).alloc (.cells #[.int .u64 0, .int .u64 0, .int .u64 0, .int .u64 0] 24)) = w0 at *
  obtain ⟨a0, a1, a2, a3⟩ := row_c4 hA
  obtain ⟨m0, m1, m2, m3⟩ := hFr.mod
  go_region_with (go_at_call 24; refine (KC.out _).mono ?_; rintro e w1 ⟨rfl, hb1⟩; replace hA := row_below (by exact hA) hb1 (by exact hA.lt); replace hR := row_below (by exact hR) hb1 (by exact hR.lt); replace hFr := Fb.below (by exact hFr) hb1 (by exact hFr.lt); replace hbel := Below.trans (by first | exact hbel | exact hbel.drew) (hb1.mono (by exact hbel.size)))
  all_goals
    clear a0 a1 a2 a3 m0 m1 m2 m3 hb1
    obtain ⟨a0, a1, a2, a3⟩ := row_c4 hA
    obtain ⟨f0, f1, f2, f3⟩ := row_f4 hR
    obtain ⟨d0, d1, d2, d3⟩ := row_c4 hR
    go_wp2
    refine bodyPost_ret (results_cell_row rfl _ _ (w.heap.size + 1) 24 #[.int .u64 (wd (X) 0), .int .u64 (wd (X) 1), .int .u64 (wd (X) 2), .int .u64 (wd (X) 3)] (0, 0) _ rfl (blk4 (put4 hR fun j => .int .u64 (wd (X) j))) Tryd.underlying24 rfl (by kernel_rfl)) rfl ⟨rfl, below_put4 hbel (by omega) _ _ _ _⟩

set_option maxRecDepth 100000 in
set_option maxHeartbeats 8000000 in
theorem fcut_more (b X M : Nat) (N : Int) (Q P : Nat) (hX : X < top) (hK : Fok M N Q) (hP : X % M = P) (hl : ¬ X < M) (w : World) (hF : Fb w b M N Q) :
    Calls Tryd.prog 56 #[.pointer (some ⟨b, 0, none⟩), .agg #[.int .u64 (wd (X) 0), .int .u64 (wd (X) 1), .int .u64 (wd (X) 2), .int .u64 (wd (X) 3)]] w fun e w' => e = .returned (.agg #[.int .u64 (wd (P) 0), .int .u64 (wd (P) 1), .int .u64 (wd (P) 2), .int .u64 (wd (P) 3)]) ∧ Below w.heap.size w w' := by
  obtain ⟨c, hc⟩ : ∃ c, c = cmpN X M := ⟨_, rfl⟩
  have hcn : 0 ≤ c := by rw [hc, cmp_ge]; exact hl
  have KC := veil (fun W => kcmp X M c hc.symm hX hK.mt W)
  have K1 := veil (fun W => wide_calls X hX W)
  have K2 := veil (fun W (h : Fb W b M N Q) => cutw_calls b X M N Q P (top_lt8 hX) hK hP W h)
  clear hc hl hX hP
  have hA : ((w.alloc (.cells #[.int .u64 (wd (X) 0), .int .u64 (wd (X) 1), .int .u64 (wd (X) 2), .int .u64 (wd (X) 3)] 24)).alloc (.cells #[.int .u64 0, .int .u64 0, .int .u64 0, .int .u64 0] 24)).rowIs w.heap.size 24 4 (fun j => .int .u64 (wd X j)) := (row_new (n := 4) (by simp) rfl (arr4 fun j => .int .u64 (wd X j))).alloc _
  have hR : ((w.alloc (.cells #[.int .u64 (wd (X) 0), .int .u64 (wd (X) 1), .int .u64 (wd (X) 2), .int .u64 (wd (X) 3)] 24)).alloc (.cells #[.int .u64 0, .int .u64 0, .int .u64 0, .int .u64 0] 24)).rowIs (w.heap.size + 1) 24 4 (fun _ => .int .u64 0) := row_new (n := 4) (by simp) rfl (arr4 fun _ => .int .u64 0)
  have hbel : Below w.heap.size w ((w.alloc (.cells #[.int .u64 (wd (X) 0), .int .u64 (wd (X) 1), .int .u64 (wd (X) 2), .int .u64 (wd (X) 3)] 24)).alloc (.cells #[.int .u64 0, .int .u64 0, .int .u64 0, .int .u64 0] 24)) := ((Below.refl _ _).alloc (by simp) _).alloc (by simp) _
  have hFr : Fb ((w.alloc (.cells #[.int .u64 (wd (X) 0), .int .u64 (wd (X) 1), .int .u64 (wd (X) 2), .int .u64 (wd (X) 3)] 24)).alloc (.cells #[.int .u64 0, .int .u64 0, .int .u64 0, .int .u64 0] 24)) b M N Q := ((hF).alloc _).alloc _
  have hbs := hF.lt
  clear hF
  go_enter Tryd.func56, Tryd.ntmps56
  go_wp2_with fail
  generalize ((w.alloc (.cells #[.int .u64 (wd (X) 0), .int .u64 (wd (X) 1), .int .u64 (wd (X) 2), .int .u64 (wd (X) 3)] 24)).alloc (.cells #[.int .u64 0, .int .u64 0, .int .u64 0, .int .u64 0] 24)) = w0 at *
  obtain ⟨a0, a1, a2, a3⟩ := row_c4 hA
  obtain ⟨m0, m1, m2, m3⟩ := hFr.mod
  go_region_with (go_at_call 24; refine (KC.out _).mono ?_; rintro e w1 ⟨rfl, hb1⟩; replace hA := row_below (by exact hA) hb1 (by exact hA.lt); replace hR := row_below (by exact hR) hb1 (by exact hR.lt); replace hFr := Fb.below (by exact hFr) hb1 (by exact hFr.lt); replace hbel := Below.trans (by first | exact hbel | exact hbel.drew) (hb1.mono (by exact hbel.size)))
  all_goals
    clear a0 a1 a2 a3 m0 m1 m2 m3 hb1
    obtain ⟨a0, a1, a2, a3⟩ := row_c4 hA
    go_wp2_with fail
    refine (K1.out _).mono ?_
    rintro e w2 ⟨rfl, hb2⟩
    replace hR := row_below (by exact hR) hb2 (by exact hR.lt)
    replace hFr := Fb.below (by exact hFr) hb2 (by exact hFr.lt)
    replace hbel := Below.trans (by first | exact hbel | exact hbel.drew) (hb2.mono (by exact hbel.size))
    clear a0 a1 a2 a3 hA hb2
    go_wp2_with fail
    refine (K2.out _ hFr).mono ?_
    rintro e w3 ⟨rfl, hb3⟩
    replace hR := row_below (by exact hR) hb3 (by exact hR.lt)
    replace hFr := Fb.below (by exact hFr) hb3 (by exact hFr.lt)
    replace hbel := Below.trans (by first | exact hbel | exact hbel.drew) (hb3.mono (by exact hbel.size))
    clear hb3 hFr
    obtain ⟨f0, f1, f2, f3⟩ := row_f4 hR
    obtain ⟨d0, d1, d2, d3⟩ := row_c4 hR
    go_wp2
    refine bodyPost_ret (results_cell_row rfl _ _ (w.heap.size + 1) 24 #[.int .u64 (wd (P) 0), .int .u64 (wd (P) 1), .int .u64 (wd (P) 2), .int .u64 (wd (P) 3)] (0, 0) _ rfl (blk4 (put4 hR fun j => .int .u64 (wd (P) j))) Tryd.underlying24 rfl (by kernel_rfl)) rfl ⟨rfl, below_put4 hbel (by omega) _ _ _ _⟩

set_option maxRecDepth 100000 in
theorem fcut_calls (b X M : Nat) (N : Int) (Q P : Nat) (hX : X < top) (hK : Fok M N Q) (hP : X % M = P) (w : World) (hF : Fb w b M N Q) :
    Calls Tryd.prog 56 #[.pointer (some ⟨b, 0, none⟩), .agg #[.int .u64 (wd (X) 0), .int .u64 (wd (X) 1), .int .u64 (wd (X) 2), .int .u64 (wd (X) 3)]] w fun e w' => e = .returned (.agg #[.int .u64 (wd (P) 0), .int .u64 (wd (P) 1), .int .u64 (wd (P) 2), .int .u64 (wd (P) 3)]) ∧ Below w.heap.size w w' := by
  by_cases h : X < M
  · exact fcut_less b X M N Q P hX hK hP h w hF
  · exact fcut_more b X M N Q P hX hK hP h w hF

end Go.Proofs.YthgenmoiendakaaDoor


/-
  (*field.Field).Add: of any two numbers.
-/
namespace Go.Proofs.YthgenmoiendakaaDoor
open Go.RowKit

set_option maxRecDepth 100000 in
set_option maxHeartbeats 8000000 in
theorem fadd2_calls (b X Y M : Nat) (N : Int) (Q Z : Nat) (hX : X < top) (hY : Y < top) (hK : Fok M N Q) (hZ : (X % M + Y % M) % M = Z) (w : World) (hF : Fb w b M N Q) :
    Calls Tryd.prog 41 #[.pointer (some ⟨b, 0, none⟩), .agg #[.int .u64 (wd (X) 0), .int .u64 (wd (X) 1), .int .u64 (wd (X) 2), .int .u64 (wd (X) 3)], .agg #[.int .u64 (wd (Y) 0), .int .u64 (wd (Y) 1), .int .u64 (wd (Y) 2), .int .u64 (wd (Y) 3)]] w fun e w' => e = .returned (.agg #[.int .u64 (wd (Z) 0), .int .u64 (wd (Z) 1), .int .u64 (wd (Z) 2), .int .u64 (wd (Z) 3)]) ∧ Below w.heap.size w w' := by
  have hM0 : 0 < M := by have := hK.m2; omega
  have hX2 := Nat.mod_lt X hM0
  have hY2 := Nat.mod_lt Y hM0
  have K3 := veil (fun W (h : Fb W b M N Q) => fadd_calls b (X % M) (Y % M) M N Q Z hX2 hY2 hK.mt hZ W h)
  have HK := veil hK
  clear hK hZ hM0 hX2 hY2
  have hA : (((w.alloc (.cells #[.int .u64 (wd (X) 0), .int .u64 (wd (X) 1), .int .u64 (wd (X) 2), .int .u64 (wd (X) 3)] 24)).alloc (.cells #[.int .u64 (wd (Y) 0), .int .u64 (wd (Y) 1), .int .u64 (wd (Y) 2), .int .u64 (wd (Y) 3)] 24)).alloc (.cells #[.int .u64 0, .int .u64 0, .int .u64 0, .int .u64 0] 24)).rowIs w.heap.size 24 4 (fun j => .int .u64 (wd X j)) := ((row_new (n := 4) (by simp) rfl (arr4 fun j => .int .u64 (wd X j))).alloc _).alloc _
  have hB : (((w.alloc (.cells #[.int .u64 (wd (X) 0), .int .u64 (wd (X) 1), .int .u64 (wd (X) 2), .int .u64 (wd (X) 3)] 24)).alloc (.cells #[.int .u64 (wd (Y) 0), .int .u64 (wd (Y) 1), .int .u64 (wd (Y) 2), .int .u64 (wd (Y) 3)] 24)).alloc (.cells #[.int .u64 0, .int .u64 0, .int .u64 0, .int .u64 0] 24)).rowIs (w.heap.size + 1) 24 4 (fun j => .int .u64 (wd Y j)) := (row_new (n := 4) (by simp) rfl (arr4 fun j => .int .u64 (wd Y j))).alloc _
  have hR : (((w.alloc (.cells #[.int .u64 (wd (X) 0), .int .u64 (wd (X) 1), .int .u64 (wd (X) 2), .int .u64 (wd (X) 3)] 24)).alloc (.cells #[.int .u64 (wd (Y) 0), .int .u64 (wd (Y) 1), .int .u64 (wd (Y) 2), .int .u64 (wd (Y) 3)] 24)).alloc (.cells #[.int .u64 0, .int .u64 0, .int .u64 0, .int .u64 0] 24)).rowIs (w.heap.size + 1 + 1) 24 4 (fun _ => .int .u64 0) := row_new (n := 4) (by simp) rfl (arr4 fun _ => .int .u64 0)
  have hbel : Below w.heap.size w (((w.alloc (.cells #[.int .u64 (wd (X) 0), .int .u64 (wd (X) 1), .int .u64 (wd (X) 2), .int .u64 (wd (X) 3)] 24)).alloc (.cells #[.int .u64 (wd (Y) 0), .int .u64 (wd (Y) 1), .int .u64 (wd (Y) 2), .int .u64 (wd (Y) 3)] 24)).alloc (.cells #[.int .u64 0, .int .u64 0, .int .u64 0, .int .u64 0] 24)) := (((Below.refl _ _).alloc (by simp) _).alloc (by simp) _).alloc (by simp; omega) _
  have hFr : Fb (((w.alloc (.cells #[.int .u64 (wd (X) 0), .int .u64 (wd (X) 1), .int .u64 (wd (X) 2), .int .u64 (wd (X) 3)] 24)).alloc (.cells #[.int .u64 (wd (Y) 0), .int .u64 (wd (Y) 1), .int .u64 (wd (Y) 2), .int .u64 (wd (Y) 3)] 24)).alloc (.cells #[.int .u64 0, .int .u64 0, .int .u64 0, .int .u64 0] 24)) b M N Q := (((hF).alloc _).alloc _).alloc _
  have hbs := hF.lt
  clear hF
  go_enter Tryd.func41, Tryd.ntmps41
  go_wp2_with fail
  generalize (((w.alloc (.cells #[.int .u64 (wd (X) 0), .int .u64 (wd (X) 1), .int .u64 (wd (X) 2), .int .u64 (wd (X) 3)] 24)).alloc (.cells #[.int .u64 (wd (Y) 0), .int .u64 (wd (Y) 1), .int .u64 (wd (Y) 2), .int .u64 (wd (Y) 3)] 24)).alloc (.cells #[.int .u64 0, .int .u64 0, .int .u64 0, .int .u64 0] 24)) = w0 at *
  obtain ⟨a0, a1, a2, a3⟩ := row_c4 hA
  obtain ⟨b0, b1, b2, b3⟩ := row_c4 hB
  obtain ⟨f0, f1, f2, f3⟩ := row_f4 hR
  obtain ⟨d0, d1, d2, d3⟩ := row_c4 hR
  go_region_with (first
    | (go_at_call 56; refine (fcut_calls b _ M N Q _ (by assumption) HK.out rfl _ (by exact hFr)).mono ?_; rintro e w1 ⟨rfl, hb1⟩; replace hB := row_below (by exact hB) hb1 (by exact hB.lt); replace hA := row_below (by exact hA) hb1 (by exact hA.lt); replace hR := row_below (by exact hR) hb1 (by exact hR.lt); replace hFr := Fb.below (by exact hFr) hb1 (by exact hFr.lt); replace hbel := Below.trans (by first | exact hbel | exact hbel.drew) (hb1.mono (by exact hbel.size)); obtain ⟨b0, b1, b2, b3⟩ := row_c4 hB; obtain ⟨a0, a1, a2, a3⟩ := row_c4 hA)
    | (go_at_call 55; refine (K3.out _ (by exact hFr)).mono ?_; rintro e w3 ⟨rfl, hb3⟩; replace hR := row_below (by exact hR) hb3 (by exact hR.lt); replace hFr := Fb.below (by exact hFr) hb3 (by exact hFr.lt); replace hbel := Below.trans (by first | exact hbel | exact hbel.drew) (hb3.mono (by exact hbel.size)); obtain ⟨f0, f1, f2, f3⟩ := row_f4 hR; obtain ⟨d0, d1, d2, d3⟩ := row_c4 hR))
  all_goals
    clear a0 a1 a2 a3 b0 b1 b2 b3 f0 f1 f2 f3 d0 d1 d2 d3
    go_wp2
    refine bodyPost_ret (results_cell_row rfl _ _ (w.heap.size + 1 + 1) 24 #[.int .u64 (wd (Z) 0), .int .u64 (wd (Z) 1), .int .u64 (wd (Z) 2), .int .u64 (wd (Z) 3)] (0, 0) _ rfl (blk4 (put4 hR fun j => .int .u64 (wd (Z) j))) Tryd.underlying24 rfl (by kernel_rfl)) rfl ⟨rfl, below_put4 hbel (by omega) _ _ _ _⟩

end Go.Proofs.YthgenmoiendakaaDoor
