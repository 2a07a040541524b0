/-
  clapperref01.Mul: the document's product.
-/
import Derived.Test.YtlkpbjfkncmcgaaCmp
import Derived.Test.YtlkpbjfkncmcgaaMulMath
namespace Go.Proofs.Ytlkpbjfkncmcgaa
open Go.RowKit

/-- Part m of the product, behind i rows and j columns. -/
def up_ (X Y i j m : Nat) : Int := (UU w16 X Y i j m : Nat)
def cp_ (X Y i j : Nat) : Int := (CC w16 X Y i j : Nat)
def rp_ (X Y i m : Nat) : Int := (dg w16 (PP w16 X Y i) m : Nat)
theorem up_bd (X Y i j m : Nat) : 0 ≤ up_ X Y i j m ∧ up_ X Y i j m ≤ 65535 := by
  have := UU_lt w16_pos X Y i j m
  unfold up_; unfold w16 at *; omega
theorem cp_bd (X Y i j : Nat) : 0 ≤ cp_ X Y i j ∧ cp_ X Y i j ≤ 65535 := by
  have := CC_lt w16_pos X Y i j
  unfold cp_; unfold w16 at *; omega
theorem up_step (X Y i j : Nat) : (up_ X Y i j (i + j) + pt X i * pt Y j + cp_ X Y i j) % 65536 = up_ X Y i (j + 1) (i + j) := by
  unfold pt up_ cp_
  rw [UU_step w16_pos X Y i j, ← Int.natCast_mul, ← Int.natCast_add, ← Int.natCast_add, Nat.add_comm (UU w16 X Y i j (i + j)), Int.natCast_emod]
  rfl
theorem cp_step (X Y i j : Nat) : (up_ X Y i j (i + j) + pt X i * pt Y j + cp_ X Y i j) / 65536 = cp_ X Y i (j + 1) := by
  unfold pt up_ cp_
  rw [CC_step w16_pos X Y i j, ← Int.natCast_mul, ← Int.natCast_add, ← Int.natCast_add, Nat.add_comm (UU w16 X Y i j (i + j)), Int.natCast_ediv]
  rfl
theorem pp_bd (X Y i j : Nat) : 0 ≤ pt X i * pt Y j ∧ pt X i * pt Y j ≤ 4294836225 := by
  have h1 := pt_lo X i
  have h2 := pt_lo Y j
  have h3 : pt X i ≤ 65535 := by have := pt_lt X i; omega
  have h4 : pt Y j ≤ 65535 := by have := pt_lt Y j; omega
  refine ⟨Int.mul_nonneg h1 h2, ?_⟩
  have := Int.mul_le_mul h3 h4 h2 (by omega : (0 : Int) ≤ 65535)
  omega
theorem rmul_put {X Y i j : Nat} : ∀ m, m < 32 → (if m = i + j then Value.int .i64 (up_ X Y i (j + 1) (i + j)) else Value.int .i64 (up_ X Y i j m)) = Value.int .i64 (up_ X Y i (j + 1) m) := by
  intro m _
  by_cases h : m = i + j
  · rw [if_pos h, h]
  · rw [if_neg h]; unfold up_; rw [UU_other X Y i j m h]
theorem up_start (X Y i m : Nat) : up_ X Y i 0 m = rp_ X Y i m := by unfold up_ rp_; rw [UU_start]
theorem cp_start (X Y i : Nat) : cp_ X Y i 0 = 0 := by unfold cp_; rw [CC_start w16_pos]; rfl
theorem rmul_row {X Y i : Nat} (hY : Y < top) : ∀ m, m < 32 → (if m = i + 16 then Value.int .i64 (cp_ X Y i 16) else Value.int .i64 (up_ X Y i 16 m)) = Value.int .i64 (rp_ X Y (i + 1) m) := by
  intro m _
  rw [top_w16] at hY
  have h := PP_row w16_pos X Y i 16 m hY
  unfold rp_
  rw [h]
  by_cases e : m = i + 16
  · rw [if_pos e, if_pos e]; rfl
  · rw [if_neg e, if_neg e]; rfl
theorem rp_zero (X Y m : Nat) : rp_ X Y 0 m = 0 := by unfold rp_; rw [PP_zero, dg_zero]; rfl
theorem rp_end {X Y m : Nat} (hX : X < top) : rp_ X Y 16 m = pt (X * Y) m := by rw [top_w16] at hX; unfold rp_ pt; rw [PP_end X Y 16 hX]

theorem row_made2 {w : World} {z : Value} {n b t : Nat} (hb : b = w.heap.size) : (w.alloc (.cells (madeCells #[z] n) t)).rowIs b t n (fun _ => z) := by
  subst hb
  exact World.rowIs_made w z n t

set_option maxRecDepth 100000 in
set_option maxHeartbeats 2000000 in
theorem rmul_calls (X Y : Nat) (hX : X < top) (hY : Y < top) (w : World) :
    Calls Try.prog 18 #[.agg #[.int .u64 (wd (X) 0), .int .u64 (wd (X) 1), .int .u64 (wd (X) 2), .int .u64 (wd (X) 3)], .agg #[.int .u64 (wd (Y) 0), .int .u64 (wd (Y) 1), .int .u64 (wd (Y) 2), .int .u64 (wd (Y) 3)]] w fun e w' => e = .returned (.agg #[.int .u64 (wd (X * Y) 0), .int .u64 (wd (X * Y) 1), .int .u64 (wd (X * Y) 2), .int .u64 (wd (X * Y) 3), .int .u64 (wd (X * Y) 4), .int .u64 (wd (X * Y) 5), .int .u64 (wd (X * Y) 6), .int .u64 (wd (X * Y) 7)]) ∧ Below w.heap.size w w' := by
  obtain ⟨i0, hi, hz0, hz1, hz2⟩ := info_parts infoInt
  have hmk : ∀ W : World, (Instr.makeSlice 47 (.int .i64 32) (.int .i64 32)).run Try.prog W = .ok (.slice (some ⟨W.heap.size, 0, none⟩) 32 32) (W.alloc (.cells (madeCells #[.int .i64 0] 32) 3)) :=
    fun W => run_make_row 47 3 i0 (.int .i64 0) Try.underlying47 hi hz0 hz1 rfl .i64 .i64 32 (by rw [hz2]; omega) (by omega) W
  have hRB : (((w.alloc (.cells #[.int .u64 (wd (X) 0), .int .u64 (wd (X) 1), .int .u64 (wd (X) 2), .int .u64 (wd (X) 3)] 24)).alloc (.cells #[.int .u64 (wd (Y) 0), .int .u64 (wd (Y) 1), .int .u64 (wd (Y) 2), .int .u64 (wd (Y) 3)] 24)).alloc (.cells #[.int .u64 0, .int .u64 0, .int .u64 0, .int .u64 0, .int .u64 0, .int .u64 0, .int .u64 0, .int .u64 0] 31)).rowIs (w.heap.size + 1) 24 4 (fun j => .int .u64 (wd Y j)) := (row_new (n := 4) (by simp) rfl (arr4 fun j => .int .u64 (wd Y j))).alloc _
  have hRZ : (((w.alloc (.cells #[.int .u64 (wd (X) 0), .int .u64 (wd (X) 1), .int .u64 (wd (X) 2), .int .u64 (wd (X) 3)] 24)).alloc (.cells #[.int .u64 (wd (Y) 0), .int .u64 (wd (Y) 1), .int .u64 (wd (Y) 2), .int .u64 (wd (Y) 3)] 24)).alloc (.cells #[.int .u64 0, .int .u64 0, .int .u64 0, .int .u64 0, .int .u64 0, .int .u64 0, .int .u64 0, .int .u64 0] 31)).rowIs (w.heap.size + 1 + 1) 31 8 (fun _ => .int .u64 0) := row_new (n := 8) (by simp) rfl (arr8 fun _ => .int .u64 0)
  have hB0 : Below w.heap.size w (((w.alloc (.cells #[.int .u64 (wd (X) 0), .int .u64 (wd (X) 1), .int .u64 (wd (X) 2), .int .u64 (wd (X) 3)] 24)).alloc (.cells #[.int .u64 (wd (Y) 0), .int .u64 (wd (Y) 1), .int .u64 (wd (Y) 2), .int .u64 (wd (Y) 3)] 24)).alloc (.cells #[.int .u64 0, .int .u64 0, .int .u64 0, .int .u64 0, .int .u64 0, .int .u64 0, .int .u64 0, .int .u64 0] 31)) := (((Below.refl _ _).alloc (by simp) _).alloc (by simp) _).alloc (by simp; omega) _
  go_enter Try.func18, Try.ntmps18
  go_wp2_with fail
  refine (parts_calls X _).mono ?_
  rintro e w1 ⟨g1, cap1, rfl, hg1, hp1a, hb1⟩
  simp only [World.size_alloc] at hg1
  have hRB1 := row_below hRB hb1 (by simp)
  have hRZ1 := row_below hRZ hb1 (by simp)
  have hB1 := hB0.trans (hb1.mono (by simp; omega))
  clear hRB hRZ hB0 hb1
  obtain ⟨c0, c1, c2, c3⟩ := row_c4 hRB1
  go_wp2_with fail
  refine (parts_calls Y _).mono ?_
  rintro e w2 ⟨g2, cap2, rfl, hg2, hp2b, hb2⟩
  have hp1b := hp1a.below hb2 hp1a.lt
  have hRZ2 := row_below hRZ1 hb2 hRZ1.lt
  have hB2 := hB1.trans (hb2.mono hB1.size)
  have hl1 := hp1b.lt
  have hl2 := hp2b.lt
  have hl3 := hRZ2.lt
  have hg12 : w.heap.size + 1 + 1 < g2 := Nat.lt_of_lt_of_le hRZ1.lt hg2
  clear hRB1 hRZ1 hB1 hb2 c0 c1 c2 c3 hp1a hg2
  have hO3 := row_made2 (w := w2) (z := .int .i64 0) (n := 32) (t := 3) rfl
  have hp1c := hp1b.alloc (.cells (madeCells #[.int .i64 0] 32) 3)
  have hp2c := hp2b.alloc (.cells (madeCells #[.int .i64 0] 32) 3)
  have hRZ3 := hRZ2.alloc (.cells (madeCells #[.int .i64 0] 32) 3)
  have hB3 := hB2.alloc hB2.size (.cells (madeCells #[.int .i64 0] 32) 3)
  have hsz := hB2.size
  clear hp1b hp2b hRZ2 hB2
  go_wp2
  go_loopw [8] (fun i wr => ∃ k : Nat, k ≤ 16 ∧ i = .int .i64 k ∧ Pre wr g1 3 16 (ptv X) ∧ Pre wr g2 3 16 (ptv Y)
      ∧ wr.rowIs (w.heap.size + 1 + 1) 31 8 (fun _ => .int .u64 0) ∧ wr.rowIs w2.heap.size 3 32 (fun m => .int .i64 (rp_ X Y k m)) ∧ Below w.heap.size w wr)
    (fun i _ => 16 - (intOf i).toNat)
  case atStart => exact ⟨0, by omega, rfl, hp1c, hp2c, hRZ3, hO3.congr (fun m _ => by rw [rp_zero]), hB3⟩
  case round =>
    clear hp1c hp2c hRZ3 hO3 hB3
    obtain ⟨i, hi4, rfl, hp10, hp20, hRZ0, hP0, hbel0⟩ := hrel
    by_cases hlt : i < 16
    · have hd : decide ((i : Int) < 16) = true := by simp; omega
      go_wp2
      obtain ⟨wo, hwo⟩ : ∃ wo : World, wo = wr := ⟨_, rfl⟩
      rw [← hwo] at hp10 hp20 hRZ0 hP0 hbel0 ⊢
      clear hwo
      go_loopw [9, 10] (fun c q wq => ∃ j : Nat, j ≤ 16 ∧ q = .int .i64 j ∧ c = .int .i64 (cp_ X Y i j) ∧ Pre wq g1 3 16 (ptv X) ∧ Pre wq g2 3 16 (ptv Y)
          ∧ wq.rowIs (w.heap.size + 1 + 1) 31 8 (fun _ => .int .u64 0) ∧ wq.rowIs w2.heap.size 3 32 (fun m => .int .i64 (up_ X Y i j m)) ∧ Below w.heap.size w wq)
        (fun _ q _ => 16 - (intOf q).toNat)
      case atStart => exact ⟨0, by omega, rfl, by rw [cp_start], hp10, hp20, hRZ0, hP0.congr (fun m _ => by rw [up_start]), hbel0⟩
      case round =>
        clear hp10 hp20 hRZ0 hP0 hbel0
        obtain ⟨j, hj4, rfl, rfl, hp1, hp2, hRZ, hP, hbel⟩ := hrel
        by_cases hlj : j < 16
        · go_wp2
          have c1 := hp1.cell hlt
          have c2 := hp2.cell hlj
          simp only [ptv] at c1 c2
          obtain ⟨t, ht⟩ : ∃ t, t = i + j := ⟨_, rfl⟩
          have hti : (i : Int) + (j : Int) = (t : Int) := by omega
          have ht8 : (t : Int) < 32 := by omega
          have ht0 : (0 : Int) ≤ (t : Int) := by omega
          have htw : IntKind.i64.wrap (t : Int) = (t : Int) := IntWalk.i64_in _ (by omega)
          have c3 := hP.cell (i := t) (by omega)
          have f3 := hP.frozen t
          obtain ⟨b1, b2⟩ := up_bd X Y i j t
          obtain ⟨b3, b4⟩ := cp_bd X Y i j
          obtain ⟨b5, b6⟩ := pp_bd X Y i j
          have e1 := up_step X Y i j
          have e2 := cp_step X Y i j
          rw [← ht] at e1 e2
          have E := veil (And.intro e1 e2)
          have HT := veil ht
          clear e1 e2 ht
          go_region
          all_goals
            go_wp2
            go_roundw
            case rel =>
              rw [E.out.1, E.out.2]
              exact ⟨j + 1, by omega, by go_num, rfl, (hp1.far (by omega) _).drew, (hp2.far (by omega) _).drew, (row_far hRZ (by omega) _).drew, ((hP.set t _).congr (by rw [HT.out]; exact rmul_put)).drew, (below_set hbel (by omega) _).drew⟩
            case measure => simp [intOf]; omega
        · obtain rfl : j = 16 := by omega
          obtain ⟨t, ht⟩ : ∃ t, t = i + 16 := ⟨_, rfl⟩
          have hti : (i : Int) + 16 = (t : Int) := by omega
          have ht8 : (t : Int) < 32 := by omega
          have ht0 : (0 : Int) ≤ (t : Int) := by omega
          have c3 := hP.cell (i := t) (by omega)
          have f3 := hP.frozen t
          have HT := veil ht
          clear ht
          go_wp2
          go_roundw
          case rel => exact ⟨i + 1, by omega, by go_num, hp1.far (by omega) _, hp2.far (by omega) _, row_far hRZ (by omega) _, (hP.set t _).congr (by rw [HT.out]; exact rmul_row hY), below_set hbel (by omega) _⟩
          case measure => simp [intOf]; omega
    · obtain rfl : i = 16 := by omega
      go_wp2_with fail
      refine (wide_calls (X * Y) w2.heap.size 32 _ ((Pre.of_row hP0).congr fun m _ => by rw [rp_end hX]; rfl)).mono ?_
      rintro e w3 ⟨rfl, hb3⟩
      have hRZ3 := row_below hRZ0 hb3 hRZ0.lt
      have hB3 := hbel0.trans (hb3.mono hbel0.size)
      obtain ⟨d0, d1, d2, d3, d4, d5, d6, d7⟩ := row_c8 hRZ3
      obtain ⟨f0, f1, f2, f3, f4, f5, f6, f7⟩ := row_f8 hRZ3
      clear hp10 hp20 hRZ0 hP0 hbel0 hb3
      go_wp2
      refine bodyPost_ret (results_cell_row rfl _ _ (w.heap.size + 1 + 1) 31 #[.int .u64 (wd (X * Y) 0), .int .u64 (wd (X * Y) 1), .int .u64 (wd (X * Y) 2), .int .u64 (wd (X * Y) 3), .int .u64 (wd (X * Y) 4), .int .u64 (wd (X * Y) 5), .int .u64 (wd (X * Y) 6), .int .u64 (wd (X * Y) 7)] (0, 0) _ rfl (blk8 (put8 hRZ3 fun j => .int .u64 (wd (X * Y) j))) Try.underlying31 rfl (by kernel_rfl)) rfl ⟨rfl, below_put8 hB3 (by omega) _ _ _ _ _ _ _ _⟩
end Go.Proofs.Ytlkpbjfkncmcgaa
