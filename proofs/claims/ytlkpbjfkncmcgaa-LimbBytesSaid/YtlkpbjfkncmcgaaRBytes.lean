/-
  clapperref01.Bytes: the document's bytes of a number.
-/
import Derived.Test.YtlkpbjfkncmcgaaBytes
import Derived.Deep.AppendLies
import Derived.Deep.RegionHeld3
namespace Go.Proofs.Ytlkpbjfkncmcgaa
open Go.RowKit

theorem part_bytes (X m : Nat) : pt X m / 256 = byv X (2 * m + 1) ∧ pt X m % 256 = byv X (2 * m) := by
  have h0 := dg_byte X 2 m 0 (by omega)
  have h1 := dg_byte X 2 m 1 (by omega)
  rw [← w16_bytes] at h0 h1
  have hl := dg_lt w16_pos X m
  unfold pt byv
  rw [← h1, ← show dg w16 X m / 256 ^ 0 % 256 = dg 256 X (2 * m) from h0]
  generalize dg w16 X m = D at *
  unfold w16 at hl
  simp only [Nat.pow_zero, Nat.pow_one, Nat.div_one]
  omega
theorem heap_alloc_drew (w : World) (o : Obj) : (w.alloc o).drew.heap[w.heap.size]? = some o := heap_alloc_new w o
def bsv (X j : Nat) : Value := .int .u8 (byv X (31 - j))
theorem bsL_step (X m : Nat) (hm : m < 16) : (List.range (32 - 2 * (m + 1))).map (bsv X) ++ [.int .u8 (byv X (2 * m + 1)), .int .u8 (byv X (2 * m))] = (List.range (32 - 2 * m)).map (bsv X) := by
  rw [show 32 - 2 * m = (32 - 2 * (m + 1)) + 1 + 1 by omega, List.range_succ, List.range_succ, List.map_append, List.map_append, List.append_assoc]
  simp only [List.map_cons, List.map_nil, bsv, List.cons_append, List.nil_append]
  rw [show 31 - (32 - 2 * (m + 1)) = 2 * m + 1 by omega, show 31 - (32 - 2 * (m + 1) + 1) = 2 * m by omega]

theorem conv_hi (z : Int) (h0 : 0 ≤ z) (h1 : z ≤ 65535) : IntKind.u8.wrap (IntKind.i64.wrap (z.tdiv 256)) = z / 256 := by
  have e : z.tdiv 256 = z / 256 := Int.tdiv_eq_ediv_of_nonneg h0
  have h2 : 0 ≤ z / 256 := by omega
  have h3 : z / 256 ≤ 255 := by omega
  rw [e]
  generalize z / 256 = q at *
  rw [IntWalk.i64_in q ⟨by omega, by omega⟩, IntKind.wrap_u8]
  exact Int.emod_eq_of_lt h2 (by omega)
theorem conv_lo (z : Int) (h0 : 0 ≤ z) : IntKind.u8.wrap (z.tmod 256) = z % 256 := by
  have e : z.tmod 256 = z % 256 := Int.tmod_eq_emod_of_nonneg h0
  rw [e, IntKind.wrap_u8]
  exact Int.emod_emod_of_dvd z (Int.dvd_refl 256)
theorem none_yet (X : Nat) (W : World) (base : Nat) : W.ownsRow base 5 1 (.slice none 0 0) (32 - 2 * 16) ((List.range (32 - 2 * 16)).map (bsv X)) := by
  simp only [show 32 - 2 * 16 = 0 from by omega, List.range_zero, List.map_nil]
  exact World.ownsRow_nil _ _ _ _

set_option maxRecDepth 100000 in
set_option maxHeartbeats 2000000 in
theorem rbytes_calls (X : Nat) (w : World) :
    Calls Try.prog 27 #[.agg #[.int .u64 (wd (X) 0), .int .u64 (wd (X) 1), .int .u64 (wd (X) 2), .int .u64 (wd (X) 3)]] w fun e w' => ∃ g cap, e = .returned (.slice (some ⟨g, 0, none⟩) 32 cap) ∧ 32 ≤ cap ∧ w.heap.size ≤ g ∧ Pre w' g 5 32 (bsv X) ∧ Below w.heap.size w w' := by
  obtain ⟨i0, hi, hz0, hz1, hz2⟩ := info_parts infoByte
  have hB0 : Below w.heap.size w (w.alloc (.cells #[.int .u64 (wd (X) 0), .int .u64 (wd (X) 1), .int .u64 (wd (X) 2), .int .u64 (wd (X) 3)] 24)) := (Below.refl _ _).alloc (by simp) _
  go_enter Try.func27, Try.ntmps27
  go_wp2_with fail
  refine (parts_calls X _).mono ?_
  rintro e w1 ⟨g1, cap1, rfl, hg1, hp1, hb1⟩
  have hB1 := hB0.trans (hb1.mono (by simp))
  have hl1 := hp1.lt
  have hsz := hB1.size
  clear hB0 hb1 hg1
  go_wp2
  go_loopw [4, 5] (fun v i wr => ∃ k : Nat, k ≤ 16 ∧ i = .int .i64 ((k : Int) - 1) ∧ wr.ownsRow w1.heap.size 5 1 v (32 - 2 * k) ((List.range (32 - 2 * k)).map (bsv X)) ∧ Pre wr g1 3 16 (ptv X) ∧ Below w.heap.size w wr ∧ w1.heap.size ≤ wr.heap.size)
    (fun _ i _ => (intOf i + 1).toNat)
  case atStart => exact ⟨16, by omega, rfl, none_yet X w1 _, hp1, hB1, Nat.le_refl _⟩
  case round =>
    clear hp1 hB1
    obtain ⟨k, hk, hii, hown, hp, hbel, hsz2⟩ := hrel
    cases k with
    | zero =>
      subst hii
      go_wp2
      go_ret
      obtain ⟨g, cap, rfl, hc, hg, hpp⟩ := Pre.of_own (m := 32) hown (by omega)
      exact ⟨g, cap, rfl, hc, by omega, hpp, hbel⟩
    | succ m =>
      obtain rfl : _ = Value.int .i64 (m : Int) := hii.trans (by congr 1; omega)
      have hm : m < 16 := by omega
      have c1 := hp.cell hm
      simp only [ptv] at c1
      clear hii
      go_wp2
      have hm0 : (0 : Int) ≤ (m : Int) := by omega
      have hm1 : (m : Int) < 16 := by omega
      have l1 := pt_lo X m
      have u1 : pt X m ≤ 65535 := by have := pt_lt X m; omega
      obtain ⟨q1, q2⟩ := part_bytes X m
      have E1 : IntKind.u8.wrap (IntKind.i64.wrap ((pt X m).tdiv 256)) = byv X (2 * m + 1) := (conv_hi _ l1 u1).trans q1
      have E2 : IntKind.u8.wrap ((pt X m).tmod 256) = byv X (2 * m) := (conv_lo _ l1).trans q2
      clear q1 q2
      as_aux_lemma =>
      go_region_held3 (fun w' => w'.cell? ⟨g1, m, none⟩ = some (.int .i64 (pt X m)))
        (first
          | go_keep
          | exact (hgrow.cell_far ⟨g1, m, none⟩ ((hp.alloc _).drew).lt (fun e => by have h2 : w1.heap.size ≤ g1 := (hown.lt g1 e.symm).1; omega)).trans (((hp.alloc _).drew).cell hm))
        ((refine step_append_lies _ (by rfl) _ _ _ (by rfl) w1.heap.size 5 i0 _ 1 1 Try.underlying36 hi hz0 hz1 hz2 rfl (by omega) _ _ _ (by rfl) ((hown.alloc _).drew)
            ⟨wr.heap.size, 0, none⟩ 2 2 [.int .u8 (byv X (2 * m + 1)), .int .u8 (byv X (2 * m))] (by rfl) (by rfl) (World.news_of_block (cs := #[.int .u8 (byv X (2 * m + 1)), .int .u8 (byv X (2 * m))]) (t := 5) (fr := (0, 0)) (heap_alloc_drew wr _)) (by simp [Value.oneCell'])
            (by omega) (by unfold maxLen; omega) (by omega) (by simp; omega) (wr.heap.size + 1) (by simp) ?_; intro gg cap w4 hown1 hgrow hat hlt))
      all_goals
        go_wp2
        go_roundw
        have hsz5 : w1.heap.size ≤ w4.heap.size := by
          have h6 := hgrow.size
          have h5 : wr.heap.size ≤ (wr.alloc (.cells #[.int .u8 (byv X (2 * m + 1)), .int .u8 (byv X (2 * m))] 5)).drew.heap.size := by
            show wr.heap.size ≤ (wr.alloc _).heap.size
            simp
          omega
        case rel => exact ⟨m, by omega, rfl, by rw [bsL_step X m hm, show 32 - 2 * (m + 1) + 2 = 32 - 2 * m by omega] at hown1; rw [show 32 - 2 * (m + 1) + 2 = 32 - 2 * m by omega]; exact hown1, (hp.alloc _).drew.of_block (hgrow.block g1 ((hp.alloc _).drew).lt (fun e => by have h2 : w1.heap.size ≤ g1 := (hown.lt g1 e.symm).1; omega)), ((hbel.alloc (by omega) _).drew).grown hgrow (by show w.heap.size ≤ (wr.alloc _).heap.size; simp; omega) (fun k e => by have := (hown.lt _ e).1; omega), hsz5⟩
        case measure => simp [intOf]
end Go.Proofs.Ytlkpbjfkncmcgaa
