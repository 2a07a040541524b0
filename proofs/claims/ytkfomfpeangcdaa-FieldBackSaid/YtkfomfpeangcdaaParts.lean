/-
  clapperref01.Parts: the parts of a number, 16 bits each.
-/
import Derived.Test.YtkfomfpeangcdaaRows
import Derived.Test.YtkfomfpeangcdaaMem
import Derived.WalkKit
import Derived.WalkSpells
import Derived.WalkLawsBesides
namespace Go.Proofs.Ytkfomfpeangcdaa
open Go.RowKit

theorem infoInt : (Try.prog.info? 3).map (fun i => (i.zero, i.size, i.bytes)) = some (some (.int .i64 0), 1, 8) := by kernel_rfl

def ptv (X j : Nat) : Value := .int .i64 (pt X j)
theorem ptL_succ (X m : Nat) : (List.range (m + 1)).map (ptv X) = (List.range m).map (ptv X) ++ [.int .i64 (pt X m)] := by
  rw [List.range_succ, List.map_append]; rfl

set_option maxHeartbeats 1000000 in
theorem parts_any (X : Nat) (w : World) :
    Calls Try.prog 52 #[.agg #[.int .u64 (wd (X) 0), .int .u64 (wd (X) 1), .int .u64 (wd (X) 2), .int .u64 (wd (X) 3)]] w fun e w' => ∃ v, e = .returned v ∧ w'.ownsRow (w.heap.size + 1) 3 1 v 16 ((List.range 16).map (ptv X)) ∧ Below w.heap.size w w' := by
  obtain ⟨i0, hi, hz0, hz1, hz2⟩ := info_parts infoInt
  go_enter Try.func52, Try.ntmps52
  go_wp2
  go_loopw [3, 4] (fun v i wr => ∃ k : Nat, k ≤ 4 ∧ i = .int .i64 k ∧ wr.ownsRow (w.heap.size + 1) 3 1 v (4 * k) ((List.range (4 * k)).map (ptv X)) ∧ wr.rowIs w.heap.size 24 4 (fun j => .int .u64 (wd X j)) ∧ Below w.heap.size w wr)
    (fun _ i _ => 4 - (intOf i).toNat)
  case atStart => exact ⟨0, by omega, rfl, World.ownsRow_nil _ _ _ _, row_new (n := 4) (by simp) rfl (arr4 fun j => .int .u64 (wd X j)), (Below.refl _ _).alloc (by simp) _⟩
  case round =>
    obtain ⟨i, hi4, rfl, hown, hR, hbel⟩ := hrel
    by_cases hlt : i < 4
    · have c1 := hR.cell hlt
      have hd : decide ((i : Int) < 4) = true := by simp; omega
      go_wp2
      clear c1
      obtain ⟨wo, hwo⟩ : ∃ wo : World, wo = wr := ⟨_, rfl⟩
      rw [← hwo] at hown hR hbel ⊢
      clear hwo
      go_loopw [3, 5, 6] (fun v q k wq => ∃ m : Nat, m ≤ 4 ∧ k = .int .i64 m ∧ q = .int .u64 (wk X i m) ∧ wq.ownsRow (w.heap.size + 1) 3 1 v (4 * i + m) ((List.range (4 * i + m)).map (ptv X)) ∧ wq.rowIs w.heap.size 24 4 (fun j => .int .u64 (wd X j)) ∧ Below w.heap.size w wq)
        (fun _ _ k _ => 4 - (intOf k).toNat)
      case atStart => exact ⟨0, by omega, rfl, by rw [wk_zero], hown, hR, hbel⟩
      case round =>
        obtain ⟨m, hm4, rfl, rfl, hown, hR, hbel⟩ := hrel
        have hq := wk_lo X i m
        have hq2 := wk_le X i m
        by_cases hlm : m < 4
        · have hsz := hR.lt
          go_wp2_with (at_builtin; refine wpList_append_own _ rfl _ _ 64 rfl (w.heap.size + 1) 3 i0 (.int .i64 0) 1 8 Try.underlying64 hi hz0 hz1 hz2 rfl (by decide) _ _ _ rfl (hown.alloc _) ⟨wr.heap.size, 0, none⟩ 1 1 [.int .i64 (wk X i m % 65536)] rfl rfl ?c1 ?c2 ?c3 ?c4 ?c5 ?_)
          case c1 =>
            intro j u hj
            match j, hj with
            | 0, hj => simp at hj; subst hj; simp [Addr.add]
          case c2 => intro u hu; simp at hu; subst hu; rfl
          case c3 => unfold maxLen; omega
          case c4 => omega
          case c5 => simp; omega
          intro v' w1 hown' hgrow _
          rw [wk_pt X i m hlm, ← ptL_succ] at hown'
          have hR1 := row_grown (hR.alloc _) hgrow (fun e => by have := (hown.lt _ e.symm).1; omega)
          have hb1 := (hbel.alloc (by omega) _).grown hgrow (by simp; omega) (fun k e => by have := (hown.lt _ e).1; omega)
          clear hown hgrow hR hbel
          go_wp2
          go_roundw
          case rel => exact ⟨m + 1, by omega, by go_num, by rw [wk_succ], hown', hR1, hb1⟩
          case measure => simp [intOf]; omega
        · obtain rfl : m = 4 := by omega
          go_wp2
          go_roundw
          case rel => exact ⟨i + 1, by omega, by go_num, by rw [show 4 * (i + 1) = 4 * i + 4 by omega]; exact hown, hR, hbel⟩
          case measure => simp [intOf]; omega
    · obtain rfl : i = 4 := by omega
      go_wp2
      go_ret
      exact ⟨_, rfl, hown, hbel⟩

/-- Parts of a number: a new slice of its 16 parts. -/
theorem parts_calls (X : Nat) (w : World) :
    Calls Try.prog 52 #[.agg #[.int .u64 (wd (X) 0), .int .u64 (wd (X) 1), .int .u64 (wd (X) 2), .int .u64 (wd (X) 3)]] w fun e w' => ∃ g cap, e = .returned (.slice (some ⟨g, 0, none⟩) 16 cap) ∧ w.heap.size ≤ g ∧ Pre w' g 3 16 (ptv X) ∧ Below w.heap.size w w' := by
  refine (parts_any X w).mono ?_
  rintro e w' ⟨v, rfl, hown, hb⟩
  obtain ⟨g, cap, rfl, _, hg, hp⟩ := Pre.of_own hown (by omega)
  exact ⟨g, cap, rfl, by omega, hp, hb⟩
end Go.Proofs.Ytkfomfpeangcdaa
