/-
  The landed journal: of, number (eight bytes, the highest first); slices.Clone of bytes.
-/
import Derived.Test.YtoikgkjkcampkaaJpc
namespace Go.Proofs.Ytoikgkjkcampkaa
open Go.RowKit

theorem num_word {U k : Nat} (hk : k < 8) : Value.int .u8 ((U : Int) / 2 ^ (8 * (7 - k)) % 256) = nbv U k := by
  have hp : (2 : Int) ^ (8 * (7 - k)) = ((256 ^ (7 - k) : Nat) : Int) := by
    obtain rfl | rfl | rfl | rfl | rfl | rfl | rfl | rfl : k = 0 ∨ k = 1 ∨ k = 2 ∨ k = 3 ∨ k = 4 ∨ k = 5 ∨ k = 6 ∨ k = 7 := by omega
    all_goals decide
  rw [hp]
  rfl
theorem to8_byt (U : Nat) : Byt (to8 U) := fun b hb => by
  obtain ⟨i, hi⟩ := List.getElem?_of_mem hb
  exact to8_at U i b hi
theorem nbv_to8 {U j : Nat} (hj : j < 8) : nbv U j = .int .u8 (((to8 U).getD j 0 : Nat) : Int) := by
  obtain rfl | rfl | rfl | rfl | rfl | rfl | rfl | rfl : j = 0 ∨ j = 1 ∨ j = 2 ∨ j = 3 ∨ j = 4 ∨ j = 5 ∨ j = 6 ∨ j = 7 := by omega
  all_goals (unfold nbv to8; simp)
theorem be8_val (bs : List Nat) : be8 bs = valB bs := rfl

set_option maxRecDepth 100000 in
set_option maxHeartbeats 4000000 in
theorem jof_calls (A : Option Addr) (c : Nat) (bs : List Nat) (hm : 8 = bs.length) (w : World) (hS : Bs w A bs) :
    Calls Try.prog 28 #[.slice A 8 c] w fun e w' => e = .returned (.int .u64 ((be8 bs : Nat) : Int)) ∧ Ext w w' := by
  rw [be8_val]
  have HS := veil (And.intro hS hm)
  clear hS hm
  go_enter Try.func28, Try.ntmps28
  go_wp2
  go_loopw [3, 8] (fun v u wr => ∃ i : Nat, i ≤ 8 ∧ u = .int .i64 (i : Int) ∧ v = .int .u64 ((valB (bs.take i) : Nat) : Int) ∧ Ext w wr)
    (fun _ v _ => 8 - (intOf v).toNat)
  case atStart => exact ⟨0, by omega, rfl, rfl, Ext.refl _⟩
  case round =>
    obtain ⟨i, hi, rfl, rfl, hE⟩ := hrel
    by_cases hlt : i < 8
    · have hii : (i : Int) < 8 := by omega
      obtain ⟨b2, o2, hA, _, c1⟩ := (HS.out.1.ext hE).cell (j := i) (by have := HS.out.2; omega)
      have l1 := HS.out.1.1.getD i
      obtain ⟨V, hV⟩ : ∃ V, V = valB (bs.take i) := ⟨_, rfl⟩
      obtain ⟨Y, hY⟩ : ∃ Y, Y = bs.getD i 0 := ⟨_, rfl⟩
      rw [← hY] at c1 l1
      rw [← hV]
      have k1 : (Y : Int) ≤ 255 := by omega
      have HVY := veil (And.intro hV hY)
      have hv := valB_lt8 HS.out.1.1 i (by have := HS.out.2; omega)
      have h7 : 256 ^ i ≤ 256 ^ 7 := Nat.pow_le_pow_right (by decide) (by omega)
      have e7 : (256 : Nat) ^ 7 = 72057594037927936 := by decide
      have hor := or_u64 (V := V) (Y := Y) (by omega) l1
      have HOR := veil hor
      clear hV hY l1 hv h7 e7 hor
      subst hA
      go_wp2
      go_roundw
      case rel =>
        refine ⟨i + 1, by omega, by go_num, ?_, hE⟩
        rw [valB_take (by have := HS.out.2; omega), ← HVY.out.1, ← HVY.out.2, HOR.out]
      case measure => simp [intOf]; omega
    · obtain rfl : i = 8 := by omega
      have e : bs.take 8 = bs := List.take_of_length_le (by have := HS.out.2; omega)
      rw [e]
      obtain ⟨V, hV⟩ : ∃ V, V = valB bs := ⟨_, rfl⟩
      rw [← hV]
      go_wp2
      go_ret
      exact ⟨by rw [← hV]; rfl, hE⟩

set_option maxRecDepth 100000 in
set_option maxHeartbeats 4000000 in
theorem jnum_calls (U : Nat) (w : World) :
    Calls Try.prog 23 #[.int .u64 (U : Int)] w fun e w' => ∃ k, e = .returned (.slice (some ⟨k, 0, none⟩) 8 8) ∧ Ext w w' ∧ w.heap.size ≤ k ∧ Bs w' (some ⟨k, 0, none⟩) (to8 U) := by
  have hmk : ∀ W : World, (Instr.makeSlice 23 (.int .i64 8) (.int .i64 8)).run Try.prog W = .ok (.slice (some ⟨W.heap.size, 0, none⟩) 8 8) (W.alloc (.cells (madeCells #[.int .u8 0] 8) 5)) := fun W => hmk_by 8 (by decide) W
  go_enter Try.func23, Try.ntmps23
  go_wp2
  go_loopw [8] (fun i wr => ∃ k : Nat, k ≤ 8 ∧ i = .int .i64 (k : Int) ∧ wr.rowIs w.heap.size 5 8 (fun j => if j < k then nbv U j else .int .u8 0) ∧ Ext w wr)
    (fun i _ => (8 - intOf i).toNat)
  case atStart => exact ⟨0, by omega, rfl, (row_fill (w := w) (z := .int .u8 0) rfl).congr (fun i hi => by rw [if_neg (by omega)]), Ext.alloc w _⟩
  case round =>
    obtain ⟨k, hk, rfl, hR, hE⟩ := hrel
    by_cases hlt : k < 8
    · have c2 := hR.cell (i := k) hlt
      have f2 := hR.frozen k
      have hk8 : (k : Int) < 8 := by omega
      go_wp2
      go_roundw
      case rel =>
        refine ⟨k + 1, by omega, by go_num, ?_, ?_⟩
        · rw [num_word hlt]
          refine (hR.set k (nbv U k)).congr fun i hi => ?_
          by_cases h : i = k
          · rw [if_pos h, if_pos (by omega), h]
          · rw [if_neg h]
            by_cases h2 : i < k
            · rw [if_pos h2, if_pos (by omega)]
            · rw [if_neg h2, if_neg (by omega)]
        · exact below_set hE (Nat.le_refl _) _
      case measure => simp [intOf]; omega
    · obtain rfl : k = 8 := by omega
      go_wp2
      go_ret
      exact ⟨_, rfl, hE, Nat.le_refl _, bs_of_row hR (to8_len U).symm (to8_byt U) fun j hj => by rw [if_pos hj]; exact nbv_to8 hj⟩

set_option maxRecDepth 100000 in
set_option maxHeartbeats 4000000 in
theorem jclone_calls (A : Option Addr) (m c : Nat) (bs : List Nat) (hm : m = bs.length) (hle : m ≤ 1000000000) (w : World) (hS : Bs w A bs) :
    Calls Try.prog 27 #[.slice A m c] w fun e w' => ∃ A' c', e = .returned (.slice A' m c') ∧ Ext w w' ∧ m ≤ c' ∧ Bs w' A' bs ∧ Fresh w A' bs := by
  have HS := veil (And.intro hm hS)
  rcases A with _ | ad
  · have h0 : m = 0 := by
      rcases hS.2 with h | ⟨_, _, h, _⟩
      · omega
      · cases h
    subst h0
    clear hm hS
    have ke : (binOp .eql 23 (.slice none 0 c) (.slice none 0 0)).run Try.prog w = .ok (.bool true) w := by kernel_rfl
    go_enter Try.func27, Try.ntmps27
    go_wp2
    go_ret
    exact ⟨none, 0, rfl, Ext.refl _, Nat.le_refl _, ⟨HS.out.2.1, .inl HS.out.1.symm⟩, .inl HS.out.1.symm⟩
  · have ke : (binOp .eql 23 (.slice (some ad) m c) (.slice none 0 0)).run Try.prog w = .ok (.bool false) w := by kernel_rfl
    clear hm hS
    go_enter Try.func27, Try.ntmps27
    go_wp2_with ((with_reducible refine at_slot 7 ?_); refine wpl_append0 rfl rfl rfl rfl (heap_new w _) (HS.out.2.ext (Ext.alloc w _)) HS.out.1 hle ?_; intro A' c' w2 hE2 hc' hB' hF')
    go_ret
    exact ⟨A', c', rfl, (Ext.alloc w _).trans hE2, hc', hB', hF'.imp id fun h b o e => Nat.le_trans (Below.size (Ext.alloc w _)) (h b o e)⟩
end Go.Proofs.Ytoikgkjkcampkaa
