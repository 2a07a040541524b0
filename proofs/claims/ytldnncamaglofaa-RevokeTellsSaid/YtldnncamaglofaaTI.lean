/-
  tlv.Number, tlv.Of: the landed package's own; what the laws ask of it.
-/
import Derived.Test.YtldnncamaglofaaTH
namespace Go.Proofs.Ytldnncamaglofaa
open Go.RowKit

theorem or_u64 {V Y : Nat} (hV : V < 72057594037927936) (hY : Y < 256) : bits .or .u64 (IntKind.u64.wrap ((V : Int) * 256)) (Y : Int) = ((256 * V + Y : Nat) : Int) := by
  rw [IntKind.wrap_u64, show (V : Int) * 256 % 18446744073709551616 = ((V * 256 : Nat) : Int) by omega, u64_or_nat _ _ (by omega) (by omega), nat_join 8 _ _ (by omega) (by omega), Nat.mul_comm]
theorem valB_lt8 {bs : List Nat} (h : Byt bs) : ∀ i, i ≤ bs.length → valB (bs.take i) < 256 ^ i
  | 0, _ => by simp [valB]
  | i + 1, hi => by
    have h1 := valB_lt8 h i (by omega)
    have h2 := h.getD i
    rw [valB_take (by omega), Nat.pow_succ]
    omega
theorem valB_ge {bs : List Nat} : ∀ i, i < bs.length → bs.getD 0 0 * 256 ^ i ≤ valB (bs.take (i + 1))
  | 0, hi => by
    rw [valB_take hi]
    omega
  | i + 1, hi => by
    have h1 := valB_ge (bs := bs) i (by omega)
    rw [valB_take hi, Nat.pow_succ, ← Nat.mul_assoc]
    omega
theorem ofB_big {bs : List Nat} (h : Byt bs) (hl : 8 = bs.length) (hv : (9223372036854775807 : Int) < (valB bs : Nat)) : ofB bs = -1 := by
  unfold ofB
  rw [if_neg]
  rintro ⟨_, h0⟩
  have h1 := valB_lt h h0 7 (by omega)
  rw [List.take_of_length_le (by omega)] at h1
  have : (128 : Nat) * 256 ^ 7 = 9223372036854775808 := by decide
  omega
theorem ofB_small {bs : List Nat} (hl : 8 = bs.length) (hv : ¬ (9223372036854775807 : Int) < (valB bs : Nat)) : ofB bs = (valB bs : Nat) := by
  unfold ofB
  rw [if_pos]
  refine ⟨hl.symm, ?_⟩
  have h1 := valB_ge (bs := bs) 7 (by omega)
  rw [List.take_of_length_le (by omega)] at h1
  have : (256 : Nat) ^ 7 = 72057594037927936 := by decide
  omega
/-- Byte j of the eight, where U is the number. -/
def nbv (U j : Nat) : Value := .int .u8 ((U / 256 ^ (7 - j) % 256 : Nat) : Int)
theorem num_step {U k j : Nat} (hk : k < 8) (hj : j = 7 - k) : ∀ i, i < 8 → (if i = j then nbv U j else if 8 ≤ i + k then nbv U i else .int .u8 0) = (if 8 ≤ i + (k + 1) then nbv U i else .int .u8 0) := by
  intro i hi
  by_cases h : i = j
  · rw [if_pos h, if_pos (by omega), h]
  · rw [if_neg h]
    by_cases h2 : 8 ≤ i + k
    · rw [if_pos h2, if_pos (by omega)]
    · rw [if_neg h2, if_neg (by omega)]
theorem num_bs {w : World} {g : Nat} {n : Int} {U : Nat} (hU : U = (n % 18446744073709551616).toNat) (h : w.rowIs g 5 8 (nbv U)) : Bs w (some ⟨g, 0, none⟩) (numB n) := by
  refine ⟨numB_byt n, .inr ⟨g, 0, rfl, h.lt, fun j hj => ?_⟩⟩
  rw [numB_length] at hj
  rw [Nat.zero_add, h.cell hj, hU]
  unfold nbv
  rw [List.getD_eq_getElem?_getD]
  simp [numB, hj]
theorem row_fill {w : World} {z : Value} {n b t : Nat} (hb : b = w.heap.size) : (w.alloc (.cells (madeCells #[z] n) t)).rowIs b t n (fun _ => z) := by
  subst hb
  exact World.rowIs_made w z n t

set_option maxRecDepth 100000 in
set_option maxHeartbeats 4000000 in
theorem num8_calls (n : Int) (w : World) (_h0 : -9223372036854775808 ≤ n) (_h1 : n ≤ 9223372036854775807) :
    Calls Try.prog 19 #[.int .i64 n] w fun e w' => ∃ A c, e = .returned (.slice A 8 c) ∧ 8 ≤ c ∧ Bs w' A (numB n) ∧ Ext w w' := by
  obtain ⟨U, hU⟩ : ∃ U, U = (n % 18446744073709551616).toNat := ⟨_, rfl⟩
  have hw : IntKind.u64.wrap n = (U : Int) := by
    rw [hU]
    show n % 18446744073709551616 = _
    omega
  have HU := veil hU
  clear hU _h0 _h1
  obtain ⟨i0, hi, hz0, hz1, hz2⟩ := info_parts infoTG
  have hmk : ∀ W : World, (Instr.makeSlice 23 (.int .i64 8) (.int .i64 8)).run Try.prog W = .ok (.slice (some ⟨W.heap.size, 0, none⟩) 8 8) (W.alloc (.cells (madeCells #[.int .u8 0] 8) 5)) :=
    fun W => run_make_row 23 5 i0 (.int .u8 0) Try.underlying23 hi hz0 hz1 rfl .i64 .i64 8 (by rw [hz2]; omega) (by omega) W
  clear hi hz0 hz1 hz2
  go_enter Try.func19, Try.ntmps19
  go_wp2
  go_loopw [4, 5] (fun v i wr => ∃ k : Nat, k ≤ 8 ∧ v = .int .u64 ((U / 256 ^ k : Nat) : Int) ∧ i = .int .i64 (7 - (k : Int)) ∧ wr.rowIs w.heap.size 5 8 (fun j => if 8 ≤ j + k then nbv U j else .int .u8 0) ∧ Ext w wr)
    (fun _ i _ => (intOf i + 1).toNat)
  case atStart => exact ⟨0, by omega, by simp, rfl, (row_fill (w := w) (z := .int .u8 0) rfl).congr (fun i hi => by rw [if_neg (by omega)]), Ext.alloc w _⟩
  case round =>
    obtain ⟨k, hk, rfl, rfl, hR, hE⟩ := hrel
    by_cases hlt : k < 8
    · obtain ⟨j, hj⟩ : ∃ j, j = 7 - k := ⟨_, rfl⟩
      have hji : (7 : Int) - (k : Int) = (j : Int) := by omega
      have hjn : (j : Int) < (8 : Int) := by omega
      have c2 := hR.cell (i := j) (by omega)
      have f2 := hR.frozen j
      have hs : U / 256 ^ (k + 1) = U / 256 ^ k / 256 := by rw [Nat.pow_succ, ← Nat.div_div_eq_div_mul]
      have hb : nbv U j = .int .u8 (((U / 256 ^ k % 256 : Nat) : Nat) : Int) := by unfold nbv; rw [show 7 - j = k by omega]
      generalize U / 256 ^ k = q at *
      have HJ := veil (And.intro hj (And.intro hs hb))
      clear hj hs hb
      rw [hji]
      go_wp2
      go_roundw
      case rel =>
        refine ⟨k + 1, by omega, by rw [HJ.out.2.1]; simp, by go_num, ?_, ?_⟩
        · have h2 := HJ.out.2.2
          rw [show ((q % 256 : Nat) : Int) = (q : Int) % 256 by omega] at h2
          rw [← h2]
          exact (hR.set j (nbv U j)).congr (num_step hlt HJ.out.1)
        · exact below_set hE (Nat.le_refl _) _
      case measure => simp [intOf]
    · obtain rfl : k = 8 := by omega
      go_wp2
      go_ret
      exact ⟨_, 8, rfl, by omega, num_bs HU.out (hR.congr fun i hi => by rw [if_pos (by omega)]), hE⟩

set_option maxRecDepth 100000 in
set_option maxHeartbeats 4000000 in
theorem of8_calls (A : Option Addr) (m c : Nat) (bs : List Nat) (hm : m = bs.length) (hmc : m ≤ c) (w : World) (hS : Bs w A bs) :
    Calls Try.prog 40 #[.slice A m c] w fun e w' => ∃ x ev, e = .returned (.tuple #[x, ev]) ∧ Ext w w' ∧ OfA bs x ev := by
  have HS := veil (And.intro hS hm)
  by_cases h8 : m = 8
  · subst h8
    clear hS hm
    go_enter Try.func40, Try.ntmps40
    go_wp2
    go_loopw [4, 13] (fun v u wr => ∃ i : Nat, i ≤ 8 ∧ u = .int .i64 (i : Int) ∧ v = .int .u64 ((valB (bs.take i) : Nat) : Int) ∧ Ext w wr)
      (fun _ v _ => 8 - (intOf v).toNat)
    case atStart => exact ⟨0, by omega, rfl, rfl, Ext.refl _⟩
    case round =>
      obtain ⟨i, hi, rfl, rfl, hE⟩ := hrel
      by_cases hlt : i < 8
      · have hii : (i : Int) < 8 := by omega
        obtain ⟨b2, o2, hA, _, c1⟩ := (HS.out.1.ext hE).cell (j := i) (by have := HS.out.2; omega)
        have l1 := HS.out.1.1.getD i
        obtain ⟨V, hV⟩ : ∃ V, V = valB (bs.take i) := ⟨_, rfl⟩
        obtain ⟨Y, hY⟩ : ∃ Y, Y = bs.getD i 0 := ⟨_, rfl⟩
        rw [← hY] at c1 l1
        rw [← hV]
        have k1 : (Y : Int) ≤ 255 := by omega
        have HVY := veil (And.intro hV hY)
        have hv := valB_lt8 HS.out.1.1 i (by have := HS.out.2; omega)
        have h7 : 256 ^ i ≤ 256 ^ 7 := Nat.pow_le_pow_right (by decide) (by omega)
        have e7 : (256 : Nat) ^ 7 = 72057594037927936 := by decide
        have hor := or_u64 (V := V) (Y := Y) (by omega) l1
        have HOR := veil hor
        clear hV hY l1 hv h7 e7 hor
        subst hA
        go_wp2
        go_roundw
        case rel =>
          refine ⟨i + 1, by omega, by go_num, ?_, hE⟩
          rw [valB_take (by have := HS.out.2; omega), ← HVY.out.1, ← HVY.out.2, HOR.out]
        case measure => simp [intOf]; omega
      · obtain rfl : i = 8 := by omega
        have e : bs.take 8 = bs := List.take_of_length_le (by have := HS.out.2; omega)
        rw [e]
        obtain ⟨V, hV⟩ : ∃ V, V = valB bs := ⟨_, rfl⟩
        rw [← hV]
        have HV := veil hV
        clear hV e
        by_cases g : (9223372036854775807 : Int) < (V : Int)
        · have hd : decide ((9223372036854775807 : Int) < (V : Int)) = true := decide_eq_true g
          have HR := veil (ofB_big HS.out.1.1 HS.out.2 (by rw [← HV.out]; exact g))
          clear g
          go_wp2
          go_ret2
          exact ⟨_, _, rfl, hE, .inl ⟨by rw [HR.out]; decide, rfl, rfl⟩⟩
        · have hd : decide ((9223372036854775807 : Int) < (V : Int)) = false := decide_eq_false g
          have HR := veil (ofB_small (bs := bs) HS.out.2 (by rw [← HV.out]; exact g))
          have hle : (V : Int) ≤ 9223372036854775807 := by omega
          clear g
          go_wp2
          go_ret2
          exact ⟨_, _, rfl, hE, .inr ⟨by rw [HR.out]; omega, by rw [HR.out, ← HV.out]; rfl, rfl⟩⟩
  · have h8' : ¬ ((m : Int) = 8) := by omega
    have hr : ofB bs = -1 := by
      unfold ofB
      rw [if_neg]
      intro h
      omega
    have HR := veil hr
    clear hS hm hr
    go_enter Try.func40, Try.ntmps40
    go_wp2
    go_ret2
    exact ⟨_, _, rfl, Ext.refl _, .inl ⟨by rw [HR.out]; decide, rfl, rfl⟩⟩

/-- What the laws ask of the landed package. -/
theorem code8 : Code8 where
  may := may8_calls
  put v fs w hF hL := by
    cases hM : mayFs fs with
    | false => exact (put_no v fs w hF hL hM).mono fun e w' ⟨he, hE⟩ => ⟨_, _, he, hE, .inl ⟨hM, ⟨none, 0, rfl⟩, rfl⟩⟩
    | true => exact (put_yes v fs w hF hM).mono fun e w' ⟨A, c, he, hc, hB, hE⟩ => ⟨_, _, he, hE, .inr ⟨hM, rfl, A, c, rfl, hc, hB⟩⟩
  get A m c bs w hm hmc hle hS := get8_calls A m c bs hm hmc hle w hS
  number n w h0 h1 := num8_calls n w h0 h1
  of A m c bs w hm hmc hS := of8_calls A m c bs hm hmc w hS
end Go.Proofs.Ytldnncamaglofaa
