/-
  tlv.sizeOf, tlv.sizeOfFirst, tlv.May, bytes.Clone: the landed package's own parts.
-/
import Derived.Test.YtldnncamaglofaaT5
namespace Go.Proofs.Ytldnncamaglofaa
open Go.RowKit

theorem rng_fd {w : World} {b o : Nat} {x y : Value} (h0 : w.cell? ⟨b, o, none⟩ = some x) (h1 : w.cell? ⟨b, o + 1, none⟩ = some y) : w.rangeAt b o [x, y] := fun j v hv => by
  match j, hv with
  | 0, hv => rw [Nat.add_zero, h0]; simpa using hv
  | 1, hv => rw [h1]; simpa using hv
theorem infoF2 : (Try.prog.info? 48).map (·.size) = some 2 := by kernel_rfl
theorem hzF (W : World) : (Instr.alloc 48 true (.tuple #[])).run Try.prog W = .ok (ptrTo W.heap.size) (W.alloc (.cells #[.int .i64 0, .slice none 0 0] 48)) := by simp [Instr.alloc, go_sem]
theorem cells_fd {w : World} {g : Nat} {x y : Value} (h : w.heap[g]? = some (.cells #[x, y] 48 (0, 0))) : w.cell? ⟨g, 0, none⟩ = some x ∧ w.cell? ⟨g, 1, none⟩ = some y := ⟨by rw [cell_of_row w g 0 _ _ _ h]; rfl, by rw [cell_of_row w g 1 _ _ _ h]; rfl⟩
theorem one_fd {T : Int} {A : Option Addr} {L c : Nat} : (#[.int .i64 T, .slice A L c] : Array Value).all (·.oneCell') = true := by simp [Value.oneCell']

/-- How many bytes fields have. -/
theorem encF_take_len (fs : List Fd) {i : Nat} (hi : i < fs.length) : (encF (fs.take (i + 1))).length = (encF (fs.take i)).length + (3 + (bsF fs i).length) := by
  rw [encF_take fs hi, List.length_append, enc1_length]

set_option maxRecDepth 100000 in
set_option maxHeartbeats 4000000 in
theorem sizeOf_calls (v : Value) (fs : List Fd) (w : World) (hF : Fl w v fs) (hM : mayFs fs = true) :
    Calls Try.prog 35 #[v] w fun e w' => e = .returned (.int .i64 ((encF fs).length : Nat)) ∧ Ext w w' := by
  obtain ⟨hB, AL, c, rfl, hc, hx⟩ := hF
  obtain ⟨n, hn⟩ : ∃ n, n = fs.length := ⟨_, rfl⟩
  rw [← hn] at hx hc ⊢
  have HR := veil (And.intro hn (And.intro hM hB))
  have HX := veil hx
  have hnL : n ≤ 64 := by rw [hn]; exact mayFs_64 hM
  clear hx hB hn hM
  go_enter Try.func35, Try.ntmps35
  go_wp2
  go_loopw [3, 8] (fun s v wr => ∃ i : Nat, i ≤ n ∧ s = .int .i64 ((encF (fs.take i)).length : Nat) ∧ v = .int .i64 (i : Int) ∧ Ext w wr)
    (fun _ v _ => n - (intOf v).toNat)
  case atStart => exact ⟨0, by omega, rfl, rfl, Ext.refl _⟩
  case round =>
    obtain ⟨i, hi, rfl, rfl, hE⟩ := hrel
    by_cases hlt : i < n
    · have hd1 : decide ((i : Int) < (n : Int)) = true := by simp; omega
      have hii : (i : Int) < (n : Int) := by omega
      have hok := mayFs_ok HR.out.2.1 (by have := HR.out.1; omega : i < fs.length)
      have hst := encF_take_len fs (by have := HR.out.1; omega : i < fs.length)
      have hle := encF_take_le HR.out.2.1 i
      obtain ⟨b, o, hAL, hb, hcl⟩ := HX.out.resolve_left (by omega)
      obtain ⟨h1, A, c', h2, h3, h4⟩ := hcl i hlt
      have c0 := (hE.cell hb).trans h1
      have c1 := (hE.cell hb).trans h2
      obtain ⟨S, hS⟩ : ∃ S, S = (encF (fs.take i)).length := ⟨_, rfl⟩
      rw [← hS] at hst hle ⊢
      have hs : (S : Int) ≤ 4194432 := by omega
      have hL1 := hok.2.2.1
      have HS := veil hst
      clear hcl h1 h2 hok hst hle h3 h4 hS
      generalize tgF fs i = T at *
      obtain ⟨L, hL⟩ : ∃ L, L = (bsF fs i).length := ⟨_, rfl⟩
      rw [← hL] at c1 hL1
      have HL := veil hL
      clear hL
      have HRG := veil (rng_fd c0 c1)
      clear c0 c1
      have hL2 : (L : Int) ≤ 65535 := by omega
      subst hAL
      go_upto_region 5 with (first
        | ((with_reducible refine at_slot 11 ?_); refine wpList_load_mid rfl 48 _ rfl b _ rfl _ _ HRG.out Try.underlying48 rfl infoF2 ?_)
        | ((with_reducible refine at_slot 5 ?_); refine wpl_var _ _ rfl rfl rfl rfl rfl rfl hzF (fun _ => rfl) (fun _ => rfl) infoF2 rfl one_fd ?_; intro g W hg hW hEW))
      have hEE := hE.trans hEW
      obtain ⟨d0, d1⟩ := cells_fd hW
      clear hW hEW hE
      go_wp2
      go_roundw
      case rel => exact ⟨i + 1, by omega, by rw [HS.out, ← HL.out]; simp, by go_num, hEE⟩
      case measure => simp [intOf]; omega
    · obtain rfl : i = n := by omega
      have e : encF (fs.take i) = encF fs := by rw [HR.out.1, List.take_length]
      rw [e]
      go_wp2
      go_ret
      exact ⟨rfl, hE⟩

/-- How many bytes the first field has by its head. -/
def szB (bs : List Nat) : Nat := if bs.length < 3 then 3 else 3 + (256 * bs.getD 1 0 + bs.getD 2 0)
set_option maxRecDepth 100000 in
set_option maxHeartbeats 4000000 in
theorem sizeFirst_calls (A : Option Addr) (m c : Nat) (bs : List Nat) (hm : m = bs.length) (w : World) (hS : Bs w A bs) :
    Calls Try.prog 37 #[.slice A m c] w fun e w' => e = .returned (.int .i64 (szB bs : Nat)) ∧ Ext w w' := by
  have HS := veil (And.intro hm hS)
  by_cases h3 : m < 3
  · have hd : decide ((m : Int) < 3) = true := by simp; omega
    have hs : szB bs = 3 := if_pos (by omega)
    have HZ := veil hs
    rw [HZ.out]
    clear hm hS hs
    go_enter Try.func37, Try.ntmps37
    go_wp2
    go_ret
    exact ⟨rfl, Ext.refl _⟩
  · have hd : decide ((m : Int) < 3) = false := by simp; omega
    obtain ⟨b, o, hA, hbl, c1⟩ := hS.cell (j := 1) (by omega)
    obtain ⟨b', o', hA', _, c2⟩ := hS.cell (j := 2) (by omega)
    obtain ⟨e1, e2⟩ : b' = b ∧ o' = o := by rw [hA] at hA'; injection hA' with h; injection h with h1 h2; exact ⟨h1.symm, h2.symm⟩
    subst e1 e2
    have l1 := hS.1.getD 1
    have l2 := hS.1.getD 2
    obtain ⟨X, hX⟩ : ∃ X, X = bs.getD 1 0 := ⟨_, rfl⟩
    obtain ⟨Y, hY⟩ : ∃ Y, Y = bs.getD 2 0 := ⟨_, rfl⟩
    rw [← hX] at c1 l1
    rw [← hY] at c2 l2
    have hs : szB bs = 3 + (256 * X + Y) := by unfold szB; rw [if_neg (by omega), hX, hY]
    have HZ := veil hs
    rw [HZ.out]
    have k1 : (X : Int) ≤ 255 := by omega
    have k2 : (Y : Int) ≤ 255 := by omega
    have i1 : (1 : Int) < (m : Int) := by omega
    have i2 : (2 : Int) < (m : Int) := by omega
    clear hm hS hs hX hY l1 l2 hA' h3
    subst hA
    go_enter Try.func37, Try.ntmps37
    go_wp2
    go_quiet (fail)
    go_wp2
    go_ret
    refine ⟨?_, Ext.drewK _ _⟩
    show Ending.returned (.int .i64 (3 + (X : Int) * 256 + (Y : Int))) = _
    rw [show 3 + (X : Int) * 256 + (Y : Int) = ((3 + (256 * X + Y) : Nat) : Int) by omega]

set_option maxRecDepth 100000 in
set_option maxHeartbeats 4000000 in
theorem may8_calls (v : Value) (fs : List Fd) (w : World) (hF : Fl w v fs) (hL : fs.length ≤ 1000000000) :
    Calls Try.prog 34 #[v] w fun e w' => e = .returned (.bool (mayFs fs)) ∧ Ext w w' := by
  obtain ⟨hB, AL, c, rfl, hc, hx⟩ := hF
  obtain ⟨R, hR⟩ : ∃ R, R = mayFs fs := ⟨_, rfl⟩
  rw [← hR]
  obtain ⟨n, hn⟩ : ∃ n, n = fs.length := ⟨_, rfl⟩
  rw [← hn] at hx hc ⊢
  have HR := veil (And.intro hR (And.intro hn hL))
  have HX := veil hx
  have hnL : n ≤ 1000000000 := by omega
  clear hR hx hB hn hL
  by_cases h64 : (64 : Int) < (n : Int)
  · have hd : decide ((64 : Int) < (n : Int)) = true := decide_eq_true h64
    have e : R = false := by
      rw [HR.out.1]
      exact decide_eq_false fun hh => by have := hh.1; have := HR.out.2.1; omega
    subst e
    go_enter Try.func34, Try.ntmps34
    go_wp2
    go_ret
    exact ⟨rfl, Ext.refl _⟩
  · have hd : decide ((64 : Int) < (n : Int)) = false := decide_eq_false h64
    have hn64 : n ≤ 64 := by omega
    clear hnL h64
    go_enter Try.func34, Try.ntmps34
    go_wp2
    go_loopw [3, 11] (fun s v wr => ∃ (i : Nat) (P : Int), i ≤ n ∧ s = .int .i64 P ∧ v = .int .i64 (i : Int) ∧ (∀ j, j < i → okF fs j) ∧ 0 ≤ P ∧ P ≤ 255 ∧ (i = 0 ∧ P = 0 ∨ 0 < i ∧ P = tgF fs (i - 1)) ∧ Ext w wr)
      (fun _ v _ => n - (intOf v).toNat)
    case atStart => exact ⟨0, 0, by omega, rfl, rfl, fun j hj => by omega, by omega, by omega, .inl ⟨rfl, rfl⟩, Ext.refl _⟩
    case round =>
      obtain ⟨i, P, hi, rfl, rfl, hall, hP0, hP1, hP, hE⟩ := hrel
      by_cases hlt : i < n
      · have hd1 : decide ((i : Int) < (n : Int)) = true := by simp; omega
        have hii : (i : Int) < (n : Int) := by omega
        obtain ⟨b, o, hAL, hb, hcl⟩ := HX.out.resolve_left (by omega)
        obtain ⟨h1, A, c', h2, _, _⟩ := hcl i hlt
        have c0 := (hE.cell hb).trans h1
        have c1 := (hE.cell hb).trans h2
        obtain ⟨T, hT⟩ : ∃ T, T = tgF fs i := ⟨_, rfl⟩
        obtain ⟨L, hL⟩ : ∃ L, L = (bsF fs i).length := ⟨_, rfl⟩
        rw [← hT] at c0
        rw [← hL] at c1
        have HT := veil (And.intro hT (And.intro hL hP))
        have HALL := veil hall
        have hfalse : ∀ h : ¬ okF fs i, R = false := fun h => HR.out.1.trans (mayFs_false (by have := HR.out.2.1; omega) h)
        have HF := veil hfalse
        have HRG := veil (rng_fd c0 c1)
        clear h1 h2 hT hL hall hfalse hP c0 c1 hcl
        subst hAL
        go_upto_region 7 with (first
          | ((with_reducible refine at_slot 14 ?_); refine wpList_load_mid rfl 48 _ rfl b _ rfl _ _ HRG.out Try.underlying48 rfl infoF2 ?_)
          | ((with_reducible refine at_slot 5 ?_); refine wpl_var _ _ rfl rfl rfl rfl rfl rfl hzF (fun _ => rfl) (fun _ => rfl) infoF2 rfl one_fd ?_; intro g W hg hW hEW))
        have hEE := hE.trans hEW
        obtain ⟨d0, d1⟩ := cells_fd hW
        clear hW hEW hE
        by_cases g1 : T ≤ P
        · have e : R = false := HF.out fun h => by
            have h4 := h.2.2.2
            have h1 := h.1
            rw [← HT.out.1] at h1 h4
            rcases HT.out.2.2 with ⟨_, h0⟩ | ⟨h0, h5⟩
            · omega
            · have := h4 h0; omega
          subst e
          have hd2 : decide (T ≤ P) = true := decide_eq_true g1
          go_wp2
          go_ret
          exact ⟨rfl, hEE⟩
        · have hd2 : decide (T ≤ P) = false := decide_eq_false g1
          by_cases g2 : 255 < T
          · have e : R = false := HF.out fun h => by have := h.2.1; rw [← HT.out.1] at this; omega
            subst e
            have hd3 : decide (255 < T) = true := decide_eq_true g2
            go_wp2
            go_ret
            exact ⟨rfl, hEE⟩
          · have hd3 : decide (255 < T) = false := decide_eq_false g2
            by_cases g3 : (65535 : Int) < (L : Int)
            · have e : R = false := HF.out fun h => by have := h.2.2.1; rw [← HT.out.2.1] at this; omega
              subst e
              have hd4 : decide ((65535 : Int) < (L : Int)) = true := decide_eq_true g3
              go_wp2
              go_ret
              exact ⟨rfl, hEE⟩
            · have hd4 : decide ((65535 : Int) < (L : Int)) = false := decide_eq_false g3
              go_wp2
              go_roundw
              case rel =>
                refine ⟨i + 1, T, by omega, rfl, by go_num, fun j hj => ?_, by omega, by omega, .inr ⟨by omega, HT.out.1⟩, hEE⟩
                by_cases e : j = i
                · subst e
                  refine ⟨by rw [← HT.out.1]; omega, by rw [← HT.out.1]; omega, by rw [← HT.out.2.1]; omega, fun h0 => ?_⟩
                  rw [← HT.out.1]
                  rcases HT.out.2.2 with ⟨h5, _⟩ | ⟨_, h5⟩ <;> omega
                · exact HALL.out j (by omega)
              case measure => simp [intOf]; omega
      · obtain rfl : i = n := by omega
        have e : R = true := by
          rw [HR.out.1, mayFs_len (by rw [← HR.out.2.1]; exact hall), ← HR.out.2.1]
          exact decide_eq_true hn64
        subst e
        clear hall
        go_wp2
        go_ret
        exact ⟨rfl, hE⟩

set_option maxRecDepth 100000 in
set_option maxHeartbeats 4000000 in
theorem clone8_calls (A : Option Addr) (m c : Nat) (bs : List Nat) (hm : m = bs.length) (hle : m ≤ 1000000000) (w : World) (hS : Bs w A bs) :
    Calls Try.prog 38 #[.slice A m c] w fun e w' => ∃ A' c', e = .returned (.slice A' m c') ∧ Ext w w' ∧ m ≤ c' ∧ Bs w' A' bs ∧ Fresh w A' bs := by
  have HS := veil (And.intro hm hS)
  rcases A with _ | ad
  · have h0 : m = 0 := by
      rcases hS.2 with h | ⟨_, _, h, _⟩
      · omega
      · cases h
    subst h0
    clear hm hS
    have ke : (binOp .eql 23 (.slice none 0 c) (.slice none 0 0)).run Try.prog w = .ok (.bool true) w := by kernel_rfl
    go_enter Try.func38, Try.ntmps38
    go_wp2
    go_ret
    exact ⟨none, 0, rfl, Ext.refl _, Nat.le_refl _, ⟨HS.out.2.1, .inl HS.out.1.symm⟩, .inl HS.out.1.symm⟩
  · have ke : (binOp .eql 23 (.slice (some ad) m c) (.slice none 0 0)).run Try.prog w = .ok (.bool false) w := by kernel_rfl
    clear hm hS
    go_enter Try.func38, Try.ntmps38
    go_wp2_with ((with_reducible refine at_slot 7 ?_); refine wpl_append0 rfl rfl rfl rfl (heap_new w _) (HS.out.2.ext (Ext.alloc w _)) HS.out.1 hle ?_; intro A' c' w2 hE2 hc' hB' hF')
    go_ret
    exact ⟨A', c', rfl, (Ext.alloc w _).trans hE2, hc', hB', hF'.imp id fun h b o e => Nat.le_trans (Below.size (Ext.alloc w _)) (h b o e)⟩
end Go.Proofs.Ytldnncamaglofaa
