/-
  mac.masked: the sum of a block, each byte exclusive-ored with one, and of parts behind it.
-/
import Derived.Test.YtmgogcoafhompaaDoorM1
import Derived.Test.YtmgogcoafhompaaDoorHParts
namespace Go.Proofs.YtmgogcoafhompaaDoor
open Go.RowKit

theorem cat_assoc (a b c : Nat → Nat) (n m : Nat) : cat (cat a n b) (n + m) c = cat a n (cat b m c) := by
  funext i
  unfold cat
  by_cases h1 : i < n
  · have h2 : i < n + m := by omega
    simp only [h1, h2, if_true]
  · by_cases h2 : i < n + m
    · have h3 : i - n < m := by omega
      simp only [h1, h2, h3, if_true, if_false]
    · have h3 : ¬ i - n < m := by omega
      simp only [h1, h2, h3, if_false]
      congr 1; omega
theorem lenN_mono {L : Nat → Nat} {i j : Nat} (h : i ≤ j) : lenN L i ≤ lenN L j := by
  induction j with
  | zero => obtain rfl : i = 0 := by omega
            exact Nat.le_refl _
  | succ j ih =>
    by_cases e : i = j + 1
    · subst e; exact Nat.le_refl _
    · have := ih (by omega)
      show _ ≤ lenN L j + L j
      omega
theorem Parts3.call {W W' : World} {AL : Option Addr} {nl : Nat} {A : Nat → Option Addr} {L C : Nat → Nat} {Y : Nat → Nat → Nat} (h : Parts3 W AL nl A L C Y) (hb : Below W.heap.size W W') : Parts3 W' AL nl A L C Y where
  row := h.row.imp id fun ⟨b, o, e, hlt, hc⟩ => ⟨b, o, e, by have := hb.size; omega, fun r hr => (hb.cell (p := ⟨b, o + r, none⟩) hlt).trans (hc r hr)⟩
  src := fun r hr => ((h.src r hr).at (g' := W'.heap.size) hb.size).below hb
  cap := h.cap
  lt := h.lt
set_option maxRecDepth 100000 in
set_option maxHeartbeats 8000000 in
theorem masked_calls (k : Nat → Nat) (hk : ∀ j, k j < 256) (x : Nat) (hx : x < 256) (AL : Option Addr) (nl cl : Nat) (A : Nat → Option Addr) (L C : Nat → Nat) (Y : Nat → Nat → Nat) (hnl : nl ≤ 100000) (hT : lenN L nl ≤ 100000) (w : World) (hK : KT w) (hP : Parts3 w AL nl A L C Y) :
    Calls Tryd.prog 10 #[.agg (arrOf 64 fun j => .int .u8 (k j : Nat)), .int .u8 (x : Int), .slice AL nl cl] w fun e w' => e = .returned (.agg (dgst (cat (fun j => k j ^^^ x) 64 (textN L Y nl)) (64 + lenN L nl))) ∧ Below w.heap.size w w' := by
  obtain ⟨F, hF⟩ : ∃ F, F = arrOf 64 fun j => Value.int .u8 (k j : Nat) := ⟨_, rfl⟩
  rw [← hF]
  have HF := veil hF
  have HK := veil hK
  have HP := veil hP
  have HX := veil (And.intro hx hk)
  have HT := veil hT
  have hg0 := hK.lt
  clear hF hK hP hx hk hT
  go_enter Tryd.func10, Tryd.ntmps10
  go_upto_region 1 with (fail)
  rw [zeros32]
  have hB0 : (w.alloc (.cells F 32)).rowIs w.heap.size 32 64 (fun j => Value.int .u8 (k j : Nat)) := by rw [HF.out]; exact row_made w 64 32 _ rfl
  have hb0 : Below w.heap.size w (w.alloc (.cells F 32)) := (Below.refl _ _).alloc (Nat.le_refl _) _
  have hz0 : (w.alloc (.cells F 32)).heap.size = w.heap.size + 1 := by simp
  generalize w.alloc (.cells F 32) = w0 at *
  have hR1 := row_made w0 32 26 (fun _ => Value.int .u8 0) rfl
  rw [hz0] at hR1
  have hB1 := hB0.alloc (.cells (arrOf 32 (fun _ => .int .u8 0)) 26)
  have hb1 := hb0.alloc hb0.size (.cells (arrOf 32 (fun _ => .int .u8 0)) 26)
  generalize w0.alloc (.cells (arrOf 32 (fun _ => .int .u8 0)) 26) = w1 at *
  clear hB0 hb0 hz0
  go_wp2
  go_loopw [11] (fun v wr => ∃ i : Nat, i ≤ 64 ∧ v = .int .i64 (i : Int) ∧ wr.rowIs w.heap.size 32 64 (fun j => .int .u8 ((if j < i then k j ^^^ x else k j : Nat) : Int)) ∧ wr.rowIs (w.heap.size + 1) 26 32 (fun _ => .int .u8 0) ∧ Below w.heap.size w wr)
    (fun v _ => 64 - (intOf v).toNat)
  case atStart => exact ⟨0, by omega, rfl, hB1, hR1, hb1⟩
  case round =>
    obtain ⟨i, hi, rfl, hRB, hR, hB⟩ := hrel
    by_cases hlt : i < 64
    · obtain ⟨c, hc⟩ : ∃ c, c = k i := ⟨_, rfl⟩
      have c0 := hRB.cell hlt
      have f0 := hRB.frozen i
      rw [if_neg (Nat.lt_irrefl i), ← hc] at c0
      have hxor := xor8 c x (by rw [hc]; exact HX.out.2 i) HX.out.1
      have HC := veil hc
      clear hc
      go_wp2
      go_roundw
      case rel =>
        refine ⟨i + 1, by omega, by go_num, (hRB.set i _).congr fun q hq => ?_, row_far hR (by omega) _, below_set hB (Nat.le_refl _) _⟩
        by_cases h : q = i
        · rw [if_pos h, if_pos (by omega), HC.out, h]
        · rw [if_neg h]
          by_cases h2 : q < i
          · rw [if_pos h2, if_pos (by omega)]
          · rw [if_neg h2, if_neg (by omega)]
      case measure => simp [intOf]; omega
    · have e64 : i = 64 := by omega
      have hRB : wr.rowIs w.heap.size 32 64 (fun j => .int .u8 ((k j ^^^ x : Nat) : Int)) := hRB.congr fun p hp => by rw [if_pos (by omega)]
      have hd : decide ((i : Int) < 64) = false := by simp; omega
      clear e64 hlt hi
      go_wp2_with fail
      refine (new_calls wr).mono ?_
      rintro e w2 ⟨rfl, hC, hb2⟩
      have hRB2 := row_below hRB hb2 hRB.lt
      have hR2 := row_below hR hb2 hR.lt
      have hB2 := hB.trans (hb2.mono hB.size)
      have hC2 := hC (fun _ => 0)
      have hgH := hC2.lt
      have hHR := hR.lt
      generalize wr.heap.size = gH at *
      clear hRB hR hB hC hb2
      have hS2 : Src w2 (some ⟨w.heap.size, 0, none⟩) 64 (fun j => k j ^^^ x) gH := .inr ⟨_, 0, rfl, hRB2.lt, by omega, fun j hj => by rw [Nat.zero_add]; exact hRB2.cell hj⟩
      go_wp2_with fail
      refine (write_calls gH (fun _ => 0) 0 _ 64 64 (fun j => k j ^^^ x) (fun j => xor8_lt (HX.out.2 j) HX.out.1) (by decide) (by decide) (by omega) w2 (kt_now HK.out hB2) hC2 hS2).mono ?_
      rintro e w3 ⟨rfl, hH3, hb3⟩
      rw [Nat.zero_add, cat_none] at hH3
      have hR3 := row_but hR2 hb3 (by omega)
      have hB3 := but_below hB2 hb3 (by omega)
      clear hRB2 hR2 hB2 hC2 hS2 hb3
      have hH3 : HashIs w3 gH (cat (fun j => k j ^^^ x) 64 (textN L Y 0)) (64 + lenN L 0) := hH3.congr fun i hi => by unfold cat; rw [if_pos hi]
      go_wp2
      go_loopw [27] (fun v wr => ∃ i : Nat, i ≤ nl ∧ v = .int .i64 (i : Int) ∧ HashIs wr gH (cat (fun j => k j ^^^ x) 64 (textN L Y i)) (64 + lenN L i) ∧ wr.rowIs (w.heap.size + 1) 26 32 (fun _ => .int .u8 0) ∧ Below w.heap.size w wr)
        (fun v _ => nl - (intOf v).toNat)
      case atStart => exact ⟨0, by omega, rfl, hH3, hR3, hB3⟩
      case round =>
        obtain ⟨i, hi, rfl, hH, hR, hB⟩ := hrel
        by_cases hlt : i < nl
        · have hd2 : decide ((i : Int) < (nl : Int)) = true := by simp; omega
          have hd1 : decide (i < nl) = true := by simp; omega
          have hii : (i : Int) < (nl : Int) := by omega
          obtain ⟨bl, ol, hAL, hbl, hcl⟩ := HP.out.row.resolve_left (by omega)
          have cr : wr.cell? ⟨bl, ol + i, none⟩ = some (.slice (A i) (L i) (C i)) := (hB.cell (p := ⟨bl, ol + i, none⟩) hbl).trans (hcl i hlt)
          clear hcl
          subst hAL
          go_wp2_with fail
          have hL1 := lenN_mono (L := L) (show i + 1 ≤ nl by omega)
          have hT := HT.out
          have hL2 : lenN L (i + 1) = lenN L i + L i := rfl
          refine (write_calls gH _ (64 + lenN L i) (A i) (L i) (C i) (Y i) (HP.out.lt i) (HP.out.cap i hlt) (by omega) (by omega) wr (kt_now HK.out hB) hH (src_now (HP.out.src i hlt) hB (by omega))).mono ?_
          rintro e w4 ⟨rfl, hH4, hb4⟩
          rw [cat_assoc, Nat.add_assoc] at hH4
          have hH5 : HashIs w4 gH (cat (fun j => k j ^^^ x) 64 (textN L Y (i + 1))) (64 + lenN L (i + 1)) := hH4
          clear hH4
          have hR4 := row_but hR hb4 (by omega)
          have hB4 := but_below hB hb4 (by omega)
          clear hR hB hH hb4 cr hT hL1 hL2
          go_wp2
          go_roundw
          case rel => exact ⟨i + 1, by omega, by go_num, hH5, hR4, hB4⟩
          case measure => simp [intOf]; omega
        · obtain rfl : i = nl := by omega
          go_wp2_with fail
          have hT := HT.out
          refine (hsum_calls gH _ _ (by omega) wr (kt_now HK.out hB) hH).mono ?_
          rintro e w4 ⟨rfl, hb4⟩
          have hR4 := row_below hR hb4 hR.lt
          have hB4 := hB.trans (hb4.mono hB.size)
          obtain ⟨y, hy⟩ : ∃ y, y = cat (fun j => k j ^^^ x) 64 (textN L Y i) := ⟨_, rfl⟩
          obtain ⟨n, hn⟩ : ∃ n, n = 64 + lenN L i := ⟨_, rfl⟩
          rw [← hy, ← hn]
          have HN := veil (blkOf hR4)
          have HZ := veil (And.intro (dgst_size y n) (And.intro (show (dgst y n).all (·.oneCell') = true from arrOf_one fun _ _ => rfl) (show (Tryd.prog.info? 26).map (·.size) = some (dgst y n).size by rw [dgst_size]; exact infoD)))
          obtain ⟨D, hD⟩ : ∃ D, D = dgst y n := ⟨_, rfl⟩
          rw [← hD] at HZ ⊢
          have HD := veil (show D = dgst (cat (fun j => k j ^^^ x) 64 (textN L Y i)) (64 + lenN L i) by rw [hD, hy, hn])
          clear hD hR4 hR hB hH hb4 hy hn hT hH3 hR3 hB3
          go_wp2_with ((with_reducible refine at_none ?_); refine wpList_store_row rfl 26 _ _ rfl (w.heap.size + 1) D rfl rfl 26 _ HN.out HZ.out.2.2 (by rw [HZ.out.1, arrOf_size]) HZ.out.2.1 ?_)
          exact bodyPost_ret (results_cell_row rfl _ _ (w.heap.size + 1) 26 D (0, 0) _ rfl (setRow_heap w4 (w.heap.size + 1) _ D 26 (0, 0) HN.out) Tryd.underlying26 rfl HZ.out.2.2) rfl ⟨by rw [HD.out], below_setRow hB4 (by omega) _⟩
end Go.Proofs.YtmgogcoafhompaaDoor
