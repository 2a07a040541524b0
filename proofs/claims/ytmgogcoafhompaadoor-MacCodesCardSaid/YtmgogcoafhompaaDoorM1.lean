/-
  clapperref04.block: a key's block, each byte exclusive-ored with one.
-/
import Derived.Test.YtmgogcoafhompaaDoorSSumA
import Derived.Deep.CutBlock
namespace Go.Proofs.YtmgogcoafhompaaDoor
open Go.RowKit

theorem wrap8 (n : Int) : IntKind.u8.wrap n = n % 256 := by simp [IntKind.wrap, IntKind.signed, IntKind.bits]
theorem xor8 (a b : Nat) (ha : a < 256) (hb : b < 256) : bits .xor .u8 (a : Int) (b : Int) = ((a ^^^ b : Nat) : Int) := by
  have hx : a ^^^ b < 2 ^ 8 := Nat.xor_lt_two_pow (by omega) (by omega)
  have e1 : (BitVec.ofInt 8 (a : Int)).toNat = a := by rw [BitVec.ofInt_natCast, BitVec.toNat_ofNat]; exact Nat.mod_eq_of_lt (by omega)
  have e2 : (BitVec.ofInt 8 (b : Int)).toNat = b := by rw [BitVec.ofInt_natCast, BitVec.toNat_ofNat]; exact Nat.mod_eq_of_lt (by omega)
  show IntKind.u8.wrap ((BitVec.ofInt 8 (a : Int) ^^^ BitVec.ofInt 8 (b : Int)).toNat : Int) = _
  rw [BitVec.toNat_xor, e1, e2, wrap8]
  omega
theorem xor8_lt {a b : Nat} (ha : a < 256) (hb : b < 256) : a ^^^ b < 256 := Nat.xor_lt_two_pow (n := 8) (by omega) (by omega)

/-- The bytes of a text of n, and 0 behind them. -/
def upTo (y : Nat → Nat) (n j : Nat) : Nat := if j < n then y j else 0
/-- A key's block: byte j. -/
def kb (y : Nat → Nat) (n : Nat) : Nat → Nat := if n > 64 then upTo (fun j => dByte (shaSt y n) j) 32 else upTo y n
theorem upTo_lt {y : Nat → Nat} (hy : ∀ j, y j < 256) (n j : Nat) : upTo y n j < 256 := by
  unfold upTo
  split
  · exact hy j
  · omega
theorem dByte_lt (s : St) (i : Nat) : dByte s i < 256 := Nat.mod_lt _ (by omega)
theorem kb_lt {y : Nat → Nat} (hy : ∀ j, y j < 256) (n j : Nat) : kb y n j < 256 := by
  unfold kb
  split
  · exact upTo_lt (fun j => dByte_lt _ j) _ _
  · exact upTo_lt hy _ _
/-- The same, as a cell, each byte exclusive-ored with x. -/
def kx (k : Nat → Nat) (x : Nat) (j : Nat) : Value := .int .u8 ((k j ^^^ x : Nat) : Int)

/-- A byte of a text that lies below a number of blocks. -/
theorem src_cell {w w' : World} {A : Option Addr} {n g B : Nat} {y : Nat → Nat} (h : Src w A n y g) (hb : Below B w w') (hB : w.heap.size ≤ B) {i : Nat} (hi : i < n) :
    ∃ b o, A = some ⟨b, o, none⟩ ∧ w'.cell? ⟨b, o + i, none⟩ = some (.int .u8 (y i : Nat)) := by
  rcases h with h | ⟨b, o, rfl, hlt, _, hc⟩
  · omega
  · exact ⟨b, o, rfl, (hb.cell (by show b < B; omega)).trans (hc i hi)⟩
set_option maxRecDepth 100000 in
set_option maxHeartbeats 8000000 in
theorem block_calls (A : Option Addr) (n c : Nat) (y : Nat → Nat) (hy : ∀ j, y j < 256) (hn : n ≤ 1048576) (x : Nat) (hx : x < 256) (w : World) (hS : Src w A n y w.heap.size)
    (K : Calls Tryd.prog 11 #[.slice A n c] w fun e w' => e = .returned (.agg (dgst y n)) ∧ Below w.heap.size w w') :
    Calls Tryd.prog 12 #[.slice A n c, .int .u8 (x : Int)] w fun e w' => ∃ g cap, e = .returned (.slice (some ⟨g, 0, none⟩) 64 cap) ∧ Own w' w.heap.size 5 (.slice (some ⟨g, 0, none⟩) 64 cap) 64 (kx (kb y n) x) ∧ Below w.heap.size w w' := by
  obtain ⟨i8, hi8, hz0, hz1, hz2⟩ := info_parts infoB3
  have HI := veil (And.intro hi8 (And.intro hz0 (And.intro hz1 hz2)))
  have HX := veil hx
  have HK0 := veil K
  clear hi8 hz0 hz1 hz2 hx K
  go_enter Tryd.func12, Tryd.ntmps12
  by_cases hlong : n > 64
  · have HSZ := veil (And.intro (dgst_size y n) (And.intro (show (dgst y n).all (·.oneCell') = true from arrOf_one fun _ _ => rfl) (show (Tryd.prog.info? 26).map (·.size) = some (dgst y n).size by rw [dgst_size]; exact infoD)))
    obtain ⟨y', hy'⟩ : ∃ y' : Nat → Nat, y' = fun j => dByte (shaSt y n) j := ⟨_, rfl⟩
    have HK := veil (show ∀ j, j < 64 → kb y n j = upTo y' 32 j from fun j _ => by unfold kb; rw [if_pos hlong, hy'])
    have HYw := veil (show ∀ j, y' j < 256 from fun j => by rw [hy']; exact dByte_lt _ j)
    obtain ⟨D, hD⟩ : ∃ D, D = dgst y n := ⟨_, rfl⟩
    rw [← hD] at HSZ HK0
    have HD := veil hD
    clear hD hS hy
    go_upto_region 3 with (first
      | ((with_reducible refine (HK0.out).mono ?_); rintro e w1 ⟨rfl, hb1⟩)
      | ((with_reducible refine at_none ?_); refine wpList_store_row rfl 26 _ _ rfl w1.heap.size D rfl rfl 26 _ (heap_alloc_last w1 _) HSZ.out.2.2 (by rw [HSZ.out.1]; rfl) HSZ.out.2.1 ?_; rw [World.setRow_alloc_new]))
    have hr1 : (w1.alloc (.cells D 26)).rowIs w1.heap.size 26 32 (fun j => .int .u8 (dByte (shaSt y n) j : Nat)) := by rw [HD.out]; exact row_made w1 32 26 _ rfl
    have hb2 : Below w.heap.size w (w1.alloc (.cells D 26)) := hb1.alloc hb1.size _
    have hs2 := hb2.size
    obtain ⟨gD, hgD⟩ : ∃ gD, gD = w1.heap.size := ⟨_, rfl⟩
    rw [← hgD] at hr1
    generalize w1.alloc (.cells D 26) = ws at *
    have hgl := hr1.lt
    have HSw : Hid (Src ws (some ⟨gD, 0, none⟩) 32 y' ws.heap.size) := veil (.inr ⟨gD, 0, rfl, hgl, by omega, fun j hj => by rw [Nat.zero_add, hy']; exact hr1.cell hj⟩)
    obtain ⟨bs, hbs⟩ : ∃ bs, bs = ws.heap.size := ⟨_, rfl⟩
    have HBS := veil (show ws.heap.size ≤ bs by omega)
    have HB0 := veil hb2
    have hbw : w.heap.size ≤ bs := by omega
    clear hr1 hb1 HK0 hy'
    rw [← hgD]
    clear hgD
    go_upto_region 6 with (fail)
    go_loopw [6, 7] (fun v6 v7 wr => ∃ i : Nat, i ≤ 64 ∧ v7 = .int .i64 (i : Int) ∧ Own wr bs 5 v6 i (kx (kb y n) x) ∧ Below bs ws wr ∧ bs ≤ wr.heap.size)
      (fun _ v7 _ => 64 - (intOf v7).toNat)
    case atStart => exact ⟨0, by omega, rfl, Own.nil _ _ _ _, Below.refl _ _, by omega⟩
    case round =>
      obtain ⟨i, hi, rfl, hO, hB, hzr⟩ := hrel
      by_cases hlt : i < 64
      · by_cases hin : i < 32
        · obtain ⟨b0, o0, hA0, hcell⟩ := src_cell HSw.out hB HBS.out hin
          obtain ⟨Y, hY⟩ : ∃ Y, Y = y' i := ⟨_, rfl⟩
          rw [← hY] at hcell
          have hYl : Y < 256 := by rw [hY]; exact HYw.out i
          have HYi := veil hY
          clear hY
          obtain ⟨rfl, rfl⟩ : gD = b0 ∧ 0 = o0 := by injection hA0 with e; injection e with e1 e2; exact ⟨e1, e2⟩
          rw [Nat.zero_add] at hcell
          have hxor := xor8 Y x hYl HX.out
          have HA := veil (And.intro (hO.alloc (.cells #[.int .u8 ((Y ^^^ x : Nat) : Int)] 5)) (from_new wr (.int .u8 ((Y ^^^ x : Nat) : Int)) 5))
          have HBr := veil hB
          have HOr := veil hO
          clear hO hB
          go_wp2_with ((with_reducible refine at_slot 32 ?_); refine wpList_append_from _ rfl _ _ 22 rfl bs 5 i8 (.int .u8 0) 1 Tryd.underlying22 HI.out.1 HI.out.2.1 HI.out.2.2.1 HI.out.2.2.2 rfl u6 i _ rfl HA.out.1 (some ⟨wr.heap.size, 0, none⟩) 1 1 rfl _ HA.out.2 (fun _ => rfl) (by unfold maxLen; omega) (by omega) (by simp; omega) ?_; intro v4 w3 hO3 hg3 hat3)
          have hB3 : Below bs ws w3 := (HBr.out.alloc (by omega) _).grown hg3 (by simp; omega) (fun k e => (HOr.out.lt e).1)
          have hz3 : bs ≤ w3.heap.size := by have := hg3.size; simp at this; omega
          replace hO3 : Own w3 bs 5 v4 (i + 1) (kx (kb y n) x) := hO3.congr fun j hj => by
            by_cases h : j < i
            · rw [if_pos h]
            · obtain rfl : j = i := by omega
              rw [if_neg h]
              show _ = Value.int .u8 _
              rw [HK.out j (by omega)]
              unfold upTo
              rw [if_pos hin, HYi.out]
          clear hg3 hat3 HA HOr HBr
          go_roundw
          case rel => exact ⟨i + 1, by omega, by go_num, hO3, hB3, hz3⟩
          case measure => simp [intOf]; omega
        · obtain ⟨Z, hZ⟩ : ∃ Z : Nat, Z = 0 ^^^ x := ⟨_, rfl⟩
          have HZ := veil hZ
          have hxor : bits .xor .u8 0 (x : Int) = (Z : Int) := by rw [hZ]; exact xor8 0 x (by decide) HX.out
          clear hZ
          have HA := veil (And.intro (hO.alloc (.cells #[.int .u8 (Z : Int)] 5)) (from_new wr (.int .u8 (Z : Int)) 5))
          have HBr := veil hB
          have HOr := veil hO
          clear hO hB
          go_wp2_with ((with_reducible refine at_slot 32 ?_); refine wpList_append_from _ rfl _ _ 22 rfl bs 5 i8 (.int .u8 0) 1 Tryd.underlying22 HI.out.1 HI.out.2.1 HI.out.2.2.1 HI.out.2.2.2 rfl u6 i _ rfl HA.out.1 (some ⟨wr.heap.size, 0, none⟩) 1 1 rfl _ HA.out.2 (fun _ => rfl) (by unfold maxLen; omega) (by omega) (by simp; omega) ?_; intro v4 w3 hO3 hg3 hat3)
          have hB3 : Below bs ws w3 := (HBr.out.alloc (by omega) _).grown hg3 (by simp; omega) (fun k e => (HOr.out.lt e).1)
          have hz3 : bs ≤ w3.heap.size := by have := hg3.size; simp at this; omega
          replace hO3 : Own w3 bs 5 v4 (i + 1) (kx (kb y n) x) := hO3.congr fun j hj => by
            by_cases h : j < i
            · rw [if_pos h]
            · obtain rfl : j = i := by omega
              rw [if_neg h]
              show _ = Value.int .u8 _
              rw [HK.out j (by omega)]
              unfold upTo
              rw [if_neg hin, HZ.out]
          clear hg3 hat3 HA HOr HBr
          go_roundw
          case rel => exact ⟨i + 1, by omega, by go_num, hO3, hB3, hz3⟩
          case measure => simp [intOf]; omega
      · obtain rfl : i = 64 := by omega
        go_wp2
        go_ret
        obtain ⟨g, cap, rfl, _, _, _⟩ := hO.pre (by omega)
        exact ⟨g, cap, rfl, hO.base_le (by omega), HB0.out.trans (hB.mono (by omega))⟩
  · have HSw := veil hS
    have HYw := veil hy
    have HK := veil (show ∀ j, j < 64 → kb y n j = upTo y n j from fun j _ => by unfold kb; rw [if_neg hlong])
    obtain ⟨ws, hws⟩ : ∃ ws, ws = w := ⟨_, rfl⟩
    obtain ⟨bs, hbs⟩ : ∃ bs, bs = ws.heap.size := ⟨_, rfl⟩
    subst hws
    have HBS := veil (show ws.heap.size ≤ bs by omega)
    have HB0 := veil (Below.refl ws.heap.size ws)
    clear hS hy HK0
    go_upto_region 6 with (fail)
    go_loopw [6, 7] (fun v6 v7 wr => ∃ i : Nat, i ≤ 64 ∧ v7 = .int .i64 (i : Int) ∧ Own wr bs 5 v6 i (kx (kb y n) x) ∧ Below bs ws wr ∧ bs ≤ wr.heap.size)
      (fun _ v7 _ => 64 - (intOf v7).toNat)
    case atStart => exact ⟨0, by omega, rfl, Own.nil _ _ _ _, Below.refl _ _, by omega⟩
    case round =>
      obtain ⟨i, hi, rfl, hO, hB, hzr⟩ := hrel
      by_cases hlt : i < 64
      · by_cases hin : i < n
        · obtain ⟨b0, o0, hA0, hcell⟩ := src_cell HSw.out hB HBS.out hin
          obtain ⟨Y, hY⟩ : ∃ Y, Y = y i := ⟨_, rfl⟩
          rw [← hY] at hcell
          have hYl : Y < 256 := by rw [hY]; exact HYw.out i
          have HYi := veil hY
          clear hY
          subst hA0
          have hxor := xor8 Y x hYl HX.out
          have HA := veil (And.intro (hO.alloc (.cells #[.int .u8 ((Y ^^^ x : Nat) : Int)] 5)) (from_new wr (.int .u8 ((Y ^^^ x : Nat) : Int)) 5))
          have HBr := veil hB
          have HOr := veil hO
          clear hO hB
          go_wp2_with ((with_reducible refine at_slot 32 ?_); refine wpList_append_from _ rfl _ _ 22 rfl bs 5 i8 (.int .u8 0) 1 Tryd.underlying22 HI.out.1 HI.out.2.1 HI.out.2.2.1 HI.out.2.2.2 rfl u6 i _ rfl HA.out.1 (some ⟨wr.heap.size, 0, none⟩) 1 1 rfl _ HA.out.2 (fun _ => rfl) (by unfold maxLen; omega) (by omega) (by simp; omega) ?_; intro v4 w3 hO3 hg3 hat3)
          have hB3 : Below bs ws w3 := (HBr.out.alloc (by omega) _).grown hg3 (by simp; omega) (fun k e => (HOr.out.lt e).1)
          have hz3 : bs ≤ w3.heap.size := by have := hg3.size; simp at this; omega
          replace hO3 : Own w3 bs 5 v4 (i + 1) (kx (kb y n) x) := hO3.congr fun j hj => by
            by_cases h : j < i
            · rw [if_pos h]
            · obtain rfl : j = i := by omega
              rw [if_neg h]
              show _ = Value.int .u8 _
              rw [HK.out j (by omega)]
              unfold upTo
              rw [if_pos hin, HYi.out]
          clear hg3 hat3 HA HOr HBr
          go_roundw
          case rel => exact ⟨i + 1, by omega, by go_num, hO3, hB3, hz3⟩
          case measure => simp [intOf]; omega
        · obtain ⟨Z, hZ⟩ : ∃ Z : Nat, Z = 0 ^^^ x := ⟨_, rfl⟩
          have HZ := veil hZ
          have hxor : bits .xor .u8 0 (x : Int) = (Z : Int) := by rw [hZ]; exact xor8 0 x (by decide) HX.out
          clear hZ
          have HA := veil (And.intro (hO.alloc (.cells #[.int .u8 (Z : Int)] 5)) (from_new wr (.int .u8 (Z : Int)) 5))
          have HBr := veil hB
          have HOr := veil hO
          clear hO hB
          go_wp2_with ((with_reducible refine at_slot 32 ?_); refine wpList_append_from _ rfl _ _ 22 rfl bs 5 i8 (.int .u8 0) 1 Tryd.underlying22 HI.out.1 HI.out.2.1 HI.out.2.2.1 HI.out.2.2.2 rfl u6 i _ rfl HA.out.1 (some ⟨wr.heap.size, 0, none⟩) 1 1 rfl _ HA.out.2 (fun _ => rfl) (by unfold maxLen; omega) (by omega) (by simp; omega) ?_; intro v4 w3 hO3 hg3 hat3)
          have hB3 : Below bs ws w3 := (HBr.out.alloc (by omega) _).grown hg3 (by simp; omega) (fun k e => (HOr.out.lt e).1)
          have hz3 : bs ≤ w3.heap.size := by have := hg3.size; simp at this; omega
          replace hO3 : Own w3 bs 5 v4 (i + 1) (kx (kb y n) x) := hO3.congr fun j hj => by
            by_cases h : j < i
            · rw [if_pos h]
            · obtain rfl : j = i := by omega
              rw [if_neg h]
              show _ = Value.int .u8 _
              rw [HK.out j (by omega)]
              unfold upTo
              rw [if_neg hin, HZ.out]
          clear hg3 hat3 HA HOr HBr
          go_roundw
          case rel => exact ⟨i + 1, by omega, by go_num, hO3, hB3, hz3⟩
          case measure => simp [intOf]; omega
      · obtain rfl : i = 64 := by omega
        go_wp2
        go_ret
        obtain ⟨g, cap, rfl, _, _, _⟩ := hO.pre (by omega)
        exact ⟨g, cap, rfl, hO.base_le (by omega), HB0.out.trans (hB.mono (by omega))⟩
end Go.Proofs.YtmgogcoafhompaaDoor
