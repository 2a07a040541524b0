/-
  MacParts: in whatever parts a text is, its code is the same; a key with a byte 0 behind it, up to 64 bytes, has the same codes. The package's table of round words is as its initialiser laid it (the tied row's condition).
-/
import Derived.Test.YtmgogcoafhompaaDoorM7
import Derived.Test.YtmgogcoafhompaaDoorTie
import Derived.Test.YtmgogcoafhompaaDoorCards
import Derived.SevenTiedAt
import Derived.WalkKit
import Derived.WalkSpells
import Derived.WalkLawsBesides
import Derived.Deep.LoopGhost
import Derived.Deep.Cut
import Derived.Deep.CutRange
import Derived.Deep.RegionHeld3
import Derived.BigQuiet
namespace Go.Proofs.YtmgogcoafhompaaDoor
open Go.RowKit

set_option maxRecDepth 100000 in
set_option maxHeartbeats 4000000 in
theorem parts_big (K B : Option Addr) (n c m d : Nat) (a : Int) (hb : 1000 < n ∨ 1000 < m ∨ a < 0 ∨ (m : Int) < a) (w : World) (hK : KT w) :
    Calls Tryd.prog 4 #[.slice K n c, .slice B m d, .int .i64 a] w fun e w' => e = .returned (.bool true) ∧ Below w.heap.size w w' := by
  have h1 : 1000 < n ∨ (n ≤ 1000 ∧ 1000 < m) ∨ (n ≤ 1000 ∧ m ≤ 1000 ∧ a < 0) ∨ (n ≤ 1000 ∧ m ≤ 1000 ∧ 0 ≤ a ∧ (m : Int) < a) := by omega
  clear hb
  rcases h1 with h | ⟨h, h2⟩ | ⟨h, h2, h3⟩ | ⟨h, h2, h3, h4⟩
  all_goals
    go_enter Tryd.func4, Tryd.ntmps4
    go_wp2_with fail
    refine (up_calls w hK).mono ?_
    rintro e w1 ⟨rfl, hb1⟩
    clear hK
    go_wp2
    go_ret
    exact ⟨rfl, hb1⟩

/-- One part in a block of its own. -/
theorem part_one {W : World} {b m d : Nat} {B : Option Addr} {t : Nat → Nat} (ht : ∀ j, t j < 256) (hb : W.cell? ⟨b, 0, none⟩ = some (.slice B m d)) (hs : Src W B m t W.heap.size) (hd : m ≤ d) :
    Parts3 W (some ⟨b, 0, none⟩) 1 (fun _ => B) (fun _ => m) (fun _ => d) (fun _ => t) where
  row := .inr ⟨b, 0, rfl, World.block_lt_of_cell? W _ hb, fun r hr => by obtain rfl : r = 0 := by omega
                                                                         exact hb⟩
  src := fun _ _ => hs
  cap := fun _ _ => hd
  lt := fun _ => ht
theorem macD_congr {y y' t t' : Nat → Nat} {n n' m : Nat} (hy : ∀ i, kb y n i = kb y' n' i) (ht : ∀ i, i < m → t i = t' i) : macD y n t m = macD y' n' t' m := by
  have hk : kb y n = kb y' n' := funext hy
  have h1 : ∀ i, i < 64 + m → macIn y n t i = macIn y' n' t' i := fun i hi => by
    unfold macIn cat
    rw [hk]
    by_cases h : i < 64
    · rw [if_pos h, if_pos h]
    · rw [if_neg h, if_neg h, ht _ (by omega)]
  unfold macD
  refine dgst_congr fun i _ => ?_
  unfold macOut cat
  rw [hk, shaSt_congr h1]

/-! ### what a region keeps: the sum's cells, and all that is old -/
theorem kpD {w5 W : World} {g : Nat} {L : List Value} (h : W.rangeAt g 0 L ∧ Below w5.heap.size w5 W) : W.drew.rangeAt g 0 L ∧ Below w5.heap.size w5 W.drew := ⟨h.1, h.2.drew⟩
theorem kpA {w5 W : World} {g : Nat} {L : List Value} {o : Obj} (hg : g < w5.heap.size) (h : W.rangeAt g 0 L ∧ Below w5.heap.size w5 W) : (W.alloc o).rangeAt g 0 L ∧ Below w5.heap.size w5 (W.alloc o) :=
  ⟨range_block h.1 (Below.heap_alloc _ _ _ (by have := h.2.size; omega)), h.2.alloc h.2.size o⟩
theorem kpC {w5 W W' : World} {g : Nat} {L : List Value} (hb : Below W.heap.size W W') (hg : g < w5.heap.size) (h : W.rangeAt g 0 L ∧ Below w5.heap.size w5 W) : W'.rangeAt g 0 L ∧ Below w5.heap.size w5 W' :=
  ⟨range_block h.1 (hb.block g (by have := h.2.size; omega)), h.2.trans (hb.mono h.2.size)⟩
theorem kqD {w5 W : World} {g : Nat} {L : List Value} (h : W.rangeAt g 0 L ∧ Below (g + 1) w5 W) : W.drew.rangeAt g 0 L ∧ Below (g + 1) w5 W.drew := ⟨h.1, h.2.drew⟩
theorem kqA {w5 W : World} {g : Nat} {L : List Value} {o : Obj} (hg : g < w5.heap.size) (h : W.rangeAt g 0 L ∧ Below (g + 1) w5 W) : (W.alloc o).rangeAt g 0 L ∧ Below (g + 1) w5 (W.alloc o) :=
  ⟨range_block h.1 (Below.heap_alloc _ _ _ (by have := h.2.size; omega)), h.2.alloc (by have := h.2.size; omega) o⟩
theorem kqC {w5 W W' : World} {g : Nat} {L : List Value} (hb : Below W.heap.size W W') (hg : g < w5.heap.size) (h : W.rangeAt g 0 L ∧ Below (g + 1) w5 W) : W'.rangeAt g 0 L ∧ Below (g + 1) w5 W' :=
  ⟨range_block h.1 (hb.block g (by have := h.2.size; omega)), h.2.trans (hb.mono (by have := h.2.size; omega))⟩
theorem kqG {w5 W W' : World} {g : Nat} {L : List Value} {row : Option Nat} (hg : W.grownBy W' row) (hr : ∀ k, row = some k → g + 1 ≤ k) (hlt : g < w5.heap.size) (h : W.rangeAt g 0 L ∧ Below (g + 1) w5 W) : W'.rangeAt g 0 L ∧ Below (g + 1) w5 W' :=
  ⟨range_block h.1 (hg.block g (by have := h.2.size; omega) (fun e => by have := hr g e.symm; omega)), h.2.grown hg (by have := h.2.size; omega) hr⟩
/-- Three parts: the text cut in two, nothing between. -/
theorem parts_three {W : World} {g m d a : Nat} {B : Option Addr} {t : Nat → Nat} (ht : ∀ j, t j < 256) (hmd : m ≤ d) (ha : a ≤ m) (h0 : W.cell? ⟨g, 0, none⟩ = some (.slice (cutA B 0 d) a d)) (h1 : W.cell? ⟨g, 1, none⟩ = some (.slice none 0 0))
    (h2 : W.cell? ⟨g, 2, none⟩ = some (.slice (cutA B a d) (m - a) (d - a))) (hs : Src W B m t W.heap.size) :
    Parts3 W (some ⟨g, 0, none⟩) 3 (fun r => if r = 0 then cutA B 0 d else if r = 1 then none else cutA B a d) (fun r => if r = 0 then a else if r = 1 then 0 else m - a) (fun r => if r = 0 then d else if r = 1 then 0 else d - a) (fun r => if r = 0 then t else if r = 1 then fun _ => 0 else fun j => t (a + j)) where
  row := .inr ⟨g, 0, rfl, World.block_lt_of_cell? W _ h0, fun r hr => by
    rw [Nat.zero_add]
    match r, hr with
    | 0, _ => exact h0
    | 1, _ => exact h1
    | 2, _ => exact h2⟩
  src := fun r hr => by
    match r, hr with
    | 0, _ => exact hs.head ha hmd
    | 1, _ => exact .inl rfl
    | 2, _ => exact hs.cut ha hmd
  cap := fun r hr => by
    match r, hr with
    | 0, _ => show a ≤ d; omega
    | 1, _ => exact Nat.le_refl 0
    | 2, _ => show m - a ≤ d - a; omega
  lt := fun r j => by
    split
    · exact ht j
    · split
      · show (0 : Nat) < 256; decide
      · exact ht _
theorem text_three {m a : Nat} {t : Nat → Nat} {i : Nat} (_ : i < m) : textN (fun r => if r = 0 then a else if r = 1 then 0 else m - a) (fun r => if r = 0 then t else if r = 1 then fun _ => 0 else fun j => t (a + j)) 3 i = t i := by
  show cat (cat (cat _ 0 t) (0 + a) _) (0 + a + 0) (fun j => t (a + j)) i = t i
  rw [cat_none, Nat.zero_add, Nat.add_zero]
  unfold cat
  by_cases h : i < a
  · rw [if_pos h, if_pos h]
  · rw [if_neg h]; show t (a + (i - a)) = t i; congr 1; omega
theorem len_three {m a : Nat} (ha : a ≤ m) : lenN (fun r => if r = 0 then a else if r = 1 then 0 else m - a) 3 = m := by
  show 0 + a + 0 + (m - a) = m
  omega
theorem cell_keptB {X w7 : World} {Z : Obj} {Q : Array Value} {t : Nat} {row : Option Nat} {v : Value} (hg : ((X.alloc Z).alloc (.cells Q t)).drew.grownBy w7 row) (hne : row ≠ some (X.heap.size + 1)) (h0 : Q[0]? = some v) : w7.cell? ⟨X.heap.size + 1, 0, none⟩ = some v := by
  have h := hg.block (X.heap.size + 1) (by simp [World.drew]) (fun e => hne e.symm)
  rw [World.cell?_of_block (a := ⟨X.heap.size + 1, 0, none⟩) h, World.cell?_drew, show X.heap.size + 1 = (X.alloc Z).heap.size by simp, World.cell?_alloc_mark]
  exact h0
theorem cell_keptC {X w7 : World} {Z : Obj} {Q : Array Value} {t : Nat} {row : Option Nat} {v : Value} (hg : ((X.alloc (.cells Q t)).alloc Z).drew.grownBy w7 row) (hne : row ≠ some X.heap.size) (h0 : Q[0]? = some v) : w7.cell? ⟨X.heap.size, 0, none⟩ = some v := by
  have h := hg.block X.heap.size (by simp [World.drew]; omega) (fun e => hne e.symm)
  rw [World.cell?_of_block (a := ⟨X.heap.size, 0, none⟩) h, World.cell?_drew, World.cell?_of_block (a := ⟨X.heap.size, 0, none⟩) (Below.heap_alloc (X.alloc (.cells Q t)) Z X.heap.size (by simp)), World.cell?_alloc_mark]
  exact h0
/-- A key with a byte 0 behind it, up to 64 bytes, has the same block. -/
theorem kb_more {y : Nat → Nat} {n : Nat} (hn : n ≤ 63) (i : Nat) : kb (cat y n fun _ => 0) (n + 1) i = kb y n i := by
  unfold kb
  rw [if_neg (by omega), if_neg (by omega)]
  unfold upTo cat
  by_cases h : i < n
  · have h1 : i < n + 1 := by omega
    simp only [h, h1, if_true]
  · simp only [h, if_false, ite_self]
set_option maxRecDepth 100000 in
set_option maxHeartbeats 8000000 in
theorem parts_small (K B : Option Addr) (n c m d a : Nat) (y t : Nat → Nat) (hy : ∀ j, y j < 256) (ht : ∀ j, t j < 256) (hn : n ≤ 1000) (hm : m ≤ 1000) (hnc : n ≤ c) (hmd : m ≤ d) (ha : a ≤ m) (w : World) (hK : KT w) (hS : Src w K n y w.heap.size) (hT : Src w B m t w.heap.size) :
    Calls Tryd.prog 4 #[.slice K n c, .slice B m d, .int .i64 (a : Int)] w fun e w' => e = .returned (.bool true) ∧ Below w.heap.size w w' := by
  obtain ⟨i8, hi8, hz0, hz1, hz2⟩ := info_parts infoB3
  have HI := veil (And.intro hi8 (And.intro hz0 (And.intro hz1 hz2)))
  have HY := veil (And.intro hy ht)
  have hni : (n : Int) ≤ 1000 := by omega
  have hmi : (m : Int) ≤ 1000 := by omega
  have hai : (a : Int) ≤ (m : Int) := by omega
  have HS := veil (And.intro hS hT)
  have HK := veil hK
  have hg0 := hK.lt
  clear hi8 hz0 hz1 hz2 hy ht hS hT
  go_enter Tryd.func4, Tryd.ntmps4
  go_wp2_with fail
  refine (up_calls w hK).mono ?_
  rintro e w1 ⟨rfl, hb1⟩
  clear hK
  go_upto_region 4 with (fail)
  obtain ⟨D, hD⟩ : ∃ D, D = macD y n t m := ⟨_, rfl⟩
  have HZ := veil (show D.size = 32 ∧ D.all (·.oneCell') = true ∧ (Tryd.prog.info? 26).map (·.size) = some D.size from by
    rw [hD]; exact ⟨dgst_size _ _, arrOf_one fun _ _ => rfl, by show _ = some (dgst _ _).size; rw [dgst_size]; exact infoD⟩)
  have hc2 : (w1.alloc (.cells #[.slice B m d] 22)).cell? ⟨w1.heap.size, 0, none⟩ = some (.slice B m d) := by rw [World.cell?_alloc_mark]; rfl
  have hB2 := hb1.alloc hb1.size (.cells #[.slice B m d] 22)
  have hOf := ofmac_calls K n c y HY.out.1 hnc (by omega) (some ⟨w1.heap.size, 0, none⟩) 1 1 (fun _ => B) (fun _ => m) (fun _ => d) (fun _ => t) (by decide) (by show 0 + m ≤ 100000; omega) _ (kt_now HK.out hB2) (src_now HS.out.1 hB2 hB2.size) (part_one HY.out.2 hc2 (src_now HS.out.2 hB2 hB2.size) hmd)
  rw [show textN (fun _ => m) (fun _ => t) 1 = t from cat_none _ t, show lenN (fun _ => m) 1 = m from Nat.zero_add m, ← hD] at hOf
  have HOf := veil hOf
  have HD := veil hD
  clear hOf hD hc2
  go_upto_region 5 with (first
    | (go_at_call 6; refine HOf.out.mono ?_; rintro e w3 ⟨rfl, hb3⟩)
    | ((with_reducible refine at_none ?_); refine wpList_store_row rfl 26 _ _ rfl w3.heap.size D rfl rfl 26 _ (heap_alloc_last w3 _) HZ.out.2.2 (by rw [HZ.out.1]; rfl) HZ.out.2.1 ?_; rw [World.setRow_alloc_new]))
  have hB3 := hB2.trans (hb3.mono hB2.size)
  have hR4 : (w3.alloc (.cells D 26)).heap[w3.heap.size]? = some (.cells D 26 (0, 0)) := heap_alloc_last w3 _
  have hB4 := hB3.alloc hB3.size (.cells D 26)
  have hle3 := hB3.size
  have hlt4 : w3.heap.size < (w3.alloc (.cells D 26)).heap.size := by simp
  generalize w3.alloc (.cells D 26) = w4 at *
  generalize w3.heap.size = gD at *
  clear hb1 hB2 hb3 hB3 HOf
  have hO := Own.made (e := 5) (f := fun _ => .int .u8 0) w4 (cs := #[]) (base := gD + 1) (by omega) (by decide) (fun i hi => by simp at hi)
  have hB4a := hB4.alloc hB4.size (.cells #[] 5)
  have hR4a := (Below.heap_alloc w4 (.cells #[] 5) gD hlt4).trans hR4
  have HA := veil (And.intro hO (from_now HS.out.1 hB4a))
  have HR4 := veil hR4a
  clear hO hR4 hR4a
  go_upto_region 6 with ((with_reducible refine at_slot 36 ?_); refine wpList_append_from _ rfl _ _ 22 rfl (gD + 1) 5 i8 (.int .u8 0) 1 Tryd.underlying22 HI.out.1 HI.out.2.1 HI.out.2.2.1 HI.out.2.2.2 rfl (.slice (some ⟨w4.heap.size, 0, none⟩) 0 0) 0 _ rfl HA.out.1 K n c rfl _ HA.out.2 (fun _ => rfl) (by unfold maxLen; omega) (by omega) (by simp; omega) ?_; intro v5 w5 hO5 hg5 hat5)
  have hO5 : Own w5 (gD + 1) 5 v5 n (fun j => .int .u8 (y j : Nat)) := by
    have := hO5
    rw [Nat.zero_add] at this
    exact this.congr fun j hj => by rw [if_neg (by omega), Nat.sub_zero]
  have hR5 := (hg5.block gD (by simp; omega) (by simp [Value.ownBlock]; omega)).trans HR4.out
  have hB5 := hB4a.grown hg5 (by simp; omega) (fun k e => by simp [Value.ownBlock] at e; omega)
  have hlt5 : gD < w5.heap.size := by have := hg5.size; simp at this; omega
  clear hg5 hat5 HA hB4 hB4a HR4
  obtain ⟨A3, c3, rfl, hc3, hS3⟩ := src_own (g := w5.heap.size) hO5 (fun b e => by have := (hO5.lt e).2; omega)
  have q1 := fun W => cut_to B m d a (by omega) W
  have q2 := fun W => cut_from B m d a ha W
  have hle5 := hB5.size
  have HB5 := veil hB5
  have hOf : ∀ W g, Below w5.heap.size w5 W → W.cell? ⟨g, 0, none⟩ = some (.slice (cutA B 0 d) a d) → W.cell? ⟨g, 1, none⟩ = some (.slice none 0 0) → W.cell? ⟨g, 2, none⟩ = some (.slice (cutA B a d) (m - a) (d - a)) →
      Calls Tryd.prog 6 #[.slice A3 n c3, .slice (some ⟨g, 0, none⟩) 3 3] W fun e W' => e = .returned (.agg D) ∧ Below W.heap.size W W' := fun W g hb h0 h1 h2 => by
    have hbW := hB5.trans (hb.mono hle5)
    have h := ofmac_calls A3 n c3 y HY.out.1 hc3 (by omega) _ 3 3 _ _ _ _ (by decide) (by rw [len_three ha]; omega) W (kt_now HK.out hbW) (src_now hS3 hb hb.size) (parts_three HY.out.2 hmd ha h0 h1 h2 (src_now HS.out.2 hbW hbW.size))
    rw [len_three ha, macD_congr (fun _ => rfl) (fun i hi => text_three hi), ← HD.out] at h
    exact h
  have HOf := veil hOf
  have k1 : ∀ W, Below w5.heap.size w5 W → (convert 22 9 (.slice A3 n c3)).run Tryd.prog W = .ok (.string (bstr y n)) W := fun W hb => str_src (src_now hS3 hb (Nat.le_refl _))
  have k2 : ∀ W, Below w5.heap.size w5 W → (convert 22 9 (.slice K n c)).run Tryd.prog W = .ok (.string (bstr y n)) W := fun W hb => str_src (src_now HS.out.1 (hB5.trans (hb.mono hle5)) (Nat.le_refl _))
  have kq : ∀ W, (binOp .neq 26 (.agg D) (.agg D)).run Tryd.prog W = .ok (.bool false) W := fun W => by rw [HD.out]; exact neq_dgst (macOut y n t m) 96 W
  have hu := Tryd.underlying26
  have hii : (Tryd.prog.info? 26).map (·.size) = some D.toList.length := by rw [Array.length_toList]; exact HZ.out.2.2
  have hl32 : D.toList.length = 32 := by rw [Array.length_toList]; exact HZ.out.1
  have hone : ∀ v ∈ D.toList, v.oneCell' = true := fun v hv => (Array.all_eq_true_iff_forall_mem.1 HZ.out.2.1) v (by simpa using hv)
  have hT : D.toList.toArray = D := by simp
  have hrg : w5.rangeAt gD 0 D.toList := fun j v hv => by
    rw [Nat.zero_add, cell_of_row w5 gD j D 26 (0, 0) hR5]
    simpa using hv
  obtain ⟨L, hL⟩ : ∃ L, L = D.toList := ⟨_, rfl⟩
  rw [← hL] at hii hl32 hone hT hrg
  have hS0 : w5.rangeAt gD 0 L ∧ Below w5.heap.size w5 w5 := ⟨hrg, Below.refl _ _⟩
  have HO5 := veil hO5
  clear hL hOf hO5 hB5 hR5 hS3
  go_region_held3 (fun w' => w'.rangeAt gD 0 L ∧ Below w5.heap.size w5 w')
    (first
      | with_reducible assumption
      | exact hS0
      | exact kpD hS0
      | exact kpD (kpA hlt5 hS0)
      | exact kpA hlt5 (kpD hS0)
      | exact kpC hb' hlt5 (by assumption))
    (first
      | (go_at_call 6; refine (HOf.out _ w5.heap.size (kpD (kpA hlt5 hS0)).2 (by rw [World.cell?_drew, World.cell?_alloc_mark]; rfl) (by rw [World.cell?_drew, World.cell?_alloc_mark]; rfl) (by rw [World.cell?_drew, World.cell?_alloc_mark]; rfl)).mono ?_; rintro e w' ⟨rfl, hb'⟩; have hrf := (kpC hb' hlt5 (kpD (kpA hlt5 hS0))).2))
  rename (_ ∧ Below w5.heap.size w5 w') => hHeld
  have hB6 := HB5.out.trans (hHeld.2.mono hle5)
  have hO6 := HO5.out.call hHeld.2
  have hrg6 := hHeld.1
  have hle6 : gD < w'.heap.size := by have := hHeld.2.size; omega
  clear hHeld hrf hb' hS0 hrg k1 k2 q1 q2 HOf HB5 HO5 hO5 hle5 hlt5 hlt4 kq
  have kq : ∀ W, (binOp .eql 26 (.agg D) (.agg D)).run Tryd.prog W = .ok (.bool true) W := fun W => by rw [HD.out]; exact eql_dgst (macOut y n t m) 96 W
  go_upto_region 8 with (fail)
  by_cases hk : n ≤ 63
  · have hki : (n : Int) ≤ 63 := by omega
    have hki2 : ¬ ((63 : Int) < (n : Int)) := by omega
    have hS0 : w'.rangeAt gD 0 L ∧ Below (gD + 1) w' w' := ⟨hrg6, Below.refl _ _⟩
    have hb6 : ∀ W, Below (gD + 1) w' W → Below w.heap.size w W := fun W hb => hB6.trans (hb.mono (by omega))
    have hOf : ∀ W A c7 g, Below (gD + 1) w' W → Own W (gD + 1) 5 (.slice A (n + 1) c7) (n + 1) (fun j => .int .u8 (cat y n (fun _ => 0) j : Nat)) → W.cell? ⟨g, 0, none⟩ = some (.slice B m d) → Calls Tryd.prog 6 #[.slice A (n + 1) c7, .slice (some ⟨g, 0, none⟩) 1 1] W fun e W' => e = .returned (.agg D) ∧ Below W.heap.size W W' := fun W A c7 g hb ho hc => by
      obtain ⟨A', c', e, hc', hs⟩ := src_own (g := W.heap.size) ho (fun b e => by have := (ho.lt e).2; omega)
      obtain ⟨rfl, rfl⟩ : A = A' ∧ c7 = c' := by injection e with h1 _ h3; exact ⟨h1, h3⟩
      have h := ofmac_calls A (n + 1) c7 _ (cat_lt HY.out.1 (fun _ => by decide)) hc' (by omega) (some ⟨g, 0, none⟩) 1 1 (fun _ => B) (fun _ => m) (fun _ => d) (fun _ => t) (by decide) (by show 0 + m ≤ 100000; omega) W (kt_now HK.out (hb6 W hb)) hs (part_one HY.out.2 hc (src_now HS.out.2 (hb6 W hb) (hb6 W hb).size) hmd)
      rw [show textN (fun _ => m) (fun _ => t) 1 = t from cat_none _ t, show lenN (fun _ => m) 1 = m from Nat.zero_add m, macD_congr (y' := y) (n' := n) (kb_more hk) (fun _ _ => rfl), ← HD.out] at h
      exact h
    have HOf := veil hOf
    clear hOf hrg6
    go_region_held3 (fun W => W.rangeAt gD 0 L ∧ Below (gD + 1) w' W)
      (first
        | with_reducible assumption
        | exact hS0
        | exact kqD hS0
        | exact kqD (kqA hle6 hS0)
        | exact kqD (kqA hle6 (kqA hle6 hS0))
        | exact hS7
        | exact kqA hle6 hS7
        | exact kqC hb8 hle6 (by first | exact hS7 | exact kqA hle6 hS7))
      (first
        | (go_at_call 6; (first
            | ((with_reducible refine hkA.mono ?_); rintro e w8 ⟨rfl, hb8⟩)
            | (have hq := cell_keptB hg7 (fun e => by have := (hO6.lt e).2; omega) rfl; have hkB := HOf.out w7 A7 c7 (w'.heap.size + 1) hS7.2 hO7 hq; (with_reducible refine hkB.mono ?_); rintro e w8 ⟨rfl, hb8⟩)
            | (have hq := cell_keptC hg7 (fun e => by have := (hO6.lt e).2; omega) rfl; have hkC := HOf.out w7 A7 c7 w'.heap.size hS7.2 hO7 hq; (with_reducible refine hkC.mono ?_); rintro e w8 ⟨rfl, hb8⟩)
            | (trace_state; fail)))
        | ((with_reducible refine at_slotR 64 ?_); refine step_append_wanted _ (by rfl) _ _ 22 rfl (gD + 1) 5 i8 (.int .u8 0) 1 Tryd.underlying22 HI.out.1 HI.out.2.1 HI.out.2.2.1 HI.out.2.2.2 rfl (.slice A3 n c3) n _ rfl (by first | exact hO6.alloc _ | exact (hO6.alloc _).alloc _) (some ⟨_, 0, none⟩) 1 1 rfl (fun _ => .int .u8 ((0 : Nat) : Int)) (by first | exact from_new' w' _ _ rfl | exact from_alloc (from_new' w' _ _ rfl) _ | exact from_new' (w'.alloc _) _ _ (by simp)) (fun _ => rfl) (by unfold maxLen; omega) (by omega) (by simp [World.drew]; omega) ?_; intro v7 w7 hO7 hg7 _; have hS7 := kqG hg7 (fun k e => (hO6.lt e).1) hle6 (by first | exact kqD (kqA hle6 hS0) | exact kqD (kqA hle6 (kqA hle6 hS0))); replace hO7 := own_cat (y0 := y) (y1 := fun _ => 0) hO7; obtain ⟨A7, c7, rfl, -, -⟩ := own_slice hO7; have hkA := HOf.out (w7.alloc (.cells #[.slice B m d] 22)) A7 c7 w7.heap.size (kqA hle6 hS7).2 (hO7.alloc _) (by rw [World.cell?_alloc_mark]; rfl)))
    all_goals
      have hBz := hb6 w8 (by first | exact (kqC hb8 hle6 hS7).2 | exact (kqC hb8 hle6 (kqA hle6 hS7)).2)
      clear hu hT hone hl32 hii hS0 hS7 HOf hkA kq
      go_wp2
      go_ret
      exact ⟨rfl, hBz⟩
  · have hki : ¬ ((n : Int) ≤ 63) := by omega
    have hki2 : ((63 : Int) < (n : Int)) := by omega
    clear hrg6 hT hone hl32 hii hO6 kq
    go_quiet (fail)
    clear hu HZ
    go_wp2
    go_ret
    exact ⟨rfl, below_drewN hB6 _⟩

/-! ### the statement -/
section
open Go.ChangeShapes Go.WideShapes Go.ChangeAt
theorem parts_walk (K B : Option Addr) (n c m d : Nat) (a : Int) (y t : Nat → Nat) (hy : ∀ j, y j < 256) (ht : ∀ j, t j < 256) (hnc : n ≤ c) (hmd : m ≤ d) (w : World) (hK : KT w) (hS : Src w K n y w.heap.size) (hT : Src w B m t w.heap.size) :
    Calls Tryd.prog 4 #[.slice K n c, .slice B m d, .int .i64 a] w fun e w' => e = .returned (.bool true) ∧ Below w.heap.size w w' := by
  by_cases h : 1000 < n ∨ 1000 < m ∨ a < 0 ∨ (m : Int) < a
  · exact parts_big K B n c m d a h w hK
  · obtain ⟨b, rfl⟩ : ∃ b : Nat, a = (b : Int) := ⟨a.toNat, by omega⟩
    exact parts_small K B n c m d b y t hy ht (by omega) (by omega) hnc hmd (by omega) w hK hS hT
set_option maxRecDepth 100000 in
theorem MacParts_lifted (os : Os) (started : os.Started) (H : Type) (enc : TypeId × Value → H) :
    ReturnsInHanded {} Tryd.checked os 4 .any (fun w args => (Rows.macPartsSpec.pre enc Tryd.prog Tryd.f4 [] false w args ∧ laidMetH Tryd.prog Rows.macPartsRow.laid w) ∧ sizedMet enc Tryd.prog Tryd.f4 (OpenSpec.ofChange Rows.macPartsSpec) false w args)
      (Rows.macPartsSpec.post enc Tryd.prog Tryd.f4 false true false false) := by
  refine returnsInHanded_of_change_and (C := Tryd.checked) (X := fun w _ => laidMetH Tryd.prog Rows.macPartsRow.laid w) (fun _ _ _ hh h => h.of_heap hh) own started (by kernel_rfl) Tryd.func4
    (ChangeSpec.witness_shaped (enc := enc) (C := Tryd.checked) (os := os) (X := fun w _ => laidMetH Tryd.prog Rows.macPartsRow.laid w) false (World.doorLaid Tryd.prog 14 os) #[.slice none 0 0, .slice none 0 0, .int .i64 0] 8 rfl (World.shaped_of_RefB (by kernel_rfl) (by kernel_rfl)) (by kernel_rfl) (by kernel_rfl) (by kernel_rfl) (door_met os _)) ?_
  intro W base args ds gs before hval0 hW _ _ hL _
  have hval : ∀ (j : Nat) t v, Tryd.f4.params[j]? = some t → args[j]? = some v → Value.okWide Tryd.prog W .any base t v := hval0
  have hW' := hW
  obtain ⟨p, q, hA0, hV, rfl, _, _⟩ := hW
  have hA : DataW.TrodAll enc Tryd.prog W 0 (fun _ => true) true Tryd.f4.params.toList args.toList ds p := hA0
  rw [Tryd.params4] at hA hval
  obtain ⟨v0, v1, v2, d0, d1, d2, p0, p1, p2, rfl, rfl, rfl, h0, h1, h2⟩ := trodAll_three hA
  obtain ⟨rfl, rfl⟩ := trodVars_none hV
  obtain ⟨a0, len0, cap0, rfl⟩ := okWide_slice Tryd.underlying22 (hval 0 22 v0 rfl rfl)
  obtain ⟨a1, len1, cap1, rfl⟩ := okWide_slice Tryd.underlying22 (hval 1 22 v1 rfl rfl)
  obtain ⟨z2, rfl, rfl, rfl, w2⟩ := open_int Tryd.underlying3 (hval 2 3 v2 rfl rfl) h2
  have h0k := h0
  obtain ⟨fuel0, hf0⟩ := h0
  have h1k := h1
  obtain ⟨fuel1, hf1⟩ := h1
  clear hA0 hval0
  simp only [List.append_nil] at hW'
  have hlt0 : ∀ x ∈ p0, x.block < W.heap.size := fun x hx => by simpa using hW'.lt x (by simp [hx])
  have hlt1 : ∀ x ∈ p1, x.block < W.heap.size := fun x hx => by simpa using hW'.lt x (by simp [hx])
  obtain ⟨y0, hy0, hs0, hlc0⟩ := src_of (by simpa [Value.cells] using hf0) hlt0
  obtain ⟨y1, hy1, hs1, hlc1⟩ := src_of (by simpa [Value.cells] using hf1) hlt1
  refine (parts_walk a0 a1 len0 cap0 len1 cap1 z2 y0 y1 hy0 hy1 hlc0 hlc1 W (kt_of_laid hL) hs0 hs1).mono fun e W' ⟨he, hb⟩ => ?_
  subst he
  exact ⟨_, rfl, _, _, _, [], _, [], hW', trodAll_mk1 (shut_bool Tryd.underlying4 true), by
    have h2 := trodAll_mk3 (Below.trod laidOut (by kernel_rfl) (of_decide_eq_true (by kernel_rfl)) h0k hb hlt0) (Below.trod laidOut (by kernel_rfl) (of_decide_eq_true (by kernel_rfl)) h1k hb hlt1) (shut_int Tryd.underlying3 w2)
    simp only [List.append_nil] at h2
    exact h2, rfl, hb.frame _, fun h => by cases h⟩

theorem MacParts_over : Rows.macPartsRow.holds Tryd.pinned (OpenSpec.ofChange Rows.macPartsSpec) :=
  OpenClaim.holds_of_wide 4 Tryd.f4 rfl rfl rfl rfl rfl rfl rfl ⟨rfl, rfl, rfl, rfl, rfl⟩ rfl rfl rfl rfl rfl (by kernel_rfl) Tryd.func4 (by kernel_rfl)
    (of_decide_eq_true (by kernel_rfl)) (by unfold Func.isWrapper; rw [if_neg (of_decide_eq_false (by kernel_rfl))]; exact ⟨rfl, rfl⟩)
    (fun os started H enc _ => MacParts_lifted os started H enc)

theorem MacParts_holds : Rows.MacPartsCardSaid :=
  Claim7.holds_tied_plain_at .later [] [.data] true _ false
    MacParts_over (fun _ h => by cases h) (by kernel_rfl) (fun _ h => by cases h) macParts_row_tie rfl ⟨rfl, rfl⟩ (by kernel_rfl) rfl
    (fun f fn hf hfn => by
      obtain rfl : f = 4 := Option.some.inj ((show Tryd.prog.funcNamed "clapper/clapperlaw04.MacParts" = some 4 by kernel_rfl).symm.trans hf) |>.symm
      obtain rfl : fn = Tryd.f4 := (Option.some.inj (Tryd.func4.symm.trans hfn)).symm
      exact ⟨by kernel_rfl, fun j t ht => by
        rw [Tryd.params4] at ht
        have hm : t ∈ [22, 22, 3] := by simpa using Array.mem_of_getElem? ht
        have hall : ([22, 22, 3].all fun u => !Tryd.prog.wantsStandIn u) = true := by kernel_rfl
        exact (show Tryd.prog.wantsStandIn t = false by simpa using List.all_eq_true.1 hall t hm)⟩)
    (by kernel_rfl)
end

#print axioms MacParts_holds
end Go.Proofs.YtmgogcoafhompaaDoor
