/-
  clapperlaw04.up: the document's example.
-/
import Derived.Test.YtmgogcoafhompaaDoorM5
import Derived.Test.YtmgogcoafhompaaDoorM6
import Derived.Test.YtmgogcoafhompaaDoorM7a
import Derived.Lib.SmallJoins
import Derived.BigQuiet
import Derived.Deep.RegionHeld3
namespace Go.Proofs.YtmgogcoafhompaaDoor
open Go.RowKit

theorem byte_list (l : List Nat) (h : l.all (· < 256) = true) (j : Nat) : l.getD j 0 < 256 := by
  rw [List.getD_eq_getElem?_getD]
  cases e : l[j]? with
  | none => simp
  | some v => have := List.all_eq_true.1 h v (List.mem_of_getElem? e); simpa using this
set_option maxRecDepth 100000 in
set_option maxHeartbeats 8000000 in
theorem up_calls (w : World) (hK : KT w) :
    Calls Tryd.prog 5 #[] w fun e w' => e = .returned (.bool true) ∧ Below w.heap.size w w' := by
  obtain ⟨D, hD, d0, d1, d31⟩ := up_bytes
  have HD := veil hD
  have HZ := veil (show D.size = 32 ∧ D.all (·.oneCell') = true by rw [hD]; exact ⟨dgst_size _ _, arrOf_one fun _ _ => rfl⟩)
  have HI := veil (show (Tryd.prog.info? 26).map (·.size) = some D.size by rw [HZ.out.1]; exact infoD)
  have HDC := veil (And.intro d0 (And.intro d1 d31))
  have hz := hK.lt
  clear d0 d1 d31 hD
  go_enter Tryd.func5, Tryd.ntmps5
  have kc0 := Joins.run_convert_bytes_const_at (P := Tryd.prog) w 22 5 #[.int .u8 74, .int .u8 101, .int .u8 102, .int .u8 101] 4 4 w.heap.size rfl Tryd.underlying22 Tryd.underlying5
  have kc1 := Joins.run_convert_bytes_const_at (P := Tryd.prog) (w.alloc (.cells #[.int .u8 74, .int .u8 101, .int .u8 102, .int .u8 101] 5 (4, 5))) 22 5 #[.int .u8 119, .int .u8 104, .int .u8 97, .int .u8 116, .int .u8 32, .int .u8 100, .int .u8 111, .int .u8 32, .int .u8 121, .int .u8 97, .int .u8 32, .int .u8 119, .int .u8 97, .int .u8 110, .int .u8 116, .int .u8 32] 16 16 (w.heap.size + 1) (by simp) Tryd.underlying22 Tryd.underlying5
  have kc2 := Joins.run_convert_bytes_const_at (P := Tryd.prog) ((w.alloc (.cells #[.int .u8 74, .int .u8 101, .int .u8 102, .int .u8 101] 5 (4, 5))).alloc (.cells #[.int .u8 119, .int .u8 104, .int .u8 97, .int .u8 116, .int .u8 32, .int .u8 100, .int .u8 111, .int .u8 32, .int .u8 121, .int .u8 97, .int .u8 32, .int .u8 119, .int .u8 97, .int .u8 110, .int .u8 116, .int .u8 32] 5 (16, 17))) 22 5 #[.int .u8 102, .int .u8 111, .int .u8 114, .int .u8 32, .int .u8 110, .int .u8 111, .int .u8 116, .int .u8 104, .int .u8 105, .int .u8 110, .int .u8 103, .int .u8 63] 12 12 (w.heap.size + 1 + 1) (by simp) Tryd.underlying22 Tryd.underlying5
  have hsz0 : (#[.int .u8 74, .int .u8 101, .int .u8 102, .int .u8 101] : Array Value).size = 4 := rfl
  have hsz1 : (#[.int .u8 119, .int .u8 104, .int .u8 97, .int .u8 116, .int .u8 32, .int .u8 100, .int .u8 111, .int .u8 32, .int .u8 121, .int .u8 97, .int .u8 32, .int .u8 119, .int .u8 97, .int .u8 110, .int .u8 116, .int .u8 32] : Array Value).size = 16 := rfl
  have hsz2 : (#[.int .u8 102, .int .u8 111, .int .u8 114, .int .u8 32, .int .u8 110, .int .u8 111, .int .u8 116, .int .u8 104, .int .u8 105, .int .u8 110, .int .u8 103, .int .u8 63] : Array Value).size = 12 := rfl
  rw [hsz0] at kc0
  rw [hsz1] at kc1
  rw [hsz2] at kc2
  clear hsz0 hsz1 hsz2
  go_wp2_with fail
  clear kc0 kc1 kc2
  have hJ : ∀ j, j < 4 → (w.alloc (.cells #[.int .u8 74, .int .u8 101, .int .u8 102, .int .u8 101] 5 (4, 5))).cell? ⟨w.heap.size, j, none⟩ = some (.int .u8 (jefeT j : Nat)) := fun j hj => by
    rw [World.cell?_alloc_mark, show (#[.int .u8 74, .int .u8 101, .int .u8 102, .int .u8 101] : Array Value) = arrOf 4 (fun j => .int .u8 (jefeT j : Nat)) from rfl]
    exact arrOf_get _ hj
  have hb1 : Below w.heap.size w (w.alloc (.cells #[.int .u8 74, .int .u8 101, .int .u8 102, .int .u8 101] 5 (4, 5))) := (Below.refl _ _).alloc (Nat.le_refl _) _
  have hz1 : (w.alloc (.cells #[.int .u8 74, .int .u8 101, .int .u8 102, .int .u8 101] 5 (4, 5))).heap.size = w.heap.size + 1 := by simp
  generalize w.alloc (.cells #[.int .u8 74, .int .u8 101, .int .u8 102, .int .u8 101] 5 (4, 5)) = w1 at *
  have h0 : ∀ j, j < 16 → (w1.alloc (.cells #[.int .u8 119, .int .u8 104, .int .u8 97, .int .u8 116, .int .u8 32, .int .u8 100, .int .u8 111, .int .u8 32, .int .u8 121, .int .u8 97, .int .u8 32, .int .u8 119, .int .u8 97, .int .u8 110, .int .u8 116, .int .u8 32] 5 (16, 17))).cell? ⟨w1.heap.size, j, none⟩ = some (.int .u8 (upY 0 j : Nat)) := fun j hj => by
    rw [World.cell?_alloc_mark, show (#[.int .u8 119, .int .u8 104, .int .u8 97, .int .u8 116, .int .u8 32, .int .u8 100, .int .u8 111, .int .u8 32, .int .u8 121, .int .u8 97, .int .u8 32, .int .u8 119, .int .u8 97, .int .u8 110, .int .u8 116, .int .u8 32] : Array Value) = arrOf 16 (fun j => .int .u8 (upY 0 j : Nat)) from rfl]
    exact arrOf_get _ hj
  have hb2 : Below w1.heap.size w1 (w1.alloc (.cells #[.int .u8 119, .int .u8 104, .int .u8 97, .int .u8 116, .int .u8 32, .int .u8 100, .int .u8 111, .int .u8 32, .int .u8 121, .int .u8 97, .int .u8 32, .int .u8 119, .int .u8 97, .int .u8 110, .int .u8 116, .int .u8 32] 5 (16, 17))) := (Below.refl _ _).alloc (Nat.le_refl _) _
  have hz2 : (w1.alloc (.cells #[.int .u8 119, .int .u8 104, .int .u8 97, .int .u8 116, .int .u8 32, .int .u8 100, .int .u8 111, .int .u8 32, .int .u8 121, .int .u8 97, .int .u8 32, .int .u8 119, .int .u8 97, .int .u8 110, .int .u8 116, .int .u8 32] 5 (16, 17))).heap.size = w1.heap.size + 1 := by simp
  generalize w1.alloc (.cells #[.int .u8 119, .int .u8 104, .int .u8 97, .int .u8 116, .int .u8 32, .int .u8 100, .int .u8 111, .int .u8 32, .int .u8 121, .int .u8 97, .int .u8 32, .int .u8 119, .int .u8 97, .int .u8 110, .int .u8 116, .int .u8 32] 5 (16, 17)) = w2 at *
  have h1 : ∀ j, j < 12 → (w2.alloc (.cells #[.int .u8 102, .int .u8 111, .int .u8 114, .int .u8 32, .int .u8 110, .int .u8 111, .int .u8 116, .int .u8 104, .int .u8 105, .int .u8 110, .int .u8 103, .int .u8 63] 5 (12, 13))).cell? ⟨w2.heap.size, j, none⟩ = some (.int .u8 (upY 1 j : Nat)) := fun j hj => by
    rw [World.cell?_alloc_mark, show (#[.int .u8 102, .int .u8 111, .int .u8 114, .int .u8 32, .int .u8 110, .int .u8 111, .int .u8 116, .int .u8 104, .int .u8 105, .int .u8 110, .int .u8 103, .int .u8 63] : Array Value) = arrOf 12 (fun j => .int .u8 (upY 1 j : Nat)) from rfl]
    exact arrOf_get _ hj
  have hb3 : Below w2.heap.size w2 (w2.alloc (.cells #[.int .u8 102, .int .u8 111, .int .u8 114, .int .u8 32, .int .u8 110, .int .u8 111, .int .u8 116, .int .u8 104, .int .u8 105, .int .u8 110, .int .u8 103, .int .u8 63] 5 (12, 13))) := (Below.refl _ _).alloc (Nat.le_refl _) _
  have hz3 : (w2.alloc (.cells #[.int .u8 102, .int .u8 111, .int .u8 114, .int .u8 32, .int .u8 110, .int .u8 111, .int .u8 116, .int .u8 104, .int .u8 105, .int .u8 110, .int .u8 103, .int .u8 63] 5 (12, 13))).heap.size = w2.heap.size + 1 := by simp
  generalize w2.alloc (.cells #[.int .u8 102, .int .u8 111, .int .u8 114, .int .u8 32, .int .u8 110, .int .u8 111, .int .u8 116, .int .u8 104, .int .u8 105, .int .u8 110, .int .u8 103, .int .u8 63] 5 (12, 13)) = w3 at *
  obtain ⟨X, hX⟩ : ∃ X : Array Value, X = #[.slice (some ⟨w.heap.size + 1, 0, none⟩) 16 16, .slice (some ⟨w.heap.size + 1 + 1, 0, none⟩) 12 12] := ⟨_, rfl⟩
  rw [← hX]
  have hp : ∀ j, (w3.alloc (.cells X 22)).cell? ⟨w3.heap.size, j, none⟩ = X[j]? := fun j => World.cell?_alloc_mark _ _ _ _ _
  have hb4 : Below w3.heap.size w3 (w3.alloc (.cells X 22)) := (Below.refl _ _).alloc (Nat.le_refl _) _
  have hz4 : (w3.alloc (.cells X 22)).heap.size = w3.heap.size + 1 := by simp
  generalize w3.alloc (.cells X 22) = w4 at *
  have hB4 : Below w.heap.size w w4 := ((hb1.trans (hb2.mono (by omega))).trans (hb3.mono (by omega))).trans (hb4.mono (by omega))
  have hK4 := hK.call hB4
  have hb24 := (hb2.trans (hb3.mono (by omega))).trans (hb4.mono (by omega))
  have hb34 := hb3.trans (hb4.mono (by omega))
  have hSJ : Src w4 (some ⟨w.heap.size, 0, none⟩) 4 jefeT w4.heap.size := .inr ⟨_, 0, rfl, by omega, by omega, fun j hj => by
    rw [Nat.zero_add]; exact (hb24.cell (p := ⟨w.heap.size, j, none⟩) (by show w.heap.size < w1.heap.size; omega)).trans (hJ j hj)⟩
  have hS0 : Src w4 (some ⟨w.heap.size + 1, 0, none⟩) 16 (upY 0) w4.heap.size := .inr ⟨_, 0, rfl, by omega, by omega, fun j hj => by
    rw [Nat.zero_add, ← hz1]; exact (hb34.cell (p := ⟨w1.heap.size, j, none⟩) (by show w1.heap.size < w2.heap.size; omega)).trans (h0 j hj)⟩
  have hS1 : Src w4 (some ⟨w.heap.size + 1 + 1, 0, none⟩) 12 (upY 1) w4.heap.size := .inr ⟨_, 0, rfl, by omega, by omega, fun j hj => by
    rw [Nat.zero_add, ← hz1, ← hz2]; exact (hb4.cell (p := ⟨w2.heap.size, j, none⟩) (by show w2.heap.size < w3.heap.size; omega)).trans (h1 j hj)⟩
  have hP : Parts3 w4 (some ⟨w.heap.size + 1 + 1 + 1, 0, none⟩) 2 (fun r => some ⟨w.heap.size + 1 + r, 0, none⟩) upL upL upY := by
    refine ⟨.inr ⟨_, 0, rfl, by omega, fun r hr => ?_⟩, fun r hr => ?_, fun r _ => Nat.le_refl _, fun r j => ?_⟩
    · rw [Nat.zero_add, show w.heap.size + 1 + 1 + 1 = w3.heap.size by omega, hp r, hX]
      match r, hr with
      | 0, _ => rfl
      | 1, _ => rfl
    · match r, hr with
      | 0, _ => exact hS0
      | 1, _ => exact hS1
    · unfold upY
      split
      · exact byte_list _ (by decide) j
      · exact byte_list _ (by decide) j
  have hJl : ∀ j, jefeT j < 256 := fun j => byte_list _ (by decide) j
  clear hS0 hS1 hJ h0 h1 hb1 hb2 hb3 hb4 hb24 hb34 hp hz1 hz2 hz3 hz4 hX hK
  refine (ofmac_calls (some ⟨w.heap.size, 0, none⟩) 4 4 jefeT hJl (by decide) (by decide) (some ⟨w.heap.size + 1 + 1 + 1, 0, none⟩) 2 2 (fun r => some ⟨w.heap.size + 1 + r, 0, none⟩) upL upL upY (by decide) (by decide) w4 hK4 hSJ hP).mono ?_
  rintro e w5 ⟨rfl, hb5⟩
  rw [← HD.out]
  have hB5 := hB4.trans (hb5.mono hB4.size)
  have hK5 := hK4.call hb5
  clear hB4 hK4 hSJ hP hJl hb5
  have hSame1 : ∀ W, Calls Tryd.prog 8 #[.slice none 0 0, .slice none 0 0] W fun e W' => e = .returned (.bool true) ∧ Below W.heap.size W W' := fun W =>
    same_calls none none 0 0 0 0 (fun _ => 0) (fun _ => 0) (fun _ => by decide) (fun _ => by decide) (by decide) W (.inl rfl) (.inl rfl)
  have hSame2 : ∀ W g, W.cell? ⟨g, 0, none⟩ = some (.int .u8 0) → Calls Tryd.prog 8 #[.slice none 0 0, .slice (some ⟨g, 0, none⟩) 1 1] W fun e W' => e = .returned (.bool false) ∧ Below W.heap.size W W' := fun W g hc =>
    same_calls none (some ⟨g, 0, none⟩) 0 0 1 1 (fun _ => 0) (fun _ => 0) (fun _ => by decide) (fun _ => by decide) (by decide) W (.inl rfl) (.inr ⟨g, 0, rfl, World.block_lt_of_cell? W _ hc, by have := World.block_lt_of_cell? W _ hc; simp at this; omega, fun j hj => by
      obtain rfl : j = 0 := by omega
      exact hc⟩)
  have HS1 := veil hSame1
  have HS2 := veil hSame2
  clear hSame1 hSame2
  go_upto_region 2 with ((with_reducible refine at_none ?_); refine wpList_store_row rfl 26 _ _ rfl w5.heap.size D rfl rfl 26 _ (heap_alloc_last w5 _) HI.out (by rw [HZ.out.1]; rfl) HZ.out.2 ?_; rw [World.setRow_alloc_new])
  have hD3 : (w5.alloc (.cells D 26)).heap[w5.heap.size]? = some (.cells D 26 (0, 0)) := heap_alloc_last w5 _
  have hB6 := hB5.alloc hB5.size (.cells D 26)
  generalize w5.alloc (.cells D 26) = w6 at *
  generalize w5.heap.size = gD at *
  have c0 := (cell_of_row w6 gD 0 D _ _ hD3).trans HDC.out.1
  have c1 := (cell_of_row w6 gD 1 D _ _ hD3).trans HDC.out.2.1
  have c31 := (cell_of_row w6 gD 31 D _ _ hD3).trans HDC.out.2.2
  clear hB5 hK5 hD3
  go_wp2_with (first
    | (go_at_call 8; (first
        | ((with_reducible refine (HS1.out _).mono ?_); rintro e w7 ⟨rfl, hb7⟩)
        | ((with_reducible refine (HS2.out _ _ ?hc).mono ?_); (· rw [World.cell?_alloc_mark]; rfl); rintro e w8 ⟨rfl, hb8⟩)))
    | fail)
  go_ret
  have hB7 := hB6.trans (hb7.mono hB6.size)
  have hB8 := hB7.alloc hB7.size (.cells #[.int .u8 0] 5)
  exact ⟨rfl, hB8.trans (hb8.mono hB8.size)⟩
end Go.Proofs.YtmgogcoafhompaaDoor
