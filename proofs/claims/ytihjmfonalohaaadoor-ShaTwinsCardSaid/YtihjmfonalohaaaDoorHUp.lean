/-
  clapperlaw03.up: the document's example.
-/
import Derived.Test.YtihjmfonalohaaaDoorHSum
import Derived.WalkKit
import Derived.WalkSpells
import Derived.WalkLawsBesides
import Derived.Deep.LoopGhost
import Derived.Deep.Cut
import Derived.Deep.CutRange
import Derived.Lib.SmallJoins
namespace Go.Proofs.YtihjmfonalohaaaDoor
open Go.RowKit

def abcT : Nat → Nat := fun i => match i with | 0 => 97 | 1 => 98 | 2 => 99 | _ => 0
set_option maxRecDepth 100000 in
theorem abc_st : dByte (shaSt abcT 3) 0 = 186 ∧ dByte (shaSt abcT 3) 1 = 120 ∧ dByte (shaSt abcT 3) 31 = 173 := by decide +kernel

set_option maxRecDepth 100000 in
set_option maxHeartbeats 4000000 in
theorem up_calls (w : World) (hK : KT w) :
    Calls Tryd.prog 7 #[] w fun e w' => e = .returned (.bool true) ∧ Below w.heap.size w w' := by
  obtain ⟨e0, e1, e31⟩ := abc_st
  obtain ⟨D, hD⟩ : ∃ D, D = dgst abcT 3 := ⟨_, rfl⟩
  have d0 : D[0]? = some (.int .u8 186) := by rw [hD]; unfold dgst; rw [arrOf_get _ (by decide), e0]; rfl
  have d1 : D[1]? = some (.int .u8 120) := by rw [hD]; unfold dgst; rw [arrOf_get _ (by decide), e1]; rfl
  have d31 : D[31]? = some (.int .u8 173) := by rw [hD]; unfold dgst; rw [arrOf_get _ (by decide), e31]; rfl
  have HD := veil hD
  have HZ := veil (show D.size = 32 ∧ D.all (·.oneCell') = true by rw [hD]; exact ⟨dgst_size _ _, arrOf_one fun _ _ => rfl⟩)
  have HI := veil (show (Tryd.prog.info? 25).map (·.size) = some D.size by rw [HZ.out.1]; exact infoD)
  have HDC := veil (And.intro d0 (And.intro d1 d31))
  have hz := hK.lt
  clear e0 e1 e31 d0 d1 d31 hD
  go_enter Tryd.func7, Tryd.ntmps7
  have kc := Joins.run_convert_bytes_const_at (P := Tryd.prog) w 22 5 #[.int .u8 97, .int .u8 98, .int .u8 99] 3 3 w.heap.size rfl Tryd.underlying22 Tryd.underlying5
  have hsz : (#[.int .u8 97, .int .u8 98, .int .u8 99] : Array Value).size = 3 := rfl
  rw [hsz] at kc
  clear hsz
  go_wp2_with fail
  have hT : ∀ j, j < 3 → (w.alloc (.cells #[.int .u8 97, .int .u8 98, .int .u8 99] 5 (3, 4))).cell? ⟨w.heap.size, j, none⟩ = some (.int .u8 (abcT j : Nat)) := fun j hj => by
    rw [World.cell?_alloc_mark]
    match j, hj with
    | 0, _ => rfl
    | 1, _ => rfl
    | 2, _ => rfl
  have hK1 := hK.alloc (.cells #[.int .u8 97, .int .u8 98, .int .u8 99] 5 (3, 4))
  have hb1 : Below w.heap.size w (w.alloc (.cells #[.int .u8 97, .int .u8 98, .int .u8 99] 5 (3, 4))) := (Below.refl _ _).alloc (Nat.le_refl _) _
  have hT1 : w.heap.size < (w.alloc (.cells #[.int .u8 97, .int .u8 98, .int .u8 99] 5 (3, 4))).heap.size := by simp
  generalize w.alloc (.cells #[.int .u8 97, .int .u8 98, .int .u8 99] 5 (3, 4)) = w1 at *
  refine (sum_calls _ 3 3 abcT (fun j => by unfold abcT; split <;> decide) (by decide) (by decide) w1 hK1 (.inr ⟨_, 0, rfl, hT1, by omega, fun j hj => by rw [Nat.zero_add]; exact hT j hj⟩)).mono ?_
  rintro e w2 ⟨rfl, hb2⟩
  have hK2 := hK1.call hb2
  have hB2 := hb1.trans (hb2.mono (by omega))
  rw [← HD.out]
  clear hK1 hb1 hb2 hT kc hK
  go_wp2_with (first
    | ((with_reducible refine at_none ?_); refine wpList_store_row rfl 25 _ _ rfl w2.heap.size D rfl rfl 25 _ (heap_alloc_last w2 _) HI.out (by rw [HZ.out.1]; rfl) HZ.out.2 ?_; rw [World.setRow_alloc_new])
    | fail)
  have hD3 : (w2.alloc (.cells D 25)).heap[w2.heap.size]? = some (.cells D 25 (0, 0)) := heap_alloc_last w2 _
  have hB3 := hB2.alloc hB2.size (.cells D 25)
  refine (new_calls _).mono ?_
  rintro e w3 ⟨rfl, hH, hb3⟩
  have hD3' := (hb3.block w2.heap.size (by simp)).trans hD3
  have hB4 := hB3.trans (hb3.mono hB3.size)
  have c0 := (cell_of_row w3 w2.heap.size 0 D _ _ hD3').trans HDC.out.1
  have c1 := (cell_of_row w3 w2.heap.size 1 D _ _ hD3').trans HDC.out.2.1
  have c31 := (cell_of_row w3 w2.heap.size 31 D _ _ hD3').trans HDC.out.2.2
  generalize (w2.alloc (.cells D 25)).heap.size = gH at *
  have HL := veil (fun W (h : HashIs W gH (fun _ => 0) 0) => len_calls gH 0 (fun _ => 0) W h)
  have HH := veil (hH (fun _ => 0))
  clear hD3 hB3 hB2 hb3 hD3' hH
  go_wp2_with (go_at_call 12; ((with_reducible refine (HL.out _ HH.out).mono ?_); rintro e w' ⟨rfl, rfl⟩))
  go_ret
  exact ⟨rfl, hB4⟩
end Go.Proofs.YtihjmfonalohaaaDoor
