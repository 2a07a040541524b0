/-
  revoke.inOrder: revoked serials compared: it draws, and lays blocks of its own, nothing else.
-/
import Derived.Test.YtldnncamaglofaaRk
namespace Go.Proofs.Ytldnncamaglofaa
open Go.RowKit Go.Shelf Go.Lib Go.Sort

/-- Draws and new blocks alone. -/
def Grn (w w' : World) : Prop := ∃ q os', w' = grow (w.drewN q) os'
theorem Grn.refl (w : World) : Grn w w := ⟨0, #[], by rw [grow_empty]; rfl⟩
theorem Grn.drew {w w' : World} (h : Grn w w') : Grn w w'.drew := by
  obtain ⟨q, os, rfl⟩ := h
  exact ⟨q + 1, os, rfl⟩
theorem Grn.alloc {w w' : World} (h : Grn w w') (o : Obj) : Grn w (w'.alloc o) := by
  obtain ⟨q, os, rfl⟩ := h
  exact ⟨q, os ++ #[o], by rw [alloc_eq_grow, grow_grow]⟩
theorem Grn.cells {w w' : World} (h : Grn w w') (b o : Nat) (hb : b < w.heap.size) : w'.cell? ⟨b, o, none⟩ = w.cell? ⟨b, o, none⟩ := by
  obtain ⟨q, os, rfl⟩ := h
  exact cell?_grow _ _ _ (by exact hb)
abbrev HG (wz w' : World) : Prop := (∀ b o, b < wz.heap.size → w'.cell? ⟨b, o, none⟩ = wz.cell? ⟨b, o, none⟩) ∧ Grn wz w'
theorem HG.of {wz w' : World} (h : Grn wz w') : HG wz w' := ⟨h.cells, h⟩
theorem HG.drew {wz w' : World} (h : HG wz w') : HG wz w'.drew := .of h.2.drew
theorem HG.alloc {wz w' : World} (h : HG wz w') (o : Obj) : HG wz (w'.alloc o) := .of (h.2.alloc o)

set_option maxRecDepth 100000 in
set_option maxHeartbeats 2000000 in
theorem inOrder_calls (x y : Rv) (w : World) : Calls Try.prog 31 #[.agg (rvC x).toArray, .agg (rvC y).toArray] w fun e w' => e = .returned (.int .i64 (cfR x y)) ∧ Grn w w' := by
  have k1 := fun a b W => compare_calls a b W
  have k2 := veil (fun a b g c W (hg : W.heap[g]? = some (.cells #[.int .i64 a, .int .i64 b] 3 (0, 0))) => or_calls a b g c W hg)
  obtain ⟨x1, x2⟩ := x
  obtain ⟨y1, y2⟩ := y
  show Calls Try.prog 31 #[.agg #[.int .i64 x1, .int .i64 x2], .agg #[.int .i64 y1, .int .i64 y2]] w fun e w' => e = .returned (.int .i64 (orZ (ci x1 y1) (ci x2 y2))) ∧ Grn w w'
  go_enter Try.func31, Try.ntmps31
  go_upto_region 1 with (fail)
  have hG := ((Grn.refl w).alloc (.cells #[.int .i64 x1, .int .i64 x2] 43)).alloc (.cells #[.int .i64 y1, .int .i64 y2] 43)
  have c0 : ((w.alloc (.cells #[.int .i64 x1, .int .i64 x2] 43)).alloc (.cells #[.int .i64 y1, .int .i64 y2] 43)).cell? ⟨w.heap.size, 0, none⟩ = some (.int .i64 x1) := by simp
  have c1 : ((w.alloc (.cells #[.int .i64 x1, .int .i64 x2] 43)).alloc (.cells #[.int .i64 y1, .int .i64 y2] 43)).cell? ⟨w.heap.size, 1, none⟩ = some (.int .i64 x2) := by simp
  have d0 : ((w.alloc (.cells #[.int .i64 x1, .int .i64 x2] 43)).alloc (.cells #[.int .i64 y1, .int .i64 y2] 43)).cell? ⟨w.heap.size + 1, 0, none⟩ = some (.int .i64 y1) := by simp
  have d1 : ((w.alloc (.cells #[.int .i64 x1, .int .i64 x2] 43)).alloc (.cells #[.int .i64 y1, .int .i64 y2] 43)).cell? ⟨w.heap.size + 1, 1, none⟩ = some (.int .i64 y2) := by simp
  have l0 : w.heap.size < ((w.alloc (.cells #[.int .i64 x1, .int .i64 x2] 43)).alloc (.cells #[.int .i64 y1, .int .i64 y2] 43)).heap.size := by simp; omega
  have l1 : w.heap.size + 1 < ((w.alloc (.cells #[.int .i64 x1, .int .i64 x2] 43)).alloc (.cells #[.int .i64 y1, .int .i64 y2] 43)).heap.size := by simp
  generalize (w.alloc (.cells #[.int .i64 x1, .int .i64 x2] 43)).alloc (.cells #[.int .i64 y1, .int .i64 y2] 43) = wz at *
  generalize hg0 : w.heap.size = g0 at *
  generalize hg1 : g0 + 1 = g1 at *
  have HGG := veil hG
  clear hG hg1 hg0
  go_region_held3 (fun w' => (∀ b o, b < wz.heap.size → w'.cell? ⟨b, o, none⟩ = wz.cell? ⟨b, o, none⟩) ∧ Grn wz w')
    (first
      | with_reducible exact HG.of (Grn.refl _)
      | with_reducible exact HG.drew (HG.of (Grn.refl _))
      | with_reducible exact HG.drew (HG.alloc (HG.of (Grn.refl _)) _)
      | with_reducible exact HG.alloc (HG.of (Grn.refl _)) _
      | with_reducible exact HG.drew (by assumption)
      | with_reducible exact HG.alloc (by assumption) _
      | with_reducible assumption)
    (first
      | (go_at_call 46; refine (k1 _ _ _).mono ?_; rintro e w' ⟨rfl, rfl⟩)
      | (go_at_call 45; refine (k2.out _ _ _ _ ((wz.alloc (.cells #[.int .i64 (ci x1 y1), .int .i64 (ci x2 y2)] 3)).drew) (heap_new wz _)).mono ?_; rintro e w' ⟨rfl, rfl⟩))
  go_wp2
  go_ret
  exact ⟨rfl, (HGG.out.alloc _).drew⟩
end Go.Proofs.Ytldnncamaglofaa
