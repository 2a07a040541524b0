/-
  The landed journal: next, writes.
-/
import Derived.Test.YtoikgkjkcampkaaJph
namespace Go.Proofs.Ytoikgkjkcampkaa
open Go.RowKit

set_option maxRecDepth 100000 in
set_option maxHeartbeats 4000000 in
theorem next_calls (q g t e : Nat) (ht : t < 4611686018427387904) (he : e ≤ 1048576) (w : World) (hJ : Jou w q g t e) (A : Option Addr) (m c : Nat) (hm : m ≤ 1048576) :
    Calls Try.prog 15 #[.pointer (some ⟨q, 0, none⟩), .slice A m c] w fun ev w' => ev = .returned (.agg (slC (t + 1) (e + 2 + m))) ∧ Ext w w' := by
  have HJ := veil hJ
  have ht2 : (t : Int) ≤ 4611686018427387904 := by omega
  have he2 : (e : Int) ≤ 1048576 := by omega
  have hm2 : (m : Int) ≤ 1048576 := by omega
  clear hJ ht he hm
  go_enter Try.func15, Try.ntmps15
  go_upto_region 1 with (fail)
  have hE0 := Ext.alloc w (.cells #[.int .u64 0, .int .i64 0] 45)
  have hg := heap_new w (.cells #[.int .u64 0, .int .i64 0] 45)
  generalize w.alloc (.cells #[.int .u64 0, .int .i64 0] 45) = W1 at *
  obtain ⟨gr, hgr⟩ : ∃ k, k = w.heap.size := ⟨_, rfl⟩
  rw [← hgr] at hg ⊢
  have HG := veil (And.intro hg (And.intro hgr hE0))
  have c1 := (HJ.out.ext hE0).c1
  have c2 := (HJ.out.ext hE0).c2
  clear hg hgr hE0
  refine wp_sched 16 [(true, List.range 16), (false, [16])] (by kernel_rfl) (by kernel_rfl) fun Q' hQ' => ?_
  refine' sched_row (A := _) _ rfl (by kernel_rfl) ?_ ?_
  rotate_left
  · intro D hD hN'
    have e0 := hD.cell c1
    have e1 := hD.cell c2
    simp only [List.range, List.range.loop, pickI, consO, List.getElem?_cons_zero, List.getElem?_cons_succ]
    repeat (go_big_quiet_step (fail))
    exact wpq_end
  refine sched_one _ rfl rfl fun W hW => ?_
  refine wp_store_row 45 _ _ rfl gr (slC (t + 1) (e + 2 + m)) rfl ?_ 45 _ (hW.block HG.out.1) iSl rfl (slC_one _ _) ⟨fun hk => absurd hk (by decide), ?_⟩
  · rfl
  refine sched_end hQ' fun W4 hE4 => ?_
  simp only [Act.put]
  have hb4 := hE4.block (setRow_heap W gr _ (slC (t + 1) (e + 2 + m)) 45 (0, 0) (hW.block HG.out.1))
  have hx4 : Ext w W4 := ((Chg.of_but (but_setRow (But.refl gr W) (slC (t + 1) (e + 2 + m)))).new (HG.out.2.2.trans hW) fun z hz e => by have := HG.out.2.1; omega).trans hE4
  have HB := veil (And.intro hb4 hx4)
  clear hb4 hx4 hE4
  go_wp2
  exact bodyPost_ret (results_cell_row rfl _ _ gr 45 (slC (t + 1) (e + 2 + m)) (0, 0) _ rfl HB.out.1 Try.underlying45 rfl iSl) rfl ⟨rfl, HB.out.2⟩
end Go.Proofs.Ytoikgkjkcampkaa
