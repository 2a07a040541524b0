/-
  PointBytes: its walks, where the point has none.
-/
import Derived.Test.YtppfcdpokgnpfaaX13
namespace Go.Proofs.Ytppfcdpokgnpfaa
open Go.RowKit

set_option maxRecDepth 100000 in
set_option maxHeartbeats 8000000 in
theorem pb_off_on (w : World) (X Y : Nat) (f : Bool) (haX : X < top) (haY : Y < top) (haB : onB X Y f = false) (b o c : Nat) (y : Nat → Nat) (hy : ∀ j, y j < 256) (hc : 64 ≤ c) (hlt : b < w.heap.size) (hcell : ∀ j, j < 64 → w.cell? ⟨b, o + j, none⟩ = some (.int .u8 (y j : Nat))) (h : onB (be32 y 0) (be32 y 32) false = true) :
    Calls Try.prog 5 #[qv X Y f, .slice (some ⟨b, o, none⟩) 64 c] w fun e w' => e = .returned (.bool true) ∧ Ext w w' := by
  have kaX := veil haX
  have kaY := veil haY
  have kaB := veil haB
  clear haX haY haB
  have KP := veil (fun (W : World) (hW : Ext w W) => parse_on b o c y hy hc W (Nat.lt_of_lt_of_le hlt (Below.size hW)) (fun j hj => (Below.cell (p := ⟨b, o + j, none⟩) hW hlt).trans (hcell j hj)) h)
  have KQ := veil (fun (W : World) (hW : Ext w W) => rparse_on b o c y hy hc W (Nat.lt_of_lt_of_le hlt (Below.size hW)) (fun j hj => (Below.cell (p := ⟨b, o + j, none⟩) hW hlt).trans (hcell j hj)) h)
  have kx := veil (be32_lt hy 0)
  have ky := veil (be32_lt hy 32)
  clear hy hc hlt hcell h
  generalize be32 y 0 = PX at *
  generalize be32 y 32 = PY at *
  unfold qv qc
  go_enter Try.func5, Try.ntmps5
  go_upto_region 1 with (fail)
  obtain ⟨hx, b0⟩ := blocks1 w (.cells #[.int .u64 (wd (X) 0), .int .u64 (wd (X) 1), .int .u64 (wd (X) 2), .int .u64 (wd (X) 3), .int .u64 (wd (Y) 0), .int .u64 (wd (Y) 1), .int .u64 (wd (Y) 2), .int .u64 (wd (Y) 3), .bool (f)] 26)
  generalize w.alloc (.cells #[.int .u64 (wd (X) 0), .int .u64 (wd (X) 1), .int .u64 (wd (X) 2), .int .u64 (wd (X) 3), .int .u64 (wd (Y) 0), .int .u64 (wd (Y) 1), .int .u64 (wd (Y) 2), .int .u64 (wd (Y) 3), .bool (f)] 26) = w1 at *
  have b0 : w1.heap[w.heap.size]? = some (.cells (qc X Y f) 26 (0, 0)) := b0
  refine' wp_plain (m := 2) (A := _) (by kernel_rfl) ?h1 ?h2
  case h1 =>
    refine mk_step (.bool true) rfl (made_fun (args := []) rfl rfl (fun W => run_callFunc_in Try.func9 rfl rfl _ W) (fun W hW => up_is W)) ?_
    simp only [Act.put, List.setIfInBounds_toArray, List.set_cons_zero, List.set_cons_succ]
    refine mk_step (.bool true) rfl (made_move (.inr rfl) rfl) ?_
    simp only [Act.put, List.setIfInBounds_toArray, List.set_cons_zero, List.set_cons_succ]
    exact mk_end
  case h2 =>
    refine prest_done rfl ?_
    intro w2 hE
    replace b0 := hE.block b0
    replace hx := hx.trans hE
    clear hE
    go_upto_region 2 with (fail)
    refine' wp_plain (m := 7) (A := _) (by kernel_rfl) ?h1 ?h2
    case h1 =>
      refine mk_step (qv X Y f) rfl (made_load rfl rfl b0 rfl Try.underlying26 rfl (iT _ _ _)) ?_
      simp only [Act.put, List.setIfInBounds_toArray, List.set_cons_zero, List.set_cons_succ]
      refine mk_step (.tuple #[.slice none 0 0, .iface 37 (.int .i64 1)]) rfl (made_fun (args := [qv X Y f]) rfl rfl (fun W => run_callFunc_in Try.func24 rfl rfl _ W) (fun W hW => bytes_err X Y f kaX.out kaY.out kaB.out W)) ?_
      simp only [Act.put, List.setIfInBounds_toArray, List.set_cons_zero, List.set_cons_succ]
      refine mk_step (.tuple #[.slice none 0 0, .iface 37 (.int .i64 1)]) rfl (made_move (.inl rfl) rfl) ?_
      simp only [Act.put, List.setIfInBounds_toArray, List.set_cons_zero, List.set_cons_succ]
      refine mk_step (.slice none 0 0) rfl (made_ext rfl rfl rfl) ?_
      simp only [Act.put, List.setIfInBounds_toArray, List.set_cons_zero, List.set_cons_succ]
      refine mk_step (.iface 37 (.int .i64 1)) rfl (made_ext rfl rfl rfl) ?_
      simp only [Act.put, List.setIfInBounds_toArray, List.set_cons_zero, List.set_cons_succ]
      refine mk_step (.slice none 0 0) rfl (made_move (.inr rfl) rfl) ?_
      simp only [Act.put, List.setIfInBounds_toArray, List.set_cons_zero, List.set_cons_succ]
      refine mk_step (.iface 37 (.int .i64 1)) rfl (made_move (.inr rfl) rfl) ?_
      simp only [Act.put, List.setIfInBounds_toArray, List.set_cons_zero, List.set_cons_succ]
      exact mk_end
    case h2 =>
      refine prest_done rfl ?_
      intro w3 hE
      replace b0 := hE.block b0
      replace hx := hx.trans hE
      clear hE
      go_upto_region 3 with (fail)
      refine' wp_plain (m := 3) (A := _) (by kernel_rfl) ?h1 ?h2
      case h1 =>
        refine mk_step (qv X Y f) rfl (made_load rfl rfl b0 rfl Try.underlying26 rfl (iT _ _ _)) ?_
        simp only [Act.put, List.setIfInBounds_toArray, List.set_cons_zero, List.set_cons_succ]
        refine mk_step (.bool false) rfl (made_fun (args := [qv X Y f]) rfl rfl (fun W => run_callFunc_in Try.func10 rfl rfl _ W) (fun W hW => rOn_no kaX.out kaY.out kaB.out W)) ?_
        simp only [Act.put, List.setIfInBounds_toArray, List.set_cons_zero, List.set_cons_succ]
        refine mk_step (.bool false) rfl (made_move (.inr rfl) rfl) ?_
        simp only [Act.put, List.setIfInBounds_toArray, List.set_cons_zero, List.set_cons_succ]
        exact mk_end
      case h2 =>
        refine prest_done rfl ?_
        intro w4 hE
        replace b0 := hE.block b0
        replace hx := hx.trans hE
        clear hE
        go_upto_region 4 with (fail)
        refine' wp_madeG (m := 36) (A := _) 36 (by kernel_rfl) (by kernel_rfl) ?h1 ?h2
        case h1 =>
          refine mk_step (.bool false) rfl (made_move (.inl rfl) rfl) ?_
          simp only [Act.put, List.setIfInBounds_toArray, List.set_cons_zero, List.set_cons_succ]
          refine mk_step (.bool false) rfl (made_move (.inl rfl) rfl) ?_
          simp only [Act.put, List.setIfInBounds_toArray, List.set_cons_zero, List.set_cons_succ]
          refine mk_skip rfl ?_
          simp only [Act.put, List.setIfInBounds_toArray, List.set_cons_zero, List.set_cons_succ]
          refine mk_skip rfl ?_
          simp only [Act.put, List.setIfInBounds_toArray, List.set_cons_zero, List.set_cons_succ]
          refine mk_skip rfl ?_
          simp only [Act.put, List.setIfInBounds_toArray, List.set_cons_zero, List.set_cons_succ]
          refine mk_step (.bool false) rfl (made_pick rfl rfl rfl) ?_
          simp only [Act.put, List.setIfInBounds_toArray, List.set_cons_zero, List.set_cons_succ]
          refine mk_step (.bool false) rfl (made_move (.inl rfl) rfl) ?_
          simp only [Act.put, List.setIfInBounds_toArray, List.set_cons_zero, List.set_cons_succ]
          refine mk_skip rfl ?_
          simp only [Act.put, List.setIfInBounds_toArray, List.set_cons_zero, List.set_cons_succ]
          refine mk_skip rfl ?_
          simp only [Act.put, List.setIfInBounds_toArray, List.set_cons_zero, List.set_cons_succ]
          refine mk_skip rfl ?_
          simp only [Act.put, List.setIfInBounds_toArray, List.set_cons_zero, List.set_cons_succ]
          refine mk_skip rfl ?_
          simp only [Act.put, List.setIfInBounds_toArray, List.set_cons_zero, List.set_cons_succ]
          refine mk_skip rfl ?_
          simp only [Act.put, List.setIfInBounds_toArray, List.set_cons_zero, List.set_cons_succ]
          refine mk_skip rfl ?_
          simp only [Act.put, List.setIfInBounds_toArray, List.set_cons_zero, List.set_cons_succ]
          refine mk_skip rfl ?_
          simp only [Act.put, List.setIfInBounds_toArray, List.set_cons_zero, List.set_cons_succ]
          refine mk_skip rfl ?_
          simp only [Act.put, List.setIfInBounds_toArray, List.set_cons_zero, List.set_cons_succ]
          refine mk_skip rfl ?_
          simp only [Act.put, List.setIfInBounds_toArray, List.set_cons_zero, List.set_cons_succ]
          refine mk_skip rfl ?_
          simp only [Act.put, List.setIfInBounds_toArray, List.set_cons_zero, List.set_cons_succ]
          refine mk_step (.bool false) rfl (made_pick rfl rfl rfl) ?_
          simp only [Act.put, List.setIfInBounds_toArray, List.set_cons_zero, List.set_cons_succ]
          refine mk_step (.bool false) rfl (made_move (.inl rfl) rfl) ?_
          simp only [Act.put, List.setIfInBounds_toArray, List.set_cons_zero, List.set_cons_succ]
          refine mk_want (.bool false) rfl (made_move (.inl rfl) rfl) ?_
          simp only [Act.put, List.setIfInBounds_toArray, List.set_cons_zero, List.set_cons_succ]
          refine mk_want (.bool true) rfl (made_not' rfl rfl rfl) ?_
          simp only [Act.put, List.setIfInBounds_toArray, List.set_cons_zero, List.set_cons_succ]
          refine mk_want (.bool true) rfl (made_move (.inl rfl) rfl) ?_
          simp only [Act.put, List.setIfInBounds_toArray, List.set_cons_zero, List.set_cons_succ]
          refine mk_skip rfl ?_
          simp only [Act.put, List.setIfInBounds_toArray, List.set_cons_zero, List.set_cons_succ]
          refine mk_skip rfl ?_
          simp only [Act.put, List.setIfInBounds_toArray, List.set_cons_zero, List.set_cons_succ]
          refine mk_want (.bool true) rfl (made_pick rfl rfl rfl) ?_
          simp only [Act.put, List.setIfInBounds_toArray, List.set_cons_zero, List.set_cons_succ]
          refine mk_want (.bool true) rfl (made_move (.inl rfl) rfl) ?_
          simp only [Act.put, List.setIfInBounds_toArray, List.set_cons_zero, List.set_cons_succ]
          refine mk_want (.iface 37 (.int .i64 1)) rfl (made_move (.inl rfl) rfl) ?_
          simp only [Act.put, List.setIfInBounds_toArray, List.set_cons_zero, List.set_cons_succ]
          refine mk_want (.iface 37 (.int .i64 1)) rfl (made_iface rfl (mkErr1 ·)) ?_
          simp only [Act.put, List.setIfInBounds_toArray, List.set_cons_zero, List.set_cons_succ]
          refine mk_want (.bool false) rfl (made_bin rfl rfl rfl (fun _ => by kernel_rfl) (fun _ => by kernel_rfl)) ?_
          simp only [Act.put, List.setIfInBounds_toArray, List.set_cons_zero, List.set_cons_succ]
          refine mk_want (.bool false) rfl (made_move (.inl rfl) rfl) ?_
          simp only [Act.put, List.setIfInBounds_toArray, List.set_cons_zero, List.set_cons_succ]
          refine mk_want (.slice none 0 0) rfl (made_move (.inl rfl) rfl) ?_
          simp only [Act.put, List.setIfInBounds_toArray, List.set_cons_zero, List.set_cons_succ]
          refine mk_want (.int .i64 (0 : Nat)) rfl (made_len (n := 0) rfl rfl) ?_
          simp only [Act.put, List.setIfInBounds_toArray, List.set_cons_zero, List.set_cons_succ]
          refine mk_want (.bool false) rfl (made_bin rfl rfl rfl (fun _ => by kernel_rfl) (fun _ => by kernel_rfl)) ?_
          simp only [Act.put, List.setIfInBounds_toArray, List.set_cons_zero, List.set_cons_succ]
          refine mk_want (.bool false) rfl (made_pick rfl rfl rfl) ?_
          simp only [Act.put, List.setIfInBounds_toArray, List.set_cons_zero, List.set_cons_succ]
          refine mk_want (.bool false) rfl (made_pick rfl rfl rfl) ?_
          simp only [Act.put, List.setIfInBounds_toArray, List.set_cons_zero, List.set_cons_succ]
          refine mk_step (.bool false) rfl (made_pick rfl rfl rfl) ?_
          simp only [Act.put, List.setIfInBounds_toArray, List.set_cons_zero, List.set_cons_succ]
          exact mk_end
        case h2 =>
          refine rest_done rfl (by kernel_rfl) ?_
          intro w5 hE
          refine NoPanic.normal ?_
          replace b0 := hE.block b0
          replace hx := hx.trans hE
          clear hE
          go_upto_region 6 with (fail)
          refine' wp_plain (m := 5) (A := _) (by kernel_rfl) ?h1 ?h2
          case h1 =>
            refine mk_step (.slice (some ⟨b, o, none⟩) 64 c) rfl (made_move (.inl rfl) rfl) ?_
            simp only [Act.put, List.setIfInBounds_toArray, List.set_cons_zero, List.set_cons_succ]
            refine mk_step (.tuple #[qv PX PY false, .nilIface]) rfl (made_fun (args := [.slice (some ⟨b, o, none⟩) 64 c]) rfl rfl (fun W => run_callFunc_in Try.func26 rfl rfl _ W) (fun W hW => KP.out W (hx.trans hW))) ?_
            simp only [Act.put, List.setIfInBounds_toArray, List.set_cons_zero, List.set_cons_succ]
            refine mk_step (.tuple #[qv PX PY false, .nilIface]) rfl (made_move (.inl rfl) rfl) ?_
            simp only [Act.put, List.setIfInBounds_toArray, List.set_cons_zero, List.set_cons_succ]
            refine mk_step (qv PX PY false) rfl (made_ext rfl rfl rfl) ?_
            simp only [Act.put, List.setIfInBounds_toArray, List.set_cons_zero, List.set_cons_succ]
            refine mk_step (.nilIface) rfl (made_ext rfl rfl rfl) ?_
            simp only [Act.put, List.setIfInBounds_toArray, List.set_cons_zero, List.set_cons_succ]
            exact mk_end
          case h2 =>
            refine prest_var' _ _ rfl rfl rfl rfl rfl rfl rfl (hzT ·) (fun _ => rfl) (fun _ => rfl) (iT _ _ _) (hsT _ _ _) (qc_one _ _ _) ?_
            intro gx w6 hgx bx hE
            replace b0 := hE.block b0
            replace hx := hx.trans hE
            clear hE
            simp only [Act.put, List.setIfInBounds_toArray, List.set_cons_zero, List.set_cons_succ]
            clear hgx
            go_upto_region 7 with (fail)
            refine' wp_plain (m := 5) (A := _) (by kernel_rfl) ?h1 ?h2
            case h1 =>
              refine mk_step (.slice (some ⟨b, o, none⟩) 64 c) rfl (made_move (.inl rfl) rfl) ?_
              simp only [Act.put, List.setIfInBounds_toArray, List.set_cons_zero, List.set_cons_succ]
              refine mk_step (.tuple #[qv PX PY false, .bool true]) rfl (made_fun (args := [.slice (some ⟨b, o, none⟩) 64 c]) rfl rfl (fun W => run_callFunc_in Try.func27 rfl rfl _ W) (fun W hW => KQ.out W (hx.trans hW))) ?_
              simp only [Act.put, List.setIfInBounds_toArray, List.set_cons_zero, List.set_cons_succ]
              refine mk_step (.tuple #[qv PX PY false, .bool true]) rfl (made_move (.inl rfl) rfl) ?_
              simp only [Act.put, List.setIfInBounds_toArray, List.set_cons_zero, List.set_cons_succ]
              refine mk_step (qv PX PY false) rfl (made_ext rfl rfl rfl) ?_
              simp only [Act.put, List.setIfInBounds_toArray, List.set_cons_zero, List.set_cons_succ]
              refine mk_step (.bool true) rfl (made_ext rfl rfl rfl) ?_
              simp only [Act.put, List.setIfInBounds_toArray, List.set_cons_zero, List.set_cons_succ]
              exact mk_end
            case h2 =>
              refine prest_var' _ _ rfl rfl rfl rfl rfl rfl rfl (hzT ·) (fun _ => rfl) (fun _ => rfl) (iT _ _ _) (hsT _ _ _) (qc_one _ _ _) ?_
              intro gz w7 hgz bz hE
              replace b0 := hE.block b0
              replace bx := hE.block bx
              replace hx := hx.trans hE
              clear hE
              simp only [Act.put, List.setIfInBounds_toArray, List.set_cons_zero, List.set_cons_succ]
              clear hgz
              go_upto_region 8 with (fail)
              refine' wp_plain (m := 2) (A := _) (by kernel_rfl) ?h1 ?h2
              case h1 =>
                refine mk_step (.bool true) rfl (made_move (.inl rfl) rfl) ?_
                simp only [Act.put, List.setIfInBounds_toArray, List.set_cons_zero, List.set_cons_succ]
                refine mk_step (.bool false) rfl (made_not' rfl rfl rfl) ?_
                simp only [Act.put, List.setIfInBounds_toArray, List.set_cons_zero, List.set_cons_succ]
                exact mk_end
              case h2 =>
                refine prest_done rfl ?_
                intro w8 hE
                replace b0 := hE.block b0
                replace bx := hE.block bx
                replace bz := hE.block bz
                replace hx := hx.trans hE
                clear hE
                go_upto_region 10 with (fail)
                refine' wp_plainG (m := 11) (A := _) ?h1 ?h2
                case h1 =>
                  refine mk_step (.bool true) rfl (made_move (.inl rfl) rfl) ?_
                  simp only [Act.put, List.setIfInBounds_toArray, List.set_cons_zero, List.set_cons_succ]
                  refine mk_step (.bool true) rfl (made_move (.inl rfl) rfl) ?_
                  simp only [Act.put, List.setIfInBounds_toArray, List.set_cons_zero, List.set_cons_succ]
                  refine mk_want (.nilIface) rfl (made_move (.inl rfl) rfl) ?_
                  simp only [Act.put, List.setIfInBounds_toArray, List.set_cons_zero, List.set_cons_succ]
                  refine mk_want (.bool true) rfl (made_bin rfl rfl rfl (fun _ => by kernel_rfl) (fun _ => by kernel_rfl)) ?_
                  simp only [Act.put, List.setIfInBounds_toArray, List.set_cons_zero, List.set_cons_succ]
                  refine mk_step (.bool true) rfl (made_pick rfl rfl rfl) ?_
                  simp only [Act.put, List.setIfInBounds_toArray, List.set_cons_zero, List.set_cons_succ]
                  refine mk_step (.bool true) rfl (made_move (.inl rfl) rfl) ?_
                  simp only [Act.put, List.setIfInBounds_toArray, List.set_cons_zero, List.set_cons_succ]
                  refine mk_want (qv PX PY false) rfl (made_load rfl rfl bx rfl Try.underlying26 rfl (iT _ _ _)) ?_
                  simp only [Act.put, List.setIfInBounds_toArray, List.set_cons_zero, List.set_cons_succ]
                  refine mk_want (qv PX PY false) rfl (made_load rfl rfl bz rfl Try.underlying26 rfl (iT _ _ _)) ?_
                  simp only [Act.put, List.setIfInBounds_toArray, List.set_cons_zero, List.set_cons_succ]
                  refine mk_want (.bool true) rfl (made_bin rfl rfl rfl (gT _ _ _ _ _ _ _ _ _) (eqT kx.out ky.out)) ?_
                  simp only [Act.put, List.setIfInBounds_toArray, List.set_cons_zero, List.set_cons_succ]
                  refine mk_step (.bool true) rfl (made_pick rfl rfl rfl) ?_
                  simp only [Act.put, List.setIfInBounds_toArray, List.set_cons_zero, List.set_cons_succ]
                  refine mk_step (.bool true) rfl (made_move (.inr rfl) rfl) ?_
                  simp only [Act.put, List.setIfInBounds_toArray, List.set_cons_zero, List.set_cons_succ]
                  exact mk_end
                case h2 =>
                  refine prest_done rfl ?_
                  intro w9 hE
                  replace b0 := hE.block b0
                  replace bx := hE.block bx
                  replace bz := hE.block bz
                  replace hx := hx.trans hE
                  clear hE
                  go_wp2
                  go_ret
                  exact ⟨rfl, hx⟩
set_option maxRecDepth 100000 in
set_option maxHeartbeats 8000000 in
theorem pb_off_off (w : World) (X Y : Nat) (f : Bool) (haX : X < top) (haY : Y < top) (haB : onB X Y f = false) (b o c : Nat) (y : Nat → Nat) (hy : ∀ j, y j < 256) (hc : 64 ≤ c) (hlt : b < w.heap.size) (hcell : ∀ j, j < 64 → w.cell? ⟨b, o + j, none⟩ = some (.int .u8 (y j : Nat))) (h : onB (be32 y 0) (be32 y 32) false = false) :
    Calls Try.prog 5 #[qv X Y f, .slice (some ⟨b, o, none⟩) 64 c] w fun e w' => e = .returned (.bool true) ∧ Ext w w' := by
  have kaX := veil haX
  have kaY := veil haY
  have kaB := veil haB
  clear haX haY haB
  have KP := veil (fun (W : World) (hW : Ext w W) => parse_off b o c y hy hc W (Nat.lt_of_lt_of_le hlt (Below.size hW)) (fun j hj => (Below.cell (p := ⟨b, o + j, none⟩) hW hlt).trans (hcell j hj)) h)
  have KQ := veil (fun (W : World) (hW : Ext w W) => rparse_off b o c y hy hc W (Nat.lt_of_lt_of_le hlt (Below.size hW)) (fun j hj => (Below.cell (p := ⟨b, o + j, none⟩) hW hlt).trans (hcell j hj)) h)
  have kx := veil (be32_lt hy 0)
  have ky := veil (be32_lt hy 32)
  clear hy hc hlt hcell h
  generalize be32 y 0 = PX at *
  generalize be32 y 32 = PY at *
  unfold qv qc
  go_enter Try.func5, Try.ntmps5
  go_upto_region 1 with (fail)
  obtain ⟨hx, b0⟩ := blocks1 w (.cells #[.int .u64 (wd (X) 0), .int .u64 (wd (X) 1), .int .u64 (wd (X) 2), .int .u64 (wd (X) 3), .int .u64 (wd (Y) 0), .int .u64 (wd (Y) 1), .int .u64 (wd (Y) 2), .int .u64 (wd (Y) 3), .bool (f)] 26)
  generalize w.alloc (.cells #[.int .u64 (wd (X) 0), .int .u64 (wd (X) 1), .int .u64 (wd (X) 2), .int .u64 (wd (X) 3), .int .u64 (wd (Y) 0), .int .u64 (wd (Y) 1), .int .u64 (wd (Y) 2), .int .u64 (wd (Y) 3), .bool (f)] 26) = w1 at *
  have b0 : w1.heap[w.heap.size]? = some (.cells (qc X Y f) 26 (0, 0)) := b0
  refine' wp_plain (m := 2) (A := _) (by kernel_rfl) ?h1 ?h2
  case h1 =>
    refine mk_step (.bool true) rfl (made_fun (args := []) rfl rfl (fun W => run_callFunc_in Try.func9 rfl rfl _ W) (fun W hW => up_is W)) ?_
    simp only [Act.put, List.setIfInBounds_toArray, List.set_cons_zero, List.set_cons_succ]
    refine mk_step (.bool true) rfl (made_move (.inr rfl) rfl) ?_
    simp only [Act.put, List.setIfInBounds_toArray, List.set_cons_zero, List.set_cons_succ]
    exact mk_end
  case h2 =>
    refine prest_done rfl ?_
    intro w2 hE
    replace b0 := hE.block b0
    replace hx := hx.trans hE
    clear hE
    go_upto_region 2 with (fail)
    refine' wp_plain (m := 7) (A := _) (by kernel_rfl) ?h1 ?h2
    case h1 =>
      refine mk_step (qv X Y f) rfl (made_load rfl rfl b0 rfl Try.underlying26 rfl (iT _ _ _)) ?_
      simp only [Act.put, List.setIfInBounds_toArray, List.set_cons_zero, List.set_cons_succ]
      refine mk_step (.tuple #[.slice none 0 0, .iface 37 (.int .i64 1)]) rfl (made_fun (args := [qv X Y f]) rfl rfl (fun W => run_callFunc_in Try.func24 rfl rfl _ W) (fun W hW => bytes_err X Y f kaX.out kaY.out kaB.out W)) ?_
      simp only [Act.put, List.setIfInBounds_toArray, List.set_cons_zero, List.set_cons_succ]
      refine mk_step (.tuple #[.slice none 0 0, .iface 37 (.int .i64 1)]) rfl (made_move (.inl rfl) rfl) ?_
      simp only [Act.put, List.setIfInBounds_toArray, List.set_cons_zero, List.set_cons_succ]
      refine mk_step (.slice none 0 0) rfl (made_ext rfl rfl rfl) ?_
      simp only [Act.put, List.setIfInBounds_toArray, List.set_cons_zero, List.set_cons_succ]
      refine mk_step (.iface 37 (.int .i64 1)) rfl (made_ext rfl rfl rfl) ?_
      simp only [Act.put, List.setIfInBounds_toArray, List.set_cons_zero, List.set_cons_succ]
      refine mk_step (.slice none 0 0) rfl (made_move (.inr rfl) rfl) ?_
      simp only [Act.put, List.setIfInBounds_toArray, List.set_cons_zero, List.set_cons_succ]
      refine mk_step (.iface 37 (.int .i64 1)) rfl (made_move (.inr rfl) rfl) ?_
      simp only [Act.put, List.setIfInBounds_toArray, List.set_cons_zero, List.set_cons_succ]
      exact mk_end
    case h2 =>
      refine prest_done rfl ?_
      intro w3 hE
      replace b0 := hE.block b0
      replace hx := hx.trans hE
      clear hE
      go_upto_region 3 with (fail)
      refine' wp_plain (m := 3) (A := _) (by kernel_rfl) ?h1 ?h2
      case h1 =>
        refine mk_step (qv X Y f) rfl (made_load rfl rfl b0 rfl Try.underlying26 rfl (iT _ _ _)) ?_
        simp only [Act.put, List.setIfInBounds_toArray, List.set_cons_zero, List.set_cons_succ]
        refine mk_step (.bool false) rfl (made_fun (args := [qv X Y f]) rfl rfl (fun W => run_callFunc_in Try.func10 rfl rfl _ W) (fun W hW => rOn_no kaX.out kaY.out kaB.out W)) ?_
        simp only [Act.put, List.setIfInBounds_toArray, List.set_cons_zero, List.set_cons_succ]
        refine mk_step (.bool false) rfl (made_move (.inr rfl) rfl) ?_
        simp only [Act.put, List.setIfInBounds_toArray, List.set_cons_zero, List.set_cons_succ]
        exact mk_end
      case h2 =>
        refine prest_done rfl ?_
        intro w4 hE
        replace b0 := hE.block b0
        replace hx := hx.trans hE
        clear hE
        go_upto_region 4 with (fail)
        refine' wp_madeG (m := 36) (A := _) 36 (by kernel_rfl) (by kernel_rfl) ?h1 ?h2
        case h1 =>
          refine mk_step (.bool false) rfl (made_move (.inl rfl) rfl) ?_
          simp only [Act.put, List.setIfInBounds_toArray, List.set_cons_zero, List.set_cons_succ]
          refine mk_step (.bool false) rfl (made_move (.inl rfl) rfl) ?_
          simp only [Act.put, List.setIfInBounds_toArray, List.set_cons_zero, List.set_cons_succ]
          refine mk_skip rfl ?_
          simp only [Act.put, List.setIfInBounds_toArray, List.set_cons_zero, List.set_cons_succ]
          refine mk_skip rfl ?_
          simp only [Act.put, List.setIfInBounds_toArray, List.set_cons_zero, List.set_cons_succ]
          refine mk_skip rfl ?_
          simp only [Act.put, List.setIfInBounds_toArray, List.set_cons_zero, List.set_cons_succ]
          refine mk_step (.bool false) rfl (made_pick rfl rfl rfl) ?_
          simp only [Act.put, List.setIfInBounds_toArray, List.set_cons_zero, List.set_cons_succ]
          refine mk_step (.bool false) rfl (made_move (.inl rfl) rfl) ?_
          simp only [Act.put, List.setIfInBounds_toArray, List.set_cons_zero, List.set_cons_succ]
          refine mk_skip rfl ?_
          simp only [Act.put, List.setIfInBounds_toArray, List.set_cons_zero, List.set_cons_succ]
          refine mk_skip rfl ?_
          simp only [Act.put, List.setIfInBounds_toArray, List.set_cons_zero, List.set_cons_succ]
          refine mk_skip rfl ?_
          simp only [Act.put, List.setIfInBounds_toArray, List.set_cons_zero, List.set_cons_succ]
          refine mk_skip rfl ?_
          simp only [Act.put, List.setIfInBounds_toArray, List.set_cons_zero, List.set_cons_succ]
          refine mk_skip rfl ?_
          simp only [Act.put, List.setIfInBounds_toArray, List.set_cons_zero, List.set_cons_succ]
          refine mk_skip rfl ?_
          simp only [Act.put, List.setIfInBounds_toArray, List.set_cons_zero, List.set_cons_succ]
          refine mk_skip rfl ?_
          simp only [Act.put, List.setIfInBounds_toArray, List.set_cons_zero, List.set_cons_succ]
          refine mk_skip rfl ?_
          simp only [Act.put, List.setIfInBounds_toArray, List.set_cons_zero, List.set_cons_succ]
          refine mk_skip rfl ?_
          simp only [Act.put, List.setIfInBounds_toArray, List.set_cons_zero, List.set_cons_succ]
          refine mk_skip rfl ?_
          simp only [Act.put, List.setIfInBounds_toArray, List.set_cons_zero, List.set_cons_succ]
          refine mk_step (.bool false) rfl (made_pick rfl rfl rfl) ?_
          simp only [Act.put, List.setIfInBounds_toArray, List.set_cons_zero, List.set_cons_succ]
          refine mk_step (.bool false) rfl (made_move (.inl rfl) rfl) ?_
          simp only [Act.put, List.setIfInBounds_toArray, List.set_cons_zero, List.set_cons_succ]
          refine mk_want (.bool false) rfl (made_move (.inl rfl) rfl) ?_
          simp only [Act.put, List.setIfInBounds_toArray, List.set_cons_zero, List.set_cons_succ]
          refine mk_want (.bool true) rfl (made_not' rfl rfl rfl) ?_
          simp only [Act.put, List.setIfInBounds_toArray, List.set_cons_zero, List.set_cons_succ]
          refine mk_want (.bool true) rfl (made_move (.inl rfl) rfl) ?_
          simp only [Act.put, List.setIfInBounds_toArray, List.set_cons_zero, List.set_cons_succ]
          refine mk_skip rfl ?_
          simp only [Act.put, List.setIfInBounds_toArray, List.set_cons_zero, List.set_cons_succ]
          refine mk_skip rfl ?_
          simp only [Act.put, List.setIfInBounds_toArray, List.set_cons_zero, List.set_cons_succ]
          refine mk_want (.bool true) rfl (made_pick rfl rfl rfl) ?_
          simp only [Act.put, List.setIfInBounds_toArray, List.set_cons_zero, List.set_cons_succ]
          refine mk_want (.bool true) rfl (made_move (.inl rfl) rfl) ?_
          simp only [Act.put, List.setIfInBounds_toArray, List.set_cons_zero, List.set_cons_succ]
          refine mk_want (.iface 37 (.int .i64 1)) rfl (made_move (.inl rfl) rfl) ?_
          simp only [Act.put, List.setIfInBounds_toArray, List.set_cons_zero, List.set_cons_succ]
          refine mk_want (.iface 37 (.int .i64 1)) rfl (made_iface rfl (mkErr1 ·)) ?_
          simp only [Act.put, List.setIfInBounds_toArray, List.set_cons_zero, List.set_cons_succ]
          refine mk_want (.bool false) rfl (made_bin rfl rfl rfl (fun _ => by kernel_rfl) (fun _ => by kernel_rfl)) ?_
          simp only [Act.put, List.setIfInBounds_toArray, List.set_cons_zero, List.set_cons_succ]
          refine mk_want (.bool false) rfl (made_move (.inl rfl) rfl) ?_
          simp only [Act.put, List.setIfInBounds_toArray, List.set_cons_zero, List.set_cons_succ]
          refine mk_want (.slice none 0 0) rfl (made_move (.inl rfl) rfl) ?_
          simp only [Act.put, List.setIfInBounds_toArray, List.set_cons_zero, List.set_cons_succ]
          refine mk_want (.int .i64 (0 : Nat)) rfl (made_len (n := 0) rfl rfl) ?_
          simp only [Act.put, List.setIfInBounds_toArray, List.set_cons_zero, List.set_cons_succ]
          refine mk_want (.bool false) rfl (made_bin rfl rfl rfl (fun _ => by kernel_rfl) (fun _ => by kernel_rfl)) ?_
          simp only [Act.put, List.setIfInBounds_toArray, List.set_cons_zero, List.set_cons_succ]
          refine mk_want (.bool false) rfl (made_pick rfl rfl rfl) ?_
          simp only [Act.put, List.setIfInBounds_toArray, List.set_cons_zero, List.set_cons_succ]
          refine mk_want (.bool false) rfl (made_pick rfl rfl rfl) ?_
          simp only [Act.put, List.setIfInBounds_toArray, List.set_cons_zero, List.set_cons_succ]
          refine mk_step (.bool false) rfl (made_pick rfl rfl rfl) ?_
          simp only [Act.put, List.setIfInBounds_toArray, List.set_cons_zero, List.set_cons_succ]
          exact mk_end
        case h2 =>
          refine rest_done rfl (by kernel_rfl) ?_
          intro w5 hE
          refine NoPanic.normal ?_
          replace b0 := hE.block b0
          replace hx := hx.trans hE
          clear hE
          go_upto_region 6 with (fail)
          refine' wp_plain (m := 5) (A := _) (by kernel_rfl) ?h1 ?h2
          case h1 =>
            refine mk_step (.slice (some ⟨b, o, none⟩) 64 c) rfl (made_move (.inl rfl) rfl) ?_
            simp only [Act.put, List.setIfInBounds_toArray, List.set_cons_zero, List.set_cons_succ]
            refine mk_step (.tuple #[qv 0 0 false, .iface 37 (.int .i64 2)]) rfl (made_fun (args := [.slice (some ⟨b, o, none⟩) 64 c]) rfl rfl (fun W => run_callFunc_in Try.func26 rfl rfl _ W) (fun W hW => KP.out W (hx.trans hW))) ?_
            simp only [Act.put, List.setIfInBounds_toArray, List.set_cons_zero, List.set_cons_succ]
            refine mk_step (.tuple #[qv 0 0 false, .iface 37 (.int .i64 2)]) rfl (made_move (.inl rfl) rfl) ?_
            simp only [Act.put, List.setIfInBounds_toArray, List.set_cons_zero, List.set_cons_succ]
            refine mk_step (qv 0 0 false) rfl (made_ext rfl rfl rfl) ?_
            simp only [Act.put, List.setIfInBounds_toArray, List.set_cons_zero, List.set_cons_succ]
            refine mk_step (.iface 37 (.int .i64 2)) rfl (made_ext rfl rfl rfl) ?_
            simp only [Act.put, List.setIfInBounds_toArray, List.set_cons_zero, List.set_cons_succ]
            exact mk_end
          case h2 =>
            refine prest_var' _ _ rfl rfl rfl rfl rfl rfl rfl (hzT ·) (fun _ => rfl) (fun _ => rfl) (iT _ _ _) (hsT _ _ _) (qc_one _ _ _) ?_
            intro gx w6 hgx bx hE
            replace b0 := hE.block b0
            replace hx := hx.trans hE
            clear hE
            simp only [Act.put, List.setIfInBounds_toArray, List.set_cons_zero, List.set_cons_succ]
            clear hgx
            go_upto_region 7 with (fail)
            refine' wp_plain (m := 5) (A := _) (by kernel_rfl) ?h1 ?h2
            case h1 =>
              refine mk_step (.slice (some ⟨b, o, none⟩) 64 c) rfl (made_move (.inl rfl) rfl) ?_
              simp only [Act.put, List.setIfInBounds_toArray, List.set_cons_zero, List.set_cons_succ]
              refine mk_step (.tuple #[qv 0 0 false, .bool false]) rfl (made_fun (args := [.slice (some ⟨b, o, none⟩) 64 c]) rfl rfl (fun W => run_callFunc_in Try.func27 rfl rfl _ W) (fun W hW => KQ.out W (hx.trans hW))) ?_
              simp only [Act.put, List.setIfInBounds_toArray, List.set_cons_zero, List.set_cons_succ]
              refine mk_step (.tuple #[qv 0 0 false, .bool false]) rfl (made_move (.inl rfl) rfl) ?_
              simp only [Act.put, List.setIfInBounds_toArray, List.set_cons_zero, List.set_cons_succ]
              refine mk_step (qv 0 0 false) rfl (made_ext rfl rfl rfl) ?_
              simp only [Act.put, List.setIfInBounds_toArray, List.set_cons_zero, List.set_cons_succ]
              refine mk_step (.bool false) rfl (made_ext rfl rfl rfl) ?_
              simp only [Act.put, List.setIfInBounds_toArray, List.set_cons_zero, List.set_cons_succ]
              exact mk_end
            case h2 =>
              refine prest_var' _ _ rfl rfl rfl rfl rfl rfl rfl (hzT ·) (fun _ => rfl) (fun _ => rfl) (iT _ _ _) (hsT _ _ _) (qc_one _ _ _) ?_
              intro gz w7 hgz bz hE
              replace b0 := hE.block b0
              replace bx := hE.block bx
              replace hx := hx.trans hE
              clear hE
              simp only [Act.put, List.setIfInBounds_toArray, List.set_cons_zero, List.set_cons_succ]
              clear hgz
              go_upto_region 8 with (fail)
              refine' wp_plain (m := 2) (A := _) (by kernel_rfl) ?h1 ?h2
              case h1 =>
                refine mk_step (.bool false) rfl (made_move (.inl rfl) rfl) ?_
                simp only [Act.put, List.setIfInBounds_toArray, List.set_cons_zero, List.set_cons_succ]
                refine mk_step (.bool true) rfl (made_not' rfl rfl rfl) ?_
                simp only [Act.put, List.setIfInBounds_toArray, List.set_cons_zero, List.set_cons_succ]
                exact mk_end
              case h2 =>
                refine prest_done rfl ?_
                intro w8 hE
                replace b0 := hE.block b0
                replace bx := hE.block bx
                replace bz := hE.block bz
                replace hx := hx.trans hE
                clear hE
                go_upto_region 9 with (fail)
                refine' wp_plainG (m := 12) (A := _) ?h1 ?h2
                case h1 =>
                  refine mk_step (.bool true) rfl (made_move (.inl rfl) rfl) ?_
                  simp only [Act.put, List.setIfInBounds_toArray, List.set_cons_zero, List.set_cons_succ]
                  refine mk_step (.bool true) rfl (made_move (.inl rfl) rfl) ?_
                  simp only [Act.put, List.setIfInBounds_toArray, List.set_cons_zero, List.set_cons_succ]
                  refine mk_want (.iface 37 (.int .i64 2)) rfl (made_move (.inl rfl) rfl) ?_
                  simp only [Act.put, List.setIfInBounds_toArray, List.set_cons_zero, List.set_cons_succ]
                  refine mk_want (.iface 37 (.int .i64 2)) rfl (made_iface rfl (mkErr2 ·)) ?_
                  simp only [Act.put, List.setIfInBounds_toArray, List.set_cons_zero, List.set_cons_succ]
                  refine mk_want (.bool true) rfl (made_bin rfl rfl rfl (fun _ => by kernel_rfl) (fun _ => by kernel_rfl)) ?_
                  simp only [Act.put, List.setIfInBounds_toArray, List.set_cons_zero, List.set_cons_succ]
                  refine mk_step (.bool true) rfl (made_pick rfl rfl rfl) ?_
                  simp only [Act.put, List.setIfInBounds_toArray, List.set_cons_zero, List.set_cons_succ]
                  refine mk_step (.bool true) rfl (made_move (.inl rfl) rfl) ?_
                  simp only [Act.put, List.setIfInBounds_toArray, List.set_cons_zero, List.set_cons_succ]
                  refine mk_want (qv 0 0 false) rfl (made_load rfl rfl bx rfl Try.underlying26 rfl (iT _ _ _)) ?_
                  simp only [Act.put, List.setIfInBounds_toArray, List.set_cons_zero, List.set_cons_succ]
                  refine mk_want (qv 0 0 false) rfl (made_build rfl rfl (bldT0 ·)) ?_
                  simp only [Act.put, List.setIfInBounds_toArray, List.set_cons_zero, List.set_cons_succ]
                  refine mk_want (.bool true) rfl (made_bin rfl rfl rfl (gT _ _ _ _ _ _ _ _ _) (eqT top_pos top_pos)) ?_
                  simp only [Act.put, List.setIfInBounds_toArray, List.set_cons_zero, List.set_cons_succ]
                  refine mk_step (.bool true) rfl (made_pick rfl rfl rfl) ?_
                  simp only [Act.put, List.setIfInBounds_toArray, List.set_cons_zero, List.set_cons_succ]
                  refine mk_step (.bool true) rfl (made_move (.inr rfl) rfl) ?_
                  simp only [Act.put, List.setIfInBounds_toArray, List.set_cons_zero, List.set_cons_succ]
                  exact mk_end
                case h2 =>
                  refine prest_done rfl ?_
                  intro w9 hE
                  replace b0 := hE.block b0
                  replace bx := hE.block bx
                  replace bz := hE.block bz
                  replace hx := hx.trans hE
                  clear hE
                  go_wp2
                  go_ret
                  exact ⟨rfl, hx⟩
set_option maxRecDepth 100000 in
set_option maxHeartbeats 8000000 in
theorem pb_off_none (w : World) (X Y : Nat) (f : Bool) (haX : X < top) (haY : Y < top) (haB : onB X Y f = false) (A : Option Addr) (n c : Nat) (hn : n ≠ 64) :
    Calls Try.prog 5 #[qv X Y f, .slice A n c] w fun e w' => e = .returned (.bool true) ∧ Ext w w' := by
  have kaX := veil haX
  have kaY := veil haY
  have kaB := veil haB
  clear haX haY haB
  have KP := veil (fun (W : World) (_ : Ext w W) => parse_no A n c hn W)
  have KQ := veil (fun (W : World) (_ : Ext w W) => rparse_none A n c hn W)
  clear hn
  unfold qv qc
  go_enter Try.func5, Try.ntmps5
  go_upto_region 1 with (fail)
  obtain ⟨hx, b0⟩ := blocks1 w (.cells #[.int .u64 (wd (X) 0), .int .u64 (wd (X) 1), .int .u64 (wd (X) 2), .int .u64 (wd (X) 3), .int .u64 (wd (Y) 0), .int .u64 (wd (Y) 1), .int .u64 (wd (Y) 2), .int .u64 (wd (Y) 3), .bool (f)] 26)
  generalize w.alloc (.cells #[.int .u64 (wd (X) 0), .int .u64 (wd (X) 1), .int .u64 (wd (X) 2), .int .u64 (wd (X) 3), .int .u64 (wd (Y) 0), .int .u64 (wd (Y) 1), .int .u64 (wd (Y) 2), .int .u64 (wd (Y) 3), .bool (f)] 26) = w1 at *
  have b0 : w1.heap[w.heap.size]? = some (.cells (qc X Y f) 26 (0, 0)) := b0
  refine' wp_plain (m := 2) (A := _) (by kernel_rfl) ?h1 ?h2
  case h1 =>
    refine mk_step (.bool true) rfl (made_fun (args := []) rfl rfl (fun W => run_callFunc_in Try.func9 rfl rfl _ W) (fun W hW => up_is W)) ?_
    simp only [Act.put, List.setIfInBounds_toArray, List.set_cons_zero, List.set_cons_succ]
    refine mk_step (.bool true) rfl (made_move (.inr rfl) rfl) ?_
    simp only [Act.put, List.setIfInBounds_toArray, List.set_cons_zero, List.set_cons_succ]
    exact mk_end
  case h2 =>
    refine prest_done rfl ?_
    intro w2 hE
    replace b0 := hE.block b0
    replace hx := hx.trans hE
    clear hE
    go_upto_region 2 with (fail)
    refine' wp_plain (m := 7) (A := _) (by kernel_rfl) ?h1 ?h2
    case h1 =>
      refine mk_step (qv X Y f) rfl (made_load rfl rfl b0 rfl Try.underlying26 rfl (iT _ _ _)) ?_
      simp only [Act.put, List.setIfInBounds_toArray, List.set_cons_zero, List.set_cons_succ]
      refine mk_step (.tuple #[.slice none 0 0, .iface 37 (.int .i64 1)]) rfl (made_fun (args := [qv X Y f]) rfl rfl (fun W => run_callFunc_in Try.func24 rfl rfl _ W) (fun W hW => bytes_err X Y f kaX.out kaY.out kaB.out W)) ?_
      simp only [Act.put, List.setIfInBounds_toArray, List.set_cons_zero, List.set_cons_succ]
      refine mk_step (.tuple #[.slice none 0 0, .iface 37 (.int .i64 1)]) rfl (made_move (.inl rfl) rfl) ?_
      simp only [Act.put, List.setIfInBounds_toArray, List.set_cons_zero, List.set_cons_succ]
      refine mk_step (.slice none 0 0) rfl (made_ext rfl rfl rfl) ?_
      simp only [Act.put, List.setIfInBounds_toArray, List.set_cons_zero, List.set_cons_succ]
      refine mk_step (.iface 37 (.int .i64 1)) rfl (made_ext rfl rfl rfl) ?_
      simp only [Act.put, List.setIfInBounds_toArray, List.set_cons_zero, List.set_cons_succ]
      refine mk_step (.slice none 0 0) rfl (made_move (.inr rfl) rfl) ?_
      simp only [Act.put, List.setIfInBounds_toArray, List.set_cons_zero, List.set_cons_succ]
      refine mk_step (.iface 37 (.int .i64 1)) rfl (made_move (.inr rfl) rfl) ?_
      simp only [Act.put, List.setIfInBounds_toArray, List.set_cons_zero, List.set_cons_succ]
      exact mk_end
    case h2 =>
      refine prest_done rfl ?_
      intro w3 hE
      replace b0 := hE.block b0
      replace hx := hx.trans hE
      clear hE
      go_upto_region 3 with (fail)
      refine' wp_plain (m := 3) (A := _) (by kernel_rfl) ?h1 ?h2
      case h1 =>
        refine mk_step (qv X Y f) rfl (made_load rfl rfl b0 rfl Try.underlying26 rfl (iT _ _ _)) ?_
        simp only [Act.put, List.setIfInBounds_toArray, List.set_cons_zero, List.set_cons_succ]
        refine mk_step (.bool false) rfl (made_fun (args := [qv X Y f]) rfl rfl (fun W => run_callFunc_in Try.func10 rfl rfl _ W) (fun W hW => rOn_no kaX.out kaY.out kaB.out W)) ?_
        simp only [Act.put, List.setIfInBounds_toArray, List.set_cons_zero, List.set_cons_succ]
        refine mk_step (.bool false) rfl (made_move (.inr rfl) rfl) ?_
        simp only [Act.put, List.setIfInBounds_toArray, List.set_cons_zero, List.set_cons_succ]
        exact mk_end
      case h2 =>
        refine prest_done rfl ?_
        intro w4 hE
        replace b0 := hE.block b0
        replace hx := hx.trans hE
        clear hE
        go_upto_region 4 with (fail)
        refine' wp_madeG (m := 36) (A := _) 36 (by kernel_rfl) (by kernel_rfl) ?h1 ?h2
        case h1 =>
          refine mk_step (.bool false) rfl (made_move (.inl rfl) rfl) ?_
          simp only [Act.put, List.setIfInBounds_toArray, List.set_cons_zero, List.set_cons_succ]
          refine mk_step (.bool false) rfl (made_move (.inl rfl) rfl) ?_
          simp only [Act.put, List.setIfInBounds_toArray, List.set_cons_zero, List.set_cons_succ]
          refine mk_skip rfl ?_
          simp only [Act.put, List.setIfInBounds_toArray, List.set_cons_zero, List.set_cons_succ]
          refine mk_skip rfl ?_
          simp only [Act.put, List.setIfInBounds_toArray, List.set_cons_zero, List.set_cons_succ]
          refine mk_skip rfl ?_
          simp only [Act.put, List.setIfInBounds_toArray, List.set_cons_zero, List.set_cons_succ]
          refine mk_step (.bool false) rfl (made_pick rfl rfl rfl) ?_
          simp only [Act.put, List.setIfInBounds_toArray, List.set_cons_zero, List.set_cons_succ]
          refine mk_step (.bool false) rfl (made_move (.inl rfl) rfl) ?_
          simp only [Act.put, List.setIfInBounds_toArray, List.set_cons_zero, List.set_cons_succ]
          refine mk_skip rfl ?_
          simp only [Act.put, List.setIfInBounds_toArray, List.set_cons_zero, List.set_cons_succ]
          refine mk_skip rfl ?_
          simp only [Act.put, List.setIfInBounds_toArray, List.set_cons_zero, List.set_cons_succ]
          refine mk_skip rfl ?_
          simp only [Act.put, List.setIfInBounds_toArray, List.set_cons_zero, List.set_cons_succ]
          refine mk_skip rfl ?_
          simp only [Act.put, List.setIfInBounds_toArray, List.set_cons_zero, List.set_cons_succ]
          refine mk_skip rfl ?_
          simp only [Act.put, List.setIfInBounds_toArray, List.set_cons_zero, List.set_cons_succ]
          refine mk_skip rfl ?_
          simp only [Act.put, List.setIfInBounds_toArray, List.set_cons_zero, List.set_cons_succ]
          refine mk_skip rfl ?_
          simp only [Act.put, List.setIfInBounds_toArray, List.set_cons_zero, List.set_cons_succ]
          refine mk_skip rfl ?_
          simp only [Act.put, List.setIfInBounds_toArray, List.set_cons_zero, List.set_cons_succ]
          refine mk_skip rfl ?_
          simp only [Act.put, List.setIfInBounds_toArray, List.set_cons_zero, List.set_cons_succ]
          refine mk_skip rfl ?_
          simp only [Act.put, List.setIfInBounds_toArray, List.set_cons_zero, List.set_cons_succ]
          refine mk_step (.bool false) rfl (made_pick rfl rfl rfl) ?_
          simp only [Act.put, List.setIfInBounds_toArray, List.set_cons_zero, List.set_cons_succ]
          refine mk_step (.bool false) rfl (made_move (.inl rfl) rfl) ?_
          simp only [Act.put, List.setIfInBounds_toArray, List.set_cons_zero, List.set_cons_succ]
          refine mk_want (.bool false) rfl (made_move (.inl rfl) rfl) ?_
          simp only [Act.put, List.setIfInBounds_toArray, List.set_cons_zero, List.set_cons_succ]
          refine mk_want (.bool true) rfl (made_not' rfl rfl rfl) ?_
          simp only [Act.put, List.setIfInBounds_toArray, List.set_cons_zero, List.set_cons_succ]
          refine mk_want (.bool true) rfl (made_move (.inl rfl) rfl) ?_
          simp only [Act.put, List.setIfInBounds_toArray, List.set_cons_zero, List.set_cons_succ]
          refine mk_skip rfl ?_
          simp only [Act.put, List.setIfInBounds_toArray, List.set_cons_zero, List.set_cons_succ]
          refine mk_skip rfl ?_
          simp only [Act.put, List.setIfInBounds_toArray, List.set_cons_zero, List.set_cons_succ]
          refine mk_want (.bool true) rfl (made_pick rfl rfl rfl) ?_
          simp only [Act.put, List.setIfInBounds_toArray, List.set_cons_zero, List.set_cons_succ]
          refine mk_want (.bool true) rfl (made_move (.inl rfl) rfl) ?_
          simp only [Act.put, List.setIfInBounds_toArray, List.set_cons_zero, List.set_cons_succ]
          refine mk_want (.iface 37 (.int .i64 1)) rfl (made_move (.inl rfl) rfl) ?_
          simp only [Act.put, List.setIfInBounds_toArray, List.set_cons_zero, List.set_cons_succ]
          refine mk_want (.iface 37 (.int .i64 1)) rfl (made_iface rfl (mkErr1 ·)) ?_
          simp only [Act.put, List.setIfInBounds_toArray, List.set_cons_zero, List.set_cons_succ]
          refine mk_want (.bool false) rfl (made_bin rfl rfl rfl (fun _ => by kernel_rfl) (fun _ => by kernel_rfl)) ?_
          simp only [Act.put, List.setIfInBounds_toArray, List.set_cons_zero, List.set_cons_succ]
          refine mk_want (.bool false) rfl (made_move (.inl rfl) rfl) ?_
          simp only [Act.put, List.setIfInBounds_toArray, List.set_cons_zero, List.set_cons_succ]
          refine mk_want (.slice none 0 0) rfl (made_move (.inl rfl) rfl) ?_
          simp only [Act.put, List.setIfInBounds_toArray, List.set_cons_zero, List.set_cons_succ]
          refine mk_want (.int .i64 (0 : Nat)) rfl (made_len (n := 0) rfl rfl) ?_
          simp only [Act.put, List.setIfInBounds_toArray, List.set_cons_zero, List.set_cons_succ]
          refine mk_want (.bool false) rfl (made_bin rfl rfl rfl (fun _ => by kernel_rfl) (fun _ => by kernel_rfl)) ?_
          simp only [Act.put, List.setIfInBounds_toArray, List.set_cons_zero, List.set_cons_succ]
          refine mk_want (.bool false) rfl (made_pick rfl rfl rfl) ?_
          simp only [Act.put, List.setIfInBounds_toArray, List.set_cons_zero, List.set_cons_succ]
          refine mk_want (.bool false) rfl (made_pick rfl rfl rfl) ?_
          simp only [Act.put, List.setIfInBounds_toArray, List.set_cons_zero, List.set_cons_succ]
          refine mk_step (.bool false) rfl (made_pick rfl rfl rfl) ?_
          simp only [Act.put, List.setIfInBounds_toArray, List.set_cons_zero, List.set_cons_succ]
          exact mk_end
        case h2 =>
          refine rest_done rfl (by kernel_rfl) ?_
          intro w5 hE
          refine NoPanic.normal ?_
          replace b0 := hE.block b0
          replace hx := hx.trans hE
          clear hE
          go_upto_region 6 with (fail)
          refine' wp_plain (m := 5) (A := _) (by kernel_rfl) ?h1 ?h2
          case h1 =>
            refine mk_step (.slice A n c) rfl (made_move (.inl rfl) rfl) ?_
            simp only [Act.put, List.setIfInBounds_toArray, List.set_cons_zero, List.set_cons_succ]
            refine mk_step (.tuple #[qv 0 0 false, .iface 37 (.int .i64 2)]) rfl (made_fun (args := [.slice A n c]) rfl rfl (fun W => run_callFunc_in Try.func26 rfl rfl _ W) (fun W hW => KP.out W (hx.trans hW))) ?_
            simp only [Act.put, List.setIfInBounds_toArray, List.set_cons_zero, List.set_cons_succ]
            refine mk_step (.tuple #[qv 0 0 false, .iface 37 (.int .i64 2)]) rfl (made_move (.inl rfl) rfl) ?_
            simp only [Act.put, List.setIfInBounds_toArray, List.set_cons_zero, List.set_cons_succ]
            refine mk_step (qv 0 0 false) rfl (made_ext rfl rfl rfl) ?_
            simp only [Act.put, List.setIfInBounds_toArray, List.set_cons_zero, List.set_cons_succ]
            refine mk_step (.iface 37 (.int .i64 2)) rfl (made_ext rfl rfl rfl) ?_
            simp only [Act.put, List.setIfInBounds_toArray, List.set_cons_zero, List.set_cons_succ]
            exact mk_end
          case h2 =>
            refine prest_var' _ _ rfl rfl rfl rfl rfl rfl rfl (hzT ·) (fun _ => rfl) (fun _ => rfl) (iT _ _ _) (hsT _ _ _) (qc_one _ _ _) ?_
            intro gx w6 hgx bx hE
            replace b0 := hE.block b0
            replace hx := hx.trans hE
            clear hE
            simp only [Act.put, List.setIfInBounds_toArray, List.set_cons_zero, List.set_cons_succ]
            clear hgx
            go_upto_region 7 with (fail)
            refine' wp_plain (m := 5) (A := _) (by kernel_rfl) ?h1 ?h2
            case h1 =>
              refine mk_step (.slice A n c) rfl (made_move (.inl rfl) rfl) ?_
              simp only [Act.put, List.setIfInBounds_toArray, List.set_cons_zero, List.set_cons_succ]
              refine mk_step (.tuple #[qv 0 0 false, .bool false]) rfl (made_fun (args := [.slice A n c]) rfl rfl (fun W => run_callFunc_in Try.func27 rfl rfl _ W) (fun W hW => KQ.out W (hx.trans hW))) ?_
              simp only [Act.put, List.setIfInBounds_toArray, List.set_cons_zero, List.set_cons_succ]
              refine mk_step (.tuple #[qv 0 0 false, .bool false]) rfl (made_move (.inl rfl) rfl) ?_
              simp only [Act.put, List.setIfInBounds_toArray, List.set_cons_zero, List.set_cons_succ]
              refine mk_step (qv 0 0 false) rfl (made_ext rfl rfl rfl) ?_
              simp only [Act.put, List.setIfInBounds_toArray, List.set_cons_zero, List.set_cons_succ]
              refine mk_step (.bool false) rfl (made_ext rfl rfl rfl) ?_
              simp only [Act.put, List.setIfInBounds_toArray, List.set_cons_zero, List.set_cons_succ]
              exact mk_end
            case h2 =>
              refine prest_var' _ _ rfl rfl rfl rfl rfl rfl rfl (hzT ·) (fun _ => rfl) (fun _ => rfl) (iT _ _ _) (hsT _ _ _) (qc_one _ _ _) ?_
              intro gz w7 hgz bz hE
              replace b0 := hE.block b0
              replace bx := hE.block bx
              replace hx := hx.trans hE
              clear hE
              simp only [Act.put, List.setIfInBounds_toArray, List.set_cons_zero, List.set_cons_succ]
              clear hgz
              go_upto_region 8 with (fail)
              refine' wp_plain (m := 2) (A := _) (by kernel_rfl) ?h1 ?h2
              case h1 =>
                refine mk_step (.bool false) rfl (made_move (.inl rfl) rfl) ?_
                simp only [Act.put, List.setIfInBounds_toArray, List.set_cons_zero, List.set_cons_succ]
                refine mk_step (.bool true) rfl (made_not' rfl rfl rfl) ?_
                simp only [Act.put, List.setIfInBounds_toArray, List.set_cons_zero, List.set_cons_succ]
                exact mk_end
              case h2 =>
                refine prest_done rfl ?_
                intro w8 hE
                replace b0 := hE.block b0
                replace bx := hE.block bx
                replace bz := hE.block bz
                replace hx := hx.trans hE
                clear hE
                go_upto_region 9 with (fail)
                refine' wp_plainG (m := 12) (A := _) ?h1 ?h2
                case h1 =>
                  refine mk_step (.bool true) rfl (made_move (.inl rfl) rfl) ?_
                  simp only [Act.put, List.setIfInBounds_toArray, List.set_cons_zero, List.set_cons_succ]
                  refine mk_step (.bool true) rfl (made_move (.inl rfl) rfl) ?_
                  simp only [Act.put, List.setIfInBounds_toArray, List.set_cons_zero, List.set_cons_succ]
                  refine mk_want (.iface 37 (.int .i64 2)) rfl (made_move (.inl rfl) rfl) ?_
                  simp only [Act.put, List.setIfInBounds_toArray, List.set_cons_zero, List.set_cons_succ]
                  refine mk_want (.iface 37 (.int .i64 2)) rfl (made_iface rfl (mkErr2 ·)) ?_
                  simp only [Act.put, List.setIfInBounds_toArray, List.set_cons_zero, List.set_cons_succ]
                  refine mk_want (.bool true) rfl (made_bin rfl rfl rfl (fun _ => by kernel_rfl) (fun _ => by kernel_rfl)) ?_
                  simp only [Act.put, List.setIfInBounds_toArray, List.set_cons_zero, List.set_cons_succ]
                  refine mk_step (.bool true) rfl (made_pick rfl rfl rfl) ?_
                  simp only [Act.put, List.setIfInBounds_toArray, List.set_cons_zero, List.set_cons_succ]
                  refine mk_step (.bool true) rfl (made_move (.inl rfl) rfl) ?_
                  simp only [Act.put, List.setIfInBounds_toArray, List.set_cons_zero, List.set_cons_succ]
                  refine mk_want (qv 0 0 false) rfl (made_load rfl rfl bx rfl Try.underlying26 rfl (iT _ _ _)) ?_
                  simp only [Act.put, List.setIfInBounds_toArray, List.set_cons_zero, List.set_cons_succ]
                  refine mk_want (qv 0 0 false) rfl (made_build rfl rfl (bldT0 ·)) ?_
                  simp only [Act.put, List.setIfInBounds_toArray, List.set_cons_zero, List.set_cons_succ]
                  refine mk_want (.bool true) rfl (made_bin rfl rfl rfl (gT _ _ _ _ _ _ _ _ _) (eqT top_pos top_pos)) ?_
                  simp only [Act.put, List.setIfInBounds_toArray, List.set_cons_zero, List.set_cons_succ]
                  refine mk_step (.bool true) rfl (made_pick rfl rfl rfl) ?_
                  simp only [Act.put, List.setIfInBounds_toArray, List.set_cons_zero, List.set_cons_succ]
                  refine mk_step (.bool true) rfl (made_move (.inr rfl) rfl) ?_
                  simp only [Act.put, List.setIfInBounds_toArray, List.set_cons_zero, List.set_cons_succ]
                  exact mk_end
                case h2 =>
                  refine prest_done rfl ?_
                  intro w9 hE
                  replace b0 := hE.block b0
                  replace bx := hE.block bx
                  replace bz := hE.block bz
                  replace hx := hx.trans hE
                  clear hE
                  go_wp2
                  go_ret
                  exact ⟨rfl, hx⟩
set_option maxRecDepth 100000 in
set_option maxHeartbeats 8000000 in
theorem pb_far_on (w : World) (q : Pt.Q) (hf : Pt.pFar q.1 = true) (b o c : Nat) (y : Nat → Nat) (hy : ∀ j, y j < 256) (hc : 64 ≤ c) (hlt : b < w.heap.size) (hcell : ∀ j, j < 64 → w.cell? ⟨b, o + j, none⟩ = some (.int .u8 (y j : Nat))) (h : onB (be32 y 0) (be32 y 32) false = true) :
    Calls Try.prog 5 #[qv (Pt.pX q.1) (Pt.pY q.1) true, .slice (some ⟨b, o, none⟩) 64 c] w fun e w' => e = .returned (.bool true) ∧ Ext w w' := by
  have kO := rOn_yes q
  unfold qvP at kO
  rw [hf] at kO
  have KO := veil kO
  clear kO
  clear hf
  have KP := veil (fun (W : World) (hW : Ext w W) => parse_on b o c y hy hc W (Nat.lt_of_lt_of_le hlt (Below.size hW)) (fun j hj => (Below.cell (p := ⟨b, o + j, none⟩) hW hlt).trans (hcell j hj)) h)
  have KQ := veil (fun (W : World) (hW : Ext w W) => rparse_on b o c y hy hc W (Nat.lt_of_lt_of_le hlt (Below.size hW)) (fun j hj => (Below.cell (p := ⟨b, o + j, none⟩) hW hlt).trans (hcell j hj)) h)
  have kx := veil (be32_lt hy 0)
  have ky := veil (be32_lt hy 32)
  clear hy hc hlt hcell h
  generalize be32 y 0 = PX at *
  generalize be32 y 32 = PY at *
  unfold qv qc
  go_enter Try.func5, Try.ntmps5
  go_upto_region 1 with (fail)
  obtain ⟨hx, b0⟩ := blocks1 w (.cells #[.int .u64 (wd (Pt.pX q.1) 0), .int .u64 (wd (Pt.pX q.1) 1), .int .u64 (wd (Pt.pX q.1) 2), .int .u64 (wd (Pt.pX q.1) 3), .int .u64 (wd (Pt.pY q.1) 0), .int .u64 (wd (Pt.pY q.1) 1), .int .u64 (wd (Pt.pY q.1) 2), .int .u64 (wd (Pt.pY q.1) 3), .bool (true)] 26)
  generalize w.alloc (.cells #[.int .u64 (wd (Pt.pX q.1) 0), .int .u64 (wd (Pt.pX q.1) 1), .int .u64 (wd (Pt.pX q.1) 2), .int .u64 (wd (Pt.pX q.1) 3), .int .u64 (wd (Pt.pY q.1) 0), .int .u64 (wd (Pt.pY q.1) 1), .int .u64 (wd (Pt.pY q.1) 2), .int .u64 (wd (Pt.pY q.1) 3), .bool (true)] 26) = w1 at *
  have b0 : w1.heap[w.heap.size]? = some (.cells (qc (Pt.pX q.1) (Pt.pY q.1) true) 26 (0, 0)) := b0
  refine' wp_plain (m := 2) (A := _) (by kernel_rfl) ?h1 ?h2
  case h1 =>
    refine mk_step (.bool true) rfl (made_fun (args := []) rfl rfl (fun W => run_callFunc_in Try.func9 rfl rfl _ W) (fun W hW => up_is W)) ?_
    simp only [Act.put, List.setIfInBounds_toArray, List.set_cons_zero, List.set_cons_succ]
    refine mk_step (.bool true) rfl (made_move (.inr rfl) rfl) ?_
    simp only [Act.put, List.setIfInBounds_toArray, List.set_cons_zero, List.set_cons_succ]
    exact mk_end
  case h2 =>
    refine prest_done rfl ?_
    intro w2 hE
    replace b0 := hE.block b0
    replace hx := hx.trans hE
    clear hE
    go_upto_region 2 with (fail)
    refine' wp_plain (m := 7) (A := _) (by kernel_rfl) ?h1 ?h2
    case h1 =>
      refine mk_step (qv (Pt.pX q.1) (Pt.pY q.1) true) rfl (made_load rfl rfl b0 rfl Try.underlying26 rfl (iT _ _ _)) ?_
      simp only [Act.put, List.setIfInBounds_toArray, List.set_cons_zero, List.set_cons_succ]
      refine mk_step (.tuple #[.slice none 0 0, .iface 37 (.int .i64 1)]) rfl (made_fun (args := [qv (Pt.pX q.1) (Pt.pY q.1) true]) rfl rfl (fun W => run_callFunc_in Try.func24 rfl rfl _ W) (fun W hW => bytes_far (Pt.pX q.1) (Pt.pY q.1) W)) ?_
      simp only [Act.put, List.setIfInBounds_toArray, List.set_cons_zero, List.set_cons_succ]
      refine mk_step (.tuple #[.slice none 0 0, .iface 37 (.int .i64 1)]) rfl (made_move (.inl rfl) rfl) ?_
      simp only [Act.put, List.setIfInBounds_toArray, List.set_cons_zero, List.set_cons_succ]
      refine mk_step (.slice none 0 0) rfl (made_ext rfl rfl rfl) ?_
      simp only [Act.put, List.setIfInBounds_toArray, List.set_cons_zero, List.set_cons_succ]
      refine mk_step (.iface 37 (.int .i64 1)) rfl (made_ext rfl rfl rfl) ?_
      simp only [Act.put, List.setIfInBounds_toArray, List.set_cons_zero, List.set_cons_succ]
      refine mk_step (.slice none 0 0) rfl (made_move (.inr rfl) rfl) ?_
      simp only [Act.put, List.setIfInBounds_toArray, List.set_cons_zero, List.set_cons_succ]
      refine mk_step (.iface 37 (.int .i64 1)) rfl (made_move (.inr rfl) rfl) ?_
      simp only [Act.put, List.setIfInBounds_toArray, List.set_cons_zero, List.set_cons_succ]
      exact mk_end
    case h2 =>
      refine prest_done rfl ?_
      intro w3 hE
      replace b0 := hE.block b0
      replace hx := hx.trans hE
      clear hE
      go_upto_region 3 with (fail)
      refine' wp_plain (m := 3) (A := _) (by kernel_rfl) ?h1 ?h2
      case h1 =>
        refine mk_step (qv (Pt.pX q.1) (Pt.pY q.1) true) rfl (made_load rfl rfl b0 rfl Try.underlying26 rfl (iT _ _ _)) ?_
        simp only [Act.put, List.setIfInBounds_toArray, List.set_cons_zero, List.set_cons_succ]
        refine mk_step (.bool true) rfl (made_fun (args := [qv (Pt.pX q.1) (Pt.pY q.1) true]) rfl rfl (fun W => run_callFunc_in Try.func10 rfl rfl _ W) (fun W hW => KO.out W)) ?_
        simp only [Act.put, List.setIfInBounds_toArray, List.set_cons_zero, List.set_cons_succ]
        refine mk_step (.bool true) rfl (made_move (.inr rfl) rfl) ?_
        simp only [Act.put, List.setIfInBounds_toArray, List.set_cons_zero, List.set_cons_succ]
        exact mk_end
      case h2 =>
        refine prest_done rfl ?_
        intro w4 hE
        replace b0 := hE.block b0
        replace hx := hx.trans hE
        clear hE
        go_upto_region 4 with (fail)
        refine' wp_madeG (m := 36) (A := _) 36 (by kernel_rfl) (by kernel_rfl) ?h1 ?h2
        case h1 =>
          refine mk_step (.bool true) rfl (made_move (.inl rfl) rfl) ?_
          simp only [Act.put, List.setIfInBounds_toArray, List.set_cons_zero, List.set_cons_succ]
          refine mk_step (.bool true) rfl (made_move (.inl rfl) rfl) ?_
          simp only [Act.put, List.setIfInBounds_toArray, List.set_cons_zero, List.set_cons_succ]
          refine mk_want (.pointer (some ⟨w.heap.size, 8, none⟩)) rfl (made_field rfl rfl (fldT2 _ ·)) ?_
          simp only [Act.put, List.setIfInBounds_toArray, List.set_cons_zero, List.set_cons_succ]
          refine mk_want (.bool true) rfl (made_load1 rfl rfl b0 rfl (isn_bool ·)) ?_
          simp only [Act.put, List.setIfInBounds_toArray, List.set_cons_zero, List.set_cons_succ]
          refine mk_want (.bool false) rfl (made_not' rfl rfl rfl) ?_
          simp only [Act.put, List.setIfInBounds_toArray, List.set_cons_zero, List.set_cons_succ]
          refine mk_step (.bool false) rfl (made_pick rfl rfl rfl) ?_
          simp only [Act.put, List.setIfInBounds_toArray, List.set_cons_zero, List.set_cons_succ]
          refine mk_step (.bool false) rfl (made_move (.inl rfl) rfl) ?_
          simp only [Act.put, List.setIfInBounds_toArray, List.set_cons_zero, List.set_cons_succ]
          refine mk_skip rfl ?_
          simp only [Act.put, List.setIfInBounds_toArray, List.set_cons_zero, List.set_cons_succ]
          refine mk_skip rfl ?_
          simp only [Act.put, List.setIfInBounds_toArray, List.set_cons_zero, List.set_cons_succ]
          refine mk_skip rfl ?_
          simp only [Act.put, List.setIfInBounds_toArray, List.set_cons_zero, List.set_cons_succ]
          refine mk_skip rfl ?_
          simp only [Act.put, List.setIfInBounds_toArray, List.set_cons_zero, List.set_cons_succ]
          refine mk_skip rfl ?_
          simp only [Act.put, List.setIfInBounds_toArray, List.set_cons_zero, List.set_cons_succ]
          refine mk_skip rfl ?_
          simp only [Act.put, List.setIfInBounds_toArray, List.set_cons_zero, List.set_cons_succ]
          refine mk_skip rfl ?_
          simp only [Act.put, List.setIfInBounds_toArray, List.set_cons_zero, List.set_cons_succ]
          refine mk_skip rfl ?_
          simp only [Act.put, List.setIfInBounds_toArray, List.set_cons_zero, List.set_cons_succ]
          refine mk_skip rfl ?_
          simp only [Act.put, List.setIfInBounds_toArray, List.set_cons_zero, List.set_cons_succ]
          refine mk_skip rfl ?_
          simp only [Act.put, List.setIfInBounds_toArray, List.set_cons_zero, List.set_cons_succ]
          refine mk_step (.bool false) rfl (made_pick rfl rfl rfl) ?_
          simp only [Act.put, List.setIfInBounds_toArray, List.set_cons_zero, List.set_cons_succ]
          refine mk_step (.bool false) rfl (made_move (.inl rfl) rfl) ?_
          simp only [Act.put, List.setIfInBounds_toArray, List.set_cons_zero, List.set_cons_succ]
          refine mk_want (.bool true) rfl (made_move (.inl rfl) rfl) ?_
          simp only [Act.put, List.setIfInBounds_toArray, List.set_cons_zero, List.set_cons_succ]
          refine mk_want (.bool false) rfl (made_not' rfl rfl rfl) ?_
          simp only [Act.put, List.setIfInBounds_toArray, List.set_cons_zero, List.set_cons_succ]
          refine mk_want (.bool false) rfl (made_move (.inl rfl) rfl) ?_
          simp only [Act.put, List.setIfInBounds_toArray, List.set_cons_zero, List.set_cons_succ]
          refine mk_want (.pointer (some ⟨w.heap.size, 8, none⟩)) rfl (made_field rfl rfl (fldT2 _ ·)) ?_
          simp only [Act.put, List.setIfInBounds_toArray, List.set_cons_zero, List.set_cons_succ]
          refine mk_want (.bool true) rfl (made_load1 rfl rfl b0 rfl (isn_bool ·)) ?_
          simp only [Act.put, List.setIfInBounds_toArray, List.set_cons_zero, List.set_cons_succ]
          refine mk_want (.bool true) rfl (made_pick rfl rfl rfl) ?_
          simp only [Act.put, List.setIfInBounds_toArray, List.set_cons_zero, List.set_cons_succ]
          refine mk_want (.bool true) rfl (made_move (.inl rfl) rfl) ?_
          simp only [Act.put, List.setIfInBounds_toArray, List.set_cons_zero, List.set_cons_succ]
          refine mk_want (.iface 37 (.int .i64 1)) rfl (made_move (.inl rfl) rfl) ?_
          simp only [Act.put, List.setIfInBounds_toArray, List.set_cons_zero, List.set_cons_succ]
          refine mk_want (.iface 37 (.int .i64 1)) rfl (made_iface rfl (mkErr1 ·)) ?_
          simp only [Act.put, List.setIfInBounds_toArray, List.set_cons_zero, List.set_cons_succ]
          refine mk_want (.bool false) rfl (made_bin rfl rfl rfl (fun _ => by kernel_rfl) (fun _ => by kernel_rfl)) ?_
          simp only [Act.put, List.setIfInBounds_toArray, List.set_cons_zero, List.set_cons_succ]
          refine mk_want (.bool false) rfl (made_move (.inl rfl) rfl) ?_
          simp only [Act.put, List.setIfInBounds_toArray, List.set_cons_zero, List.set_cons_succ]
          refine mk_want (.slice none 0 0) rfl (made_move (.inl rfl) rfl) ?_
          simp only [Act.put, List.setIfInBounds_toArray, List.set_cons_zero, List.set_cons_succ]
          refine mk_want (.int .i64 (0 : Nat)) rfl (made_len (n := 0) rfl rfl) ?_
          simp only [Act.put, List.setIfInBounds_toArray, List.set_cons_zero, List.set_cons_succ]
          refine mk_want (.bool false) rfl (made_bin rfl rfl rfl (fun _ => by kernel_rfl) (fun _ => by kernel_rfl)) ?_
          simp only [Act.put, List.setIfInBounds_toArray, List.set_cons_zero, List.set_cons_succ]
          refine mk_want (.bool false) rfl (made_pick rfl rfl rfl) ?_
          simp only [Act.put, List.setIfInBounds_toArray, List.set_cons_zero, List.set_cons_succ]
          refine mk_want (.bool false) rfl (made_pick rfl rfl rfl) ?_
          simp only [Act.put, List.setIfInBounds_toArray, List.set_cons_zero, List.set_cons_succ]
          refine mk_step (.bool false) rfl (made_pick rfl rfl rfl) ?_
          simp only [Act.put, List.setIfInBounds_toArray, List.set_cons_zero, List.set_cons_succ]
          exact mk_end
        case h2 =>
          refine rest_done rfl (by kernel_rfl) ?_
          intro w5 hE
          refine NoPanic.normal ?_
          replace b0 := hE.block b0
          replace hx := hx.trans hE
          clear hE
          go_upto_region 6 with (fail)
          refine' wp_plain (m := 5) (A := _) (by kernel_rfl) ?h1 ?h2
          case h1 =>
            refine mk_step (.slice (some ⟨b, o, none⟩) 64 c) rfl (made_move (.inl rfl) rfl) ?_
            simp only [Act.put, List.setIfInBounds_toArray, List.set_cons_zero, List.set_cons_succ]
            refine mk_step (.tuple #[qv PX PY false, .nilIface]) rfl (made_fun (args := [.slice (some ⟨b, o, none⟩) 64 c]) rfl rfl (fun W => run_callFunc_in Try.func26 rfl rfl _ W) (fun W hW => KP.out W (hx.trans hW))) ?_
            simp only [Act.put, List.setIfInBounds_toArray, List.set_cons_zero, List.set_cons_succ]
            refine mk_step (.tuple #[qv PX PY false, .nilIface]) rfl (made_move (.inl rfl) rfl) ?_
            simp only [Act.put, List.setIfInBounds_toArray, List.set_cons_zero, List.set_cons_succ]
            refine mk_step (qv PX PY false) rfl (made_ext rfl rfl rfl) ?_
            simp only [Act.put, List.setIfInBounds_toArray, List.set_cons_zero, List.set_cons_succ]
            refine mk_step (.nilIface) rfl (made_ext rfl rfl rfl) ?_
            simp only [Act.put, List.setIfInBounds_toArray, List.set_cons_zero, List.set_cons_succ]
            exact mk_end
          case h2 =>
            refine prest_var' _ _ rfl rfl rfl rfl rfl rfl rfl (hzT ·) (fun _ => rfl) (fun _ => rfl) (iT _ _ _) (hsT _ _ _) (qc_one _ _ _) ?_
            intro gx w6 hgx bx hE
            replace b0 := hE.block b0
            replace hx := hx.trans hE
            clear hE
            simp only [Act.put, List.setIfInBounds_toArray, List.set_cons_zero, List.set_cons_succ]
            clear hgx
            go_upto_region 7 with (fail)
            refine' wp_plain (m := 5) (A := _) (by kernel_rfl) ?h1 ?h2
            case h1 =>
              refine mk_step (.slice (some ⟨b, o, none⟩) 64 c) rfl (made_move (.inl rfl) rfl) ?_
              simp only [Act.put, List.setIfInBounds_toArray, List.set_cons_zero, List.set_cons_succ]
              refine mk_step (.tuple #[qv PX PY false, .bool true]) rfl (made_fun (args := [.slice (some ⟨b, o, none⟩) 64 c]) rfl rfl (fun W => run_callFunc_in Try.func27 rfl rfl _ W) (fun W hW => KQ.out W (hx.trans hW))) ?_
              simp only [Act.put, List.setIfInBounds_toArray, List.set_cons_zero, List.set_cons_succ]
              refine mk_step (.tuple #[qv PX PY false, .bool true]) rfl (made_move (.inl rfl) rfl) ?_
              simp only [Act.put, List.setIfInBounds_toArray, List.set_cons_zero, List.set_cons_succ]
              refine mk_step (qv PX PY false) rfl (made_ext rfl rfl rfl) ?_
              simp only [Act.put, List.setIfInBounds_toArray, List.set_cons_zero, List.set_cons_succ]
              refine mk_step (.bool true) rfl (made_ext rfl rfl rfl) ?_
              simp only [Act.put, List.setIfInBounds_toArray, List.set_cons_zero, List.set_cons_succ]
              exact mk_end
            case h2 =>
              refine prest_var' _ _ rfl rfl rfl rfl rfl rfl rfl (hzT ·) (fun _ => rfl) (fun _ => rfl) (iT _ _ _) (hsT _ _ _) (qc_one _ _ _) ?_
              intro gz w7 hgz bz hE
              replace b0 := hE.block b0
              replace bx := hE.block bx
              replace hx := hx.trans hE
              clear hE
              simp only [Act.put, List.setIfInBounds_toArray, List.set_cons_zero, List.set_cons_succ]
              clear hgz
              go_upto_region 8 with (fail)
              refine' wp_plain (m := 2) (A := _) (by kernel_rfl) ?h1 ?h2
              case h1 =>
                refine mk_step (.bool true) rfl (made_move (.inl rfl) rfl) ?_
                simp only [Act.put, List.setIfInBounds_toArray, List.set_cons_zero, List.set_cons_succ]
                refine mk_step (.bool false) rfl (made_not' rfl rfl rfl) ?_
                simp only [Act.put, List.setIfInBounds_toArray, List.set_cons_zero, List.set_cons_succ]
                exact mk_end
              case h2 =>
                refine prest_done rfl ?_
                intro w8 hE
                replace b0 := hE.block b0
                replace bx := hE.block bx
                replace bz := hE.block bz
                replace hx := hx.trans hE
                clear hE
                go_upto_region 10 with (fail)
                refine' wp_plainG (m := 11) (A := _) ?h1 ?h2
                case h1 =>
                  refine mk_step (.bool true) rfl (made_move (.inl rfl) rfl) ?_
                  simp only [Act.put, List.setIfInBounds_toArray, List.set_cons_zero, List.set_cons_succ]
                  refine mk_step (.bool true) rfl (made_move (.inl rfl) rfl) ?_
                  simp only [Act.put, List.setIfInBounds_toArray, List.set_cons_zero, List.set_cons_succ]
                  refine mk_want (.nilIface) rfl (made_move (.inl rfl) rfl) ?_
                  simp only [Act.put, List.setIfInBounds_toArray, List.set_cons_zero, List.set_cons_succ]
                  refine mk_want (.bool true) rfl (made_bin rfl rfl rfl (fun _ => by kernel_rfl) (fun _ => by kernel_rfl)) ?_
                  simp only [Act.put, List.setIfInBounds_toArray, List.set_cons_zero, List.set_cons_succ]
                  refine mk_step (.bool true) rfl (made_pick rfl rfl rfl) ?_
                  simp only [Act.put, List.setIfInBounds_toArray, List.set_cons_zero, List.set_cons_succ]
                  refine mk_step (.bool true) rfl (made_move (.inl rfl) rfl) ?_
                  simp only [Act.put, List.setIfInBounds_toArray, List.set_cons_zero, List.set_cons_succ]
                  refine mk_want (qv PX PY false) rfl (made_load rfl rfl bx rfl Try.underlying26 rfl (iT _ _ _)) ?_
                  simp only [Act.put, List.setIfInBounds_toArray, List.set_cons_zero, List.set_cons_succ]
                  refine mk_want (qv PX PY false) rfl (made_load rfl rfl bz rfl Try.underlying26 rfl (iT _ _ _)) ?_
                  simp only [Act.put, List.setIfInBounds_toArray, List.set_cons_zero, List.set_cons_succ]
                  refine mk_want (.bool true) rfl (made_bin rfl rfl rfl (gT _ _ _ _ _ _ _ _ _) (eqT kx.out ky.out)) ?_
                  simp only [Act.put, List.setIfInBounds_toArray, List.set_cons_zero, List.set_cons_succ]
                  refine mk_step (.bool true) rfl (made_pick rfl rfl rfl) ?_
                  simp only [Act.put, List.setIfInBounds_toArray, List.set_cons_zero, List.set_cons_succ]
                  refine mk_step (.bool true) rfl (made_move (.inr rfl) rfl) ?_
                  simp only [Act.put, List.setIfInBounds_toArray, List.set_cons_zero, List.set_cons_succ]
                  exact mk_end
                case h2 =>
                  refine prest_done rfl ?_
                  intro w9 hE
                  replace b0 := hE.block b0
                  replace bx := hE.block bx
                  replace bz := hE.block bz
                  replace hx := hx.trans hE
                  clear hE
                  go_wp2
                  go_ret
                  exact ⟨rfl, hx⟩
set_option maxRecDepth 100000 in
set_option maxHeartbeats 8000000 in
theorem pb_far_off (w : World) (q : Pt.Q) (hf : Pt.pFar q.1 = true) (b o c : Nat) (y : Nat → Nat) (hy : ∀ j, y j < 256) (hc : 64 ≤ c) (hlt : b < w.heap.size) (hcell : ∀ j, j < 64 → w.cell? ⟨b, o + j, none⟩ = some (.int .u8 (y j : Nat))) (h : onB (be32 y 0) (be32 y 32) false = false) :
    Calls Try.prog 5 #[qv (Pt.pX q.1) (Pt.pY q.1) true, .slice (some ⟨b, o, none⟩) 64 c] w fun e w' => e = .returned (.bool true) ∧ Ext w w' := by
  have kO := rOn_yes q
  unfold qvP at kO
  rw [hf] at kO
  have KO := veil kO
  clear kO
  clear hf
  have KP := veil (fun (W : World) (hW : Ext w W) => parse_off b o c y hy hc W (Nat.lt_of_lt_of_le hlt (Below.size hW)) (fun j hj => (Below.cell (p := ⟨b, o + j, none⟩) hW hlt).trans (hcell j hj)) h)
  have KQ := veil (fun (W : World) (hW : Ext w W) => rparse_off b o c y hy hc W (Nat.lt_of_lt_of_le hlt (Below.size hW)) (fun j hj => (Below.cell (p := ⟨b, o + j, none⟩) hW hlt).trans (hcell j hj)) h)
  have kx := veil (be32_lt hy 0)
  have ky := veil (be32_lt hy 32)
  clear hy hc hlt hcell h
  generalize be32 y 0 = PX at *
  generalize be32 y 32 = PY at *
  unfold qv qc
  go_enter Try.func5, Try.ntmps5
  go_upto_region 1 with (fail)
  obtain ⟨hx, b0⟩ := blocks1 w (.cells #[.int .u64 (wd (Pt.pX q.1) 0), .int .u64 (wd (Pt.pX q.1) 1), .int .u64 (wd (Pt.pX q.1) 2), .int .u64 (wd (Pt.pX q.1) 3), .int .u64 (wd (Pt.pY q.1) 0), .int .u64 (wd (Pt.pY q.1) 1), .int .u64 (wd (Pt.pY q.1) 2), .int .u64 (wd (Pt.pY q.1) 3), .bool (true)] 26)
  generalize w.alloc (.cells #[.int .u64 (wd (Pt.pX q.1) 0), .int .u64 (wd (Pt.pX q.1) 1), .int .u64 (wd (Pt.pX q.1) 2), .int .u64 (wd (Pt.pX q.1) 3), .int .u64 (wd (Pt.pY q.1) 0), .int .u64 (wd (Pt.pY q.1) 1), .int .u64 (wd (Pt.pY q.1) 2), .int .u64 (wd (Pt.pY q.1) 3), .bool (true)] 26) = w1 at *
  have b0 : w1.heap[w.heap.size]? = some (.cells (qc (Pt.pX q.1) (Pt.pY q.1) true) 26 (0, 0)) := b0
  refine' wp_plain (m := 2) (A := _) (by kernel_rfl) ?h1 ?h2
  case h1 =>
    refine mk_step (.bool true) rfl (made_fun (args := []) rfl rfl (fun W => run_callFunc_in Try.func9 rfl rfl _ W) (fun W hW => up_is W)) ?_
    simp only [Act.put, List.setIfInBounds_toArray, List.set_cons_zero, List.set_cons_succ]
    refine mk_step (.bool true) rfl (made_move (.inr rfl) rfl) ?_
    simp only [Act.put, List.setIfInBounds_toArray, List.set_cons_zero, List.set_cons_succ]
    exact mk_end
  case h2 =>
    refine prest_done rfl ?_
    intro w2 hE
    replace b0 := hE.block b0
    replace hx := hx.trans hE
    clear hE
    go_upto_region 2 with (fail)
    refine' wp_plain (m := 7) (A := _) (by kernel_rfl) ?h1 ?h2
    case h1 =>
      refine mk_step (qv (Pt.pX q.1) (Pt.pY q.1) true) rfl (made_load rfl rfl b0 rfl Try.underlying26 rfl (iT _ _ _)) ?_
      simp only [Act.put, List.setIfInBounds_toArray, List.set_cons_zero, List.set_cons_succ]
      refine mk_step (.tuple #[.slice none 0 0, .iface 37 (.int .i64 1)]) rfl (made_fun (args := [qv (Pt.pX q.1) (Pt.pY q.1) true]) rfl rfl (fun W => run_callFunc_in Try.func24 rfl rfl _ W) (fun W hW => bytes_far (Pt.pX q.1) (Pt.pY q.1) W)) ?_
      simp only [Act.put, List.setIfInBounds_toArray, List.set_cons_zero, List.set_cons_succ]
      refine mk_step (.tuple #[.slice none 0 0, .iface 37 (.int .i64 1)]) rfl (made_move (.inl rfl) rfl) ?_
      simp only [Act.put, List.setIfInBounds_toArray, List.set_cons_zero, List.set_cons_succ]
      refine mk_step (.slice none 0 0) rfl (made_ext rfl rfl rfl) ?_
      simp only [Act.put, List.setIfInBounds_toArray, List.set_cons_zero, List.set_cons_succ]
      refine mk_step (.iface 37 (.int .i64 1)) rfl (made_ext rfl rfl rfl) ?_
      simp only [Act.put, List.setIfInBounds_toArray, List.set_cons_zero, List.set_cons_succ]
      refine mk_step (.slice none 0 0) rfl (made_move (.inr rfl) rfl) ?_
      simp only [Act.put, List.setIfInBounds_toArray, List.set_cons_zero, List.set_cons_succ]
      refine mk_step (.iface 37 (.int .i64 1)) rfl (made_move (.inr rfl) rfl) ?_
      simp only [Act.put, List.setIfInBounds_toArray, List.set_cons_zero, List.set_cons_succ]
      exact mk_end
    case h2 =>
      refine prest_done rfl ?_
      intro w3 hE
      replace b0 := hE.block b0
      replace hx := hx.trans hE
      clear hE
      go_upto_region 3 with (fail)
      refine' wp_plain (m := 3) (A := _) (by kernel_rfl) ?h1 ?h2
      case h1 =>
        refine mk_step (qv (Pt.pX q.1) (Pt.pY q.1) true) rfl (made_load rfl rfl b0 rfl Try.underlying26 rfl (iT _ _ _)) ?_
        simp only [Act.put, List.setIfInBounds_toArray, List.set_cons_zero, List.set_cons_succ]
        refine mk_step (.bool true) rfl (made_fun (args := [qv (Pt.pX q.1) (Pt.pY q.1) true]) rfl rfl (fun W => run_callFunc_in Try.func10 rfl rfl _ W) (fun W hW => KO.out W)) ?_
        simp only [Act.put, List.setIfInBounds_toArray, List.set_cons_zero, List.set_cons_succ]
        refine mk_step (.bool true) rfl (made_move (.inr rfl) rfl) ?_
        simp only [Act.put, List.setIfInBounds_toArray, List.set_cons_zero, List.set_cons_succ]
        exact mk_end
      case h2 =>
        refine prest_done rfl ?_
        intro w4 hE
        replace b0 := hE.block b0
        replace hx := hx.trans hE
        clear hE
        go_upto_region 4 with (fail)
        refine' wp_madeG (m := 36) (A := _) 36 (by kernel_rfl) (by kernel_rfl) ?h1 ?h2
        case h1 =>
          refine mk_step (.bool true) rfl (made_move (.inl rfl) rfl) ?_
          simp only [Act.put, List.setIfInBounds_toArray, List.set_cons_zero, List.set_cons_succ]
          refine mk_step (.bool true) rfl (made_move (.inl rfl) rfl) ?_
          simp only [Act.put, List.setIfInBounds_toArray, List.set_cons_zero, List.set_cons_succ]
          refine mk_want (.pointer (some ⟨w.heap.size, 8, none⟩)) rfl (made_field rfl rfl (fldT2 _ ·)) ?_
          simp only [Act.put, List.setIfInBounds_toArray, List.set_cons_zero, List.set_cons_succ]
          refine mk_want (.bool true) rfl (made_load1 rfl rfl b0 rfl (isn_bool ·)) ?_
          simp only [Act.put, List.setIfInBounds_toArray, List.set_cons_zero, List.set_cons_succ]
          refine mk_want (.bool false) rfl (made_not' rfl rfl rfl) ?_
          simp only [Act.put, List.setIfInBounds_toArray, List.set_cons_zero, List.set_cons_succ]
          refine mk_step (.bool false) rfl (made_pick rfl rfl rfl) ?_
          simp only [Act.put, List.setIfInBounds_toArray, List.set_cons_zero, List.set_cons_succ]
          refine mk_step (.bool false) rfl (made_move (.inl rfl) rfl) ?_
          simp only [Act.put, List.setIfInBounds_toArray, List.set_cons_zero, List.set_cons_succ]
          refine mk_skip rfl ?_
          simp only [Act.put, List.setIfInBounds_toArray, List.set_cons_zero, List.set_cons_succ]
          refine mk_skip rfl ?_
          simp only [Act.put, List.setIfInBounds_toArray, List.set_cons_zero, List.set_cons_succ]
          refine mk_skip rfl ?_
          simp only [Act.put, List.setIfInBounds_toArray, List.set_cons_zero, List.set_cons_succ]
          refine mk_skip rfl ?_
          simp only [Act.put, List.setIfInBounds_toArray, List.set_cons_zero, List.set_cons_succ]
          refine mk_skip rfl ?_
          simp only [Act.put, List.setIfInBounds_toArray, List.set_cons_zero, List.set_cons_succ]
          refine mk_skip rfl ?_
          simp only [Act.put, List.setIfInBounds_toArray, List.set_cons_zero, List.set_cons_succ]
          refine mk_skip rfl ?_
          simp only [Act.put, List.setIfInBounds_toArray, List.set_cons_zero, List.set_cons_succ]
          refine mk_skip rfl ?_
          simp only [Act.put, List.setIfInBounds_toArray, List.set_cons_zero, List.set_cons_succ]
          refine mk_skip rfl ?_
          simp only [Act.put, List.setIfInBounds_toArray, List.set_cons_zero, List.set_cons_succ]
          refine mk_skip rfl ?_
          simp only [Act.put, List.setIfInBounds_toArray, List.set_cons_zero, List.set_cons_succ]
          refine mk_step (.bool false) rfl (made_pick rfl rfl rfl) ?_
          simp only [Act.put, List.setIfInBounds_toArray, List.set_cons_zero, List.set_cons_succ]
          refine mk_step (.bool false) rfl (made_move (.inl rfl) rfl) ?_
          simp only [Act.put, List.setIfInBounds_toArray, List.set_cons_zero, List.set_cons_succ]
          refine mk_want (.bool true) rfl (made_move (.inl rfl) rfl) ?_
          simp only [Act.put, List.setIfInBounds_toArray, List.set_cons_zero, List.set_cons_succ]
          refine mk_want (.bool false) rfl (made_not' rfl rfl rfl) ?_
          simp only [Act.put, List.setIfInBounds_toArray, List.set_cons_zero, List.set_cons_succ]
          refine mk_want (.bool false) rfl (made_move (.inl rfl) rfl) ?_
          simp only [Act.put, List.setIfInBounds_toArray, List.set_cons_zero, List.set_cons_succ]
          refine mk_want (.pointer (some ⟨w.heap.size, 8, none⟩)) rfl (made_field rfl rfl (fldT2 _ ·)) ?_
          simp only [Act.put, List.setIfInBounds_toArray, List.set_cons_zero, List.set_cons_succ]
          refine mk_want (.bool true) rfl (made_load1 rfl rfl b0 rfl (isn_bool ·)) ?_
          simp only [Act.put, List.setIfInBounds_toArray, List.set_cons_zero, List.set_cons_succ]
          refine mk_want (.bool true) rfl (made_pick rfl rfl rfl) ?_
          simp only [Act.put, List.setIfInBounds_toArray, List.set_cons_zero, List.set_cons_succ]
          refine mk_want (.bool true) rfl (made_move (.inl rfl) rfl) ?_
          simp only [Act.put, List.setIfInBounds_toArray, List.set_cons_zero, List.set_cons_succ]
          refine mk_want (.iface 37 (.int .i64 1)) rfl (made_move (.inl rfl) rfl) ?_
          simp only [Act.put, List.setIfInBounds_toArray, List.set_cons_zero, List.set_cons_succ]
          refine mk_want (.iface 37 (.int .i64 1)) rfl (made_iface rfl (mkErr1 ·)) ?_
          simp only [Act.put, List.setIfInBounds_toArray, List.set_cons_zero, List.set_cons_succ]
          refine mk_want (.bool false) rfl (made_bin rfl rfl rfl (fun _ => by kernel_rfl) (fun _ => by kernel_rfl)) ?_
          simp only [Act.put, List.setIfInBounds_toArray, List.set_cons_zero, List.set_cons_succ]
          refine mk_want (.bool false) rfl (made_move (.inl rfl) rfl) ?_
          simp only [Act.put, List.setIfInBounds_toArray, List.set_cons_zero, List.set_cons_succ]
          refine mk_want (.slice none 0 0) rfl (made_move (.inl rfl) rfl) ?_
          simp only [Act.put, List.setIfInBounds_toArray, List.set_cons_zero, List.set_cons_succ]
          refine mk_want (.int .i64 (0 : Nat)) rfl (made_len (n := 0) rfl rfl) ?_
          simp only [Act.put, List.setIfInBounds_toArray, List.set_cons_zero, List.set_cons_succ]
          refine mk_want (.bool false) rfl (made_bin rfl rfl rfl (fun _ => by kernel_rfl) (fun _ => by kernel_rfl)) ?_
          simp only [Act.put, List.setIfInBounds_toArray, List.set_cons_zero, List.set_cons_succ]
          refine mk_want (.bool false) rfl (made_pick rfl rfl rfl) ?_
          simp only [Act.put, List.setIfInBounds_toArray, List.set_cons_zero, List.set_cons_succ]
          refine mk_want (.bool false) rfl (made_pick rfl rfl rfl) ?_
          simp only [Act.put, List.setIfInBounds_toArray, List.set_cons_zero, List.set_cons_succ]
          refine mk_step (.bool false) rfl (made_pick rfl rfl rfl) ?_
          simp only [Act.put, List.setIfInBounds_toArray, List.set_cons_zero, List.set_cons_succ]
          exact mk_end
        case h2 =>
          refine rest_done rfl (by kernel_rfl) ?_
          intro w5 hE
          refine NoPanic.normal ?_
          replace b0 := hE.block b0
          replace hx := hx.trans hE
          clear hE
          go_upto_region 6 with (fail)
          refine' wp_plain (m := 5) (A := _) (by kernel_rfl) ?h1 ?h2
          case h1 =>
            refine mk_step (.slice (some ⟨b, o, none⟩) 64 c) rfl (made_move (.inl rfl) rfl) ?_
            simp only [Act.put, List.setIfInBounds_toArray, List.set_cons_zero, List.set_cons_succ]
            refine mk_step (.tuple #[qv 0 0 false, .iface 37 (.int .i64 2)]) rfl (made_fun (args := [.slice (some ⟨b, o, none⟩) 64 c]) rfl rfl (fun W => run_callFunc_in Try.func26 rfl rfl _ W) (fun W hW => KP.out W (hx.trans hW))) ?_
            simp only [Act.put, List.setIfInBounds_toArray, List.set_cons_zero, List.set_cons_succ]
            refine mk_step (.tuple #[qv 0 0 false, .iface 37 (.int .i64 2)]) rfl (made_move (.inl rfl) rfl) ?_
            simp only [Act.put, List.setIfInBounds_toArray, List.set_cons_zero, List.set_cons_succ]
            refine mk_step (qv 0 0 false) rfl (made_ext rfl rfl rfl) ?_
            simp only [Act.put, List.setIfInBounds_toArray, List.set_cons_zero, List.set_cons_succ]
            refine mk_step (.iface 37 (.int .i64 2)) rfl (made_ext rfl rfl rfl) ?_
            simp only [Act.put, List.setIfInBounds_toArray, List.set_cons_zero, List.set_cons_succ]
            exact mk_end
          case h2 =>
            refine prest_var' _ _ rfl rfl rfl rfl rfl rfl rfl (hzT ·) (fun _ => rfl) (fun _ => rfl) (iT _ _ _) (hsT _ _ _) (qc_one _ _ _) ?_
            intro gx w6 hgx bx hE
            replace b0 := hE.block b0
            replace hx := hx.trans hE
            clear hE
            simp only [Act.put, List.setIfInBounds_toArray, List.set_cons_zero, List.set_cons_succ]
            clear hgx
            go_upto_region 7 with (fail)
            refine' wp_plain (m := 5) (A := _) (by kernel_rfl) ?h1 ?h2
            case h1 =>
              refine mk_step (.slice (some ⟨b, o, none⟩) 64 c) rfl (made_move (.inl rfl) rfl) ?_
              simp only [Act.put, List.setIfInBounds_toArray, List.set_cons_zero, List.set_cons_succ]
              refine mk_step (.tuple #[qv 0 0 false, .bool false]) rfl (made_fun (args := [.slice (some ⟨b, o, none⟩) 64 c]) rfl rfl (fun W => run_callFunc_in Try.func27 rfl rfl _ W) (fun W hW => KQ.out W (hx.trans hW))) ?_
              simp only [Act.put, List.setIfInBounds_toArray, List.set_cons_zero, List.set_cons_succ]
              refine mk_step (.tuple #[qv 0 0 false, .bool false]) rfl (made_move (.inl rfl) rfl) ?_
              simp only [Act.put, List.setIfInBounds_toArray, List.set_cons_zero, List.set_cons_succ]
              refine mk_step (qv 0 0 false) rfl (made_ext rfl rfl rfl) ?_
              simp only [Act.put, List.setIfInBounds_toArray, List.set_cons_zero, List.set_cons_succ]
              refine mk_step (.bool false) rfl (made_ext rfl rfl rfl) ?_
              simp only [Act.put, List.setIfInBounds_toArray, List.set_cons_zero, List.set_cons_succ]
              exact mk_end
            case h2 =>
              refine prest_var' _ _ rfl rfl rfl rfl rfl rfl rfl (hzT ·) (fun _ => rfl) (fun _ => rfl) (iT _ _ _) (hsT _ _ _) (qc_one _ _ _) ?_
              intro gz w7 hgz bz hE
              replace b0 := hE.block b0
              replace bx := hE.block bx
              replace hx := hx.trans hE
              clear hE
              simp only [Act.put, List.setIfInBounds_toArray, List.set_cons_zero, List.set_cons_succ]
              clear hgz
              go_upto_region 8 with (fail)
              refine' wp_plain (m := 2) (A := _) (by kernel_rfl) ?h1 ?h2
              case h1 =>
                refine mk_step (.bool false) rfl (made_move (.inl rfl) rfl) ?_
                simp only [Act.put, List.setIfInBounds_toArray, List.set_cons_zero, List.set_cons_succ]
                refine mk_step (.bool true) rfl (made_not' rfl rfl rfl) ?_
                simp only [Act.put, List.setIfInBounds_toArray, List.set_cons_zero, List.set_cons_succ]
                exact mk_end
              case h2 =>
                refine prest_done rfl ?_
                intro w8 hE
                replace b0 := hE.block b0
                replace bx := hE.block bx
                replace bz := hE.block bz
                replace hx := hx.trans hE
                clear hE
                go_upto_region 9 with (fail)
                refine' wp_plainG (m := 12) (A := _) ?h1 ?h2
                case h1 =>
                  refine mk_step (.bool true) rfl (made_move (.inl rfl) rfl) ?_
                  simp only [Act.put, List.setIfInBounds_toArray, List.set_cons_zero, List.set_cons_succ]
                  refine mk_step (.bool true) rfl (made_move (.inl rfl) rfl) ?_
                  simp only [Act.put, List.setIfInBounds_toArray, List.set_cons_zero, List.set_cons_succ]
                  refine mk_want (.iface 37 (.int .i64 2)) rfl (made_move (.inl rfl) rfl) ?_
                  simp only [Act.put, List.setIfInBounds_toArray, List.set_cons_zero, List.set_cons_succ]
                  refine mk_want (.iface 37 (.int .i64 2)) rfl (made_iface rfl (mkErr2 ·)) ?_
                  simp only [Act.put, List.setIfInBounds_toArray, List.set_cons_zero, List.set_cons_succ]
                  refine mk_want (.bool true) rfl (made_bin rfl rfl rfl (fun _ => by kernel_rfl) (fun _ => by kernel_rfl)) ?_
                  simp only [Act.put, List.setIfInBounds_toArray, List.set_cons_zero, List.set_cons_succ]
                  refine mk_step (.bool true) rfl (made_pick rfl rfl rfl) ?_
                  simp only [Act.put, List.setIfInBounds_toArray, List.set_cons_zero, List.set_cons_succ]
                  refine mk_step (.bool true) rfl (made_move (.inl rfl) rfl) ?_
                  simp only [Act.put, List.setIfInBounds_toArray, List.set_cons_zero, List.set_cons_succ]
                  refine mk_want (qv 0 0 false) rfl (made_load rfl rfl bx rfl Try.underlying26 rfl (iT _ _ _)) ?_
                  simp only [Act.put, List.setIfInBounds_toArray, List.set_cons_zero, List.set_cons_succ]
                  refine mk_want (qv 0 0 false) rfl (made_build rfl rfl (bldT0 ·)) ?_
                  simp only [Act.put, List.setIfInBounds_toArray, List.set_cons_zero, List.set_cons_succ]
                  refine mk_want (.bool true) rfl (made_bin rfl rfl rfl (gT _ _ _ _ _ _ _ _ _) (eqT top_pos top_pos)) ?_
                  simp only [Act.put, List.setIfInBounds_toArray, List.set_cons_zero, List.set_cons_succ]
                  refine mk_step (.bool true) rfl (made_pick rfl rfl rfl) ?_
                  simp only [Act.put, List.setIfInBounds_toArray, List.set_cons_zero, List.set_cons_succ]
                  refine mk_step (.bool true) rfl (made_move (.inr rfl) rfl) ?_
                  simp only [Act.put, List.setIfInBounds_toArray, List.set_cons_zero, List.set_cons_succ]
                  exact mk_end
                case h2 =>
                  refine prest_done rfl ?_
                  intro w9 hE
                  replace b0 := hE.block b0
                  replace bx := hE.block bx
                  replace bz := hE.block bz
                  replace hx := hx.trans hE
                  clear hE
                  go_wp2
                  go_ret
                  exact ⟨rfl, hx⟩
set_option maxRecDepth 100000 in
set_option maxHeartbeats 8000000 in
theorem pb_far_none (w : World) (q : Pt.Q) (hf : Pt.pFar q.1 = true) (A : Option Addr) (n c : Nat) (hn : n ≠ 64) :
    Calls Try.prog 5 #[qv (Pt.pX q.1) (Pt.pY q.1) true, .slice A n c] w fun e w' => e = .returned (.bool true) ∧ Ext w w' := by
  have kO := rOn_yes q
  unfold qvP at kO
  rw [hf] at kO
  have KO := veil kO
  clear kO
  clear hf
  have KP := veil (fun (W : World) (_ : Ext w W) => parse_no A n c hn W)
  have KQ := veil (fun (W : World) (_ : Ext w W) => rparse_none A n c hn W)
  clear hn
  unfold qv qc
  go_enter Try.func5, Try.ntmps5
  go_upto_region 1 with (fail)
  obtain ⟨hx, b0⟩ := blocks1 w (.cells #[.int .u64 (wd (Pt.pX q.1) 0), .int .u64 (wd (Pt.pX q.1) 1), .int .u64 (wd (Pt.pX q.1) 2), .int .u64 (wd (Pt.pX q.1) 3), .int .u64 (wd (Pt.pY q.1) 0), .int .u64 (wd (Pt.pY q.1) 1), .int .u64 (wd (Pt.pY q.1) 2), .int .u64 (wd (Pt.pY q.1) 3), .bool (true)] 26)
  generalize w.alloc (.cells #[.int .u64 (wd (Pt.pX q.1) 0), .int .u64 (wd (Pt.pX q.1) 1), .int .u64 (wd (Pt.pX q.1) 2), .int .u64 (wd (Pt.pX q.1) 3), .int .u64 (wd (Pt.pY q.1) 0), .int .u64 (wd (Pt.pY q.1) 1), .int .u64 (wd (Pt.pY q.1) 2), .int .u64 (wd (Pt.pY q.1) 3), .bool (true)] 26) = w1 at *
  have b0 : w1.heap[w.heap.size]? = some (.cells (qc (Pt.pX q.1) (Pt.pY q.1) true) 26 (0, 0)) := b0
  refine' wp_plain (m := 2) (A := _) (by kernel_rfl) ?h1 ?h2
  case h1 =>
    refine mk_step (.bool true) rfl (made_fun (args := []) rfl rfl (fun W => run_callFunc_in Try.func9 rfl rfl _ W) (fun W hW => up_is W)) ?_
    simp only [Act.put, List.setIfInBounds_toArray, List.set_cons_zero, List.set_cons_succ]
    refine mk_step (.bool true) rfl (made_move (.inr rfl) rfl) ?_
    simp only [Act.put, List.setIfInBounds_toArray, List.set_cons_zero, List.set_cons_succ]
    exact mk_end
  case h2 =>
    refine prest_done rfl ?_
    intro w2 hE
    replace b0 := hE.block b0
    replace hx := hx.trans hE
    clear hE
    go_upto_region 2 with (fail)
    refine' wp_plain (m := 7) (A := _) (by kernel_rfl) ?h1 ?h2
    case h1 =>
      refine mk_step (qv (Pt.pX q.1) (Pt.pY q.1) true) rfl (made_load rfl rfl b0 rfl Try.underlying26 rfl (iT _ _ _)) ?_
      simp only [Act.put, List.setIfInBounds_toArray, List.set_cons_zero, List.set_cons_succ]
      refine mk_step (.tuple #[.slice none 0 0, .iface 37 (.int .i64 1)]) rfl (made_fun (args := [qv (Pt.pX q.1) (Pt.pY q.1) true]) rfl rfl (fun W => run_callFunc_in Try.func24 rfl rfl _ W) (fun W hW => bytes_far (Pt.pX q.1) (Pt.pY q.1) W)) ?_
      simp only [Act.put, List.setIfInBounds_toArray, List.set_cons_zero, List.set_cons_succ]
      refine mk_step (.tuple #[.slice none 0 0, .iface 37 (.int .i64 1)]) rfl (made_move (.inl rfl) rfl) ?_
      simp only [Act.put, List.setIfInBounds_toArray, List.set_cons_zero, List.set_cons_succ]
      refine mk_step (.slice none 0 0) rfl (made_ext rfl rfl rfl) ?_
      simp only [Act.put, List.setIfInBounds_toArray, List.set_cons_zero, List.set_cons_succ]
      refine mk_step (.iface 37 (.int .i64 1)) rfl (made_ext rfl rfl rfl) ?_
      simp only [Act.put, List.setIfInBounds_toArray, List.set_cons_zero, List.set_cons_succ]
      refine mk_step (.slice none 0 0) rfl (made_move (.inr rfl) rfl) ?_
      simp only [Act.put, List.setIfInBounds_toArray, List.set_cons_zero, List.set_cons_succ]
      refine mk_step (.iface 37 (.int .i64 1)) rfl (made_move (.inr rfl) rfl) ?_
      simp only [Act.put, List.setIfInBounds_toArray, List.set_cons_zero, List.set_cons_succ]
      exact mk_end
    case h2 =>
      refine prest_done rfl ?_
      intro w3 hE
      replace b0 := hE.block b0
      replace hx := hx.trans hE
      clear hE
      go_upto_region 3 with (fail)
      refine' wp_plain (m := 3) (A := _) (by kernel_rfl) ?h1 ?h2
      case h1 =>
        refine mk_step (qv (Pt.pX q.1) (Pt.pY q.1) true) rfl (made_load rfl rfl b0 rfl Try.underlying26 rfl (iT _ _ _)) ?_
        simp only [Act.put, List.setIfInBounds_toArray, List.set_cons_zero, List.set_cons_succ]
        refine mk_step (.bool true) rfl (made_fun (args := [qv (Pt.pX q.1) (Pt.pY q.1) true]) rfl rfl (fun W => run_callFunc_in Try.func10 rfl rfl _ W) (fun W hW => KO.out W)) ?_
        simp only [Act.put, List.setIfInBounds_toArray, List.set_cons_zero, List.set_cons_succ]
        refine mk_step (.bool true) rfl (made_move (.inr rfl) rfl) ?_
        simp only [Act.put, List.setIfInBounds_toArray, List.set_cons_zero, List.set_cons_succ]
        exact mk_end
      case h2 =>
        refine prest_done rfl ?_
        intro w4 hE
        replace b0 := hE.block b0
        replace hx := hx.trans hE
        clear hE
        go_upto_region 4 with (fail)
        refine' wp_madeG (m := 36) (A := _) 36 (by kernel_rfl) (by kernel_rfl) ?h1 ?h2
        case h1 =>
          refine mk_step (.bool true) rfl (made_move (.inl rfl) rfl) ?_
          simp only [Act.put, List.setIfInBounds_toArray, List.set_cons_zero, List.set_cons_succ]
          refine mk_step (.bool true) rfl (made_move (.inl rfl) rfl) ?_
          simp only [Act.put, List.setIfInBounds_toArray, List.set_cons_zero, List.set_cons_succ]
          refine mk_want (.pointer (some ⟨w.heap.size, 8, none⟩)) rfl (made_field rfl rfl (fldT2 _ ·)) ?_
          simp only [Act.put, List.setIfInBounds_toArray, List.set_cons_zero, List.set_cons_succ]
          refine mk_want (.bool true) rfl (made_load1 rfl rfl b0 rfl (isn_bool ·)) ?_
          simp only [Act.put, List.setIfInBounds_toArray, List.set_cons_zero, List.set_cons_succ]
          refine mk_want (.bool false) rfl (made_not' rfl rfl rfl) ?_
          simp only [Act.put, List.setIfInBounds_toArray, List.set_cons_zero, List.set_cons_succ]
          refine mk_step (.bool false) rfl (made_pick rfl rfl rfl) ?_
          simp only [Act.put, List.setIfInBounds_toArray, List.set_cons_zero, List.set_cons_succ]
          refine mk_step (.bool false) rfl (made_move (.inl rfl) rfl) ?_
          simp only [Act.put, List.setIfInBounds_toArray, List.set_cons_zero, List.set_cons_succ]
          refine mk_skip rfl ?_
          simp only [Act.put, List.setIfInBounds_toArray, List.set_cons_zero, List.set_cons_succ]
          refine mk_skip rfl ?_
          simp only [Act.put, List.setIfInBounds_toArray, List.set_cons_zero, List.set_cons_succ]
          refine mk_skip rfl ?_
          simp only [Act.put, List.setIfInBounds_toArray, List.set_cons_zero, List.set_cons_succ]
          refine mk_skip rfl ?_
          simp only [Act.put, List.setIfInBounds_toArray, List.set_cons_zero, List.set_cons_succ]
          refine mk_skip rfl ?_
          simp only [Act.put, List.setIfInBounds_toArray, List.set_cons_zero, List.set_cons_succ]
          refine mk_skip rfl ?_
          simp only [Act.put, List.setIfInBounds_toArray, List.set_cons_zero, List.set_cons_succ]
          refine mk_skip rfl ?_
          simp only [Act.put, List.setIfInBounds_toArray, List.set_cons_zero, List.set_cons_succ]
          refine mk_skip rfl ?_
          simp only [Act.put, List.setIfInBounds_toArray, List.set_cons_zero, List.set_cons_succ]
          refine mk_skip rfl ?_
          simp only [Act.put, List.setIfInBounds_toArray, List.set_cons_zero, List.set_cons_succ]
          refine mk_skip rfl ?_
          simp only [Act.put, List.setIfInBounds_toArray, List.set_cons_zero, List.set_cons_succ]
          refine mk_step (.bool false) rfl (made_pick rfl rfl rfl) ?_
          simp only [Act.put, List.setIfInBounds_toArray, List.set_cons_zero, List.set_cons_succ]
          refine mk_step (.bool false) rfl (made_move (.inl rfl) rfl) ?_
          simp only [Act.put, List.setIfInBounds_toArray, List.set_cons_zero, List.set_cons_succ]
          refine mk_want (.bool true) rfl (made_move (.inl rfl) rfl) ?_
          simp only [Act.put, List.setIfInBounds_toArray, List.set_cons_zero, List.set_cons_succ]
          refine mk_want (.bool false) rfl (made_not' rfl rfl rfl) ?_
          simp only [Act.put, List.setIfInBounds_toArray, List.set_cons_zero, List.set_cons_succ]
          refine mk_want (.bool false) rfl (made_move (.inl rfl) rfl) ?_
          simp only [Act.put, List.setIfInBounds_toArray, List.set_cons_zero, List.set_cons_succ]
          refine mk_want (.pointer (some ⟨w.heap.size, 8, none⟩)) rfl (made_field rfl rfl (fldT2 _ ·)) ?_
          simp only [Act.put, List.setIfInBounds_toArray, List.set_cons_zero, List.set_cons_succ]
          refine mk_want (.bool true) rfl (made_load1 rfl rfl b0 rfl (isn_bool ·)) ?_
          simp only [Act.put, List.setIfInBounds_toArray, List.set_cons_zero, List.set_cons_succ]
          refine mk_want (.bool true) rfl (made_pick rfl rfl rfl) ?_
          simp only [Act.put, List.setIfInBounds_toArray, List.set_cons_zero, List.set_cons_succ]
          refine mk_want (.bool true) rfl (made_move (.inl rfl) rfl) ?_
          simp only [Act.put, List.setIfInBounds_toArray, List.set_cons_zero, List.set_cons_succ]
          refine mk_want (.iface 37 (.int .i64 1)) rfl (made_move (.inl rfl) rfl) ?_
          simp only [Act.put, List.setIfInBounds_toArray, List.set_cons_zero, List.set_cons_succ]
          refine mk_want (.iface 37 (.int .i64 1)) rfl (made_iface rfl (mkErr1 ·)) ?_
          simp only [Act.put, List.setIfInBounds_toArray, List.set_cons_zero, List.set_cons_succ]
          refine mk_want (.bool false) rfl (made_bin rfl rfl rfl (fun _ => by kernel_rfl) (fun _ => by kernel_rfl)) ?_
          simp only [Act.put, List.setIfInBounds_toArray, List.set_cons_zero, List.set_cons_succ]
          refine mk_want (.bool false) rfl (made_move (.inl rfl) rfl) ?_
          simp only [Act.put, List.setIfInBounds_toArray, List.set_cons_zero, List.set_cons_succ]
          refine mk_want (.slice none 0 0) rfl (made_move (.inl rfl) rfl) ?_
          simp only [Act.put, List.setIfInBounds_toArray, List.set_cons_zero, List.set_cons_succ]
          refine mk_want (.int .i64 (0 : Nat)) rfl (made_len (n := 0) rfl rfl) ?_
          simp only [Act.put, List.setIfInBounds_toArray, List.set_cons_zero, List.set_cons_succ]
          refine mk_want (.bool false) rfl (made_bin rfl rfl rfl (fun _ => by kernel_rfl) (fun _ => by kernel_rfl)) ?_
          simp only [Act.put, List.setIfInBounds_toArray, List.set_cons_zero, List.set_cons_succ]
          refine mk_want (.bool false) rfl (made_pick rfl rfl rfl) ?_
          simp only [Act.put, List.setIfInBounds_toArray, List.set_cons_zero, List.set_cons_succ]
          refine mk_want (.bool false) rfl (made_pick rfl rfl rfl) ?_
          simp only [Act.put, List.setIfInBounds_toArray, List.set_cons_zero, List.set_cons_succ]
          refine mk_step (.bool false) rfl (made_pick rfl rfl rfl) ?_
          simp only [Act.put, List.setIfInBounds_toArray, List.set_cons_zero, List.set_cons_succ]
          exact mk_end
        case h2 =>
          refine rest_done rfl (by kernel_rfl) ?_
          intro w5 hE
          refine NoPanic.normal ?_
          replace b0 := hE.block b0
          replace hx := hx.trans hE
          clear hE
          go_upto_region 6 with (fail)
          refine' wp_plain (m := 5) (A := _) (by kernel_rfl) ?h1 ?h2
          case h1 =>
            refine mk_step (.slice A n c) rfl (made_move (.inl rfl) rfl) ?_
            simp only [Act.put, List.setIfInBounds_toArray, List.set_cons_zero, List.set_cons_succ]
            refine mk_step (.tuple #[qv 0 0 false, .iface 37 (.int .i64 2)]) rfl (made_fun (args := [.slice A n c]) rfl rfl (fun W => run_callFunc_in Try.func26 rfl rfl _ W) (fun W hW => KP.out W (hx.trans hW))) ?_
            simp only [Act.put, List.setIfInBounds_toArray, List.set_cons_zero, List.set_cons_succ]
            refine mk_step (.tuple #[qv 0 0 false, .iface 37 (.int .i64 2)]) rfl (made_move (.inl rfl) rfl) ?_
            simp only [Act.put, List.setIfInBounds_toArray, List.set_cons_zero, List.set_cons_succ]
            refine mk_step (qv 0 0 false) rfl (made_ext rfl rfl rfl) ?_
            simp only [Act.put, List.setIfInBounds_toArray, List.set_cons_zero, List.set_cons_succ]
            refine mk_step (.iface 37 (.int .i64 2)) rfl (made_ext rfl rfl rfl) ?_
            simp only [Act.put, List.setIfInBounds_toArray, List.set_cons_zero, List.set_cons_succ]
            exact mk_end
          case h2 =>
            refine prest_var' _ _ rfl rfl rfl rfl rfl rfl rfl (hzT ·) (fun _ => rfl) (fun _ => rfl) (iT _ _ _) (hsT _ _ _) (qc_one _ _ _) ?_
            intro gx w6 hgx bx hE
            replace b0 := hE.block b0
            replace hx := hx.trans hE
            clear hE
            simp only [Act.put, List.setIfInBounds_toArray, List.set_cons_zero, List.set_cons_succ]
            clear hgx
            go_upto_region 7 with (fail)
            refine' wp_plain (m := 5) (A := _) (by kernel_rfl) ?h1 ?h2
            case h1 =>
              refine mk_step (.slice A n c) rfl (made_move (.inl rfl) rfl) ?_
              simp only [Act.put, List.setIfInBounds_toArray, List.set_cons_zero, List.set_cons_succ]
              refine mk_step (.tuple #[qv 0 0 false, .bool false]) rfl (made_fun (args := [.slice A n c]) rfl rfl (fun W => run_callFunc_in Try.func27 rfl rfl _ W) (fun W hW => KQ.out W (hx.trans hW))) ?_
              simp only [Act.put, List.setIfInBounds_toArray, List.set_cons_zero, List.set_cons_succ]
              refine mk_step (.tuple #[qv 0 0 false, .bool false]) rfl (made_move (.inl rfl) rfl) ?_
              simp only [Act.put, List.setIfInBounds_toArray, List.set_cons_zero, List.set_cons_succ]
              refine mk_step (qv 0 0 false) rfl (made_ext rfl rfl rfl) ?_
              simp only [Act.put, List.setIfInBounds_toArray, List.set_cons_zero, List.set_cons_succ]
              refine mk_step (.bool false) rfl (made_ext rfl rfl rfl) ?_
              simp only [Act.put, List.setIfInBounds_toArray, List.set_cons_zero, List.set_cons_succ]
              exact mk_end
            case h2 =>
              refine prest_var' _ _ rfl rfl rfl rfl rfl rfl rfl (hzT ·) (fun _ => rfl) (fun _ => rfl) (iT _ _ _) (hsT _ _ _) (qc_one _ _ _) ?_
              intro gz w7 hgz bz hE
              replace b0 := hE.block b0
              replace bx := hE.block bx
              replace hx := hx.trans hE
              clear hE
              simp only [Act.put, List.setIfInBounds_toArray, List.set_cons_zero, List.set_cons_succ]
              clear hgz
              go_upto_region 8 with (fail)
              refine' wp_plain (m := 2) (A := _) (by kernel_rfl) ?h1 ?h2
              case h1 =>
                refine mk_step (.bool false) rfl (made_move (.inl rfl) rfl) ?_
                simp only [Act.put, List.setIfInBounds_toArray, List.set_cons_zero, List.set_cons_succ]
                refine mk_step (.bool true) rfl (made_not' rfl rfl rfl) ?_
                simp only [Act.put, List.setIfInBounds_toArray, List.set_cons_zero, List.set_cons_succ]
                exact mk_end
              case h2 =>
                refine prest_done rfl ?_
                intro w8 hE
                replace b0 := hE.block b0
                replace bx := hE.block bx
                replace bz := hE.block bz
                replace hx := hx.trans hE
                clear hE
                go_upto_region 9 with (fail)
                refine' wp_plainG (m := 12) (A := _) ?h1 ?h2
                case h1 =>
                  refine mk_step (.bool true) rfl (made_move (.inl rfl) rfl) ?_
                  simp only [Act.put, List.setIfInBounds_toArray, List.set_cons_zero, List.set_cons_succ]
                  refine mk_step (.bool true) rfl (made_move (.inl rfl) rfl) ?_
                  simp only [Act.put, List.setIfInBounds_toArray, List.set_cons_zero, List.set_cons_succ]
                  refine mk_want (.iface 37 (.int .i64 2)) rfl (made_move (.inl rfl) rfl) ?_
                  simp only [Act.put, List.setIfInBounds_toArray, List.set_cons_zero, List.set_cons_succ]
                  refine mk_want (.iface 37 (.int .i64 2)) rfl (made_iface rfl (mkErr2 ·)) ?_
                  simp only [Act.put, List.setIfInBounds_toArray, List.set_cons_zero, List.set_cons_succ]
                  refine mk_want (.bool true) rfl (made_bin rfl rfl rfl (fun _ => by kernel_rfl) (fun _ => by kernel_rfl)) ?_
                  simp only [Act.put, List.setIfInBounds_toArray, List.set_cons_zero, List.set_cons_succ]
                  refine mk_step (.bool true) rfl (made_pick rfl rfl rfl) ?_
                  simp only [Act.put, List.setIfInBounds_toArray, List.set_cons_zero, List.set_cons_succ]
                  refine mk_step (.bool true) rfl (made_move (.inl rfl) rfl) ?_
                  simp only [Act.put, List.setIfInBounds_toArray, List.set_cons_zero, List.set_cons_succ]
                  refine mk_want (qv 0 0 false) rfl (made_load rfl rfl bx rfl Try.underlying26 rfl (iT _ _ _)) ?_
                  simp only [Act.put, List.setIfInBounds_toArray, List.set_cons_zero, List.set_cons_succ]
                  refine mk_want (qv 0 0 false) rfl (made_build rfl rfl (bldT0 ·)) ?_
                  simp only [Act.put, List.setIfInBounds_toArray, List.set_cons_zero, List.set_cons_succ]
                  refine mk_want (.bool true) rfl (made_bin rfl rfl rfl (gT _ _ _ _ _ _ _ _ _) (eqT top_pos top_pos)) ?_
                  simp only [Act.put, List.setIfInBounds_toArray, List.set_cons_zero, List.set_cons_succ]
                  refine mk_step (.bool true) rfl (made_pick rfl rfl rfl) ?_
                  simp only [Act.put, List.setIfInBounds_toArray, List.set_cons_zero, List.set_cons_succ]
                  refine mk_step (.bool true) rfl (made_move (.inr rfl) rfl) ?_
                  simp only [Act.put, List.setIfInBounds_toArray, List.set_cons_zero, List.set_cons_succ]
                  exact mk_end
                case h2 =>
                  refine prest_done rfl ?_
                  intro w9 hE
                  replace b0 := hE.block b0
                  replace bx := hE.block bx
                  replace bz := hE.block bz
                  replace hx := hx.trans hE
                  clear hE
                  go_wp2
                  go_ret
                  exact ⟨rfl, hx⟩
end Go.Proofs.Ytppfcdpokgnpfaa
