/-
  PointSums: its walks, whichever of both points is on the curve.
-/
import Derived.Test.YtppfcdpokgnpfaaY12
namespace Go.Proofs.Ytppfcdpokgnpfaa
open Go.RowKit

set_option maxRecDepth 100000 in
set_option maxHeartbeats 8000000 in
theorem sums_yy (q : Pt.Q) (r : Pt.Q) (w : World) :
    Calls Try.prog 3 #[qvP q.1, qvP r.1] w fun e w' => e = .returned (.bool true) ∧ Ext w w' := by
  obtain ⟨m, hm⟩ : ∃ m : Pt.Q, m = Pt.grp.ng q := ⟨_, rfl⟩
  have kN := pNeg_yes q
  have kR := rNeg_is q
  rw [← hm] at kN kR
  have KN := veil kN
  have KR := veil kR
  clear kN kR hm
  obtain ⟨s, hs⟩ : ∃ s : Pt.Q, s = Pt.grp.op q r := ⟨_, rfl⟩
  have kA := add_yes q r
  have kB := rAdd_is q r
  rw [← hs] at kA kB
  have KA := veil kA
  have KB := veil kB
  clear kA kB hs
  unfold qvP qv qc
  go_enter Try.func3, Try.ntmps3
  go_upto_region 1 with (fail)
  obtain ⟨hx, b0, b1⟩ := blocks2 w (.cells #[.int .u64 (wd (Pt.pX q.1) 0), .int .u64 (wd (Pt.pX q.1) 1), .int .u64 (wd (Pt.pX q.1) 2), .int .u64 (wd (Pt.pX q.1) 3), .int .u64 (wd (Pt.pY q.1) 0), .int .u64 (wd (Pt.pY q.1) 1), .int .u64 (wd (Pt.pY q.1) 2), .int .u64 (wd (Pt.pY q.1) 3), .bool (Pt.pFar q.1)] 26) (.cells #[.int .u64 (wd (Pt.pX r.1) 0), .int .u64 (wd (Pt.pX r.1) 1), .int .u64 (wd (Pt.pX r.1) 2), .int .u64 (wd (Pt.pX r.1) 3), .int .u64 (wd (Pt.pY r.1) 0), .int .u64 (wd (Pt.pY r.1) 1), .int .u64 (wd (Pt.pY r.1) 2), .int .u64 (wd (Pt.pY r.1) 3), .bool (Pt.pFar r.1)] 26)
  generalize (w.alloc (.cells #[.int .u64 (wd (Pt.pX q.1) 0), .int .u64 (wd (Pt.pX q.1) 1), .int .u64 (wd (Pt.pX q.1) 2), .int .u64 (wd (Pt.pX q.1) 3), .int .u64 (wd (Pt.pY q.1) 0), .int .u64 (wd (Pt.pY q.1) 1), .int .u64 (wd (Pt.pY q.1) 2), .int .u64 (wd (Pt.pY q.1) 3), .bool (Pt.pFar q.1)] 26)).alloc (.cells #[.int .u64 (wd (Pt.pX r.1) 0), .int .u64 (wd (Pt.pX r.1) 1), .int .u64 (wd (Pt.pX r.1) 2), .int .u64 (wd (Pt.pX r.1) 3), .int .u64 (wd (Pt.pY r.1) 0), .int .u64 (wd (Pt.pY r.1) 1), .int .u64 (wd (Pt.pY r.1) 2), .int .u64 (wd (Pt.pY r.1) 3), .bool (Pt.pFar r.1)] 26) = w1 at *
  have b0 : w1.heap[w.heap.size]? = some (.cells (qc (Pt.pX q.1) (Pt.pY q.1) (Pt.pFar q.1)) 26 (0, 0)) := b0
  have b1 : w1.heap[w.heap.size + 1]? = some (.cells (qc (Pt.pX r.1) (Pt.pY r.1) (Pt.pFar r.1)) 26 (0, 0)) := b1
  refine' wp_plain (m := 2) (A := _) (by kernel_rfl) ?h1 ?h2
  case h1 =>
    refine mk_step (.bool true) rfl (made_fun (args := []) rfl rfl (fun W => run_callFunc_in Try.func9 rfl rfl _ W) (fun W hW => up_is W)) ?_
    simp only [Act.put, List.setIfInBounds_toArray, List.set_cons_zero, List.set_cons_succ]
    refine mk_step (.bool true) rfl (made_move (.inr rfl) rfl) ?_
    simp only [Act.put, List.setIfInBounds_toArray, List.set_cons_zero, List.set_cons_succ]
    exact mk_end
  case h2 =>
    refine prest_done rfl ?_
    intro w2 hE
    replace b0 := hE.block b0
    replace b1 := hE.block b1
    replace hx := hx.trans hE
    clear hE
    go_upto_region 2 with (fail)
    refine' wp_plain (m := 3) (A := _) (by kernel_rfl) ?h1 ?h2
    case h1 =>
      refine mk_step (qv (Pt.pX q.1) (Pt.pY q.1) (Pt.pFar q.1)) rfl (made_load rfl rfl b0 rfl Try.underlying26 rfl (iT _ _ _)) ?_
      simp only [Act.put, List.setIfInBounds_toArray, List.set_cons_zero, List.set_cons_succ]
      refine mk_step (.bool true) rfl (made_fun (args := [qv (Pt.pX q.1) (Pt.pY q.1) (Pt.pFar q.1)]) rfl rfl (fun W => run_callFunc_in Try.func10 rfl rfl _ W) (fun W hW => rOn_yes q W)) ?_
      simp only [Act.put, List.setIfInBounds_toArray, List.set_cons_zero, List.set_cons_succ]
      refine mk_step (.bool true) rfl (made_move (.inr rfl) rfl) ?_
      simp only [Act.put, List.setIfInBounds_toArray, List.set_cons_zero, List.set_cons_succ]
      exact mk_end
    case h2 =>
      refine prest_done rfl ?_
      intro w3 hE
      replace b0 := hE.block b0
      replace b1 := hE.block b1
      replace hx := hx.trans hE
      clear hE
      go_upto_region 3 with (fail)
      refine' wp_plain (m := 3) (A := _) (by kernel_rfl) ?h1 ?h2
      case h1 =>
        refine mk_step (qv (Pt.pX r.1) (Pt.pY r.1) (Pt.pFar r.1)) rfl (made_load rfl rfl b1 rfl Try.underlying26 rfl (iT _ _ _)) ?_
        simp only [Act.put, List.setIfInBounds_toArray, List.set_cons_zero, List.set_cons_succ]
        refine mk_step (.bool true) rfl (made_fun (args := [qv (Pt.pX r.1) (Pt.pY r.1) (Pt.pFar r.1)]) rfl rfl (fun W => run_callFunc_in Try.func10 rfl rfl _ W) (fun W hW => rOn_yes r W)) ?_
        simp only [Act.put, List.setIfInBounds_toArray, List.set_cons_zero, List.set_cons_succ]
        refine mk_step (.bool true) rfl (made_move (.inr rfl) rfl) ?_
        simp only [Act.put, List.setIfInBounds_toArray, List.set_cons_zero, List.set_cons_succ]
        exact mk_end
      case h2 =>
        refine prest_done rfl ?_
        intro w4 hE
        replace b0 := hE.block b0
        replace b1 := hE.block b1
        replace hx := hx.trans hE
        clear hE
        go_upto_region 4 with (fail)
        refine' wp_plain (m := 6) (A := _) (by kernel_rfl) ?h1 ?h2
        case h1 =>
          refine mk_step (qv (Pt.pX q.1) (Pt.pY q.1) (Pt.pFar q.1)) rfl (made_load rfl rfl b0 rfl Try.underlying26 rfl (iT _ _ _)) ?_
          simp only [Act.put, List.setIfInBounds_toArray, List.set_cons_zero, List.set_cons_succ]
          refine mk_step (qv (Pt.pX r.1) (Pt.pY r.1) (Pt.pFar r.1)) rfl (made_load rfl rfl b1 rfl Try.underlying26 rfl (iT _ _ _)) ?_
          simp only [Act.put, List.setIfInBounds_toArray, List.set_cons_zero, List.set_cons_succ]
          refine mk_step (.tuple #[qv (Pt.pX s.1) (Pt.pY s.1) (Pt.pFar s.1), .nilIface]) rfl (made_fun (args := [qv (Pt.pX q.1) (Pt.pY q.1) (Pt.pFar q.1), qv (Pt.pX r.1) (Pt.pY r.1) (Pt.pFar r.1)]) rfl rfl (fun W => run_callFunc_in Try.func11 rfl rfl _ W) (fun W hW => KA.out W)) ?_
          simp only [Act.put, List.setIfInBounds_toArray, List.set_cons_zero, List.set_cons_succ]
          refine mk_step (.tuple #[qv (Pt.pX s.1) (Pt.pY s.1) (Pt.pFar s.1), .nilIface]) rfl (made_move (.inl rfl) rfl) ?_
          simp only [Act.put, List.setIfInBounds_toArray, List.set_cons_zero, List.set_cons_succ]
          refine mk_step (qv (Pt.pX s.1) (Pt.pY s.1) (Pt.pFar s.1)) rfl (made_ext rfl rfl rfl) ?_
          simp only [Act.put, List.setIfInBounds_toArray, List.set_cons_zero, List.set_cons_succ]
          refine mk_step (.nilIface) rfl (made_ext rfl rfl rfl) ?_
          simp only [Act.put, List.setIfInBounds_toArray, List.set_cons_zero, List.set_cons_succ]
          exact mk_end
        case h2 =>
          refine prest_var' _ _ rfl rfl rfl rfl rfl rfl rfl (hzT ·) (fun _ => rfl) (fun _ => rfl) (iT _ _ _) rfl (qc_one _ _ _) ?_
          intro gs w5 hgs bs hE
          replace b0 := hE.block b0
          replace b1 := hE.block b1
          replace hx := hx.trans hE
          clear hE
          simp only [Act.put, List.setIfInBounds_toArray, List.set_cons_zero, List.set_cons_succ]
          clear hgs
          go_upto_region 5 with (fail)
          refine' wp_plain (m := 5) (A := _) (by kernel_rfl) ?h1 ?h2
          case h1 =>
            refine mk_step (qv (Pt.pX q.1) (Pt.pY q.1) (Pt.pFar q.1)) rfl (made_load rfl rfl b0 rfl Try.underlying26 rfl (iT _ _ _)) ?_
            simp only [Act.put, List.setIfInBounds_toArray, List.set_cons_zero, List.set_cons_succ]
            refine mk_step (.tuple #[qv (Pt.pX m.1) (Pt.pY m.1) (Pt.pFar m.1), .nilIface]) rfl (made_fun (args := [qv (Pt.pX q.1) (Pt.pY q.1) (Pt.pFar q.1)]) rfl rfl (fun W => run_callFunc_in Try.func12 rfl rfl _ W) (fun W hW => KN.out W)) ?_
            simp only [Act.put, List.setIfInBounds_toArray, List.set_cons_zero, List.set_cons_succ]
            refine mk_step (.tuple #[qv (Pt.pX m.1) (Pt.pY m.1) (Pt.pFar m.1), .nilIface]) rfl (made_move (.inl rfl) rfl) ?_
            simp only [Act.put, List.setIfInBounds_toArray, List.set_cons_zero, List.set_cons_succ]
            refine mk_step (qv (Pt.pX m.1) (Pt.pY m.1) (Pt.pFar m.1)) rfl (made_ext rfl rfl rfl) ?_
            simp only [Act.put, List.setIfInBounds_toArray, List.set_cons_zero, List.set_cons_succ]
            refine mk_step (.nilIface) rfl (made_ext rfl rfl rfl) ?_
            simp only [Act.put, List.setIfInBounds_toArray, List.set_cons_zero, List.set_cons_succ]
            exact mk_end
          case h2 =>
            refine prest_var' _ _ rfl rfl rfl rfl rfl rfl rfl (hzT ·) (fun _ => rfl) (fun _ => rfl) (iT _ _ _) rfl (qc_one _ _ _) ?_
            intro gm w6 hgm bm hE
            replace b0 := hE.block b0
            replace b1 := hE.block b1
            replace bs := hE.block bs
            replace hx := hx.trans hE
            clear hE
            simp only [Act.put, List.setIfInBounds_toArray, List.set_cons_zero, List.set_cons_succ]
            clear hgm
            go_upto_region 6 with (fail)
            refine' wp_plainG (m := 25) (A := _) ?h1 ?h2
            case h1 =>
              refine mk_step (qv (Pt.pX q.1) (Pt.pY q.1) (Pt.pFar q.1)) rfl (made_load rfl rfl b0 rfl Try.underlying26 rfl (iT _ _ _)) ?_
              simp only [Act.put, List.setIfInBounds_toArray, List.set_cons_zero, List.set_cons_succ]
              refine mk_step (.bool true) rfl (made_fun (args := [qv (Pt.pX q.1) (Pt.pY q.1) (Pt.pFar q.1)]) rfl rfl (fun W => run_callFunc_in Try.func13 rfl rfl _ W) (fun W hW => pOn_yes q W)) ?_
              simp only [Act.put, List.setIfInBounds_toArray, List.set_cons_zero, List.set_cons_succ]
              refine mk_step (.bool true) rfl (made_move (.inl rfl) rfl) ?_
              simp only [Act.put, List.setIfInBounds_toArray, List.set_cons_zero, List.set_cons_succ]
              refine mk_step (.bool false) rfl (made_bin rfl rfl rfl (fun _ => by kernel_rfl) (fun _ => by kernel_rfl)) ?_
              simp only [Act.put, List.setIfInBounds_toArray, List.set_cons_zero, List.set_cons_succ]
              refine mk_step (.bool false) rfl (made_move (.inl rfl) rfl) ?_
              simp only [Act.put, List.setIfInBounds_toArray, List.set_cons_zero, List.set_cons_succ]
              refine mk_want (qv (Pt.pX r.1) (Pt.pY r.1) (Pt.pFar r.1)) rfl (made_load rfl rfl b1 rfl Try.underlying26 rfl (iT _ _ _)) ?_
              simp only [Act.put, List.setIfInBounds_toArray, List.set_cons_zero, List.set_cons_succ]
              refine mk_want (.bool true) rfl (made_fun (args := [qv (Pt.pX r.1) (Pt.pY r.1) (Pt.pFar r.1)]) rfl rfl (fun W => run_callFunc_in Try.func13 rfl rfl _ W) (fun W hW => pOn_yes r W)) ?_
              simp only [Act.put, List.setIfInBounds_toArray, List.set_cons_zero, List.set_cons_succ]
              refine mk_want (.bool true) rfl (made_move (.inl rfl) rfl) ?_
              simp only [Act.put, List.setIfInBounds_toArray, List.set_cons_zero, List.set_cons_succ]
              refine mk_want (.bool false) rfl (made_bin rfl rfl rfl (fun _ => by kernel_rfl) (fun _ => by kernel_rfl)) ?_
              simp only [Act.put, List.setIfInBounds_toArray, List.set_cons_zero, List.set_cons_succ]
              refine mk_step (.bool false) rfl (made_pick rfl rfl rfl) ?_
              simp only [Act.put, List.setIfInBounds_toArray, List.set_cons_zero, List.set_cons_succ]
              refine mk_step (.bool false) rfl (made_move (.inl rfl) rfl) ?_
              simp only [Act.put, List.setIfInBounds_toArray, List.set_cons_zero, List.set_cons_succ]
              refine mk_want (nv Pt.pp) rfl (made_fun (args := []) rfl rfl (fun W => run_callFunc_in Try.func14 rfl rfl _ W) (fun W hW => pP_is W)) ?_
              simp only [Act.put, List.setIfInBounds_toArray, List.set_cons_zero, List.set_cons_succ]
              refine mk_want (nv Pt.pp) rfl (made_fun (args := []) rfl rfl (fun W => run_callFunc_in Try.func15 rfl rfl _ W) (fun W hW => rP_is W)) ?_
              simp only [Act.put, List.setIfInBounds_toArray, List.set_cons_zero, List.set_cons_succ]
              refine mk_want (.bool false) rfl (made_bin rfl rfl rfl (gN _ _ _ _ _) neN) ?_
              simp only [Act.put, List.setIfInBounds_toArray, List.set_cons_zero, List.set_cons_succ]
              refine mk_step (.bool false) rfl (made_pick rfl rfl rfl) ?_
              simp only [Act.put, List.setIfInBounds_toArray, List.set_cons_zero, List.set_cons_succ]
              refine mk_step (.bool false) rfl (made_move (.inl rfl) rfl) ?_
              simp only [Act.put, List.setIfInBounds_toArray, List.set_cons_zero, List.set_cons_succ]
              refine mk_want (nv Pt.nn) rfl (made_fun (args := []) rfl rfl (fun W => run_callFunc_in Try.func16 rfl rfl _ W) (fun W hW => pN_is W)) ?_
              simp only [Act.put, List.setIfInBounds_toArray, List.set_cons_zero, List.set_cons_succ]
              refine mk_want (nv Pt.nn) rfl (made_fun (args := []) rfl rfl (fun W => run_callFunc_in Try.func17 rfl rfl _ W) (fun W hW => rN_is W)) ?_
              simp only [Act.put, List.setIfInBounds_toArray, List.set_cons_zero, List.set_cons_succ]
              refine mk_want (.bool false) rfl (made_bin rfl rfl rfl (gN _ _ _ _ _) neN) ?_
              simp only [Act.put, List.setIfInBounds_toArray, List.set_cons_zero, List.set_cons_succ]
              refine mk_step (.bool false) rfl (made_pick rfl rfl rfl) ?_
              simp only [Act.put, List.setIfInBounds_toArray, List.set_cons_zero, List.set_cons_succ]
              refine mk_step (.bool false) rfl (made_move (.inl rfl) rfl) ?_
              simp only [Act.put, List.setIfInBounds_toArray, List.set_cons_zero, List.set_cons_succ]
              refine mk_want (qv Pt.gx Pt.gy false) rfl (made_fun (args := []) rfl rfl (fun W => run_callFunc_in Try.func18 rfl rfl _ W) (fun W hW => base_calls W)) ?_
              simp only [Act.put, List.setIfInBounds_toArray, List.set_cons_zero, List.set_cons_succ]
              refine mk_want (qv Pt.gx Pt.gy false) rfl (made_fun (args := []) rfl rfl (fun W => run_callFunc_in Try.func19 rfl rfl _ W) (fun W hW => rBase_is W)) ?_
              simp only [Act.put, List.setIfInBounds_toArray, List.set_cons_zero, List.set_cons_succ]
              refine mk_want (.bool false) rfl (made_bin rfl rfl rfl (gT _ _ _ _ _ _ _ _ _) (neT g_top.1 g_top.2)) ?_
              simp only [Act.put, List.setIfInBounds_toArray, List.set_cons_zero, List.set_cons_succ]
              refine mk_step (.bool false) rfl (made_pick rfl rfl rfl) ?_
              simp only [Act.put, List.setIfInBounds_toArray, List.set_cons_zero, List.set_cons_succ]
              exact mk_end
            case h2 =>
              refine prest_done rfl ?_
              intro w7 hE
              replace b0 := hE.block b0
              replace b1 := hE.block b1
              replace bs := hE.block bs
              replace bm := hE.block bm
              replace hx := hx.trans hE
              clear hE
              go_upto_region 8 with (fail)
              refine' wp_madeG (m := 25) (A := _) 25 (by kernel_rfl) (by kernel_rfl) ?h1 ?h2
              case h1 =>
                refine mk_step (.bool true) rfl (made_move (.inl rfl) rfl) ?_
                simp only [Act.put, List.setIfInBounds_toArray, List.set_cons_zero, List.set_cons_succ]
                refine mk_step (.bool true) rfl (made_move (.inl rfl) rfl) ?_
                simp only [Act.put, List.setIfInBounds_toArray, List.set_cons_zero, List.set_cons_succ]
                refine mk_want (.nilIface) rfl (made_move (.inl rfl) rfl) ?_
                simp only [Act.put, List.setIfInBounds_toArray, List.set_cons_zero, List.set_cons_succ]
                refine mk_want (.bool false) rfl (made_bin rfl rfl rfl (fun _ => by kernel_rfl) (fun _ => by kernel_rfl)) ?_
                simp only [Act.put, List.setIfInBounds_toArray, List.set_cons_zero, List.set_cons_succ]
                refine mk_want (.bool false) rfl (made_move (.inl rfl) rfl) ?_
                simp only [Act.put, List.setIfInBounds_toArray, List.set_cons_zero, List.set_cons_succ]
                refine mk_want (qv (Pt.pX m.1) (Pt.pY m.1) (Pt.pFar m.1)) rfl (made_load rfl rfl bm rfl Try.underlying26 rfl (iT _ _ _)) ?_
                simp only [Act.put, List.setIfInBounds_toArray, List.set_cons_zero, List.set_cons_succ]
                refine mk_want (qv (Pt.pX q.1) (Pt.pY q.1) (Pt.pFar q.1)) rfl (made_load rfl rfl b0 rfl Try.underlying26 rfl (iT _ _ _)) ?_
                simp only [Act.put, List.setIfInBounds_toArray, List.set_cons_zero, List.set_cons_succ]
                refine mk_want (qv (Pt.pX m.1) (Pt.pY m.1) (Pt.pFar m.1)) rfl (made_fun (args := [qv (Pt.pX q.1) (Pt.pY q.1) (Pt.pFar q.1)]) rfl rfl (fun W => run_callFunc_in Try.func20 rfl rfl _ W) (fun W hW => KR.out W)) ?_
                simp only [Act.put, List.setIfInBounds_toArray, List.set_cons_zero, List.set_cons_succ]
                refine mk_want (.bool false) rfl (made_bin rfl rfl rfl (gT _ _ _ _ _ _ _ _ _) (neT (p_top _).1 (p_top _).2)) ?_
                simp only [Act.put, List.setIfInBounds_toArray, List.set_cons_zero, List.set_cons_succ]
                refine mk_want (.bool false) rfl (made_pick rfl rfl rfl) ?_
                simp only [Act.put, List.setIfInBounds_toArray, List.set_cons_zero, List.set_cons_succ]
                refine mk_step (.bool false) rfl (made_pick rfl rfl rfl) ?_
                simp only [Act.put, List.setIfInBounds_toArray, List.set_cons_zero, List.set_cons_succ]
                refine mk_step (.bool false) rfl (made_move (.inl rfl) rfl) ?_
                simp only [Act.put, List.setIfInBounds_toArray, List.set_cons_zero, List.set_cons_succ]
                refine mk_want (.bool true) rfl (made_move (.inl rfl) rfl) ?_
                simp only [Act.put, List.setIfInBounds_toArray, List.set_cons_zero, List.set_cons_succ]
                refine mk_want (.bool false) rfl (made_not' rfl rfl rfl) ?_
                simp only [Act.put, List.setIfInBounds_toArray, List.set_cons_zero, List.set_cons_succ]
                refine mk_want (.bool false) rfl (made_move (.inl rfl) rfl) ?_
                simp only [Act.put, List.setIfInBounds_toArray, List.set_cons_zero, List.set_cons_succ]
                refine mk_skip rfl ?_
                simp only [Act.put, List.setIfInBounds_toArray, List.set_cons_zero, List.set_cons_succ]
                refine mk_skip rfl ?_
                simp only [Act.put, List.setIfInBounds_toArray, List.set_cons_zero, List.set_cons_succ]
                refine mk_skip rfl ?_
                simp only [Act.put, List.setIfInBounds_toArray, List.set_cons_zero, List.set_cons_succ]
                refine mk_skip rfl ?_
                simp only [Act.put, List.setIfInBounds_toArray, List.set_cons_zero, List.set_cons_succ]
                refine mk_skip rfl ?_
                simp only [Act.put, List.setIfInBounds_toArray, List.set_cons_zero, List.set_cons_succ]
                refine mk_skip rfl ?_
                simp only [Act.put, List.setIfInBounds_toArray, List.set_cons_zero, List.set_cons_succ]
                refine mk_skip rfl ?_
                simp only [Act.put, List.setIfInBounds_toArray, List.set_cons_zero, List.set_cons_succ]
                refine mk_skip rfl ?_
                simp only [Act.put, List.setIfInBounds_toArray, List.set_cons_zero, List.set_cons_succ]
                refine mk_want (.bool false) rfl (made_pick rfl rfl rfl) ?_
                simp only [Act.put, List.setIfInBounds_toArray, List.set_cons_zero, List.set_cons_succ]
                refine mk_step (.bool false) rfl (made_pick rfl rfl rfl) ?_
                simp only [Act.put, List.setIfInBounds_toArray, List.set_cons_zero, List.set_cons_succ]
                exact mk_end
              case h2 =>
                refine rest_done rfl (by kernel_rfl) ?_
                intro w8 hE
                refine NoPanic.normal ?_
                replace b0 := hE.block b0
                replace b1 := hE.block b1
                replace bs := hE.block bs
                replace bm := hE.block bm
                replace hx := hx.trans hE
                clear hE
                go_upto_region 10 with (fail)
                refine' wp_plainG (m := 6) (A := _) ?h1 ?h2
                case h1 =>
                  refine mk_step (.bool true) rfl (made_move (.inl rfl) rfl) ?_
                  simp only [Act.put, List.setIfInBounds_toArray, List.set_cons_zero, List.set_cons_succ]
                  refine mk_step (.bool false) rfl (made_not' rfl rfl rfl) ?_
                  simp only [Act.put, List.setIfInBounds_toArray, List.set_cons_zero, List.set_cons_succ]
                  refine mk_step (.bool false) rfl (made_move (.inl rfl) rfl) ?_
                  simp only [Act.put, List.setIfInBounds_toArray, List.set_cons_zero, List.set_cons_succ]
                  refine mk_want (.bool true) rfl (made_move (.inl rfl) rfl) ?_
                  simp only [Act.put, List.setIfInBounds_toArray, List.set_cons_zero, List.set_cons_succ]
                  refine mk_want (.bool false) rfl (made_not' rfl rfl rfl) ?_
                  simp only [Act.put, List.setIfInBounds_toArray, List.set_cons_zero, List.set_cons_succ]
                  refine mk_step (.bool false) rfl (made_pick rfl rfl rfl) ?_
                  simp only [Act.put, List.setIfInBounds_toArray, List.set_cons_zero, List.set_cons_succ]
                  exact mk_end
                case h2 =>
                  refine prest_done rfl ?_
                  intro w9 hE
                  replace b0 := hE.block b0
                  replace b1 := hE.block b1
                  replace bs := hE.block bs
                  replace bm := hE.block bm
                  replace hx := hx.trans hE
                  clear hE
                  go_upto_region 12 with (fail)
                  refine' wp_madeG (m := 13) (A := _) 13 (by kernel_rfl) (by kernel_rfl) ?h1 ?h2
                  case h1 =>
                    refine mk_step (.bool true) rfl (made_move (.inl rfl) rfl) ?_
                    simp only [Act.put, List.setIfInBounds_toArray, List.set_cons_zero, List.set_cons_succ]
                    refine mk_step (.bool true) rfl (made_move (.inl rfl) rfl) ?_
                    simp only [Act.put, List.setIfInBounds_toArray, List.set_cons_zero, List.set_cons_succ]
                    refine mk_want (.nilIface) rfl (made_move (.inl rfl) rfl) ?_
                    simp only [Act.put, List.setIfInBounds_toArray, List.set_cons_zero, List.set_cons_succ]
                    refine mk_want (.bool true) rfl (made_bin rfl rfl rfl (fun _ => by kernel_rfl) (fun _ => by kernel_rfl)) ?_
                    simp only [Act.put, List.setIfInBounds_toArray, List.set_cons_zero, List.set_cons_succ]
                    refine mk_step (.bool true) rfl (made_pick rfl rfl rfl) ?_
                    simp only [Act.put, List.setIfInBounds_toArray, List.set_cons_zero, List.set_cons_succ]
                    refine mk_step (.bool true) rfl (made_move (.inl rfl) rfl) ?_
                    simp only [Act.put, List.setIfInBounds_toArray, List.set_cons_zero, List.set_cons_succ]
                    refine mk_want (qv (Pt.pX s.1) (Pt.pY s.1) (Pt.pFar s.1)) rfl (made_load rfl rfl bs rfl Try.underlying26 rfl (iT _ _ _)) ?_
                    simp only [Act.put, List.setIfInBounds_toArray, List.set_cons_zero, List.set_cons_succ]
                    refine mk_want (qv (Pt.pX q.1) (Pt.pY q.1) (Pt.pFar q.1)) rfl (made_load rfl rfl b0 rfl Try.underlying26 rfl (iT _ _ _)) ?_
                    simp only [Act.put, List.setIfInBounds_toArray, List.set_cons_zero, List.set_cons_succ]
                    refine mk_want (qv (Pt.pX r.1) (Pt.pY r.1) (Pt.pFar r.1)) rfl (made_load rfl rfl b1 rfl Try.underlying26 rfl (iT _ _ _)) ?_
                    simp only [Act.put, List.setIfInBounds_toArray, List.set_cons_zero, List.set_cons_succ]
                    refine mk_want (qv (Pt.pX s.1) (Pt.pY s.1) (Pt.pFar s.1)) rfl (made_fun (args := [qv (Pt.pX q.1) (Pt.pY q.1) (Pt.pFar q.1), qv (Pt.pX r.1) (Pt.pY r.1) (Pt.pFar r.1)]) rfl rfl (fun W => run_callFunc_in Try.func21 rfl rfl _ W) (fun W hW => KB.out W)) ?_
                    simp only [Act.put, List.setIfInBounds_toArray, List.set_cons_zero, List.set_cons_succ]
                    refine mk_want (.bool true) rfl (made_bin rfl rfl rfl (gT _ _ _ _ _ _ _ _ _) (eqT (p_top _).1 (p_top _).2)) ?_
                    simp only [Act.put, List.setIfInBounds_toArray, List.set_cons_zero, List.set_cons_succ]
                    refine mk_step (.bool true) rfl (made_pick rfl rfl rfl) ?_
                    simp only [Act.put, List.setIfInBounds_toArray, List.set_cons_zero, List.set_cons_succ]
                    refine mk_step (.bool true) rfl (made_move (.inr rfl) rfl) ?_
                    simp only [Act.put, List.setIfInBounds_toArray, List.set_cons_zero, List.set_cons_succ]
                    exact mk_end
                  case h2 =>
                    refine rest_done rfl (by kernel_rfl) ?_
                    intro w10 hE
                    refine NoPanic.normal ?_
                    replace b0 := hE.block b0
                    replace b1 := hE.block b1
                    replace bs := hE.block bs
                    replace bm := hE.block bm
                    replace hx := hx.trans hE
                    clear hE
                    go_wp2
                    go_ret
                    exact ⟨rfl, hx⟩
set_option maxRecDepth 100000 in
set_option maxHeartbeats 8000000 in
theorem sums_yn (q : Pt.Q) (X' Y' : Nat) (f' : Bool) (hcX : X' < top) (hcY : Y' < top) (hcB : onB X' Y' f' = false) (w : World) :
    Calls Try.prog 3 #[qvP q.1, qv X' Y' f'] w fun e w' => e = .returned (.bool true) ∧ Ext w w' := by
  have kcX := veil hcX
  have kcY := veil hcY
  have kcB := veil hcB
  clear hcX hcY hcB
  obtain ⟨m, hm⟩ : ∃ m : Pt.Q, m = Pt.grp.ng q := ⟨_, rfl⟩
  have kN := pNeg_yes q
  have kR := rNeg_is q
  rw [← hm] at kN kR
  have KN := veil kN
  have KR := veil kR
  clear kN kR hm
  unfold qvP qv qc
  go_enter Try.func3, Try.ntmps3
  go_upto_region 1 with (fail)
  obtain ⟨hx, b0, b1⟩ := blocks2 w (.cells #[.int .u64 (wd (Pt.pX q.1) 0), .int .u64 (wd (Pt.pX q.1) 1), .int .u64 (wd (Pt.pX q.1) 2), .int .u64 (wd (Pt.pX q.1) 3), .int .u64 (wd (Pt.pY q.1) 0), .int .u64 (wd (Pt.pY q.1) 1), .int .u64 (wd (Pt.pY q.1) 2), .int .u64 (wd (Pt.pY q.1) 3), .bool (Pt.pFar q.1)] 26) (.cells #[.int .u64 (wd (X') 0), .int .u64 (wd (X') 1), .int .u64 (wd (X') 2), .int .u64 (wd (X') 3), .int .u64 (wd (Y') 0), .int .u64 (wd (Y') 1), .int .u64 (wd (Y') 2), .int .u64 (wd (Y') 3), .bool (f')] 26)
  generalize (w.alloc (.cells #[.int .u64 (wd (Pt.pX q.1) 0), .int .u64 (wd (Pt.pX q.1) 1), .int .u64 (wd (Pt.pX q.1) 2), .int .u64 (wd (Pt.pX q.1) 3), .int .u64 (wd (Pt.pY q.1) 0), .int .u64 (wd (Pt.pY q.1) 1), .int .u64 (wd (Pt.pY q.1) 2), .int .u64 (wd (Pt.pY q.1) 3), .bool (Pt.pFar q.1)] 26)).alloc (.cells #[.int .u64 (wd (X') 0), .int .u64 (wd (X') 1), .int .u64 (wd (X') 2), .int .u64 (wd (X') 3), .int .u64 (wd (Y') 0), .int .u64 (wd (Y') 1), .int .u64 (wd (Y') 2), .int .u64 (wd (Y') 3), .bool (f')] 26) = w1 at *
  have b0 : w1.heap[w.heap.size]? = some (.cells (qc (Pt.pX q.1) (Pt.pY q.1) (Pt.pFar q.1)) 26 (0, 0)) := b0
  have b1 : w1.heap[w.heap.size + 1]? = some (.cells (qc X' Y' f') 26 (0, 0)) := b1
  refine' wp_plain (m := 2) (A := _) (by kernel_rfl) ?h1 ?h2
  case h1 =>
    refine mk_step (.bool true) rfl (made_fun (args := []) rfl rfl (fun W => run_callFunc_in Try.func9 rfl rfl _ W) (fun W hW => up_is W)) ?_
    simp only [Act.put, List.setIfInBounds_toArray, List.set_cons_zero, List.set_cons_succ]
    refine mk_step (.bool true) rfl (made_move (.inr rfl) rfl) ?_
    simp only [Act.put, List.setIfInBounds_toArray, List.set_cons_zero, List.set_cons_succ]
    exact mk_end
  case h2 =>
    refine prest_done rfl ?_
    intro w2 hE
    replace b0 := hE.block b0
    replace b1 := hE.block b1
    replace hx := hx.trans hE
    clear hE
    go_upto_region 2 with (fail)
    refine' wp_plain (m := 3) (A := _) (by kernel_rfl) ?h1 ?h2
    case h1 =>
      refine mk_step (qv (Pt.pX q.1) (Pt.pY q.1) (Pt.pFar q.1)) rfl (made_load rfl rfl b0 rfl Try.underlying26 rfl (iT _ _ _)) ?_
      simp only [Act.put, List.setIfInBounds_toArray, List.set_cons_zero, List.set_cons_succ]
      refine mk_step (.bool true) rfl (made_fun (args := [qv (Pt.pX q.1) (Pt.pY q.1) (Pt.pFar q.1)]) rfl rfl (fun W => run_callFunc_in Try.func10 rfl rfl _ W) (fun W hW => rOn_yes q W)) ?_
      simp only [Act.put, List.setIfInBounds_toArray, List.set_cons_zero, List.set_cons_succ]
      refine mk_step (.bool true) rfl (made_move (.inr rfl) rfl) ?_
      simp only [Act.put, List.setIfInBounds_toArray, List.set_cons_zero, List.set_cons_succ]
      exact mk_end
    case h2 =>
      refine prest_done rfl ?_
      intro w3 hE
      replace b0 := hE.block b0
      replace b1 := hE.block b1
      replace hx := hx.trans hE
      clear hE
      go_upto_region 3 with (fail)
      refine' wp_plain (m := 3) (A := _) (by kernel_rfl) ?h1 ?h2
      case h1 =>
        refine mk_step (qv X' Y' f') rfl (made_load rfl rfl b1 rfl Try.underlying26 rfl (iT _ _ _)) ?_
        simp only [Act.put, List.setIfInBounds_toArray, List.set_cons_zero, List.set_cons_succ]
        refine mk_step (.bool false) rfl (made_fun (args := [qv X' Y' f']) rfl rfl (fun W => run_callFunc_in Try.func10 rfl rfl _ W) (fun W hW => rOn_no kcX.out kcY.out kcB.out W)) ?_
        simp only [Act.put, List.setIfInBounds_toArray, List.set_cons_zero, List.set_cons_succ]
        refine mk_step (.bool false) rfl (made_move (.inr rfl) rfl) ?_
        simp only [Act.put, List.setIfInBounds_toArray, List.set_cons_zero, List.set_cons_succ]
        exact mk_end
      case h2 =>
        refine prest_done rfl ?_
        intro w4 hE
        replace b0 := hE.block b0
        replace b1 := hE.block b1
        replace hx := hx.trans hE
        clear hE
        go_upto_region 4 with (fail)
        refine' wp_plain (m := 6) (A := _) (by kernel_rfl) ?h1 ?h2
        case h1 =>
          refine mk_step (qv (Pt.pX q.1) (Pt.pY q.1) (Pt.pFar q.1)) rfl (made_load rfl rfl b0 rfl Try.underlying26 rfl (iT _ _ _)) ?_
          simp only [Act.put, List.setIfInBounds_toArray, List.set_cons_zero, List.set_cons_succ]
          refine mk_step (qv X' Y' f') rfl (made_load rfl rfl b1 rfl Try.underlying26 rfl (iT _ _ _)) ?_
          simp only [Act.put, List.setIfInBounds_toArray, List.set_cons_zero, List.set_cons_succ]
          refine mk_step (.tuple #[qv 0 0 false, .iface 37 (.int .i64 1)]) rfl (made_fun (args := [qv (Pt.pX q.1) (Pt.pY q.1) (Pt.pFar q.1), qv X' Y' f']) rfl rfl (fun W => run_callFunc_in Try.func11 rfl rfl _ W) (fun W hW => add_no2 q X' Y' f' kcX.out kcY.out kcB.out W)) ?_
          simp only [Act.put, List.setIfInBounds_toArray, List.set_cons_zero, List.set_cons_succ]
          refine mk_step (.tuple #[qv 0 0 false, .iface 37 (.int .i64 1)]) rfl (made_move (.inl rfl) rfl) ?_
          simp only [Act.put, List.setIfInBounds_toArray, List.set_cons_zero, List.set_cons_succ]
          refine mk_step (qv 0 0 false) rfl (made_ext rfl rfl rfl) ?_
          simp only [Act.put, List.setIfInBounds_toArray, List.set_cons_zero, List.set_cons_succ]
          refine mk_step (.iface 37 (.int .i64 1)) rfl (made_ext rfl rfl rfl) ?_
          simp only [Act.put, List.setIfInBounds_toArray, List.set_cons_zero, List.set_cons_succ]
          exact mk_end
        case h2 =>
          refine prest_var' _ _ rfl rfl rfl rfl rfl rfl rfl (hzT ·) (fun _ => rfl) (fun _ => rfl) (iT _ _ _) rfl (qc_one _ _ _) ?_
          intro gs w5 hgs bs hE
          replace b0 := hE.block b0
          replace b1 := hE.block b1
          replace hx := hx.trans hE
          clear hE
          simp only [Act.put, List.setIfInBounds_toArray, List.set_cons_zero, List.set_cons_succ]
          clear hgs
          go_upto_region 5 with (fail)
          refine' wp_plain (m := 5) (A := _) (by kernel_rfl) ?h1 ?h2
          case h1 =>
            refine mk_step (qv (Pt.pX q.1) (Pt.pY q.1) (Pt.pFar q.1)) rfl (made_load rfl rfl b0 rfl Try.underlying26 rfl (iT _ _ _)) ?_
            simp only [Act.put, List.setIfInBounds_toArray, List.set_cons_zero, List.set_cons_succ]
            refine mk_step (.tuple #[qv (Pt.pX m.1) (Pt.pY m.1) (Pt.pFar m.1), .nilIface]) rfl (made_fun (args := [qv (Pt.pX q.1) (Pt.pY q.1) (Pt.pFar q.1)]) rfl rfl (fun W => run_callFunc_in Try.func12 rfl rfl _ W) (fun W hW => KN.out W)) ?_
            simp only [Act.put, List.setIfInBounds_toArray, List.set_cons_zero, List.set_cons_succ]
            refine mk_step (.tuple #[qv (Pt.pX m.1) (Pt.pY m.1) (Pt.pFar m.1), .nilIface]) rfl (made_move (.inl rfl) rfl) ?_
            simp only [Act.put, List.setIfInBounds_toArray, List.set_cons_zero, List.set_cons_succ]
            refine mk_step (qv (Pt.pX m.1) (Pt.pY m.1) (Pt.pFar m.1)) rfl (made_ext rfl rfl rfl) ?_
            simp only [Act.put, List.setIfInBounds_toArray, List.set_cons_zero, List.set_cons_succ]
            refine mk_step (.nilIface) rfl (made_ext rfl rfl rfl) ?_
            simp only [Act.put, List.setIfInBounds_toArray, List.set_cons_zero, List.set_cons_succ]
            exact mk_end
          case h2 =>
            refine prest_var' _ _ rfl rfl rfl rfl rfl rfl rfl (hzT ·) (fun _ => rfl) (fun _ => rfl) (iT _ _ _) rfl (qc_one _ _ _) ?_
            intro gm w6 hgm bm hE
            replace b0 := hE.block b0
            replace b1 := hE.block b1
            replace bs := hE.block bs
            replace hx := hx.trans hE
            clear hE
            simp only [Act.put, List.setIfInBounds_toArray, List.set_cons_zero, List.set_cons_succ]
            clear hgm
            go_upto_region 6 with (fail)
            refine' wp_plainG (m := 25) (A := _) ?h1 ?h2
            case h1 =>
              refine mk_step (qv (Pt.pX q.1) (Pt.pY q.1) (Pt.pFar q.1)) rfl (made_load rfl rfl b0 rfl Try.underlying26 rfl (iT _ _ _)) ?_
              simp only [Act.put, List.setIfInBounds_toArray, List.set_cons_zero, List.set_cons_succ]
              refine mk_step (.bool true) rfl (made_fun (args := [qv (Pt.pX q.1) (Pt.pY q.1) (Pt.pFar q.1)]) rfl rfl (fun W => run_callFunc_in Try.func13 rfl rfl _ W) (fun W hW => pOn_yes q W)) ?_
              simp only [Act.put, List.setIfInBounds_toArray, List.set_cons_zero, List.set_cons_succ]
              refine mk_step (.bool true) rfl (made_move (.inl rfl) rfl) ?_
              simp only [Act.put, List.setIfInBounds_toArray, List.set_cons_zero, List.set_cons_succ]
              refine mk_step (.bool false) rfl (made_bin rfl rfl rfl (fun _ => by kernel_rfl) (fun _ => by kernel_rfl)) ?_
              simp only [Act.put, List.setIfInBounds_toArray, List.set_cons_zero, List.set_cons_succ]
              refine mk_step (.bool false) rfl (made_move (.inl rfl) rfl) ?_
              simp only [Act.put, List.setIfInBounds_toArray, List.set_cons_zero, List.set_cons_succ]
              refine mk_want (qv X' Y' f') rfl (made_load rfl rfl b1 rfl Try.underlying26 rfl (iT _ _ _)) ?_
              simp only [Act.put, List.setIfInBounds_toArray, List.set_cons_zero, List.set_cons_succ]
              refine mk_want (.bool false) rfl (made_fun (args := [qv X' Y' f']) rfl rfl (fun W => run_callFunc_in Try.func13 rfl rfl _ W) (fun W hW => pOn_no kcX.out kcY.out kcB.out W)) ?_
              simp only [Act.put, List.setIfInBounds_toArray, List.set_cons_zero, List.set_cons_succ]
              refine mk_want (.bool false) rfl (made_move (.inl rfl) rfl) ?_
              simp only [Act.put, List.setIfInBounds_toArray, List.set_cons_zero, List.set_cons_succ]
              refine mk_want (.bool false) rfl (made_bin rfl rfl rfl (fun _ => by kernel_rfl) (fun _ => by kernel_rfl)) ?_
              simp only [Act.put, List.setIfInBounds_toArray, List.set_cons_zero, List.set_cons_succ]
              refine mk_step (.bool false) rfl (made_pick rfl rfl rfl) ?_
              simp only [Act.put, List.setIfInBounds_toArray, List.set_cons_zero, List.set_cons_succ]
              refine mk_step (.bool false) rfl (made_move (.inl rfl) rfl) ?_
              simp only [Act.put, List.setIfInBounds_toArray, List.set_cons_zero, List.set_cons_succ]
              refine mk_want (nv Pt.pp) rfl (made_fun (args := []) rfl rfl (fun W => run_callFunc_in Try.func14 rfl rfl _ W) (fun W hW => pP_is W)) ?_
              simp only [Act.put, List.setIfInBounds_toArray, List.set_cons_zero, List.set_cons_succ]
              refine mk_want (nv Pt.pp) rfl (made_fun (args := []) rfl rfl (fun W => run_callFunc_in Try.func15 rfl rfl _ W) (fun W hW => rP_is W)) ?_
              simp only [Act.put, List.setIfInBounds_toArray, List.set_cons_zero, List.set_cons_succ]
              refine mk_want (.bool false) rfl (made_bin rfl rfl rfl (gN _ _ _ _ _) neN) ?_
              simp only [Act.put, List.setIfInBounds_toArray, List.set_cons_zero, List.set_cons_succ]
              refine mk_step (.bool false) rfl (made_pick rfl rfl rfl) ?_
              simp only [Act.put, List.setIfInBounds_toArray, List.set_cons_zero, List.set_cons_succ]
              refine mk_step (.bool false) rfl (made_move (.inl rfl) rfl) ?_
              simp only [Act.put, List.setIfInBounds_toArray, List.set_cons_zero, List.set_cons_succ]
              refine mk_want (nv Pt.nn) rfl (made_fun (args := []) rfl rfl (fun W => run_callFunc_in Try.func16 rfl rfl _ W) (fun W hW => pN_is W)) ?_
              simp only [Act.put, List.setIfInBounds_toArray, List.set_cons_zero, List.set_cons_succ]
              refine mk_want (nv Pt.nn) rfl (made_fun (args := []) rfl rfl (fun W => run_callFunc_in Try.func17 rfl rfl _ W) (fun W hW => rN_is W)) ?_
              simp only [Act.put, List.setIfInBounds_toArray, List.set_cons_zero, List.set_cons_succ]
              refine mk_want (.bool false) rfl (made_bin rfl rfl rfl (gN _ _ _ _ _) neN) ?_
              simp only [Act.put, List.setIfInBounds_toArray, List.set_cons_zero, List.set_cons_succ]
              refine mk_step (.bool false) rfl (made_pick rfl rfl rfl) ?_
              simp only [Act.put, List.setIfInBounds_toArray, List.set_cons_zero, List.set_cons_succ]
              refine mk_step (.bool false) rfl (made_move (.inl rfl) rfl) ?_
              simp only [Act.put, List.setIfInBounds_toArray, List.set_cons_zero, List.set_cons_succ]
              refine mk_want (qv Pt.gx Pt.gy false) rfl (made_fun (args := []) rfl rfl (fun W => run_callFunc_in Try.func18 rfl rfl _ W) (fun W hW => base_calls W)) ?_
              simp only [Act.put, List.setIfInBounds_toArray, List.set_cons_zero, List.set_cons_succ]
              refine mk_want (qv Pt.gx Pt.gy false) rfl (made_fun (args := []) rfl rfl (fun W => run_callFunc_in Try.func19 rfl rfl _ W) (fun W hW => rBase_is W)) ?_
              simp only [Act.put, List.setIfInBounds_toArray, List.set_cons_zero, List.set_cons_succ]
              refine mk_want (.bool false) rfl (made_bin rfl rfl rfl (gT _ _ _ _ _ _ _ _ _) (neT g_top.1 g_top.2)) ?_
              simp only [Act.put, List.setIfInBounds_toArray, List.set_cons_zero, List.set_cons_succ]
              refine mk_step (.bool false) rfl (made_pick rfl rfl rfl) ?_
              simp only [Act.put, List.setIfInBounds_toArray, List.set_cons_zero, List.set_cons_succ]
              exact mk_end
            case h2 =>
              refine prest_done rfl ?_
              intro w7 hE
              replace b0 := hE.block b0
              replace b1 := hE.block b1
              replace bs := hE.block bs
              replace bm := hE.block bm
              replace hx := hx.trans hE
              clear hE
              go_upto_region 8 with (fail)
              refine' wp_madeG (m := 25) (A := _) 25 (by kernel_rfl) (by kernel_rfl) ?h1 ?h2
              case h1 =>
                refine mk_step (.bool true) rfl (made_move (.inl rfl) rfl) ?_
                simp only [Act.put, List.setIfInBounds_toArray, List.set_cons_zero, List.set_cons_succ]
                refine mk_step (.bool true) rfl (made_move (.inl rfl) rfl) ?_
                simp only [Act.put, List.setIfInBounds_toArray, List.set_cons_zero, List.set_cons_succ]
                refine mk_want (.nilIface) rfl (made_move (.inl rfl) rfl) ?_
                simp only [Act.put, List.setIfInBounds_toArray, List.set_cons_zero, List.set_cons_succ]
                refine mk_want (.bool false) rfl (made_bin rfl rfl rfl (fun _ => by kernel_rfl) (fun _ => by kernel_rfl)) ?_
                simp only [Act.put, List.setIfInBounds_toArray, List.set_cons_zero, List.set_cons_succ]
                refine mk_want (.bool false) rfl (made_move (.inl rfl) rfl) ?_
                simp only [Act.put, List.setIfInBounds_toArray, List.set_cons_zero, List.set_cons_succ]
                refine mk_want (qv (Pt.pX m.1) (Pt.pY m.1) (Pt.pFar m.1)) rfl (made_load rfl rfl bm rfl Try.underlying26 rfl (iT _ _ _)) ?_
                simp only [Act.put, List.setIfInBounds_toArray, List.set_cons_zero, List.set_cons_succ]
                refine mk_want (qv (Pt.pX q.1) (Pt.pY q.1) (Pt.pFar q.1)) rfl (made_load rfl rfl b0 rfl Try.underlying26 rfl (iT _ _ _)) ?_
                simp only [Act.put, List.setIfInBounds_toArray, List.set_cons_zero, List.set_cons_succ]
                refine mk_want (qv (Pt.pX m.1) (Pt.pY m.1) (Pt.pFar m.1)) rfl (made_fun (args := [qv (Pt.pX q.1) (Pt.pY q.1) (Pt.pFar q.1)]) rfl rfl (fun W => run_callFunc_in Try.func20 rfl rfl _ W) (fun W hW => KR.out W)) ?_
                simp only [Act.put, List.setIfInBounds_toArray, List.set_cons_zero, List.set_cons_succ]
                refine mk_want (.bool false) rfl (made_bin rfl rfl rfl (gT _ _ _ _ _ _ _ _ _) (neT (p_top _).1 (p_top _).2)) ?_
                simp only [Act.put, List.setIfInBounds_toArray, List.set_cons_zero, List.set_cons_succ]
                refine mk_want (.bool false) rfl (made_pick rfl rfl rfl) ?_
                simp only [Act.put, List.setIfInBounds_toArray, List.set_cons_zero, List.set_cons_succ]
                refine mk_step (.bool false) rfl (made_pick rfl rfl rfl) ?_
                simp only [Act.put, List.setIfInBounds_toArray, List.set_cons_zero, List.set_cons_succ]
                refine mk_step (.bool false) rfl (made_move (.inl rfl) rfl) ?_
                simp only [Act.put, List.setIfInBounds_toArray, List.set_cons_zero, List.set_cons_succ]
                refine mk_want (.bool true) rfl (made_move (.inl rfl) rfl) ?_
                simp only [Act.put, List.setIfInBounds_toArray, List.set_cons_zero, List.set_cons_succ]
                refine mk_want (.bool false) rfl (made_not' rfl rfl rfl) ?_
                simp only [Act.put, List.setIfInBounds_toArray, List.set_cons_zero, List.set_cons_succ]
                refine mk_want (.bool false) rfl (made_move (.inl rfl) rfl) ?_
                simp only [Act.put, List.setIfInBounds_toArray, List.set_cons_zero, List.set_cons_succ]
                refine mk_skip rfl ?_
                simp only [Act.put, List.setIfInBounds_toArray, List.set_cons_zero, List.set_cons_succ]
                refine mk_skip rfl ?_
                simp only [Act.put, List.setIfInBounds_toArray, List.set_cons_zero, List.set_cons_succ]
                refine mk_skip rfl ?_
                simp only [Act.put, List.setIfInBounds_toArray, List.set_cons_zero, List.set_cons_succ]
                refine mk_skip rfl ?_
                simp only [Act.put, List.setIfInBounds_toArray, List.set_cons_zero, List.set_cons_succ]
                refine mk_skip rfl ?_
                simp only [Act.put, List.setIfInBounds_toArray, List.set_cons_zero, List.set_cons_succ]
                refine mk_skip rfl ?_
                simp only [Act.put, List.setIfInBounds_toArray, List.set_cons_zero, List.set_cons_succ]
                refine mk_skip rfl ?_
                simp only [Act.put, List.setIfInBounds_toArray, List.set_cons_zero, List.set_cons_succ]
                refine mk_skip rfl ?_
                simp only [Act.put, List.setIfInBounds_toArray, List.set_cons_zero, List.set_cons_succ]
                refine mk_want (.bool false) rfl (made_pick rfl rfl rfl) ?_
                simp only [Act.put, List.setIfInBounds_toArray, List.set_cons_zero, List.set_cons_succ]
                refine mk_step (.bool false) rfl (made_pick rfl rfl rfl) ?_
                simp only [Act.put, List.setIfInBounds_toArray, List.set_cons_zero, List.set_cons_succ]
                exact mk_end
              case h2 =>
                refine rest_done rfl (by kernel_rfl) ?_
                intro w8 hE
                refine NoPanic.normal ?_
                replace b0 := hE.block b0
                replace b1 := hE.block b1
                replace bs := hE.block bs
                replace bm := hE.block bm
                replace hx := hx.trans hE
                clear hE
                go_upto_region 10 with (fail)
                refine' wp_plainG (m := 6) (A := _) ?h1 ?h2
                case h1 =>
                  refine mk_step (.bool true) rfl (made_move (.inl rfl) rfl) ?_
                  simp only [Act.put, List.setIfInBounds_toArray, List.set_cons_zero, List.set_cons_succ]
                  refine mk_step (.bool false) rfl (made_not' rfl rfl rfl) ?_
                  simp only [Act.put, List.setIfInBounds_toArray, List.set_cons_zero, List.set_cons_succ]
                  refine mk_step (.bool false) rfl (made_move (.inl rfl) rfl) ?_
                  simp only [Act.put, List.setIfInBounds_toArray, List.set_cons_zero, List.set_cons_succ]
                  refine mk_want (.bool false) rfl (made_move (.inl rfl) rfl) ?_
                  simp only [Act.put, List.setIfInBounds_toArray, List.set_cons_zero, List.set_cons_succ]
                  refine mk_want (.bool true) rfl (made_not' rfl rfl rfl) ?_
                  simp only [Act.put, List.setIfInBounds_toArray, List.set_cons_zero, List.set_cons_succ]
                  refine mk_step (.bool true) rfl (made_pick rfl rfl rfl) ?_
                  simp only [Act.put, List.setIfInBounds_toArray, List.set_cons_zero, List.set_cons_succ]
                  exact mk_end
                case h2 =>
                  refine prest_done rfl ?_
                  intro w9 hE
                  replace b0 := hE.block b0
                  replace b1 := hE.block b1
                  replace bs := hE.block bs
                  replace bm := hE.block bm
                  replace hx := hx.trans hE
                  clear hE
                  go_upto_region 11 with (fail)
                  refine' wp_plainG (m := 12) (A := _) ?h1 ?h2
                  case h1 =>
                    refine mk_step (.bool true) rfl (made_move (.inl rfl) rfl) ?_
                    simp only [Act.put, List.setIfInBounds_toArray, List.set_cons_zero, List.set_cons_succ]
                    refine mk_step (.bool true) rfl (made_move (.inl rfl) rfl) ?_
                    simp only [Act.put, List.setIfInBounds_toArray, List.set_cons_zero, List.set_cons_succ]
                    refine mk_want (.iface 37 (.int .i64 1)) rfl (made_move (.inl rfl) rfl) ?_
                    simp only [Act.put, List.setIfInBounds_toArray, List.set_cons_zero, List.set_cons_succ]
                    refine mk_want (.iface 37 (.int .i64 1)) rfl (made_iface rfl (mkErr1 ·)) ?_
                    simp only [Act.put, List.setIfInBounds_toArray, List.set_cons_zero, List.set_cons_succ]
                    refine mk_want (.bool true) rfl (made_bin rfl rfl rfl (fun _ => by kernel_rfl) (fun _ => by kernel_rfl)) ?_
                    simp only [Act.put, List.setIfInBounds_toArray, List.set_cons_zero, List.set_cons_succ]
                    refine mk_step (.bool true) rfl (made_pick rfl rfl rfl) ?_
                    simp only [Act.put, List.setIfInBounds_toArray, List.set_cons_zero, List.set_cons_succ]
                    refine mk_step (.bool true) rfl (made_move (.inl rfl) rfl) ?_
                    simp only [Act.put, List.setIfInBounds_toArray, List.set_cons_zero, List.set_cons_succ]
                    refine mk_want (qv 0 0 false) rfl (made_load rfl rfl bs rfl Try.underlying26 rfl (iT _ _ _)) ?_
                    simp only [Act.put, List.setIfInBounds_toArray, List.set_cons_zero, List.set_cons_succ]
                    refine mk_want (qv 0 0 false) rfl (made_build rfl rfl (bldT0 ·)) ?_
                    simp only [Act.put, List.setIfInBounds_toArray, List.set_cons_zero, List.set_cons_succ]
                    refine mk_want (.bool true) rfl (made_bin rfl rfl rfl (gT _ _ _ _ _ _ _ _ _) (eqT top_pos top_pos)) ?_
                    simp only [Act.put, List.setIfInBounds_toArray, List.set_cons_zero, List.set_cons_succ]
                    refine mk_step (.bool true) rfl (made_pick rfl rfl rfl) ?_
                    simp only [Act.put, List.setIfInBounds_toArray, List.set_cons_zero, List.set_cons_succ]
                    refine mk_step (.bool true) rfl (made_move (.inr rfl) rfl) ?_
                    simp only [Act.put, List.setIfInBounds_toArray, List.set_cons_zero, List.set_cons_succ]
                    exact mk_end
                  case h2 =>
                    refine prest_done rfl ?_
                    intro w10 hE
                    replace b0 := hE.block b0
                    replace b1 := hE.block b1
                    replace bs := hE.block bs
                    replace bm := hE.block bm
                    replace hx := hx.trans hE
                    clear hE
                    go_wp2
                    go_ret
                    exact ⟨rfl, hx⟩
set_option maxRecDepth 100000 in
set_option maxHeartbeats 8000000 in
theorem sums_ny (X Y : Nat) (f : Bool) (haX : X < top) (haY : Y < top) (haB : onB X Y f = false) (r : Pt.Q) (w : World) :
    Calls Try.prog 3 #[qv X Y f, qvP r.1] w fun e w' => e = .returned (.bool true) ∧ Ext w w' := by
  have kaX := veil haX
  have kaY := veil haY
  have kaB := veil haB
  clear haX haY haB
  unfold qvP qv qc
  go_enter Try.func3, Try.ntmps3
  go_upto_region 1 with (fail)
  obtain ⟨hx, b0, b1⟩ := blocks2 w (.cells #[.int .u64 (wd (X) 0), .int .u64 (wd (X) 1), .int .u64 (wd (X) 2), .int .u64 (wd (X) 3), .int .u64 (wd (Y) 0), .int .u64 (wd (Y) 1), .int .u64 (wd (Y) 2), .int .u64 (wd (Y) 3), .bool (f)] 26) (.cells #[.int .u64 (wd (Pt.pX r.1) 0), .int .u64 (wd (Pt.pX r.1) 1), .int .u64 (wd (Pt.pX r.1) 2), .int .u64 (wd (Pt.pX r.1) 3), .int .u64 (wd (Pt.pY r.1) 0), .int .u64 (wd (Pt.pY r.1) 1), .int .u64 (wd (Pt.pY r.1) 2), .int .u64 (wd (Pt.pY r.1) 3), .bool (Pt.pFar r.1)] 26)
  generalize (w.alloc (.cells #[.int .u64 (wd (X) 0), .int .u64 (wd (X) 1), .int .u64 (wd (X) 2), .int .u64 (wd (X) 3), .int .u64 (wd (Y) 0), .int .u64 (wd (Y) 1), .int .u64 (wd (Y) 2), .int .u64 (wd (Y) 3), .bool (f)] 26)).alloc (.cells #[.int .u64 (wd (Pt.pX r.1) 0), .int .u64 (wd (Pt.pX r.1) 1), .int .u64 (wd (Pt.pX r.1) 2), .int .u64 (wd (Pt.pX r.1) 3), .int .u64 (wd (Pt.pY r.1) 0), .int .u64 (wd (Pt.pY r.1) 1), .int .u64 (wd (Pt.pY r.1) 2), .int .u64 (wd (Pt.pY r.1) 3), .bool (Pt.pFar r.1)] 26) = w1 at *
  have b0 : w1.heap[w.heap.size]? = some (.cells (qc X Y f) 26 (0, 0)) := b0
  have b1 : w1.heap[w.heap.size + 1]? = some (.cells (qc (Pt.pX r.1) (Pt.pY r.1) (Pt.pFar r.1)) 26 (0, 0)) := b1
  refine' wp_plain (m := 2) (A := _) (by kernel_rfl) ?h1 ?h2
  case h1 =>
    refine mk_step (.bool true) rfl (made_fun (args := []) rfl rfl (fun W => run_callFunc_in Try.func9 rfl rfl _ W) (fun W hW => up_is W)) ?_
    simp only [Act.put, List.setIfInBounds_toArray, List.set_cons_zero, List.set_cons_succ]
    refine mk_step (.bool true) rfl (made_move (.inr rfl) rfl) ?_
    simp only [Act.put, List.setIfInBounds_toArray, List.set_cons_zero, List.set_cons_succ]
    exact mk_end
  case h2 =>
    refine prest_done rfl ?_
    intro w2 hE
    replace b0 := hE.block b0
    replace b1 := hE.block b1
    replace hx := hx.trans hE
    clear hE
    go_upto_region 2 with (fail)
    refine' wp_plain (m := 3) (A := _) (by kernel_rfl) ?h1 ?h2
    case h1 =>
      refine mk_step (qv X Y f) rfl (made_load rfl rfl b0 rfl Try.underlying26 rfl (iT _ _ _)) ?_
      simp only [Act.put, List.setIfInBounds_toArray, List.set_cons_zero, List.set_cons_succ]
      refine mk_step (.bool false) rfl (made_fun (args := [qv X Y f]) rfl rfl (fun W => run_callFunc_in Try.func10 rfl rfl _ W) (fun W hW => rOn_no kaX.out kaY.out kaB.out W)) ?_
      simp only [Act.put, List.setIfInBounds_toArray, List.set_cons_zero, List.set_cons_succ]
      refine mk_step (.bool false) rfl (made_move (.inr rfl) rfl) ?_
      simp only [Act.put, List.setIfInBounds_toArray, List.set_cons_zero, List.set_cons_succ]
      exact mk_end
    case h2 =>
      refine prest_done rfl ?_
      intro w3 hE
      replace b0 := hE.block b0
      replace b1 := hE.block b1
      replace hx := hx.trans hE
      clear hE
      go_upto_region 3 with (fail)
      refine' wp_plain (m := 3) (A := _) (by kernel_rfl) ?h1 ?h2
      case h1 =>
        refine mk_step (qv (Pt.pX r.1) (Pt.pY r.1) (Pt.pFar r.1)) rfl (made_load rfl rfl b1 rfl Try.underlying26 rfl (iT _ _ _)) ?_
        simp only [Act.put, List.setIfInBounds_toArray, List.set_cons_zero, List.set_cons_succ]
        refine mk_step (.bool true) rfl (made_fun (args := [qv (Pt.pX r.1) (Pt.pY r.1) (Pt.pFar r.1)]) rfl rfl (fun W => run_callFunc_in Try.func10 rfl rfl _ W) (fun W hW => rOn_yes r W)) ?_
        simp only [Act.put, List.setIfInBounds_toArray, List.set_cons_zero, List.set_cons_succ]
        refine mk_step (.bool true) rfl (made_move (.inr rfl) rfl) ?_
        simp only [Act.put, List.setIfInBounds_toArray, List.set_cons_zero, List.set_cons_succ]
        exact mk_end
      case h2 =>
        refine prest_done rfl ?_
        intro w4 hE
        replace b0 := hE.block b0
        replace b1 := hE.block b1
        replace hx := hx.trans hE
        clear hE
        go_upto_region 4 with (fail)
        refine' wp_plain (m := 6) (A := _) (by kernel_rfl) ?h1 ?h2
        case h1 =>
          refine mk_step (qv X Y f) rfl (made_load rfl rfl b0 rfl Try.underlying26 rfl (iT _ _ _)) ?_
          simp only [Act.put, List.setIfInBounds_toArray, List.set_cons_zero, List.set_cons_succ]
          refine mk_step (qv (Pt.pX r.1) (Pt.pY r.1) (Pt.pFar r.1)) rfl (made_load rfl rfl b1 rfl Try.underlying26 rfl (iT _ _ _)) ?_
          simp only [Act.put, List.setIfInBounds_toArray, List.set_cons_zero, List.set_cons_succ]
          refine mk_step (.tuple #[qv 0 0 false, .iface 37 (.int .i64 1)]) rfl (made_fun (args := [qv X Y f, qv (Pt.pX r.1) (Pt.pY r.1) (Pt.pFar r.1)]) rfl rfl (fun W => run_callFunc_in Try.func11 rfl rfl _ W) (fun W hW => add_no1 X Y f _ _ _ kaX.out kaY.out kaB.out W)) ?_
          simp only [Act.put, List.setIfInBounds_toArray, List.set_cons_zero, List.set_cons_succ]
          refine mk_step (.tuple #[qv 0 0 false, .iface 37 (.int .i64 1)]) rfl (made_move (.inl rfl) rfl) ?_
          simp only [Act.put, List.setIfInBounds_toArray, List.set_cons_zero, List.set_cons_succ]
          refine mk_step (qv 0 0 false) rfl (made_ext rfl rfl rfl) ?_
          simp only [Act.put, List.setIfInBounds_toArray, List.set_cons_zero, List.set_cons_succ]
          refine mk_step (.iface 37 (.int .i64 1)) rfl (made_ext rfl rfl rfl) ?_
          simp only [Act.put, List.setIfInBounds_toArray, List.set_cons_zero, List.set_cons_succ]
          exact mk_end
        case h2 =>
          refine prest_var' _ _ rfl rfl rfl rfl rfl rfl rfl (hzT ·) (fun _ => rfl) (fun _ => rfl) (iT _ _ _) rfl (qc_one _ _ _) ?_
          intro gs w5 hgs bs hE
          replace b0 := hE.block b0
          replace b1 := hE.block b1
          replace hx := hx.trans hE
          clear hE
          simp only [Act.put, List.setIfInBounds_toArray, List.set_cons_zero, List.set_cons_succ]
          clear hgs
          go_upto_region 5 with (fail)
          refine' wp_plain (m := 5) (A := _) (by kernel_rfl) ?h1 ?h2
          case h1 =>
            refine mk_step (qv X Y f) rfl (made_load rfl rfl b0 rfl Try.underlying26 rfl (iT _ _ _)) ?_
            simp only [Act.put, List.setIfInBounds_toArray, List.set_cons_zero, List.set_cons_succ]
            refine mk_step (.tuple #[qv 0 0 false, .iface 37 (.int .i64 1)]) rfl (made_fun (args := [qv X Y f]) rfl rfl (fun W => run_callFunc_in Try.func12 rfl rfl _ W) (fun W hW => neg_no X Y f kaX.out kaY.out kaB.out W)) ?_
            simp only [Act.put, List.setIfInBounds_toArray, List.set_cons_zero, List.set_cons_succ]
            refine mk_step (.tuple #[qv 0 0 false, .iface 37 (.int .i64 1)]) rfl (made_move (.inl rfl) rfl) ?_
            simp only [Act.put, List.setIfInBounds_toArray, List.set_cons_zero, List.set_cons_succ]
            refine mk_step (qv 0 0 false) rfl (made_ext rfl rfl rfl) ?_
            simp only [Act.put, List.setIfInBounds_toArray, List.set_cons_zero, List.set_cons_succ]
            refine mk_step (.iface 37 (.int .i64 1)) rfl (made_ext rfl rfl rfl) ?_
            simp only [Act.put, List.setIfInBounds_toArray, List.set_cons_zero, List.set_cons_succ]
            exact mk_end
          case h2 =>
            refine prest_var' _ _ rfl rfl rfl rfl rfl rfl rfl (hzT ·) (fun _ => rfl) (fun _ => rfl) (iT _ _ _) rfl (qc_one _ _ _) ?_
            intro gm w6 hgm bm hE
            replace b0 := hE.block b0
            replace b1 := hE.block b1
            replace bs := hE.block bs
            replace hx := hx.trans hE
            clear hE
            simp only [Act.put, List.setIfInBounds_toArray, List.set_cons_zero, List.set_cons_succ]
            clear hgm
            go_upto_region 6 with (fail)
            refine' wp_plainG (m := 25) (A := _) ?h1 ?h2
            case h1 =>
              refine mk_step (qv X Y f) rfl (made_load rfl rfl b0 rfl Try.underlying26 rfl (iT _ _ _)) ?_
              simp only [Act.put, List.setIfInBounds_toArray, List.set_cons_zero, List.set_cons_succ]
              refine mk_step (.bool false) rfl (made_fun (args := [qv X Y f]) rfl rfl (fun W => run_callFunc_in Try.func13 rfl rfl _ W) (fun W hW => pOn_no kaX.out kaY.out kaB.out W)) ?_
              simp only [Act.put, List.setIfInBounds_toArray, List.set_cons_zero, List.set_cons_succ]
              refine mk_step (.bool false) rfl (made_move (.inl rfl) rfl) ?_
              simp only [Act.put, List.setIfInBounds_toArray, List.set_cons_zero, List.set_cons_succ]
              refine mk_step (.bool false) rfl (made_bin rfl rfl rfl (fun _ => by kernel_rfl) (fun _ => by kernel_rfl)) ?_
              simp only [Act.put, List.setIfInBounds_toArray, List.set_cons_zero, List.set_cons_succ]
              refine mk_step (.bool false) rfl (made_move (.inl rfl) rfl) ?_
              simp only [Act.put, List.setIfInBounds_toArray, List.set_cons_zero, List.set_cons_succ]
              refine mk_want (qv (Pt.pX r.1) (Pt.pY r.1) (Pt.pFar r.1)) rfl (made_load rfl rfl b1 rfl Try.underlying26 rfl (iT _ _ _)) ?_
              simp only [Act.put, List.setIfInBounds_toArray, List.set_cons_zero, List.set_cons_succ]
              refine mk_want (.bool true) rfl (made_fun (args := [qv (Pt.pX r.1) (Pt.pY r.1) (Pt.pFar r.1)]) rfl rfl (fun W => run_callFunc_in Try.func13 rfl rfl _ W) (fun W hW => pOn_yes r W)) ?_
              simp only [Act.put, List.setIfInBounds_toArray, List.set_cons_zero, List.set_cons_succ]
              refine mk_want (.bool true) rfl (made_move (.inl rfl) rfl) ?_
              simp only [Act.put, List.setIfInBounds_toArray, List.set_cons_zero, List.set_cons_succ]
              refine mk_want (.bool false) rfl (made_bin rfl rfl rfl (fun _ => by kernel_rfl) (fun _ => by kernel_rfl)) ?_
              simp only [Act.put, List.setIfInBounds_toArray, List.set_cons_zero, List.set_cons_succ]
              refine mk_step (.bool false) rfl (made_pick rfl rfl rfl) ?_
              simp only [Act.put, List.setIfInBounds_toArray, List.set_cons_zero, List.set_cons_succ]
              refine mk_step (.bool false) rfl (made_move (.inl rfl) rfl) ?_
              simp only [Act.put, List.setIfInBounds_toArray, List.set_cons_zero, List.set_cons_succ]
              refine mk_want (nv Pt.pp) rfl (made_fun (args := []) rfl rfl (fun W => run_callFunc_in Try.func14 rfl rfl _ W) (fun W hW => pP_is W)) ?_
              simp only [Act.put, List.setIfInBounds_toArray, List.set_cons_zero, List.set_cons_succ]
              refine mk_want (nv Pt.pp) rfl (made_fun (args := []) rfl rfl (fun W => run_callFunc_in Try.func15 rfl rfl _ W) (fun W hW => rP_is W)) ?_
              simp only [Act.put, List.setIfInBounds_toArray, List.set_cons_zero, List.set_cons_succ]
              refine mk_want (.bool false) rfl (made_bin rfl rfl rfl (gN _ _ _ _ _) neN) ?_
              simp only [Act.put, List.setIfInBounds_toArray, List.set_cons_zero, List.set_cons_succ]
              refine mk_step (.bool false) rfl (made_pick rfl rfl rfl) ?_
              simp only [Act.put, List.setIfInBounds_toArray, List.set_cons_zero, List.set_cons_succ]
              refine mk_step (.bool false) rfl (made_move (.inl rfl) rfl) ?_
              simp only [Act.put, List.setIfInBounds_toArray, List.set_cons_zero, List.set_cons_succ]
              refine mk_want (nv Pt.nn) rfl (made_fun (args := []) rfl rfl (fun W => run_callFunc_in Try.func16 rfl rfl _ W) (fun W hW => pN_is W)) ?_
              simp only [Act.put, List.setIfInBounds_toArray, List.set_cons_zero, List.set_cons_succ]
              refine mk_want (nv Pt.nn) rfl (made_fun (args := []) rfl rfl (fun W => run_callFunc_in Try.func17 rfl rfl _ W) (fun W hW => rN_is W)) ?_
              simp only [Act.put, List.setIfInBounds_toArray, List.set_cons_zero, List.set_cons_succ]
              refine mk_want (.bool false) rfl (made_bin rfl rfl rfl (gN _ _ _ _ _) neN) ?_
              simp only [Act.put, List.setIfInBounds_toArray, List.set_cons_zero, List.set_cons_succ]
              refine mk_step (.bool false) rfl (made_pick rfl rfl rfl) ?_
              simp only [Act.put, List.setIfInBounds_toArray, List.set_cons_zero, List.set_cons_succ]
              refine mk_step (.bool false) rfl (made_move (.inl rfl) rfl) ?_
              simp only [Act.put, List.setIfInBounds_toArray, List.set_cons_zero, List.set_cons_succ]
              refine mk_want (qv Pt.gx Pt.gy false) rfl (made_fun (args := []) rfl rfl (fun W => run_callFunc_in Try.func18 rfl rfl _ W) (fun W hW => base_calls W)) ?_
              simp only [Act.put, List.setIfInBounds_toArray, List.set_cons_zero, List.set_cons_succ]
              refine mk_want (qv Pt.gx Pt.gy false) rfl (made_fun (args := []) rfl rfl (fun W => run_callFunc_in Try.func19 rfl rfl _ W) (fun W hW => rBase_is W)) ?_
              simp only [Act.put, List.setIfInBounds_toArray, List.set_cons_zero, List.set_cons_succ]
              refine mk_want (.bool false) rfl (made_bin rfl rfl rfl (gT _ _ _ _ _ _ _ _ _) (neT g_top.1 g_top.2)) ?_
              simp only [Act.put, List.setIfInBounds_toArray, List.set_cons_zero, List.set_cons_succ]
              refine mk_step (.bool false) rfl (made_pick rfl rfl rfl) ?_
              simp only [Act.put, List.setIfInBounds_toArray, List.set_cons_zero, List.set_cons_succ]
              exact mk_end
            case h2 =>
              refine prest_done rfl ?_
              intro w7 hE
              replace b0 := hE.block b0
              replace b1 := hE.block b1
              replace bs := hE.block bs
              replace bm := hE.block bm
              replace hx := hx.trans hE
              clear hE
              go_upto_region 8 with (fail)
              refine' wp_madeG (m := 25) (A := _) 25 (by kernel_rfl) (by kernel_rfl) ?h1 ?h2
              case h1 =>
                refine mk_step (.bool false) rfl (made_move (.inl rfl) rfl) ?_
                simp only [Act.put, List.setIfInBounds_toArray, List.set_cons_zero, List.set_cons_succ]
                refine mk_step (.bool false) rfl (made_move (.inl rfl) rfl) ?_
                simp only [Act.put, List.setIfInBounds_toArray, List.set_cons_zero, List.set_cons_succ]
                refine mk_skip rfl ?_
                simp only [Act.put, List.setIfInBounds_toArray, List.set_cons_zero, List.set_cons_succ]
                refine mk_skip rfl ?_
                simp only [Act.put, List.setIfInBounds_toArray, List.set_cons_zero, List.set_cons_succ]
                refine mk_skip rfl ?_
                simp only [Act.put, List.setIfInBounds_toArray, List.set_cons_zero, List.set_cons_succ]
                refine mk_skip rfl ?_
                simp only [Act.put, List.setIfInBounds_toArray, List.set_cons_zero, List.set_cons_succ]
                refine mk_skip rfl ?_
                simp only [Act.put, List.setIfInBounds_toArray, List.set_cons_zero, List.set_cons_succ]
                refine mk_skip rfl ?_
                simp only [Act.put, List.setIfInBounds_toArray, List.set_cons_zero, List.set_cons_succ]
                refine mk_skip rfl ?_
                simp only [Act.put, List.setIfInBounds_toArray, List.set_cons_zero, List.set_cons_succ]
                refine mk_skip rfl ?_
                simp only [Act.put, List.setIfInBounds_toArray, List.set_cons_zero, List.set_cons_succ]
                refine mk_step (.bool false) rfl (made_pick rfl rfl rfl) ?_
                simp only [Act.put, List.setIfInBounds_toArray, List.set_cons_zero, List.set_cons_succ]
                refine mk_step (.bool false) rfl (made_move (.inl rfl) rfl) ?_
                simp only [Act.put, List.setIfInBounds_toArray, List.set_cons_zero, List.set_cons_succ]
                refine mk_want (.bool false) rfl (made_move (.inl rfl) rfl) ?_
                simp only [Act.put, List.setIfInBounds_toArray, List.set_cons_zero, List.set_cons_succ]
                refine mk_want (.bool true) rfl (made_not' rfl rfl rfl) ?_
                simp only [Act.put, List.setIfInBounds_toArray, List.set_cons_zero, List.set_cons_succ]
                refine mk_want (.bool true) rfl (made_move (.inl rfl) rfl) ?_
                simp only [Act.put, List.setIfInBounds_toArray, List.set_cons_zero, List.set_cons_succ]
                refine mk_want (.iface 37 (.int .i64 1)) rfl (made_move (.inl rfl) rfl) ?_
                simp only [Act.put, List.setIfInBounds_toArray, List.set_cons_zero, List.set_cons_succ]
                refine mk_want (.iface 37 (.int .i64 1)) rfl (made_iface rfl (mkErr1 ·)) ?_
                simp only [Act.put, List.setIfInBounds_toArray, List.set_cons_zero, List.set_cons_succ]
                refine mk_want (.bool false) rfl (made_bin rfl rfl rfl (fun _ => by kernel_rfl) (fun _ => by kernel_rfl)) ?_
                simp only [Act.put, List.setIfInBounds_toArray, List.set_cons_zero, List.set_cons_succ]
                refine mk_want (.bool false) rfl (made_move (.inl rfl) rfl) ?_
                simp only [Act.put, List.setIfInBounds_toArray, List.set_cons_zero, List.set_cons_succ]
                refine mk_want (qv 0 0 false) rfl (made_load rfl rfl bm rfl Try.underlying26 rfl (iT _ _ _)) ?_
                simp only [Act.put, List.setIfInBounds_toArray, List.set_cons_zero, List.set_cons_succ]
                refine mk_want (qv 0 0 false) rfl (made_build rfl rfl (bldT0 ·)) ?_
                simp only [Act.put, List.setIfInBounds_toArray, List.set_cons_zero, List.set_cons_succ]
                refine mk_want (.bool false) rfl (made_bin rfl rfl rfl (gT _ _ _ _ _ _ _ _ _) (neT top_pos top_pos)) ?_
                simp only [Act.put, List.setIfInBounds_toArray, List.set_cons_zero, List.set_cons_succ]
                refine mk_want (.bool false) rfl (made_pick rfl rfl rfl) ?_
                simp only [Act.put, List.setIfInBounds_toArray, List.set_cons_zero, List.set_cons_succ]
                refine mk_want (.bool false) rfl (made_pick rfl rfl rfl) ?_
                simp only [Act.put, List.setIfInBounds_toArray, List.set_cons_zero, List.set_cons_succ]
                refine mk_step (.bool false) rfl (made_pick rfl rfl rfl) ?_
                simp only [Act.put, List.setIfInBounds_toArray, List.set_cons_zero, List.set_cons_succ]
                exact mk_end
              case h2 =>
                refine rest_done rfl (by kernel_rfl) ?_
                intro w8 hE
                refine NoPanic.normal ?_
                replace b0 := hE.block b0
                replace b1 := hE.block b1
                replace bs := hE.block bs
                replace bm := hE.block bm
                replace hx := hx.trans hE
                clear hE
                go_upto_region 10 with (fail)
                refine' wp_plainG (m := 6) (A := _) ?h1 ?h2
                case h1 =>
                  refine mk_step (.bool false) rfl (made_move (.inl rfl) rfl) ?_
                  simp only [Act.put, List.setIfInBounds_toArray, List.set_cons_zero, List.set_cons_succ]
                  refine mk_step (.bool true) rfl (made_not' rfl rfl rfl) ?_
                  simp only [Act.put, List.setIfInBounds_toArray, List.set_cons_zero, List.set_cons_succ]
                  refine mk_step (.bool true) rfl (made_move (.inl rfl) rfl) ?_
                  simp only [Act.put, List.setIfInBounds_toArray, List.set_cons_zero, List.set_cons_succ]
                  refine mk_skip rfl ?_
                  simp only [Act.put, List.setIfInBounds_toArray, List.set_cons_zero, List.set_cons_succ]
                  refine mk_skip rfl ?_
                  simp only [Act.put, List.setIfInBounds_toArray, List.set_cons_zero, List.set_cons_succ]
                  refine mk_step (.bool true) rfl (made_pick rfl rfl rfl) ?_
                  simp only [Act.put, List.setIfInBounds_toArray, List.set_cons_zero, List.set_cons_succ]
                  exact mk_end
                case h2 =>
                  refine prest_done rfl ?_
                  intro w9 hE
                  replace b0 := hE.block b0
                  replace b1 := hE.block b1
                  replace bs := hE.block bs
                  replace bm := hE.block bm
                  replace hx := hx.trans hE
                  clear hE
                  go_upto_region 11 with (fail)
                  refine' wp_plainG (m := 12) (A := _) ?h1 ?h2
                  case h1 =>
                    refine mk_step (.bool true) rfl (made_move (.inl rfl) rfl) ?_
                    simp only [Act.put, List.setIfInBounds_toArray, List.set_cons_zero, List.set_cons_succ]
                    refine mk_step (.bool true) rfl (made_move (.inl rfl) rfl) ?_
                    simp only [Act.put, List.setIfInBounds_toArray, List.set_cons_zero, List.set_cons_succ]
                    refine mk_want (.iface 37 (.int .i64 1)) rfl (made_move (.inl rfl) rfl) ?_
                    simp only [Act.put, List.setIfInBounds_toArray, List.set_cons_zero, List.set_cons_succ]
                    refine mk_want (.iface 37 (.int .i64 1)) rfl (made_iface rfl (mkErr1 ·)) ?_
                    simp only [Act.put, List.setIfInBounds_toArray, List.set_cons_zero, List.set_cons_succ]
                    refine mk_want (.bool true) rfl (made_bin rfl rfl rfl (fun _ => by kernel_rfl) (fun _ => by kernel_rfl)) ?_
                    simp only [Act.put, List.setIfInBounds_toArray, List.set_cons_zero, List.set_cons_succ]
                    refine mk_step (.bool true) rfl (made_pick rfl rfl rfl) ?_
                    simp only [Act.put, List.setIfInBounds_toArray, List.set_cons_zero, List.set_cons_succ]
                    refine mk_step (.bool true) rfl (made_move (.inl rfl) rfl) ?_
                    simp only [Act.put, List.setIfInBounds_toArray, List.set_cons_zero, List.set_cons_succ]
                    refine mk_want (qv 0 0 false) rfl (made_load rfl rfl bs rfl Try.underlying26 rfl (iT _ _ _)) ?_
                    simp only [Act.put, List.setIfInBounds_toArray, List.set_cons_zero, List.set_cons_succ]
                    refine mk_want (qv 0 0 false) rfl (made_build rfl rfl (bldT0 ·)) ?_
                    simp only [Act.put, List.setIfInBounds_toArray, List.set_cons_zero, List.set_cons_succ]
                    refine mk_want (.bool true) rfl (made_bin rfl rfl rfl (gT _ _ _ _ _ _ _ _ _) (eqT top_pos top_pos)) ?_
                    simp only [Act.put, List.setIfInBounds_toArray, List.set_cons_zero, List.set_cons_succ]
                    refine mk_step (.bool true) rfl (made_pick rfl rfl rfl) ?_
                    simp only [Act.put, List.setIfInBounds_toArray, List.set_cons_zero, List.set_cons_succ]
                    refine mk_step (.bool true) rfl (made_move (.inr rfl) rfl) ?_
                    simp only [Act.put, List.setIfInBounds_toArray, List.set_cons_zero, List.set_cons_succ]
                    exact mk_end
                  case h2 =>
                    refine prest_done rfl ?_
                    intro w10 hE
                    replace b0 := hE.block b0
                    replace b1 := hE.block b1
                    replace bs := hE.block bs
                    replace bm := hE.block bm
                    replace hx := hx.trans hE
                    clear hE
                    go_wp2
                    go_ret
                    exact ⟨rfl, hx⟩
set_option maxRecDepth 100000 in
set_option maxHeartbeats 8000000 in
theorem sums_nn (X Y : Nat) (f : Bool) (haX : X < top) (haY : Y < top) (haB : onB X Y f = false) (X' Y' : Nat) (f' : Bool) (hcX : X' < top) (hcY : Y' < top) (hcB : onB X' Y' f' = false) (w : World) :
    Calls Try.prog 3 #[qv X Y f, qv X' Y' f'] w fun e w' => e = .returned (.bool true) ∧ Ext w w' := by
  have kaX := veil haX
  have kaY := veil haY
  have kaB := veil haB
  clear haX haY haB
  have kcX := veil hcX
  have kcY := veil hcY
  have kcB := veil hcB
  clear hcX hcY hcB
  unfold qv qc
  go_enter Try.func3, Try.ntmps3
  go_upto_region 1 with (fail)
  obtain ⟨hx, b0, b1⟩ := blocks2 w (.cells #[.int .u64 (wd (X) 0), .int .u64 (wd (X) 1), .int .u64 (wd (X) 2), .int .u64 (wd (X) 3), .int .u64 (wd (Y) 0), .int .u64 (wd (Y) 1), .int .u64 (wd (Y) 2), .int .u64 (wd (Y) 3), .bool (f)] 26) (.cells #[.int .u64 (wd (X') 0), .int .u64 (wd (X') 1), .int .u64 (wd (X') 2), .int .u64 (wd (X') 3), .int .u64 (wd (Y') 0), .int .u64 (wd (Y') 1), .int .u64 (wd (Y') 2), .int .u64 (wd (Y') 3), .bool (f')] 26)
  generalize (w.alloc (.cells #[.int .u64 (wd (X) 0), .int .u64 (wd (X) 1), .int .u64 (wd (X) 2), .int .u64 (wd (X) 3), .int .u64 (wd (Y) 0), .int .u64 (wd (Y) 1), .int .u64 (wd (Y) 2), .int .u64 (wd (Y) 3), .bool (f)] 26)).alloc (.cells #[.int .u64 (wd (X') 0), .int .u64 (wd (X') 1), .int .u64 (wd (X') 2), .int .u64 (wd (X') 3), .int .u64 (wd (Y') 0), .int .u64 (wd (Y') 1), .int .u64 (wd (Y') 2), .int .u64 (wd (Y') 3), .bool (f')] 26) = w1 at *
  have b0 : w1.heap[w.heap.size]? = some (.cells (qc X Y f) 26 (0, 0)) := b0
  have b1 : w1.heap[w.heap.size + 1]? = some (.cells (qc X' Y' f') 26 (0, 0)) := b1
  refine' wp_plain (m := 2) (A := _) (by kernel_rfl) ?h1 ?h2
  case h1 =>
    refine mk_step (.bool true) rfl (made_fun (args := []) rfl rfl (fun W => run_callFunc_in Try.func9 rfl rfl _ W) (fun W hW => up_is W)) ?_
    simp only [Act.put, List.setIfInBounds_toArray, List.set_cons_zero, List.set_cons_succ]
    refine mk_step (.bool true) rfl (made_move (.inr rfl) rfl) ?_
    simp only [Act.put, List.setIfInBounds_toArray, List.set_cons_zero, List.set_cons_succ]
    exact mk_end
  case h2 =>
    refine prest_done rfl ?_
    intro w2 hE
    replace b0 := hE.block b0
    replace b1 := hE.block b1
    replace hx := hx.trans hE
    clear hE
    go_upto_region 2 with (fail)
    refine' wp_plain (m := 3) (A := _) (by kernel_rfl) ?h1 ?h2
    case h1 =>
      refine mk_step (qv X Y f) rfl (made_load rfl rfl b0 rfl Try.underlying26 rfl (iT _ _ _)) ?_
      simp only [Act.put, List.setIfInBounds_toArray, List.set_cons_zero, List.set_cons_succ]
      refine mk_step (.bool false) rfl (made_fun (args := [qv X Y f]) rfl rfl (fun W => run_callFunc_in Try.func10 rfl rfl _ W) (fun W hW => rOn_no kaX.out kaY.out kaB.out W)) ?_
      simp only [Act.put, List.setIfInBounds_toArray, List.set_cons_zero, List.set_cons_succ]
      refine mk_step (.bool false) rfl (made_move (.inr rfl) rfl) ?_
      simp only [Act.put, List.setIfInBounds_toArray, List.set_cons_zero, List.set_cons_succ]
      exact mk_end
    case h2 =>
      refine prest_done rfl ?_
      intro w3 hE
      replace b0 := hE.block b0
      replace b1 := hE.block b1
      replace hx := hx.trans hE
      clear hE
      go_upto_region 3 with (fail)
      refine' wp_plain (m := 3) (A := _) (by kernel_rfl) ?h1 ?h2
      case h1 =>
        refine mk_step (qv X' Y' f') rfl (made_load rfl rfl b1 rfl Try.underlying26 rfl (iT _ _ _)) ?_
        simp only [Act.put, List.setIfInBounds_toArray, List.set_cons_zero, List.set_cons_succ]
        refine mk_step (.bool false) rfl (made_fun (args := [qv X' Y' f']) rfl rfl (fun W => run_callFunc_in Try.func10 rfl rfl _ W) (fun W hW => rOn_no kcX.out kcY.out kcB.out W)) ?_
        simp only [Act.put, List.setIfInBounds_toArray, List.set_cons_zero, List.set_cons_succ]
        refine mk_step (.bool false) rfl (made_move (.inr rfl) rfl) ?_
        simp only [Act.put, List.setIfInBounds_toArray, List.set_cons_zero, List.set_cons_succ]
        exact mk_end
      case h2 =>
        refine prest_done rfl ?_
        intro w4 hE
        replace b0 := hE.block b0
        replace b1 := hE.block b1
        replace hx := hx.trans hE
        clear hE
        go_upto_region 4 with (fail)
        refine' wp_plain (m := 6) (A := _) (by kernel_rfl) ?h1 ?h2
        case h1 =>
          refine mk_step (qv X Y f) rfl (made_load rfl rfl b0 rfl Try.underlying26 rfl (iT _ _ _)) ?_
          simp only [Act.put, List.setIfInBounds_toArray, List.set_cons_zero, List.set_cons_succ]
          refine mk_step (qv X' Y' f') rfl (made_load rfl rfl b1 rfl Try.underlying26 rfl (iT _ _ _)) ?_
          simp only [Act.put, List.setIfInBounds_toArray, List.set_cons_zero, List.set_cons_succ]
          refine mk_step (.tuple #[qv 0 0 false, .iface 37 (.int .i64 1)]) rfl (made_fun (args := [qv X Y f, qv X' Y' f']) rfl rfl (fun W => run_callFunc_in Try.func11 rfl rfl _ W) (fun W hW => add_no1 X Y f _ _ _ kaX.out kaY.out kaB.out W)) ?_
          simp only [Act.put, List.setIfInBounds_toArray, List.set_cons_zero, List.set_cons_succ]
          refine mk_step (.tuple #[qv 0 0 false, .iface 37 (.int .i64 1)]) rfl (made_move (.inl rfl) rfl) ?_
          simp only [Act.put, List.setIfInBounds_toArray, List.set_cons_zero, List.set_cons_succ]
          refine mk_step (qv 0 0 false) rfl (made_ext rfl rfl rfl) ?_
          simp only [Act.put, List.setIfInBounds_toArray, List.set_cons_zero, List.set_cons_succ]
          refine mk_step (.iface 37 (.int .i64 1)) rfl (made_ext rfl rfl rfl) ?_
          simp only [Act.put, List.setIfInBounds_toArray, List.set_cons_zero, List.set_cons_succ]
          exact mk_end
        case h2 =>
          refine prest_var' _ _ rfl rfl rfl rfl rfl rfl rfl (hzT ·) (fun _ => rfl) (fun _ => rfl) (iT _ _ _) rfl (qc_one _ _ _) ?_
          intro gs w5 hgs bs hE
          replace b0 := hE.block b0
          replace b1 := hE.block b1
          replace hx := hx.trans hE
          clear hE
          simp only [Act.put, List.setIfInBounds_toArray, List.set_cons_zero, List.set_cons_succ]
          clear hgs
          go_upto_region 5 with (fail)
          refine' wp_plain (m := 5) (A := _) (by kernel_rfl) ?h1 ?h2
          case h1 =>
            refine mk_step (qv X Y f) rfl (made_load rfl rfl b0 rfl Try.underlying26 rfl (iT _ _ _)) ?_
            simp only [Act.put, List.setIfInBounds_toArray, List.set_cons_zero, List.set_cons_succ]
            refine mk_step (.tuple #[qv 0 0 false, .iface 37 (.int .i64 1)]) rfl (made_fun (args := [qv X Y f]) rfl rfl (fun W => run_callFunc_in Try.func12 rfl rfl _ W) (fun W hW => neg_no X Y f kaX.out kaY.out kaB.out W)) ?_
            simp only [Act.put, List.setIfInBounds_toArray, List.set_cons_zero, List.set_cons_succ]
            refine mk_step (.tuple #[qv 0 0 false, .iface 37 (.int .i64 1)]) rfl (made_move (.inl rfl) rfl) ?_
            simp only [Act.put, List.setIfInBounds_toArray, List.set_cons_zero, List.set_cons_succ]
            refine mk_step (qv 0 0 false) rfl (made_ext rfl rfl rfl) ?_
            simp only [Act.put, List.setIfInBounds_toArray, List.set_cons_zero, List.set_cons_succ]
            refine mk_step (.iface 37 (.int .i64 1)) rfl (made_ext rfl rfl rfl) ?_
            simp only [Act.put, List.setIfInBounds_toArray, List.set_cons_zero, List.set_cons_succ]
            exact mk_end
          case h2 =>
            refine prest_var' _ _ rfl rfl rfl rfl rfl rfl rfl (hzT ·) (fun _ => rfl) (fun _ => rfl) (iT _ _ _) rfl (qc_one _ _ _) ?_
            intro gm w6 hgm bm hE
            replace b0 := hE.block b0
            replace b1 := hE.block b1
            replace bs := hE.block bs
            replace hx := hx.trans hE
            clear hE
            simp only [Act.put, List.setIfInBounds_toArray, List.set_cons_zero, List.set_cons_succ]
            clear hgm
            go_upto_region 6 with (fail)
            refine' wp_plainG (m := 25) (A := _) ?h1 ?h2
            case h1 =>
              refine mk_step (qv X Y f) rfl (made_load rfl rfl b0 rfl Try.underlying26 rfl (iT _ _ _)) ?_
              simp only [Act.put, List.setIfInBounds_toArray, List.set_cons_zero, List.set_cons_succ]
              refine mk_step (.bool false) rfl (made_fun (args := [qv X Y f]) rfl rfl (fun W => run_callFunc_in Try.func13 rfl rfl _ W) (fun W hW => pOn_no kaX.out kaY.out kaB.out W)) ?_
              simp only [Act.put, List.setIfInBounds_toArray, List.set_cons_zero, List.set_cons_succ]
              refine mk_step (.bool false) rfl (made_move (.inl rfl) rfl) ?_
              simp only [Act.put, List.setIfInBounds_toArray, List.set_cons_zero, List.set_cons_succ]
              refine mk_step (.bool false) rfl (made_bin rfl rfl rfl (fun _ => by kernel_rfl) (fun _ => by kernel_rfl)) ?_
              simp only [Act.put, List.setIfInBounds_toArray, List.set_cons_zero, List.set_cons_succ]
              refine mk_step (.bool false) rfl (made_move (.inl rfl) rfl) ?_
              simp only [Act.put, List.setIfInBounds_toArray, List.set_cons_zero, List.set_cons_succ]
              refine mk_want (qv X' Y' f') rfl (made_load rfl rfl b1 rfl Try.underlying26 rfl (iT _ _ _)) ?_
              simp only [Act.put, List.setIfInBounds_toArray, List.set_cons_zero, List.set_cons_succ]
              refine mk_want (.bool false) rfl (made_fun (args := [qv X' Y' f']) rfl rfl (fun W => run_callFunc_in Try.func13 rfl rfl _ W) (fun W hW => pOn_no kcX.out kcY.out kcB.out W)) ?_
              simp only [Act.put, List.setIfInBounds_toArray, List.set_cons_zero, List.set_cons_succ]
              refine mk_want (.bool false) rfl (made_move (.inl rfl) rfl) ?_
              simp only [Act.put, List.setIfInBounds_toArray, List.set_cons_zero, List.set_cons_succ]
              refine mk_want (.bool false) rfl (made_bin rfl rfl rfl (fun _ => by kernel_rfl) (fun _ => by kernel_rfl)) ?_
              simp only [Act.put, List.setIfInBounds_toArray, List.set_cons_zero, List.set_cons_succ]
              refine mk_step (.bool false) rfl (made_pick rfl rfl rfl) ?_
              simp only [Act.put, List.setIfInBounds_toArray, List.set_cons_zero, List.set_cons_succ]
              refine mk_step (.bool false) rfl (made_move (.inl rfl) rfl) ?_
              simp only [Act.put, List.setIfInBounds_toArray, List.set_cons_zero, List.set_cons_succ]
              refine mk_want (nv Pt.pp) rfl (made_fun (args := []) rfl rfl (fun W => run_callFunc_in Try.func14 rfl rfl _ W) (fun W hW => pP_is W)) ?_
              simp only [Act.put, List.setIfInBounds_toArray, List.set_cons_zero, List.set_cons_succ]
              refine mk_want (nv Pt.pp) rfl (made_fun (args := []) rfl rfl (fun W => run_callFunc_in Try.func15 rfl rfl _ W) (fun W hW => rP_is W)) ?_
              simp only [Act.put, List.setIfInBounds_toArray, List.set_cons_zero, List.set_cons_succ]
              refine mk_want (.bool false) rfl (made_bin rfl rfl rfl (gN _ _ _ _ _) neN) ?_
              simp only [Act.put, List.setIfInBounds_toArray, List.set_cons_zero, List.set_cons_succ]
              refine mk_step (.bool false) rfl (made_pick rfl rfl rfl) ?_
              simp only [Act.put, List.setIfInBounds_toArray, List.set_cons_zero, List.set_cons_succ]
              refine mk_step (.bool false) rfl (made_move (.inl rfl) rfl) ?_
              simp only [Act.put, List.setIfInBounds_toArray, List.set_cons_zero, List.set_cons_succ]
              refine mk_want (nv Pt.nn) rfl (made_fun (args := []) rfl rfl (fun W => run_callFunc_in Try.func16 rfl rfl _ W) (fun W hW => pN_is W)) ?_
              simp only [Act.put, List.setIfInBounds_toArray, List.set_cons_zero, List.set_cons_succ]
              refine mk_want (nv Pt.nn) rfl (made_fun (args := []) rfl rfl (fun W => run_callFunc_in Try.func17 rfl rfl _ W) (fun W hW => rN_is W)) ?_
              simp only [Act.put, List.setIfInBounds_toArray, List.set_cons_zero, List.set_cons_succ]
              refine mk_want (.bool false) rfl (made_bin rfl rfl rfl (gN _ _ _ _ _) neN) ?_
              simp only [Act.put, List.setIfInBounds_toArray, List.set_cons_zero, List.set_cons_succ]
              refine mk_step (.bool false) rfl (made_pick rfl rfl rfl) ?_
              simp only [Act.put, List.setIfInBounds_toArray, List.set_cons_zero, List.set_cons_succ]
              refine mk_step (.bool false) rfl (made_move (.inl rfl) rfl) ?_
              simp only [Act.put, List.setIfInBounds_toArray, List.set_cons_zero, List.set_cons_succ]
              refine mk_want (qv Pt.gx Pt.gy false) rfl (made_fun (args := []) rfl rfl (fun W => run_callFunc_in Try.func18 rfl rfl _ W) (fun W hW => base_calls W)) ?_
              simp only [Act.put, List.setIfInBounds_toArray, List.set_cons_zero, List.set_cons_succ]
              refine mk_want (qv Pt.gx Pt.gy false) rfl (made_fun (args := []) rfl rfl (fun W => run_callFunc_in Try.func19 rfl rfl _ W) (fun W hW => rBase_is W)) ?_
              simp only [Act.put, List.setIfInBounds_toArray, List.set_cons_zero, List.set_cons_succ]
              refine mk_want (.bool false) rfl (made_bin rfl rfl rfl (gT _ _ _ _ _ _ _ _ _) (neT g_top.1 g_top.2)) ?_
              simp only [Act.put, List.setIfInBounds_toArray, List.set_cons_zero, List.set_cons_succ]
              refine mk_step (.bool false) rfl (made_pick rfl rfl rfl) ?_
              simp only [Act.put, List.setIfInBounds_toArray, List.set_cons_zero, List.set_cons_succ]
              exact mk_end
            case h2 =>
              refine prest_done rfl ?_
              intro w7 hE
              replace b0 := hE.block b0
              replace b1 := hE.block b1
              replace bs := hE.block bs
              replace bm := hE.block bm
              replace hx := hx.trans hE
              clear hE
              go_upto_region 8 with (fail)
              refine' wp_madeG (m := 25) (A := _) 25 (by kernel_rfl) (by kernel_rfl) ?h1 ?h2
              case h1 =>
                refine mk_step (.bool false) rfl (made_move (.inl rfl) rfl) ?_
                simp only [Act.put, List.setIfInBounds_toArray, List.set_cons_zero, List.set_cons_succ]
                refine mk_step (.bool false) rfl (made_move (.inl rfl) rfl) ?_
                simp only [Act.put, List.setIfInBounds_toArray, List.set_cons_zero, List.set_cons_succ]
                refine mk_skip rfl ?_
                simp only [Act.put, List.setIfInBounds_toArray, List.set_cons_zero, List.set_cons_succ]
                refine mk_skip rfl ?_
                simp only [Act.put, List.setIfInBounds_toArray, List.set_cons_zero, List.set_cons_succ]
                refine mk_skip rfl ?_
                simp only [Act.put, List.setIfInBounds_toArray, List.set_cons_zero, List.set_cons_succ]
                refine mk_skip rfl ?_
                simp only [Act.put, List.setIfInBounds_toArray, List.set_cons_zero, List.set_cons_succ]
                refine mk_skip rfl ?_
                simp only [Act.put, List.setIfInBounds_toArray, List.set_cons_zero, List.set_cons_succ]
                refine mk_skip rfl ?_
                simp only [Act.put, List.setIfInBounds_toArray, List.set_cons_zero, List.set_cons_succ]
                refine mk_skip rfl ?_
                simp only [Act.put, List.setIfInBounds_toArray, List.set_cons_zero, List.set_cons_succ]
                refine mk_skip rfl ?_
                simp only [Act.put, List.setIfInBounds_toArray, List.set_cons_zero, List.set_cons_succ]
                refine mk_step (.bool false) rfl (made_pick rfl rfl rfl) ?_
                simp only [Act.put, List.setIfInBounds_toArray, List.set_cons_zero, List.set_cons_succ]
                refine mk_step (.bool false) rfl (made_move (.inl rfl) rfl) ?_
                simp only [Act.put, List.setIfInBounds_toArray, List.set_cons_zero, List.set_cons_succ]
                refine mk_want (.bool false) rfl (made_move (.inl rfl) rfl) ?_
                simp only [Act.put, List.setIfInBounds_toArray, List.set_cons_zero, List.set_cons_succ]
                refine mk_want (.bool true) rfl (made_not' rfl rfl rfl) ?_
                simp only [Act.put, List.setIfInBounds_toArray, List.set_cons_zero, List.set_cons_succ]
                refine mk_want (.bool true) rfl (made_move (.inl rfl) rfl) ?_
                simp only [Act.put, List.setIfInBounds_toArray, List.set_cons_zero, List.set_cons_succ]
                refine mk_want (.iface 37 (.int .i64 1)) rfl (made_move (.inl rfl) rfl) ?_
                simp only [Act.put, List.setIfInBounds_toArray, List.set_cons_zero, List.set_cons_succ]
                refine mk_want (.iface 37 (.int .i64 1)) rfl (made_iface rfl (mkErr1 ·)) ?_
                simp only [Act.put, List.setIfInBounds_toArray, List.set_cons_zero, List.set_cons_succ]
                refine mk_want (.bool false) rfl (made_bin rfl rfl rfl (fun _ => by kernel_rfl) (fun _ => by kernel_rfl)) ?_
                simp only [Act.put, List.setIfInBounds_toArray, List.set_cons_zero, List.set_cons_succ]
                refine mk_want (.bool false) rfl (made_move (.inl rfl) rfl) ?_
                simp only [Act.put, List.setIfInBounds_toArray, List.set_cons_zero, List.set_cons_succ]
                refine mk_want (qv 0 0 false) rfl (made_load rfl rfl bm rfl Try.underlying26 rfl (iT _ _ _)) ?_
                simp only [Act.put, List.setIfInBounds_toArray, List.set_cons_zero, List.set_cons_succ]
                refine mk_want (qv 0 0 false) rfl (made_build rfl rfl (bldT0 ·)) ?_
                simp only [Act.put, List.setIfInBounds_toArray, List.set_cons_zero, List.set_cons_succ]
                refine mk_want (.bool false) rfl (made_bin rfl rfl rfl (gT _ _ _ _ _ _ _ _ _) (neT top_pos top_pos)) ?_
                simp only [Act.put, List.setIfInBounds_toArray, List.set_cons_zero, List.set_cons_succ]
                refine mk_want (.bool false) rfl (made_pick rfl rfl rfl) ?_
                simp only [Act.put, List.setIfInBounds_toArray, List.set_cons_zero, List.set_cons_succ]
                refine mk_want (.bool false) rfl (made_pick rfl rfl rfl) ?_
                simp only [Act.put, List.setIfInBounds_toArray, List.set_cons_zero, List.set_cons_succ]
                refine mk_step (.bool false) rfl (made_pick rfl rfl rfl) ?_
                simp only [Act.put, List.setIfInBounds_toArray, List.set_cons_zero, List.set_cons_succ]
                exact mk_end
              case h2 =>
                refine rest_done rfl (by kernel_rfl) ?_
                intro w8 hE
                refine NoPanic.normal ?_
                replace b0 := hE.block b0
                replace b1 := hE.block b1
                replace bs := hE.block bs
                replace bm := hE.block bm
                replace hx := hx.trans hE
                clear hE
                go_upto_region 10 with (fail)
                refine' wp_plainG (m := 6) (A := _) ?h1 ?h2
                case h1 =>
                  refine mk_step (.bool false) rfl (made_move (.inl rfl) rfl) ?_
                  simp only [Act.put, List.setIfInBounds_toArray, List.set_cons_zero, List.set_cons_succ]
                  refine mk_step (.bool true) rfl (made_not' rfl rfl rfl) ?_
                  simp only [Act.put, List.setIfInBounds_toArray, List.set_cons_zero, List.set_cons_succ]
                  refine mk_step (.bool true) rfl (made_move (.inl rfl) rfl) ?_
                  simp only [Act.put, List.setIfInBounds_toArray, List.set_cons_zero, List.set_cons_succ]
                  refine mk_skip rfl ?_
                  simp only [Act.put, List.setIfInBounds_toArray, List.set_cons_zero, List.set_cons_succ]
                  refine mk_skip rfl ?_
                  simp only [Act.put, List.setIfInBounds_toArray, List.set_cons_zero, List.set_cons_succ]
                  refine mk_step (.bool true) rfl (made_pick rfl rfl rfl) ?_
                  simp only [Act.put, List.setIfInBounds_toArray, List.set_cons_zero, List.set_cons_succ]
                  exact mk_end
                case h2 =>
                  refine prest_done rfl ?_
                  intro w9 hE
                  replace b0 := hE.block b0
                  replace b1 := hE.block b1
                  replace bs := hE.block bs
                  replace bm := hE.block bm
                  replace hx := hx.trans hE
                  clear hE
                  go_upto_region 11 with (fail)
                  refine' wp_plainG (m := 12) (A := _) ?h1 ?h2
                  case h1 =>
                    refine mk_step (.bool true) rfl (made_move (.inl rfl) rfl) ?_
                    simp only [Act.put, List.setIfInBounds_toArray, List.set_cons_zero, List.set_cons_succ]
                    refine mk_step (.bool true) rfl (made_move (.inl rfl) rfl) ?_
                    simp only [Act.put, List.setIfInBounds_toArray, List.set_cons_zero, List.set_cons_succ]
                    refine mk_want (.iface 37 (.int .i64 1)) rfl (made_move (.inl rfl) rfl) ?_
                    simp only [Act.put, List.setIfInBounds_toArray, List.set_cons_zero, List.set_cons_succ]
                    refine mk_want (.iface 37 (.int .i64 1)) rfl (made_iface rfl (mkErr1 ·)) ?_
                    simp only [Act.put, List.setIfInBounds_toArray, List.set_cons_zero, List.set_cons_succ]
                    refine mk_want (.bool true) rfl (made_bin rfl rfl rfl (fun _ => by kernel_rfl) (fun _ => by kernel_rfl)) ?_
                    simp only [Act.put, List.setIfInBounds_toArray, List.set_cons_zero, List.set_cons_succ]
                    refine mk_step (.bool true) rfl (made_pick rfl rfl rfl) ?_
                    simp only [Act.put, List.setIfInBounds_toArray, List.set_cons_zero, List.set_cons_succ]
                    refine mk_step (.bool true) rfl (made_move (.inl rfl) rfl) ?_
                    simp only [Act.put, List.setIfInBounds_toArray, List.set_cons_zero, List.set_cons_succ]
                    refine mk_want (qv 0 0 false) rfl (made_load rfl rfl bs rfl Try.underlying26 rfl (iT _ _ _)) ?_
                    simp only [Act.put, List.setIfInBounds_toArray, List.set_cons_zero, List.set_cons_succ]
                    refine mk_want (qv 0 0 false) rfl (made_build rfl rfl (bldT0 ·)) ?_
                    simp only [Act.put, List.setIfInBounds_toArray, List.set_cons_zero, List.set_cons_succ]
                    refine mk_want (.bool true) rfl (made_bin rfl rfl rfl (gT _ _ _ _ _ _ _ _ _) (eqT top_pos top_pos)) ?_
                    simp only [Act.put, List.setIfInBounds_toArray, List.set_cons_zero, List.set_cons_succ]
                    refine mk_step (.bool true) rfl (made_pick rfl rfl rfl) ?_
                    simp only [Act.put, List.setIfInBounds_toArray, List.set_cons_zero, List.set_cons_succ]
                    refine mk_step (.bool true) rfl (made_move (.inr rfl) rfl) ?_
                    simp only [Act.put, List.setIfInBounds_toArray, List.set_cons_zero, List.set_cons_succ]
                    exact mk_end
                  case h2 =>
                    refine prest_done rfl ?_
                    intro w10 hE
                    replace b0 := hE.block b0
                    replace b1 := hE.block b1
                    replace bs := hE.block bs
                    replace bm := hE.block bm
                    replace hx := hx.trans hE
                    clear hE
                    go_wp2
                    go_ret
                    exact ⟨rfl, hx⟩
end Go.Proofs.Ytppfcdpokgnpfaa
