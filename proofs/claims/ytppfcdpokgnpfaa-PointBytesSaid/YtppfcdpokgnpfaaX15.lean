/-
  PointBytes: its walks, where the point has bytes.
-/
import Derived.Test.YtppfcdpokgnpfaaX13
namespace Go.Proofs.Ytppfcdpokgnpfaa
open Go.RowKit

set_option maxRecDepth 100000 in
set_option maxHeartbeats 8000000 in
theorem pb_near_on (w : World) (q : Pt.Q) (hf : Pt.pFar q.1 = false) (b o c : Nat) (y : Nat → Nat) (hy : ∀ j, y j < 256) (hc : 64 ≤ c) (hlt : b < w.heap.size) (hcell : ∀ j, j < 64 → w.cell? ⟨b, o + j, none⟩ = some (.int .u8 (y j : Nat))) (h : onB (be32 y 0) (be32 y 32) false = true) :
    Calls Try.prog 5 #[qv (Pt.pX q.1) (Pt.pY q.1) false, .slice (some ⟨b, o, none⟩) 64 c] w fun e w' => e = .returned (.bool true) ∧ Ext w w' := by
  have kO := rOn_yes q
  unfold qvP at kO
  rw [hf] at kO
  have KO := veil kO
  clear kO
  have kB := bytes_yes q hf
  unfold qvP at kB
  rw [hf] at kB
  have KB := veil kB
  have KR := veil (fun W => rptb_calls (Pt.pX q.1) (Pt.pY q.1) false W)
  obtain ⟨ps, hps⟩ : ∃ ps, ps = pstr (Pt.pX q.1) (Pt.pY q.1) := ⟨_, rfl⟩
  have KC := veil (fun (W : World) (base : Nat) (v : Value) (ho : Own W base 5 v 64 (ptB (Pt.pX q.1) (Pt.pY q.1))) => str_own ho)
  rw [← hps] at KC
  clear kB hps
  clear hf
  have KP := veil (fun (W : World) (hW : Ext w W) => parse_on b o c y hy hc W (Nat.lt_of_lt_of_le hlt (Below.size hW)) (fun j hj => (Below.cell (p := ⟨b, o + j, none⟩) hW hlt).trans (hcell j hj)) h)
  have KQ := veil (fun (W : World) (hW : Ext w W) => rparse_on b o c y hy hc W (Nat.lt_of_lt_of_le hlt (Below.size hW)) (fun j hj => (Below.cell (p := ⟨b, o + j, none⟩) hW hlt).trans (hcell j hj)) h)
  have kx := veil (be32_lt hy 0)
  have ky := veil (be32_lt hy 32)
  clear hy hc hlt hcell h
  generalize be32 y 0 = PX at *
  generalize be32 y 32 = PY at *
  unfold qv qc
  go_enter Try.func5, Try.ntmps5
  go_upto_region 1 with (fail)
  obtain ⟨hx, b0⟩ := blocks1 w (.cells #[.int .u64 (wd (Pt.pX q.1) 0), .int .u64 (wd (Pt.pX q.1) 1), .int .u64 (wd (Pt.pX q.1) 2), .int .u64 (wd (Pt.pX q.1) 3), .int .u64 (wd (Pt.pY q.1) 0), .int .u64 (wd (Pt.pY q.1) 1), .int .u64 (wd (Pt.pY q.1) 2), .int .u64 (wd (Pt.pY q.1) 3), .bool (false)] 26)
  generalize w.alloc (.cells #[.int .u64 (wd (Pt.pX q.1) 0), .int .u64 (wd (Pt.pX q.1) 1), .int .u64 (wd (Pt.pX q.1) 2), .int .u64 (wd (Pt.pX q.1) 3), .int .u64 (wd (Pt.pY q.1) 0), .int .u64 (wd (Pt.pY q.1) 1), .int .u64 (wd (Pt.pY q.1) 2), .int .u64 (wd (Pt.pY q.1) 3), .bool (false)] 26) = w1 at *
  have b0 : w1.heap[w.heap.size]? = some (.cells (qc (Pt.pX q.1) (Pt.pY q.1) false) 26 (0, 0)) := b0
  refine' wp_plain (m := 2) (A := _) (by kernel_rfl) ?h1 ?h2
  case h1 =>
    refine mk_step (.bool true) rfl (made_fun (args := []) rfl rfl (fun W => run_callFunc_in Try.func9 rfl rfl _ W) (fun W hW => up_is W)) ?_
    simp only [Act.put, List.setIfInBounds_toArray, List.set_cons_zero, List.set_cons_succ]
    refine mk_step (.bool true) rfl (made_move (.inr rfl) rfl) ?_
    simp only [Act.put, List.setIfInBounds_toArray, List.set_cons_zero, List.set_cons_succ]
    exact mk_end
  case h2 =>
    refine prest_done rfl ?_
    intro w2 hE
    replace b0 := hE.block b0
    replace hx := hx.trans hE
    clear hE
    go_upto_region 2 with (fail)
    refine wp_region_lit ?_
    refine wpl_load rfl rfl rfl b0 rfl Try.underlying26 rfl (iT _ _ _) ?_
    simp only [Act.put, List.setIfInBounds_toArray, List.set_cons_zero, List.set_cons_succ]
    refine wpl_fun (R := fun r W' => ∃ v, r = .tuple #[v, .nilIface] ∧ Own W' w2.heap.size 5 v 64 (ptB (Pt.pX q.1) (Pt.pY q.1)) ∧ Ext w2 W') rfl rfl rfl (fun W => run_callFunc_in Try.func24 rfl rfl _ W) ((KB.out w2).mono fun e W' ⟨⟨v, he, ho⟩, hE⟩ => ⟨_, he, v, rfl, ho, hE⟩) ?_
    rintro r wb ⟨v, rfl, ho, hE⟩
    replace b0 := hE.block b0
    replace hx := hx.trans hE
    clear hE
    simp only [Act.put, List.setIfInBounds_toArray, List.set_cons_zero, List.set_cons_succ]
    have KS := veil (fun (W : World) (hW : Ext wb W) => KC.out W _ v (ho.below hW (Nat.le_refl _)))
    clear ho KB
    go_upto_region 3 with (fail)
    refine' wp_plain (m := 3) (A := _) (by kernel_rfl) ?h1 ?h2
    case h1 =>
      refine mk_step (qv (Pt.pX q.1) (Pt.pY q.1) false) rfl (made_load rfl rfl b0 rfl Try.underlying26 rfl (iT _ _ _)) ?_
      simp only [Act.put, List.setIfInBounds_toArray, List.set_cons_zero, List.set_cons_succ]
      refine mk_step (.bool true) rfl (made_fun (args := [qv (Pt.pX q.1) (Pt.pY q.1) false]) rfl rfl (fun W => run_callFunc_in Try.func10 rfl rfl _ W) (fun W hW => KO.out W)) ?_
      simp only [Act.put, List.setIfInBounds_toArray, List.set_cons_zero, List.set_cons_succ]
      refine mk_step (.bool true) rfl (made_move (.inr rfl) rfl) ?_
      simp only [Act.put, List.setIfInBounds_toArray, List.set_cons_zero, List.set_cons_succ]
      exact mk_end
    case h2 =>
      refine prest_done rfl ?_
      intro w21 hE
      replace b0 := hE.block b0
      replace hx := hx.trans hE
      have hE3 := hE
      clear hE
      replace KS := veil (fun (W : World) (hW : Ext w21 W) => KS.out W (hE3.trans hW))
      clear hE3
      go_upto_region 4 with (fail)
      refine wp_region_noPanic ?_
      refine wp_region_held_drew (S := fun W => Ext w21 W) (by kernel_rfl) (Ext.drew _) (fun hH => ?_)
      repeat
        ((first
            | (refine wpAnyH_take (i := 0) (v := .bool true) rfl (by kernel_rfl) (by kernel_rfl) (by decide +kernel) (fun _ _ _ h => h) ((Or.inl ⟨by rfl, fun W hSw => (by dsimp only at hSw; go_simp)⟩)) (by with_reducible assumption) ?_)
            | (refine wpAnyH_take (i := 1) (v := .bool true) rfl (by kernel_rfl) (by kernel_rfl) (by decide +kernel) (fun _ _ _ h => h) ((Or.inl ⟨by rfl, fun W hSw => (by dsimp only at hSw; go_simp)⟩)) (by with_reducible assumption) ?_)
            | (refine wpAnyH_take (i := 2) (v := .pointer (some ⟨w.heap.size, 8, none⟩)) rfl (by kernel_rfl) (by kernel_rfl) (by decide +kernel) (fun _ _ _ h => h) ((Or.inl ⟨by rfl, fun W hSw => (by dsimp only at hSw; go_simp)⟩)) (by with_reducible assumption) ?_)
            | (refine wpAnyH_take (i := 3) (v := .bool false) rfl (by kernel_rfl) (by kernel_rfl) (by decide +kernel) (fun _ _ _ h => h) (yif_load1 (by rfl) rfl rfl b0 rfl (isn_bool ·)) (by with_reducible assumption) ?_)
            | (refine wpAnyH_take (i := 4) (v := .bool true) rfl (by kernel_rfl) (by kernel_rfl) (by decide +kernel) (fun _ _ _ h => h) ((Or.inl ⟨by rfl, fun W hSw => (by dsimp only at hSw; go_simp)⟩)) (by with_reducible assumption) ?_)
            | (refine wpAnyH_take (i := 5) (v := .bool true) rfl (by kernel_rfl) (by kernel_rfl) (by decide +kernel) (fun _ _ _ h => h) ((Or.inl ⟨by rfl, fun W hSw => (by dsimp only at hSw; go_simp)⟩)) (by with_reducible assumption) ?_)
            | fail);
          try simp only [Act.put, List.setIfInBounds_toArray, List.set_cons_zero, List.set_cons_succ, List.getElem_toArray, List.getElem_cons_zero, List.getElem_cons_succ])
      repeat
        ((first
            | (refine wpAnyH_take (i := 6) (v := .bool true) rfl (by kernel_rfl) (by kernel_rfl) (by decide +kernel) (fun _ _ _ h => h) ((Or.inl ⟨by rfl, fun W hSw => (by dsimp only at hSw; go_simp)⟩)) (by with_reducible assumption) ?_)
            | (refine wpAnyH_take (i := 7) (v := .nilIface) rfl (by kernel_rfl) (by kernel_rfl) (by decide +kernel) (fun _ _ _ h => h) ((Or.inl ⟨by rfl, fun W hSw => (by dsimp only at hSw; go_simp)⟩)) (by with_reducible assumption) ?_)
            | (refine wpAnyH_take (i := 8) (v := .bool false) rfl (by kernel_rfl) (by kernel_rfl) (by decide +kernel) (fun _ _ _ h => h) ((Or.inl ⟨by rfl, fun W hSw => (by dsimp only at hSw; go_simp)⟩)) (by with_reducible assumption) ?_)
            | (refine wpAnyH_take (i := 9) (v := .bool false) rfl (by kernel_rfl) (by kernel_rfl) (by decide +kernel) (fun _ _ _ h => h) ((Or.inl ⟨by rfl, fun W hSw => (by dsimp only at hSw; go_simp)⟩)) (by with_reducible assumption) ?_)
            | (refine wpAnyH_take (i := 10) (v := v) rfl (by kernel_rfl) (by kernel_rfl) (by decide +kernel) (fun _ _ _ h => h) ((Or.inl ⟨by rfl, fun W hSw => (by dsimp only at hSw; go_simp)⟩)) (by with_reducible assumption) ?_)
            | (refine wpAnyH_take (i := 11) (v := .string ps) rfl (by kernel_rfl) (by kernel_rfl) (by decide +kernel) (fun _ _ _ h => h) (yif_conv (by rfl) rfl rfl KS.out) (by with_reducible assumption) ?_)
            | fail);
          try simp only [Act.put, List.setIfInBounds_toArray, List.set_cons_zero, List.set_cons_succ, List.getElem_toArray, List.getElem_cons_zero, List.getElem_cons_succ])
      repeat
        ((first
            | (refine wpAnyH_take (i := 12) (v := qv (Pt.pX q.1) (Pt.pY q.1) false) rfl (by kernel_rfl) (by kernel_rfl) (by decide +kernel) (fun _ _ _ h => h) (yif_load (by rfl) rfl rfl b0 Try.underlying26 rfl (iT _ _ _)) (by with_reducible assumption) ?_)
            | (refine wpAnyH_ready (rs := [13]) (by decide +kernel) (by simp) ?_; refine AllReadyH.cons rfl (fun K hK => ?_) AllReadyH.nil; go_simp; refine (KR.out _).mono ?_; rintro e v1 ⟨g9, c9, rfl, _, ho9, hb9⟩; refine hK.out _ _ (hH.trans hb9) (fun hH => ?_); clear hK K hb9)
            | (refine wpAnyH_ready (rs := [14]) (by decide +kernel) (by simp) ?_; refine AllReadyH.cons rfl (fun K hK => ?_) AllReadyH.nil; have kc := KC.out _ _ _ (by assumption); go_simp; refine hK.out _ _ hH (fun hH => ?_); clear hK K)
            | (refine wpAnyH_take (i := 15) (v := .bool false) rfl (by kernel_rfl) (by kernel_rfl) (by decide +kernel) (fun _ _ _ h => h) ((Or.inl ⟨by rfl, fun W hSw => (by dsimp only at hSw; go_simp)⟩)) (by with_reducible assumption) ?_)
            | (refine wpAnyH_take (i := 16) (v := .bool false) rfl (by kernel_rfl) (by kernel_rfl) (by decide +kernel) (fun _ _ _ h => h) ((Or.inl ⟨by rfl, fun W hSw => (by dsimp only at hSw; go_simp)⟩)) (by with_reducible assumption) ?_)
            | (refine wpAnyH_take (i := 17) (v := .bool false) rfl (by kernel_rfl) (by kernel_rfl) (by decide +kernel) (fun _ _ _ h => h) ((Or.inl ⟨by rfl, fun W hSw => (by dsimp only at hSw; go_simp)⟩)) (by with_reducible assumption) ?_)
            | fail);
          try simp only [Act.put, List.setIfInBounds_toArray, List.set_cons_zero, List.set_cons_succ, List.getElem_toArray, List.getElem_cons_zero, List.getElem_cons_succ])
      repeat
        ((first
            | (refine wpAnyH_take (i := 18) (v := .bool false) rfl (by kernel_rfl) (by kernel_rfl) (by decide +kernel) (fun _ _ _ h => h) ((Or.inl ⟨by rfl, fun W hSw => (by dsimp only at hSw; go_simp)⟩)) (by with_reducible assumption) ?_)
            | (refine wpAnyH_take (i := 19) (v := .bool true) rfl (by kernel_rfl) (by kernel_rfl) (by decide +kernel) (fun _ _ _ h => h) ((Or.inl ⟨by rfl, fun W hSw => (by dsimp only at hSw; go_simp)⟩)) (by with_reducible assumption) ?_)
            | (refine wpAnyH_take (i := 20) (v := .bool false) rfl (by kernel_rfl) (by kernel_rfl) (by decide +kernel) (fun _ _ _ h => h) ((Or.inl ⟨by rfl, fun W hSw => (by dsimp only at hSw; go_simp)⟩)) (by with_reducible assumption) ?_)
            | (refine wpAnyH_take (i := 21) (v := .bool false) rfl (by kernel_rfl) (by kernel_rfl) (by decide +kernel) (fun _ _ _ h => h) ((Or.inl ⟨by rfl, fun W hSw => (by dsimp only at hSw; go_simp)⟩)) (by with_reducible assumption) ?_)
            | (refine wpAnyH_take (i := 22) (v := .pointer (some ⟨w.heap.size, 8, none⟩)) rfl (by kernel_rfl) (by kernel_rfl) (by decide +kernel) (fun _ _ _ h => h) ((Or.inl ⟨by rfl, fun W hSw => (by dsimp only at hSw; go_simp)⟩)) (by with_reducible assumption) ?_)
            | (refine wpAnyH_take (i := 23) (v := .bool false) rfl (by kernel_rfl) (by kernel_rfl) (by decide +kernel) (fun _ _ _ h => h) (yif_load1 (by rfl) rfl rfl b0 rfl (isn_bool ·)) (by with_reducible assumption) ?_)
            | fail);
          try simp only [Act.put, List.setIfInBounds_toArray, List.set_cons_zero, List.set_cons_succ, List.getElem_toArray, List.getElem_cons_zero, List.getElem_cons_succ])
      repeat
        ((first
            | (refine wpAnyH_take (i := 24) (v := .bool false) rfl (by kernel_rfl) (by kernel_rfl) (by decide +kernel) (fun _ _ _ h => h) ((Or.inl ⟨by rfl, fun W hSw => (by dsimp only at hSw; go_simp)⟩)) (by with_reducible assumption) ?_)
            | (refine wpAnyH_take (i := 25) (v := .bool false) rfl (by kernel_rfl) (by kernel_rfl) (by decide +kernel) (fun _ _ _ h => h) ((Or.inl ⟨by rfl, fun W hSw => (by dsimp only at hSw; go_simp)⟩)) (by with_reducible assumption) ?_)
            | (refine wpAnyH_take (i := 26) (v := undef) rfl (by kernel_rfl) (by kernel_rfl) (by decide +kernel) (fun _ _ _ h => h) (Or.inr ⟨by rfl, rfl⟩) (by with_reducible assumption) ?_)
            | (refine wpAnyH_take (i := 27) (v := undef) rfl (by kernel_rfl) (by kernel_rfl) (by decide +kernel) (fun _ _ _ h => h) (Or.inr ⟨by rfl, rfl⟩) (by with_reducible assumption) ?_)
            | (refine wpAnyH_take (i := 28) (v := undef) rfl (by kernel_rfl) (by kernel_rfl) (by decide +kernel) (fun _ _ _ h => h) (Or.inr ⟨by rfl, rfl⟩) (by with_reducible assumption) ?_)
            | (refine wpAnyH_take (i := 29) (v := undef) rfl (by kernel_rfl) (by kernel_rfl) (by decide +kernel) (fun _ _ _ h => h) (Or.inr ⟨by rfl, rfl⟩) (by with_reducible assumption) ?_)
            | fail);
          try simp only [Act.put, List.setIfInBounds_toArray, List.set_cons_zero, List.set_cons_succ, List.getElem_toArray, List.getElem_cons_zero, List.getElem_cons_succ])
      repeat
        ((first
            | (refine wpAnyH_take (i := 30) (v := undef) rfl (by kernel_rfl) (by kernel_rfl) (by decide +kernel) (fun _ _ _ h => h) (Or.inr ⟨by rfl, rfl⟩) (by with_reducible assumption) ?_)
            | (refine wpAnyH_take (i := 31) (v := undef) rfl (by kernel_rfl) (by kernel_rfl) (by decide +kernel) (fun _ _ _ h => h) (Or.inr ⟨by rfl, rfl⟩) (by with_reducible assumption) ?_)
            | (refine wpAnyH_take (i := 32) (v := undef) rfl (by kernel_rfl) (by kernel_rfl) (by decide +kernel) (fun _ _ _ h => h) (Or.inr ⟨by rfl, rfl⟩) (by with_reducible assumption) ?_)
            | (refine wpAnyH_take (i := 33) (v := undef) rfl (by kernel_rfl) (by kernel_rfl) (by decide +kernel) (fun _ _ _ h => h) (Or.inr ⟨by rfl, rfl⟩) (by with_reducible assumption) ?_)
            | (refine wpAnyH_take (i := 34) (v := .bool false) rfl (by kernel_rfl) (by kernel_rfl) (by decide +kernel) (fun _ _ _ h => h) ((Or.inl ⟨by rfl, fun W hSw => (by dsimp only at hSw; go_simp)⟩)) (by with_reducible assumption) ?_)
            | (refine wpAnyH_take (i := 35) (v := .bool false) rfl (by kernel_rfl) (by kernel_rfl) (by decide +kernel) (fun _ _ _ h => h) ((Or.inl ⟨by rfl, fun W hSw => (by dsimp only at hSw; go_simp)⟩)) (by with_reducible assumption) ?_)
            | fail);
          try simp only [Act.put, List.setIfInBounds_toArray, List.set_cons_zero, List.set_cons_succ, List.getElem_toArray, List.getElem_cons_zero, List.getElem_cons_succ])
      refine wpAnyH_done (by decide +kernel) ?_ _
      refine NoPanic.normal ?_
      have hE := hH
      clear hH
      replace b0 := hE.block b0
      replace hx := hx.trans hE
      clear hE
      go_upto_region 6 with (fail)
      refine' wp_plain (m := 5) (A := _) (by kernel_rfl) ?h1 ?h2
      case h1 =>
        refine mk_step (.slice (some ⟨b, o, none⟩) 64 c) rfl (made_move (.inl rfl) rfl) ?_
        simp only [Act.put, List.setIfInBounds_toArray, List.set_cons_zero, List.set_cons_succ]
        refine mk_step (.tuple #[qv PX PY false, .nilIface]) rfl (made_fun (args := [.slice (some ⟨b, o, none⟩) 64 c]) rfl rfl (fun W => run_callFunc_in Try.func26 rfl rfl _ W) (fun W hW => KP.out W (hx.trans hW))) ?_
        simp only [Act.put, List.setIfInBounds_toArray, List.set_cons_zero, List.set_cons_succ]
        refine mk_step (.tuple #[qv PX PY false, .nilIface]) rfl (made_move (.inl rfl) rfl) ?_
        simp only [Act.put, List.setIfInBounds_toArray, List.set_cons_zero, List.set_cons_succ]
        refine mk_step (qv PX PY false) rfl (made_ext rfl rfl rfl) ?_
        simp only [Act.put, List.setIfInBounds_toArray, List.set_cons_zero, List.set_cons_succ]
        refine mk_step (.nilIface) rfl (made_ext rfl rfl rfl) ?_
        simp only [Act.put, List.setIfInBounds_toArray, List.set_cons_zero, List.set_cons_succ]
        exact mk_end
      case h2 =>
        refine prest_var' _ _ rfl rfl rfl rfl rfl rfl rfl (hzT ·) (fun _ => rfl) (fun _ => rfl) (iT _ _ _) (hsT _ _ _) (qc_one _ _ _) ?_
        intro gx w22 hgx bx hE
        replace b0 := hE.block b0
        replace hx := hx.trans hE
        clear hE
        simp only [Act.put, List.setIfInBounds_toArray, List.set_cons_zero, List.set_cons_succ]
        clear hgx
        go_upto_region 7 with (fail)
        refine' wp_plain (m := 5) (A := _) (by kernel_rfl) ?h1 ?h2
        case h1 =>
          refine mk_step (.slice (some ⟨b, o, none⟩) 64 c) rfl (made_move (.inl rfl) rfl) ?_
          simp only [Act.put, List.setIfInBounds_toArray, List.set_cons_zero, List.set_cons_succ]
          refine mk_step (.tuple #[qv PX PY false, .bool true]) rfl (made_fun (args := [.slice (some ⟨b, o, none⟩) 64 c]) rfl rfl (fun W => run_callFunc_in Try.func27 rfl rfl _ W) (fun W hW => KQ.out W (hx.trans hW))) ?_
          simp only [Act.put, List.setIfInBounds_toArray, List.set_cons_zero, List.set_cons_succ]
          refine mk_step (.tuple #[qv PX PY false, .bool true]) rfl (made_move (.inl rfl) rfl) ?_
          simp only [Act.put, List.setIfInBounds_toArray, List.set_cons_zero, List.set_cons_succ]
          refine mk_step (qv PX PY false) rfl (made_ext rfl rfl rfl) ?_
          simp only [Act.put, List.setIfInBounds_toArray, List.set_cons_zero, List.set_cons_succ]
          refine mk_step (.bool true) rfl (made_ext rfl rfl rfl) ?_
          simp only [Act.put, List.setIfInBounds_toArray, List.set_cons_zero, List.set_cons_succ]
          exact mk_end
        case h2 =>
          refine prest_var' _ _ rfl rfl rfl rfl rfl rfl rfl (hzT ·) (fun _ => rfl) (fun _ => rfl) (iT _ _ _) (hsT _ _ _) (qc_one _ _ _) ?_
          intro gz w23 hgz bz hE
          replace b0 := hE.block b0
          replace bx := hE.block bx
          replace hx := hx.trans hE
          clear hE
          simp only [Act.put, List.setIfInBounds_toArray, List.set_cons_zero, List.set_cons_succ]
          clear hgz
          go_upto_region 8 with (fail)
          refine' wp_plain (m := 2) (A := _) (by kernel_rfl) ?h1 ?h2
          case h1 =>
            refine mk_step (.bool true) rfl (made_move (.inl rfl) rfl) ?_
            simp only [Act.put, List.setIfInBounds_toArray, List.set_cons_zero, List.set_cons_succ]
            refine mk_step (.bool false) rfl (made_not' rfl rfl rfl) ?_
            simp only [Act.put, List.setIfInBounds_toArray, List.set_cons_zero, List.set_cons_succ]
            exact mk_end
          case h2 =>
            refine prest_done rfl ?_
            intro w24 hE
            replace b0 := hE.block b0
            replace bx := hE.block bx
            replace bz := hE.block bz
            replace hx := hx.trans hE
            clear hE
            go_upto_region 10 with (fail)
            refine' wp_plainG (m := 11) (A := _) ?h1 ?h2
            case h1 =>
              refine mk_step (.bool true) rfl (made_move (.inl rfl) rfl) ?_
              simp only [Act.put, List.setIfInBounds_toArray, List.set_cons_zero, List.set_cons_succ]
              refine mk_step (.bool true) rfl (made_move (.inl rfl) rfl) ?_
              simp only [Act.put, List.setIfInBounds_toArray, List.set_cons_zero, List.set_cons_succ]
              refine mk_want (.nilIface) rfl (made_move (.inl rfl) rfl) ?_
              simp only [Act.put, List.setIfInBounds_toArray, List.set_cons_zero, List.set_cons_succ]
              refine mk_want (.bool true) rfl (made_bin rfl rfl rfl (fun _ => by kernel_rfl) (fun _ => by kernel_rfl)) ?_
              simp only [Act.put, List.setIfInBounds_toArray, List.set_cons_zero, List.set_cons_succ]
              refine mk_step (.bool true) rfl (made_pick rfl rfl rfl) ?_
              simp only [Act.put, List.setIfInBounds_toArray, List.set_cons_zero, List.set_cons_succ]
              refine mk_step (.bool true) rfl (made_move (.inl rfl) rfl) ?_
              simp only [Act.put, List.setIfInBounds_toArray, List.set_cons_zero, List.set_cons_succ]
              refine mk_want (qv PX PY false) rfl (made_load rfl rfl bx rfl Try.underlying26 rfl (iT _ _ _)) ?_
              simp only [Act.put, List.setIfInBounds_toArray, List.set_cons_zero, List.set_cons_succ]
              refine mk_want (qv PX PY false) rfl (made_load rfl rfl bz rfl Try.underlying26 rfl (iT _ _ _)) ?_
              simp only [Act.put, List.setIfInBounds_toArray, List.set_cons_zero, List.set_cons_succ]
              refine mk_want (.bool true) rfl (made_bin rfl rfl rfl (gT _ _ _ _ _ _ _ _ _) (eqT kx.out ky.out)) ?_
              simp only [Act.put, List.setIfInBounds_toArray, List.set_cons_zero, List.set_cons_succ]
              refine mk_step (.bool true) rfl (made_pick rfl rfl rfl) ?_
              simp only [Act.put, List.setIfInBounds_toArray, List.set_cons_zero, List.set_cons_succ]
              refine mk_step (.bool true) rfl (made_move (.inr rfl) rfl) ?_
              simp only [Act.put, List.setIfInBounds_toArray, List.set_cons_zero, List.set_cons_succ]
              exact mk_end
            case h2 =>
              refine prest_done rfl ?_
              intro w25 hE
              replace b0 := hE.block b0
              replace bx := hE.block bx
              replace bz := hE.block bz
              replace hx := hx.trans hE
              clear hE
              go_wp2
              go_ret
              exact ⟨rfl, hx⟩
set_option maxRecDepth 100000 in
set_option maxHeartbeats 8000000 in
theorem pb_near_off (w : World) (q : Pt.Q) (hf : Pt.pFar q.1 = false) (b o c : Nat) (y : Nat → Nat) (hy : ∀ j, y j < 256) (hc : 64 ≤ c) (hlt : b < w.heap.size) (hcell : ∀ j, j < 64 → w.cell? ⟨b, o + j, none⟩ = some (.int .u8 (y j : Nat))) (h : onB (be32 y 0) (be32 y 32) false = false) :
    Calls Try.prog 5 #[qv (Pt.pX q.1) (Pt.pY q.1) false, .slice (some ⟨b, o, none⟩) 64 c] w fun e w' => e = .returned (.bool true) ∧ Ext w w' := by
  have kO := rOn_yes q
  unfold qvP at kO
  rw [hf] at kO
  have KO := veil kO
  clear kO
  have kB := bytes_yes q hf
  unfold qvP at kB
  rw [hf] at kB
  have KB := veil kB
  have KR := veil (fun W => rptb_calls (Pt.pX q.1) (Pt.pY q.1) false W)
  obtain ⟨ps, hps⟩ : ∃ ps, ps = pstr (Pt.pX q.1) (Pt.pY q.1) := ⟨_, rfl⟩
  have KC := veil (fun (W : World) (base : Nat) (v : Value) (ho : Own W base 5 v 64 (ptB (Pt.pX q.1) (Pt.pY q.1))) => str_own ho)
  rw [← hps] at KC
  clear kB hps
  clear hf
  have KP := veil (fun (W : World) (hW : Ext w W) => parse_off b o c y hy hc W (Nat.lt_of_lt_of_le hlt (Below.size hW)) (fun j hj => (Below.cell (p := ⟨b, o + j, none⟩) hW hlt).trans (hcell j hj)) h)
  have KQ := veil (fun (W : World) (hW : Ext w W) => rparse_off b o c y hy hc W (Nat.lt_of_lt_of_le hlt (Below.size hW)) (fun j hj => (Below.cell (p := ⟨b, o + j, none⟩) hW hlt).trans (hcell j hj)) h)
  have kx := veil (be32_lt hy 0)
  have ky := veil (be32_lt hy 32)
  clear hy hc hlt hcell h
  generalize be32 y 0 = PX at *
  generalize be32 y 32 = PY at *
  unfold qv qc
  go_enter Try.func5, Try.ntmps5
  go_upto_region 1 with (fail)
  obtain ⟨hx, b0⟩ := blocks1 w (.cells #[.int .u64 (wd (Pt.pX q.1) 0), .int .u64 (wd (Pt.pX q.1) 1), .int .u64 (wd (Pt.pX q.1) 2), .int .u64 (wd (Pt.pX q.1) 3), .int .u64 (wd (Pt.pY q.1) 0), .int .u64 (wd (Pt.pY q.1) 1), .int .u64 (wd (Pt.pY q.1) 2), .int .u64 (wd (Pt.pY q.1) 3), .bool (false)] 26)
  generalize w.alloc (.cells #[.int .u64 (wd (Pt.pX q.1) 0), .int .u64 (wd (Pt.pX q.1) 1), .int .u64 (wd (Pt.pX q.1) 2), .int .u64 (wd (Pt.pX q.1) 3), .int .u64 (wd (Pt.pY q.1) 0), .int .u64 (wd (Pt.pY q.1) 1), .int .u64 (wd (Pt.pY q.1) 2), .int .u64 (wd (Pt.pY q.1) 3), .bool (false)] 26) = w1 at *
  have b0 : w1.heap[w.heap.size]? = some (.cells (qc (Pt.pX q.1) (Pt.pY q.1) false) 26 (0, 0)) := b0
  refine' wp_plain (m := 2) (A := _) (by kernel_rfl) ?h1 ?h2
  case h1 =>
    refine mk_step (.bool true) rfl (made_fun (args := []) rfl rfl (fun W => run_callFunc_in Try.func9 rfl rfl _ W) (fun W hW => up_is W)) ?_
    simp only [Act.put, List.setIfInBounds_toArray, List.set_cons_zero, List.set_cons_succ]
    refine mk_step (.bool true) rfl (made_move (.inr rfl) rfl) ?_
    simp only [Act.put, List.setIfInBounds_toArray, List.set_cons_zero, List.set_cons_succ]
    exact mk_end
  case h2 =>
    refine prest_done rfl ?_
    intro w2 hE
    replace b0 := hE.block b0
    replace hx := hx.trans hE
    clear hE
    go_upto_region 2 with (fail)
    refine wp_region_lit ?_
    refine wpl_load rfl rfl rfl b0 rfl Try.underlying26 rfl (iT _ _ _) ?_
    simp only [Act.put, List.setIfInBounds_toArray, List.set_cons_zero, List.set_cons_succ]
    refine wpl_fun (R := fun r W' => ∃ v, r = .tuple #[v, .nilIface] ∧ Own W' w2.heap.size 5 v 64 (ptB (Pt.pX q.1) (Pt.pY q.1)) ∧ Ext w2 W') rfl rfl rfl (fun W => run_callFunc_in Try.func24 rfl rfl _ W) ((KB.out w2).mono fun e W' ⟨⟨v, he, ho⟩, hE⟩ => ⟨_, he, v, rfl, ho, hE⟩) ?_
    rintro r wb ⟨v, rfl, ho, hE⟩
    replace b0 := hE.block b0
    replace hx := hx.trans hE
    clear hE
    simp only [Act.put, List.setIfInBounds_toArray, List.set_cons_zero, List.set_cons_succ]
    have KS := veil (fun (W : World) (hW : Ext wb W) => KC.out W _ v (ho.below hW (Nat.le_refl _)))
    clear ho KB
    go_upto_region 3 with (fail)
    refine' wp_plain (m := 3) (A := _) (by kernel_rfl) ?h1 ?h2
    case h1 =>
      refine mk_step (qv (Pt.pX q.1) (Pt.pY q.1) false) rfl (made_load rfl rfl b0 rfl Try.underlying26 rfl (iT _ _ _)) ?_
      simp only [Act.put, List.setIfInBounds_toArray, List.set_cons_zero, List.set_cons_succ]
      refine mk_step (.bool true) rfl (made_fun (args := [qv (Pt.pX q.1) (Pt.pY q.1) false]) rfl rfl (fun W => run_callFunc_in Try.func10 rfl rfl _ W) (fun W hW => KO.out W)) ?_
      simp only [Act.put, List.setIfInBounds_toArray, List.set_cons_zero, List.set_cons_succ]
      refine mk_step (.bool true) rfl (made_move (.inr rfl) rfl) ?_
      simp only [Act.put, List.setIfInBounds_toArray, List.set_cons_zero, List.set_cons_succ]
      exact mk_end
    case h2 =>
      refine prest_done rfl ?_
      intro w21 hE
      replace b0 := hE.block b0
      replace hx := hx.trans hE
      have hE3 := hE
      clear hE
      replace KS := veil (fun (W : World) (hW : Ext w21 W) => KS.out W (hE3.trans hW))
      clear hE3
      go_upto_region 4 with (fail)
      refine wp_region_noPanic ?_
      refine wp_region_held_drew (S := fun W => Ext w21 W) (by kernel_rfl) (Ext.drew _) (fun hH => ?_)
      repeat
        ((first
            | (refine wpAnyH_take (i := 0) (v := .bool true) rfl (by kernel_rfl) (by kernel_rfl) (by decide +kernel) (fun _ _ _ h => h) ((Or.inl ⟨by rfl, fun W hSw => (by dsimp only at hSw; go_simp)⟩)) (by with_reducible assumption) ?_)
            | (refine wpAnyH_take (i := 1) (v := .bool true) rfl (by kernel_rfl) (by kernel_rfl) (by decide +kernel) (fun _ _ _ h => h) ((Or.inl ⟨by rfl, fun W hSw => (by dsimp only at hSw; go_simp)⟩)) (by with_reducible assumption) ?_)
            | (refine wpAnyH_take (i := 2) (v := .pointer (some ⟨w.heap.size, 8, none⟩)) rfl (by kernel_rfl) (by kernel_rfl) (by decide +kernel) (fun _ _ _ h => h) ((Or.inl ⟨by rfl, fun W hSw => (by dsimp only at hSw; go_simp)⟩)) (by with_reducible assumption) ?_)
            | (refine wpAnyH_take (i := 3) (v := .bool false) rfl (by kernel_rfl) (by kernel_rfl) (by decide +kernel) (fun _ _ _ h => h) (yif_load1 (by rfl) rfl rfl b0 rfl (isn_bool ·)) (by with_reducible assumption) ?_)
            | (refine wpAnyH_take (i := 4) (v := .bool true) rfl (by kernel_rfl) (by kernel_rfl) (by decide +kernel) (fun _ _ _ h => h) ((Or.inl ⟨by rfl, fun W hSw => (by dsimp only at hSw; go_simp)⟩)) (by with_reducible assumption) ?_)
            | (refine wpAnyH_take (i := 5) (v := .bool true) rfl (by kernel_rfl) (by kernel_rfl) (by decide +kernel) (fun _ _ _ h => h) ((Or.inl ⟨by rfl, fun W hSw => (by dsimp only at hSw; go_simp)⟩)) (by with_reducible assumption) ?_)
            | fail);
          try simp only [Act.put, List.setIfInBounds_toArray, List.set_cons_zero, List.set_cons_succ, List.getElem_toArray, List.getElem_cons_zero, List.getElem_cons_succ])
      repeat
        ((first
            | (refine wpAnyH_take (i := 6) (v := .bool true) rfl (by kernel_rfl) (by kernel_rfl) (by decide +kernel) (fun _ _ _ h => h) ((Or.inl ⟨by rfl, fun W hSw => (by dsimp only at hSw; go_simp)⟩)) (by with_reducible assumption) ?_)
            | (refine wpAnyH_take (i := 7) (v := .nilIface) rfl (by kernel_rfl) (by kernel_rfl) (by decide +kernel) (fun _ _ _ h => h) ((Or.inl ⟨by rfl, fun W hSw => (by dsimp only at hSw; go_simp)⟩)) (by with_reducible assumption) ?_)
            | (refine wpAnyH_take (i := 8) (v := .bool false) rfl (by kernel_rfl) (by kernel_rfl) (by decide +kernel) (fun _ _ _ h => h) ((Or.inl ⟨by rfl, fun W hSw => (by dsimp only at hSw; go_simp)⟩)) (by with_reducible assumption) ?_)
            | (refine wpAnyH_take (i := 9) (v := .bool false) rfl (by kernel_rfl) (by kernel_rfl) (by decide +kernel) (fun _ _ _ h => h) ((Or.inl ⟨by rfl, fun W hSw => (by dsimp only at hSw; go_simp)⟩)) (by with_reducible assumption) ?_)
            | (refine wpAnyH_take (i := 10) (v := v) rfl (by kernel_rfl) (by kernel_rfl) (by decide +kernel) (fun _ _ _ h => h) ((Or.inl ⟨by rfl, fun W hSw => (by dsimp only at hSw; go_simp)⟩)) (by with_reducible assumption) ?_)
            | (refine wpAnyH_take (i := 11) (v := .string ps) rfl (by kernel_rfl) (by kernel_rfl) (by decide +kernel) (fun _ _ _ h => h) (yif_conv (by rfl) rfl rfl KS.out) (by with_reducible assumption) ?_)
            | fail);
          try simp only [Act.put, List.setIfInBounds_toArray, List.set_cons_zero, List.set_cons_succ, List.getElem_toArray, List.getElem_cons_zero, List.getElem_cons_succ])
      repeat
        ((first
            | (refine wpAnyH_take (i := 12) (v := qv (Pt.pX q.1) (Pt.pY q.1) false) rfl (by kernel_rfl) (by kernel_rfl) (by decide +kernel) (fun _ _ _ h => h) (yif_load (by rfl) rfl rfl b0 Try.underlying26 rfl (iT _ _ _)) (by with_reducible assumption) ?_)
            | (refine wpAnyH_ready (rs := [13]) (by decide +kernel) (by simp) ?_; refine AllReadyH.cons rfl (fun K hK => ?_) AllReadyH.nil; go_simp; refine (KR.out _).mono ?_; rintro e v1 ⟨g9, c9, rfl, _, ho9, hb9⟩; refine hK.out _ _ (hH.trans hb9) (fun hH => ?_); clear hK K hb9)
            | (refine wpAnyH_ready (rs := [14]) (by decide +kernel) (by simp) ?_; refine AllReadyH.cons rfl (fun K hK => ?_) AllReadyH.nil; have kc := KC.out _ _ _ (by assumption); go_simp; refine hK.out _ _ hH (fun hH => ?_); clear hK K)
            | (refine wpAnyH_take (i := 15) (v := .bool false) rfl (by kernel_rfl) (by kernel_rfl) (by decide +kernel) (fun _ _ _ h => h) ((Or.inl ⟨by rfl, fun W hSw => (by dsimp only at hSw; go_simp)⟩)) (by with_reducible assumption) ?_)
            | (refine wpAnyH_take (i := 16) (v := .bool false) rfl (by kernel_rfl) (by kernel_rfl) (by decide +kernel) (fun _ _ _ h => h) ((Or.inl ⟨by rfl, fun W hSw => (by dsimp only at hSw; go_simp)⟩)) (by with_reducible assumption) ?_)
            | (refine wpAnyH_take (i := 17) (v := .bool false) rfl (by kernel_rfl) (by kernel_rfl) (by decide +kernel) (fun _ _ _ h => h) ((Or.inl ⟨by rfl, fun W hSw => (by dsimp only at hSw; go_simp)⟩)) (by with_reducible assumption) ?_)
            | fail);
          try simp only [Act.put, List.setIfInBounds_toArray, List.set_cons_zero, List.set_cons_succ, List.getElem_toArray, List.getElem_cons_zero, List.getElem_cons_succ])
      repeat
        ((first
            | (refine wpAnyH_take (i := 18) (v := .bool false) rfl (by kernel_rfl) (by kernel_rfl) (by decide +kernel) (fun _ _ _ h => h) ((Or.inl ⟨by rfl, fun W hSw => (by dsimp only at hSw; go_simp)⟩)) (by with_reducible assumption) ?_)
            | (refine wpAnyH_take (i := 19) (v := .bool true) rfl (by kernel_rfl) (by kernel_rfl) (by decide +kernel) (fun _ _ _ h => h) ((Or.inl ⟨by rfl, fun W hSw => (by dsimp only at hSw; go_simp)⟩)) (by with_reducible assumption) ?_)
            | (refine wpAnyH_take (i := 20) (v := .bool false) rfl (by kernel_rfl) (by kernel_rfl) (by decide +kernel) (fun _ _ _ h => h) ((Or.inl ⟨by rfl, fun W hSw => (by dsimp only at hSw; go_simp)⟩)) (by with_reducible assumption) ?_)
            | (refine wpAnyH_take (i := 21) (v := .bool false) rfl (by kernel_rfl) (by kernel_rfl) (by decide +kernel) (fun _ _ _ h => h) ((Or.inl ⟨by rfl, fun W hSw => (by dsimp only at hSw; go_simp)⟩)) (by with_reducible assumption) ?_)
            | (refine wpAnyH_take (i := 22) (v := .pointer (some ⟨w.heap.size, 8, none⟩)) rfl (by kernel_rfl) (by kernel_rfl) (by decide +kernel) (fun _ _ _ h => h) ((Or.inl ⟨by rfl, fun W hSw => (by dsimp only at hSw; go_simp)⟩)) (by with_reducible assumption) ?_)
            | (refine wpAnyH_take (i := 23) (v := .bool false) rfl (by kernel_rfl) (by kernel_rfl) (by decide +kernel) (fun _ _ _ h => h) (yif_load1 (by rfl) rfl rfl b0 rfl (isn_bool ·)) (by with_reducible assumption) ?_)
            | fail);
          try simp only [Act.put, List.setIfInBounds_toArray, List.set_cons_zero, List.set_cons_succ, List.getElem_toArray, List.getElem_cons_zero, List.getElem_cons_succ])
      repeat
        ((first
            | (refine wpAnyH_take (i := 24) (v := .bool false) rfl (by kernel_rfl) (by kernel_rfl) (by decide +kernel) (fun _ _ _ h => h) ((Or.inl ⟨by rfl, fun W hSw => (by dsimp only at hSw; go_simp)⟩)) (by with_reducible assumption) ?_)
            | (refine wpAnyH_take (i := 25) (v := .bool false) rfl (by kernel_rfl) (by kernel_rfl) (by decide +kernel) (fun _ _ _ h => h) ((Or.inl ⟨by rfl, fun W hSw => (by dsimp only at hSw; go_simp)⟩)) (by with_reducible assumption) ?_)
            | (refine wpAnyH_take (i := 26) (v := undef) rfl (by kernel_rfl) (by kernel_rfl) (by decide +kernel) (fun _ _ _ h => h) (Or.inr ⟨by rfl, rfl⟩) (by with_reducible assumption) ?_)
            | (refine wpAnyH_take (i := 27) (v := undef) rfl (by kernel_rfl) (by kernel_rfl) (by decide +kernel) (fun _ _ _ h => h) (Or.inr ⟨by rfl, rfl⟩) (by with_reducible assumption) ?_)
            | (refine wpAnyH_take (i := 28) (v := undef) rfl (by kernel_rfl) (by kernel_rfl) (by decide +kernel) (fun _ _ _ h => h) (Or.inr ⟨by rfl, rfl⟩) (by with_reducible assumption) ?_)
            | (refine wpAnyH_take (i := 29) (v := undef) rfl (by kernel_rfl) (by kernel_rfl) (by decide +kernel) (fun _ _ _ h => h) (Or.inr ⟨by rfl, rfl⟩) (by with_reducible assumption) ?_)
            | fail);
          try simp only [Act.put, List.setIfInBounds_toArray, List.set_cons_zero, List.set_cons_succ, List.getElem_toArray, List.getElem_cons_zero, List.getElem_cons_succ])
      repeat
        ((first
            | (refine wpAnyH_take (i := 30) (v := undef) rfl (by kernel_rfl) (by kernel_rfl) (by decide +kernel) (fun _ _ _ h => h) (Or.inr ⟨by rfl, rfl⟩) (by with_reducible assumption) ?_)
            | (refine wpAnyH_take (i := 31) (v := undef) rfl (by kernel_rfl) (by kernel_rfl) (by decide +kernel) (fun _ _ _ h => h) (Or.inr ⟨by rfl, rfl⟩) (by with_reducible assumption) ?_)
            | (refine wpAnyH_take (i := 32) (v := undef) rfl (by kernel_rfl) (by kernel_rfl) (by decide +kernel) (fun _ _ _ h => h) (Or.inr ⟨by rfl, rfl⟩) (by with_reducible assumption) ?_)
            | (refine wpAnyH_take (i := 33) (v := undef) rfl (by kernel_rfl) (by kernel_rfl) (by decide +kernel) (fun _ _ _ h => h) (Or.inr ⟨by rfl, rfl⟩) (by with_reducible assumption) ?_)
            | (refine wpAnyH_take (i := 34) (v := .bool false) rfl (by kernel_rfl) (by kernel_rfl) (by decide +kernel) (fun _ _ _ h => h) ((Or.inl ⟨by rfl, fun W hSw => (by dsimp only at hSw; go_simp)⟩)) (by with_reducible assumption) ?_)
            | (refine wpAnyH_take (i := 35) (v := .bool false) rfl (by kernel_rfl) (by kernel_rfl) (by decide +kernel) (fun _ _ _ h => h) ((Or.inl ⟨by rfl, fun W hSw => (by dsimp only at hSw; go_simp)⟩)) (by with_reducible assumption) ?_)
            | fail);
          try simp only [Act.put, List.setIfInBounds_toArray, List.set_cons_zero, List.set_cons_succ, List.getElem_toArray, List.getElem_cons_zero, List.getElem_cons_succ])
      refine wpAnyH_done (by decide +kernel) ?_ _
      refine NoPanic.normal ?_
      have hE := hH
      clear hH
      replace b0 := hE.block b0
      replace hx := hx.trans hE
      clear hE
      go_upto_region 6 with (fail)
      refine' wp_plain (m := 5) (A := _) (by kernel_rfl) ?h1 ?h2
      case h1 =>
        refine mk_step (.slice (some ⟨b, o, none⟩) 64 c) rfl (made_move (.inl rfl) rfl) ?_
        simp only [Act.put, List.setIfInBounds_toArray, List.set_cons_zero, List.set_cons_succ]
        refine mk_step (.tuple #[qv 0 0 false, .iface 37 (.int .i64 2)]) rfl (made_fun (args := [.slice (some ⟨b, o, none⟩) 64 c]) rfl rfl (fun W => run_callFunc_in Try.func26 rfl rfl _ W) (fun W hW => KP.out W (hx.trans hW))) ?_
        simp only [Act.put, List.setIfInBounds_toArray, List.set_cons_zero, List.set_cons_succ]
        refine mk_step (.tuple #[qv 0 0 false, .iface 37 (.int .i64 2)]) rfl (made_move (.inl rfl) rfl) ?_
        simp only [Act.put, List.setIfInBounds_toArray, List.set_cons_zero, List.set_cons_succ]
        refine mk_step (qv 0 0 false) rfl (made_ext rfl rfl rfl) ?_
        simp only [Act.put, List.setIfInBounds_toArray, List.set_cons_zero, List.set_cons_succ]
        refine mk_step (.iface 37 (.int .i64 2)) rfl (made_ext rfl rfl rfl) ?_
        simp only [Act.put, List.setIfInBounds_toArray, List.set_cons_zero, List.set_cons_succ]
        exact mk_end
      case h2 =>
        refine prest_var' _ _ rfl rfl rfl rfl rfl rfl rfl (hzT ·) (fun _ => rfl) (fun _ => rfl) (iT _ _ _) (hsT _ _ _) (qc_one _ _ _) ?_
        intro gx w22 hgx bx hE
        replace b0 := hE.block b0
        replace hx := hx.trans hE
        clear hE
        simp only [Act.put, List.setIfInBounds_toArray, List.set_cons_zero, List.set_cons_succ]
        clear hgx
        go_upto_region 7 with (fail)
        refine' wp_plain (m := 5) (A := _) (by kernel_rfl) ?h1 ?h2
        case h1 =>
          refine mk_step (.slice (some ⟨b, o, none⟩) 64 c) rfl (made_move (.inl rfl) rfl) ?_
          simp only [Act.put, List.setIfInBounds_toArray, List.set_cons_zero, List.set_cons_succ]
          refine mk_step (.tuple #[qv 0 0 false, .bool false]) rfl (made_fun (args := [.slice (some ⟨b, o, none⟩) 64 c]) rfl rfl (fun W => run_callFunc_in Try.func27 rfl rfl _ W) (fun W hW => KQ.out W (hx.trans hW))) ?_
          simp only [Act.put, List.setIfInBounds_toArray, List.set_cons_zero, List.set_cons_succ]
          refine mk_step (.tuple #[qv 0 0 false, .bool false]) rfl (made_move (.inl rfl) rfl) ?_
          simp only [Act.put, List.setIfInBounds_toArray, List.set_cons_zero, List.set_cons_succ]
          refine mk_step (qv 0 0 false) rfl (made_ext rfl rfl rfl) ?_
          simp only [Act.put, List.setIfInBounds_toArray, List.set_cons_zero, List.set_cons_succ]
          refine mk_step (.bool false) rfl (made_ext rfl rfl rfl) ?_
          simp only [Act.put, List.setIfInBounds_toArray, List.set_cons_zero, List.set_cons_succ]
          exact mk_end
        case h2 =>
          refine prest_var' _ _ rfl rfl rfl rfl rfl rfl rfl (hzT ·) (fun _ => rfl) (fun _ => rfl) (iT _ _ _) (hsT _ _ _) (qc_one _ _ _) ?_
          intro gz w23 hgz bz hE
          replace b0 := hE.block b0
          replace bx := hE.block bx
          replace hx := hx.trans hE
          clear hE
          simp only [Act.put, List.setIfInBounds_toArray, List.set_cons_zero, List.set_cons_succ]
          clear hgz
          go_upto_region 8 with (fail)
          refine' wp_plain (m := 2) (A := _) (by kernel_rfl) ?h1 ?h2
          case h1 =>
            refine mk_step (.bool false) rfl (made_move (.inl rfl) rfl) ?_
            simp only [Act.put, List.setIfInBounds_toArray, List.set_cons_zero, List.set_cons_succ]
            refine mk_step (.bool true) rfl (made_not' rfl rfl rfl) ?_
            simp only [Act.put, List.setIfInBounds_toArray, List.set_cons_zero, List.set_cons_succ]
            exact mk_end
          case h2 =>
            refine prest_done rfl ?_
            intro w24 hE
            replace b0 := hE.block b0
            replace bx := hE.block bx
            replace bz := hE.block bz
            replace hx := hx.trans hE
            clear hE
            go_upto_region 9 with (fail)
            refine' wp_plainG (m := 12) (A := _) ?h1 ?h2
            case h1 =>
              refine mk_step (.bool true) rfl (made_move (.inl rfl) rfl) ?_
              simp only [Act.put, List.setIfInBounds_toArray, List.set_cons_zero, List.set_cons_succ]
              refine mk_step (.bool true) rfl (made_move (.inl rfl) rfl) ?_
              simp only [Act.put, List.setIfInBounds_toArray, List.set_cons_zero, List.set_cons_succ]
              refine mk_want (.iface 37 (.int .i64 2)) rfl (made_move (.inl rfl) rfl) ?_
              simp only [Act.put, List.setIfInBounds_toArray, List.set_cons_zero, List.set_cons_succ]
              refine mk_want (.iface 37 (.int .i64 2)) rfl (made_iface rfl (mkErr2 ·)) ?_
              simp only [Act.put, List.setIfInBounds_toArray, List.set_cons_zero, List.set_cons_succ]
              refine mk_want (.bool true) rfl (made_bin rfl rfl rfl (fun _ => by kernel_rfl) (fun _ => by kernel_rfl)) ?_
              simp only [Act.put, List.setIfInBounds_toArray, List.set_cons_zero, List.set_cons_succ]
              refine mk_step (.bool true) rfl (made_pick rfl rfl rfl) ?_
              simp only [Act.put, List.setIfInBounds_toArray, List.set_cons_zero, List.set_cons_succ]
              refine mk_step (.bool true) rfl (made_move (.inl rfl) rfl) ?_
              simp only [Act.put, List.setIfInBounds_toArray, List.set_cons_zero, List.set_cons_succ]
              refine mk_want (qv 0 0 false) rfl (made_load rfl rfl bx rfl Try.underlying26 rfl (iT _ _ _)) ?_
              simp only [Act.put, List.setIfInBounds_toArray, List.set_cons_zero, List.set_cons_succ]
              refine mk_want (qv 0 0 false) rfl (made_build rfl rfl (bldT0 ·)) ?_
              simp only [Act.put, List.setIfInBounds_toArray, List.set_cons_zero, List.set_cons_succ]
              refine mk_want (.bool true) rfl (made_bin rfl rfl rfl (gT _ _ _ _ _ _ _ _ _) (eqT top_pos top_pos)) ?_
              simp only [Act.put, List.setIfInBounds_toArray, List.set_cons_zero, List.set_cons_succ]
              refine mk_step (.bool true) rfl (made_pick rfl rfl rfl) ?_
              simp only [Act.put, List.setIfInBounds_toArray, List.set_cons_zero, List.set_cons_succ]
              refine mk_step (.bool true) rfl (made_move (.inr rfl) rfl) ?_
              simp only [Act.put, List.setIfInBounds_toArray, List.set_cons_zero, List.set_cons_succ]
              exact mk_end
            case h2 =>
              refine prest_done rfl ?_
              intro w25 hE
              replace b0 := hE.block b0
              replace bx := hE.block bx
              replace bz := hE.block bz
              replace hx := hx.trans hE
              clear hE
              go_wp2
              go_ret
              exact ⟨rfl, hx⟩
set_option maxRecDepth 100000 in
set_option maxHeartbeats 8000000 in
theorem pb_near_none (w : World) (q : Pt.Q) (hf : Pt.pFar q.1 = false) (A : Option Addr) (n c : Nat) (hn : n ≠ 64) :
    Calls Try.prog 5 #[qv (Pt.pX q.1) (Pt.pY q.1) false, .slice A n c] w fun e w' => e = .returned (.bool true) ∧ Ext w w' := by
  have kO := rOn_yes q
  unfold qvP at kO
  rw [hf] at kO
  have KO := veil kO
  clear kO
  have kB := bytes_yes q hf
  unfold qvP at kB
  rw [hf] at kB
  have KB := veil kB
  have KR := veil (fun W => rptb_calls (Pt.pX q.1) (Pt.pY q.1) false W)
  obtain ⟨ps, hps⟩ : ∃ ps, ps = pstr (Pt.pX q.1) (Pt.pY q.1) := ⟨_, rfl⟩
  have KC := veil (fun (W : World) (base : Nat) (v : Value) (ho : Own W base 5 v 64 (ptB (Pt.pX q.1) (Pt.pY q.1))) => str_own ho)
  rw [← hps] at KC
  clear kB hps
  clear hf
  have KP := veil (fun (W : World) (_ : Ext w W) => parse_no A n c hn W)
  have KQ := veil (fun (W : World) (_ : Ext w W) => rparse_none A n c hn W)
  clear hn
  unfold qv qc
  go_enter Try.func5, Try.ntmps5
  go_upto_region 1 with (fail)
  obtain ⟨hx, b0⟩ := blocks1 w (.cells #[.int .u64 (wd (Pt.pX q.1) 0), .int .u64 (wd (Pt.pX q.1) 1), .int .u64 (wd (Pt.pX q.1) 2), .int .u64 (wd (Pt.pX q.1) 3), .int .u64 (wd (Pt.pY q.1) 0), .int .u64 (wd (Pt.pY q.1) 1), .int .u64 (wd (Pt.pY q.1) 2), .int .u64 (wd (Pt.pY q.1) 3), .bool (false)] 26)
  generalize w.alloc (.cells #[.int .u64 (wd (Pt.pX q.1) 0), .int .u64 (wd (Pt.pX q.1) 1), .int .u64 (wd (Pt.pX q.1) 2), .int .u64 (wd (Pt.pX q.1) 3), .int .u64 (wd (Pt.pY q.1) 0), .int .u64 (wd (Pt.pY q.1) 1), .int .u64 (wd (Pt.pY q.1) 2), .int .u64 (wd (Pt.pY q.1) 3), .bool (false)] 26) = w1 at *
  have b0 : w1.heap[w.heap.size]? = some (.cells (qc (Pt.pX q.1) (Pt.pY q.1) false) 26 (0, 0)) := b0
  refine' wp_plain (m := 2) (A := _) (by kernel_rfl) ?h1 ?h2
  case h1 =>
    refine mk_step (.bool true) rfl (made_fun (args := []) rfl rfl (fun W => run_callFunc_in Try.func9 rfl rfl _ W) (fun W hW => up_is W)) ?_
    simp only [Act.put, List.setIfInBounds_toArray, List.set_cons_zero, List.set_cons_succ]
    refine mk_step (.bool true) rfl (made_move (.inr rfl) rfl) ?_
    simp only [Act.put, List.setIfInBounds_toArray, List.set_cons_zero, List.set_cons_succ]
    exact mk_end
  case h2 =>
    refine prest_done rfl ?_
    intro w2 hE
    replace b0 := hE.block b0
    replace hx := hx.trans hE
    clear hE
    go_upto_region 2 with (fail)
    refine wp_region_lit ?_
    refine wpl_load rfl rfl rfl b0 rfl Try.underlying26 rfl (iT _ _ _) ?_
    simp only [Act.put, List.setIfInBounds_toArray, List.set_cons_zero, List.set_cons_succ]
    refine wpl_fun (R := fun r W' => ∃ v, r = .tuple #[v, .nilIface] ∧ Own W' w2.heap.size 5 v 64 (ptB (Pt.pX q.1) (Pt.pY q.1)) ∧ Ext w2 W') rfl rfl rfl (fun W => run_callFunc_in Try.func24 rfl rfl _ W) ((KB.out w2).mono fun e W' ⟨⟨v, he, ho⟩, hE⟩ => ⟨_, he, v, rfl, ho, hE⟩) ?_
    rintro r wb ⟨v, rfl, ho, hE⟩
    replace b0 := hE.block b0
    replace hx := hx.trans hE
    clear hE
    simp only [Act.put, List.setIfInBounds_toArray, List.set_cons_zero, List.set_cons_succ]
    have KS := veil (fun (W : World) (hW : Ext wb W) => KC.out W _ v (ho.below hW (Nat.le_refl _)))
    clear ho KB
    go_upto_region 3 with (fail)
    refine' wp_plain (m := 3) (A := _) (by kernel_rfl) ?h1 ?h2
    case h1 =>
      refine mk_step (qv (Pt.pX q.1) (Pt.pY q.1) false) rfl (made_load rfl rfl b0 rfl Try.underlying26 rfl (iT _ _ _)) ?_
      simp only [Act.put, List.setIfInBounds_toArray, List.set_cons_zero, List.set_cons_succ]
      refine mk_step (.bool true) rfl (made_fun (args := [qv (Pt.pX q.1) (Pt.pY q.1) false]) rfl rfl (fun W => run_callFunc_in Try.func10 rfl rfl _ W) (fun W hW => KO.out W)) ?_
      simp only [Act.put, List.setIfInBounds_toArray, List.set_cons_zero, List.set_cons_succ]
      refine mk_step (.bool true) rfl (made_move (.inr rfl) rfl) ?_
      simp only [Act.put, List.setIfInBounds_toArray, List.set_cons_zero, List.set_cons_succ]
      exact mk_end
    case h2 =>
      refine prest_done rfl ?_
      intro w21 hE
      replace b0 := hE.block b0
      replace hx := hx.trans hE
      have hE3 := hE
      clear hE
      replace KS := veil (fun (W : World) (hW : Ext w21 W) => KS.out W (hE3.trans hW))
      clear hE3
      go_upto_region 4 with (fail)
      refine wp_region_noPanic ?_
      refine wp_region_held_drew (S := fun W => Ext w21 W) (by kernel_rfl) (Ext.drew _) (fun hH => ?_)
      repeat
        ((first
            | (refine wpAnyH_take (i := 0) (v := .bool true) rfl (by kernel_rfl) (by kernel_rfl) (by decide +kernel) (fun _ _ _ h => h) ((Or.inl ⟨by rfl, fun W hSw => (by dsimp only at hSw; go_simp)⟩)) (by with_reducible assumption) ?_)
            | (refine wpAnyH_take (i := 1) (v := .bool true) rfl (by kernel_rfl) (by kernel_rfl) (by decide +kernel) (fun _ _ _ h => h) ((Or.inl ⟨by rfl, fun W hSw => (by dsimp only at hSw; go_simp)⟩)) (by with_reducible assumption) ?_)
            | (refine wpAnyH_take (i := 2) (v := .pointer (some ⟨w.heap.size, 8, none⟩)) rfl (by kernel_rfl) (by kernel_rfl) (by decide +kernel) (fun _ _ _ h => h) ((Or.inl ⟨by rfl, fun W hSw => (by dsimp only at hSw; go_simp)⟩)) (by with_reducible assumption) ?_)
            | (refine wpAnyH_take (i := 3) (v := .bool false) rfl (by kernel_rfl) (by kernel_rfl) (by decide +kernel) (fun _ _ _ h => h) (yif_load1 (by rfl) rfl rfl b0 rfl (isn_bool ·)) (by with_reducible assumption) ?_)
            | (refine wpAnyH_take (i := 4) (v := .bool true) rfl (by kernel_rfl) (by kernel_rfl) (by decide +kernel) (fun _ _ _ h => h) ((Or.inl ⟨by rfl, fun W hSw => (by dsimp only at hSw; go_simp)⟩)) (by with_reducible assumption) ?_)
            | (refine wpAnyH_take (i := 5) (v := .bool true) rfl (by kernel_rfl) (by kernel_rfl) (by decide +kernel) (fun _ _ _ h => h) ((Or.inl ⟨by rfl, fun W hSw => (by dsimp only at hSw; go_simp)⟩)) (by with_reducible assumption) ?_)
            | fail);
          try simp only [Act.put, List.setIfInBounds_toArray, List.set_cons_zero, List.set_cons_succ, List.getElem_toArray, List.getElem_cons_zero, List.getElem_cons_succ])
      repeat
        ((first
            | (refine wpAnyH_take (i := 6) (v := .bool true) rfl (by kernel_rfl) (by kernel_rfl) (by decide +kernel) (fun _ _ _ h => h) ((Or.inl ⟨by rfl, fun W hSw => (by dsimp only at hSw; go_simp)⟩)) (by with_reducible assumption) ?_)
            | (refine wpAnyH_take (i := 7) (v := .nilIface) rfl (by kernel_rfl) (by kernel_rfl) (by decide +kernel) (fun _ _ _ h => h) ((Or.inl ⟨by rfl, fun W hSw => (by dsimp only at hSw; go_simp)⟩)) (by with_reducible assumption) ?_)
            | (refine wpAnyH_take (i := 8) (v := .bool false) rfl (by kernel_rfl) (by kernel_rfl) (by decide +kernel) (fun _ _ _ h => h) ((Or.inl ⟨by rfl, fun W hSw => (by dsimp only at hSw; go_simp)⟩)) (by with_reducible assumption) ?_)
            | (refine wpAnyH_take (i := 9) (v := .bool false) rfl (by kernel_rfl) (by kernel_rfl) (by decide +kernel) (fun _ _ _ h => h) ((Or.inl ⟨by rfl, fun W hSw => (by dsimp only at hSw; go_simp)⟩)) (by with_reducible assumption) ?_)
            | (refine wpAnyH_take (i := 10) (v := v) rfl (by kernel_rfl) (by kernel_rfl) (by decide +kernel) (fun _ _ _ h => h) ((Or.inl ⟨by rfl, fun W hSw => (by dsimp only at hSw; go_simp)⟩)) (by with_reducible assumption) ?_)
            | (refine wpAnyH_take (i := 11) (v := .string ps) rfl (by kernel_rfl) (by kernel_rfl) (by decide +kernel) (fun _ _ _ h => h) (yif_conv (by rfl) rfl rfl KS.out) (by with_reducible assumption) ?_)
            | fail);
          try simp only [Act.put, List.setIfInBounds_toArray, List.set_cons_zero, List.set_cons_succ, List.getElem_toArray, List.getElem_cons_zero, List.getElem_cons_succ])
      repeat
        ((first
            | (refine wpAnyH_take (i := 12) (v := qv (Pt.pX q.1) (Pt.pY q.1) false) rfl (by kernel_rfl) (by kernel_rfl) (by decide +kernel) (fun _ _ _ h => h) (yif_load (by rfl) rfl rfl b0 Try.underlying26 rfl (iT _ _ _)) (by with_reducible assumption) ?_)
            | (refine wpAnyH_ready (rs := [13]) (by decide +kernel) (by simp) ?_; refine AllReadyH.cons rfl (fun K hK => ?_) AllReadyH.nil; go_simp; refine (KR.out _).mono ?_; rintro e v1 ⟨g9, c9, rfl, _, ho9, hb9⟩; refine hK.out _ _ (hH.trans hb9) (fun hH => ?_); clear hK K hb9)
            | (refine wpAnyH_ready (rs := [14]) (by decide +kernel) (by simp) ?_; refine AllReadyH.cons rfl (fun K hK => ?_) AllReadyH.nil; have kc := KC.out _ _ _ (by assumption); go_simp; refine hK.out _ _ hH (fun hH => ?_); clear hK K)
            | (refine wpAnyH_take (i := 15) (v := .bool false) rfl (by kernel_rfl) (by kernel_rfl) (by decide +kernel) (fun _ _ _ h => h) ((Or.inl ⟨by rfl, fun W hSw => (by dsimp only at hSw; go_simp)⟩)) (by with_reducible assumption) ?_)
            | (refine wpAnyH_take (i := 16) (v := .bool false) rfl (by kernel_rfl) (by kernel_rfl) (by decide +kernel) (fun _ _ _ h => h) ((Or.inl ⟨by rfl, fun W hSw => (by dsimp only at hSw; go_simp)⟩)) (by with_reducible assumption) ?_)
            | (refine wpAnyH_take (i := 17) (v := .bool false) rfl (by kernel_rfl) (by kernel_rfl) (by decide +kernel) (fun _ _ _ h => h) ((Or.inl ⟨by rfl, fun W hSw => (by dsimp only at hSw; go_simp)⟩)) (by with_reducible assumption) ?_)
            | fail);
          try simp only [Act.put, List.setIfInBounds_toArray, List.set_cons_zero, List.set_cons_succ, List.getElem_toArray, List.getElem_cons_zero, List.getElem_cons_succ])
      repeat
        ((first
            | (refine wpAnyH_take (i := 18) (v := .bool false) rfl (by kernel_rfl) (by kernel_rfl) (by decide +kernel) (fun _ _ _ h => h) ((Or.inl ⟨by rfl, fun W hSw => (by dsimp only at hSw; go_simp)⟩)) (by with_reducible assumption) ?_)
            | (refine wpAnyH_take (i := 19) (v := .bool true) rfl (by kernel_rfl) (by kernel_rfl) (by decide +kernel) (fun _ _ _ h => h) ((Or.inl ⟨by rfl, fun W hSw => (by dsimp only at hSw; go_simp)⟩)) (by with_reducible assumption) ?_)
            | (refine wpAnyH_take (i := 20) (v := .bool false) rfl (by kernel_rfl) (by kernel_rfl) (by decide +kernel) (fun _ _ _ h => h) ((Or.inl ⟨by rfl, fun W hSw => (by dsimp only at hSw; go_simp)⟩)) (by with_reducible assumption) ?_)
            | (refine wpAnyH_take (i := 21) (v := .bool false) rfl (by kernel_rfl) (by kernel_rfl) (by decide +kernel) (fun _ _ _ h => h) ((Or.inl ⟨by rfl, fun W hSw => (by dsimp only at hSw; go_simp)⟩)) (by with_reducible assumption) ?_)
            | (refine wpAnyH_take (i := 22) (v := .pointer (some ⟨w.heap.size, 8, none⟩)) rfl (by kernel_rfl) (by kernel_rfl) (by decide +kernel) (fun _ _ _ h => h) ((Or.inl ⟨by rfl, fun W hSw => (by dsimp only at hSw; go_simp)⟩)) (by with_reducible assumption) ?_)
            | (refine wpAnyH_take (i := 23) (v := .bool false) rfl (by kernel_rfl) (by kernel_rfl) (by decide +kernel) (fun _ _ _ h => h) (yif_load1 (by rfl) rfl rfl b0 rfl (isn_bool ·)) (by with_reducible assumption) ?_)
            | fail);
          try simp only [Act.put, List.setIfInBounds_toArray, List.set_cons_zero, List.set_cons_succ, List.getElem_toArray, List.getElem_cons_zero, List.getElem_cons_succ])
      repeat
        ((first
            | (refine wpAnyH_take (i := 24) (v := .bool false) rfl (by kernel_rfl) (by kernel_rfl) (by decide +kernel) (fun _ _ _ h => h) ((Or.inl ⟨by rfl, fun W hSw => (by dsimp only at hSw; go_simp)⟩)) (by with_reducible assumption) ?_)
            | (refine wpAnyH_take (i := 25) (v := .bool false) rfl (by kernel_rfl) (by kernel_rfl) (by decide +kernel) (fun _ _ _ h => h) ((Or.inl ⟨by rfl, fun W hSw => (by dsimp only at hSw; go_simp)⟩)) (by with_reducible assumption) ?_)
            | (refine wpAnyH_take (i := 26) (v := undef) rfl (by kernel_rfl) (by kernel_rfl) (by decide +kernel) (fun _ _ _ h => h) (Or.inr ⟨by rfl, rfl⟩) (by with_reducible assumption) ?_)
            | (refine wpAnyH_take (i := 27) (v := undef) rfl (by kernel_rfl) (by kernel_rfl) (by decide +kernel) (fun _ _ _ h => h) (Or.inr ⟨by rfl, rfl⟩) (by with_reducible assumption) ?_)
            | (refine wpAnyH_take (i := 28) (v := undef) rfl (by kernel_rfl) (by kernel_rfl) (by decide +kernel) (fun _ _ _ h => h) (Or.inr ⟨by rfl, rfl⟩) (by with_reducible assumption) ?_)
            | (refine wpAnyH_take (i := 29) (v := undef) rfl (by kernel_rfl) (by kernel_rfl) (by decide +kernel) (fun _ _ _ h => h) (Or.inr ⟨by rfl, rfl⟩) (by with_reducible assumption) ?_)
            | fail);
          try simp only [Act.put, List.setIfInBounds_toArray, List.set_cons_zero, List.set_cons_succ, List.getElem_toArray, List.getElem_cons_zero, List.getElem_cons_succ])
      repeat
        ((first
            | (refine wpAnyH_take (i := 30) (v := undef) rfl (by kernel_rfl) (by kernel_rfl) (by decide +kernel) (fun _ _ _ h => h) (Or.inr ⟨by rfl, rfl⟩) (by with_reducible assumption) ?_)
            | (refine wpAnyH_take (i := 31) (v := undef) rfl (by kernel_rfl) (by kernel_rfl) (by decide +kernel) (fun _ _ _ h => h) (Or.inr ⟨by rfl, rfl⟩) (by with_reducible assumption) ?_)
            | (refine wpAnyH_take (i := 32) (v := undef) rfl (by kernel_rfl) (by kernel_rfl) (by decide +kernel) (fun _ _ _ h => h) (Or.inr ⟨by rfl, rfl⟩) (by with_reducible assumption) ?_)
            | (refine wpAnyH_take (i := 33) (v := undef) rfl (by kernel_rfl) (by kernel_rfl) (by decide +kernel) (fun _ _ _ h => h) (Or.inr ⟨by rfl, rfl⟩) (by with_reducible assumption) ?_)
            | (refine wpAnyH_take (i := 34) (v := .bool false) rfl (by kernel_rfl) (by kernel_rfl) (by decide +kernel) (fun _ _ _ h => h) ((Or.inl ⟨by rfl, fun W hSw => (by dsimp only at hSw; go_simp)⟩)) (by with_reducible assumption) ?_)
            | (refine wpAnyH_take (i := 35) (v := .bool false) rfl (by kernel_rfl) (by kernel_rfl) (by decide +kernel) (fun _ _ _ h => h) ((Or.inl ⟨by rfl, fun W hSw => (by dsimp only at hSw; go_simp)⟩)) (by with_reducible assumption) ?_)
            | fail);
          try simp only [Act.put, List.setIfInBounds_toArray, List.set_cons_zero, List.set_cons_succ, List.getElem_toArray, List.getElem_cons_zero, List.getElem_cons_succ])
      refine wpAnyH_done (by decide +kernel) ?_ _
      refine NoPanic.normal ?_
      have hE := hH
      clear hH
      replace b0 := hE.block b0
      replace hx := hx.trans hE
      clear hE
      go_upto_region 6 with (fail)
      refine' wp_plain (m := 5) (A := _) (by kernel_rfl) ?h1 ?h2
      case h1 =>
        refine mk_step (.slice A n c) rfl (made_move (.inl rfl) rfl) ?_
        simp only [Act.put, List.setIfInBounds_toArray, List.set_cons_zero, List.set_cons_succ]
        refine mk_step (.tuple #[qv 0 0 false, .iface 37 (.int .i64 2)]) rfl (made_fun (args := [.slice A n c]) rfl rfl (fun W => run_callFunc_in Try.func26 rfl rfl _ W) (fun W hW => KP.out W (hx.trans hW))) ?_
        simp only [Act.put, List.setIfInBounds_toArray, List.set_cons_zero, List.set_cons_succ]
        refine mk_step (.tuple #[qv 0 0 false, .iface 37 (.int .i64 2)]) rfl (made_move (.inl rfl) rfl) ?_
        simp only [Act.put, List.setIfInBounds_toArray, List.set_cons_zero, List.set_cons_succ]
        refine mk_step (qv 0 0 false) rfl (made_ext rfl rfl rfl) ?_
        simp only [Act.put, List.setIfInBounds_toArray, List.set_cons_zero, List.set_cons_succ]
        refine mk_step (.iface 37 (.int .i64 2)) rfl (made_ext rfl rfl rfl) ?_
        simp only [Act.put, List.setIfInBounds_toArray, List.set_cons_zero, List.set_cons_succ]
        exact mk_end
      case h2 =>
        refine prest_var' _ _ rfl rfl rfl rfl rfl rfl rfl (hzT ·) (fun _ => rfl) (fun _ => rfl) (iT _ _ _) (hsT _ _ _) (qc_one _ _ _) ?_
        intro gx w22 hgx bx hE
        replace b0 := hE.block b0
        replace hx := hx.trans hE
        clear hE
        simp only [Act.put, List.setIfInBounds_toArray, List.set_cons_zero, List.set_cons_succ]
        clear hgx
        go_upto_region 7 with (fail)
        refine' wp_plain (m := 5) (A := _) (by kernel_rfl) ?h1 ?h2
        case h1 =>
          refine mk_step (.slice A n c) rfl (made_move (.inl rfl) rfl) ?_
          simp only [Act.put, List.setIfInBounds_toArray, List.set_cons_zero, List.set_cons_succ]
          refine mk_step (.tuple #[qv 0 0 false, .bool false]) rfl (made_fun (args := [.slice A n c]) rfl rfl (fun W => run_callFunc_in Try.func27 rfl rfl _ W) (fun W hW => KQ.out W (hx.trans hW))) ?_
          simp only [Act.put, List.setIfInBounds_toArray, List.set_cons_zero, List.set_cons_succ]
          refine mk_step (.tuple #[qv 0 0 false, .bool false]) rfl (made_move (.inl rfl) rfl) ?_
          simp only [Act.put, List.setIfInBounds_toArray, List.set_cons_zero, List.set_cons_succ]
          refine mk_step (qv 0 0 false) rfl (made_ext rfl rfl rfl) ?_
          simp only [Act.put, List.setIfInBounds_toArray, List.set_cons_zero, List.set_cons_succ]
          refine mk_step (.bool false) rfl (made_ext rfl rfl rfl) ?_
          simp only [Act.put, List.setIfInBounds_toArray, List.set_cons_zero, List.set_cons_succ]
          exact mk_end
        case h2 =>
          refine prest_var' _ _ rfl rfl rfl rfl rfl rfl rfl (hzT ·) (fun _ => rfl) (fun _ => rfl) (iT _ _ _) (hsT _ _ _) (qc_one _ _ _) ?_
          intro gz w23 hgz bz hE
          replace b0 := hE.block b0
          replace bx := hE.block bx
          replace hx := hx.trans hE
          clear hE
          simp only [Act.put, List.setIfInBounds_toArray, List.set_cons_zero, List.set_cons_succ]
          clear hgz
          go_upto_region 8 with (fail)
          refine' wp_plain (m := 2) (A := _) (by kernel_rfl) ?h1 ?h2
          case h1 =>
            refine mk_step (.bool false) rfl (made_move (.inl rfl) rfl) ?_
            simp only [Act.put, List.setIfInBounds_toArray, List.set_cons_zero, List.set_cons_succ]
            refine mk_step (.bool true) rfl (made_not' rfl rfl rfl) ?_
            simp only [Act.put, List.setIfInBounds_toArray, List.set_cons_zero, List.set_cons_succ]
            exact mk_end
          case h2 =>
            refine prest_done rfl ?_
            intro w24 hE
            replace b0 := hE.block b0
            replace bx := hE.block bx
            replace bz := hE.block bz
            replace hx := hx.trans hE
            clear hE
            go_upto_region 9 with (fail)
            refine' wp_plainG (m := 12) (A := _) ?h1 ?h2
            case h1 =>
              refine mk_step (.bool true) rfl (made_move (.inl rfl) rfl) ?_
              simp only [Act.put, List.setIfInBounds_toArray, List.set_cons_zero, List.set_cons_succ]
              refine mk_step (.bool true) rfl (made_move (.inl rfl) rfl) ?_
              simp only [Act.put, List.setIfInBounds_toArray, List.set_cons_zero, List.set_cons_succ]
              refine mk_want (.iface 37 (.int .i64 2)) rfl (made_move (.inl rfl) rfl) ?_
              simp only [Act.put, List.setIfInBounds_toArray, List.set_cons_zero, List.set_cons_succ]
              refine mk_want (.iface 37 (.int .i64 2)) rfl (made_iface rfl (mkErr2 ·)) ?_
              simp only [Act.put, List.setIfInBounds_toArray, List.set_cons_zero, List.set_cons_succ]
              refine mk_want (.bool true) rfl (made_bin rfl rfl rfl (fun _ => by kernel_rfl) (fun _ => by kernel_rfl)) ?_
              simp only [Act.put, List.setIfInBounds_toArray, List.set_cons_zero, List.set_cons_succ]
              refine mk_step (.bool true) rfl (made_pick rfl rfl rfl) ?_
              simp only [Act.put, List.setIfInBounds_toArray, List.set_cons_zero, List.set_cons_succ]
              refine mk_step (.bool true) rfl (made_move (.inl rfl) rfl) ?_
              simp only [Act.put, List.setIfInBounds_toArray, List.set_cons_zero, List.set_cons_succ]
              refine mk_want (qv 0 0 false) rfl (made_load rfl rfl bx rfl Try.underlying26 rfl (iT _ _ _)) ?_
              simp only [Act.put, List.setIfInBounds_toArray, List.set_cons_zero, List.set_cons_succ]
              refine mk_want (qv 0 0 false) rfl (made_build rfl rfl (bldT0 ·)) ?_
              simp only [Act.put, List.setIfInBounds_toArray, List.set_cons_zero, List.set_cons_succ]
              refine mk_want (.bool true) rfl (made_bin rfl rfl rfl (gT _ _ _ _ _ _ _ _ _) (eqT top_pos top_pos)) ?_
              simp only [Act.put, List.setIfInBounds_toArray, List.set_cons_zero, List.set_cons_succ]
              refine mk_step (.bool true) rfl (made_pick rfl rfl rfl) ?_
              simp only [Act.put, List.setIfInBounds_toArray, List.set_cons_zero, List.set_cons_succ]
              refine mk_step (.bool true) rfl (made_move (.inr rfl) rfl) ?_
              simp only [Act.put, List.setIfInBounds_toArray, List.set_cons_zero, List.set_cons_succ]
              exact mk_end
            case h2 =>
              refine prest_done rfl ?_
              intro w25 hE
              replace b0 := hE.block b0
              replace bx := hE.block bx
              replace bz := hE.block bz
              replace hx := hx.trans hE
              clear hE
              go_wp2
              go_ret
              exact ⟨rfl, hx⟩
end Go.Proofs.Ytppfcdpokgnpfaa
