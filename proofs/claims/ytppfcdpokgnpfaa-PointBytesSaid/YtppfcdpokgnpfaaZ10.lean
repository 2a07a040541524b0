/-
  Merged: C6 C8 CM CR CD D1 D2 D3 D4.
-/
import Derived.Test.YtppfcdpokgnpfaaZ9
import Derived.Test.YtppfcdpokgnpfaaZ8
import Derived.Test.YtppfcdpokgnpfaaZ2

/-
  point.curve: the sum of a scaled point and a point.
-/
namespace Go.Proofs.Ytppfcdpokgnpfaa
open Go.RowKit

set_option maxRecDepth 100000 in
set_option maxHeartbeats 8000000 in
theorem plus_far {b : Nat} (x y z X Y : Nat) {w : World} (hF : Fp w b) :
    Calls Try.prog 37 #[cv b, sv x y z, qv X Y true] w fun e w' => e = .returned (sv x y z) ∧ Ext w w' := by
  unfold cv sv qv cc fv sc qc
  go_enter Try.func37, Try.ntmps37
  go_upto_region 1 with (fail)
  obtain ⟨hx, b0, b1, b2, b3⟩ := blocks4 w (.cells #[.func (.func 58) #[ptrTo b] #[], .func (.func 59) #[ptrTo b] #[], .func (.func 60) #[ptrTo b] #[], .func (.func 61) #[ptrTo b] #[]] 60) (.cells #[.int .u64 (wd (x) 0), .int .u64 (wd (x) 1), .int .u64 (wd (x) 2), .int .u64 (wd (x) 3), .int .u64 (wd (y) 0), .int .u64 (wd (y) 1), .int .u64 (wd (y) 2), .int .u64 (wd (y) 3), .int .u64 (wd (z) 0), .int .u64 (wd (z) 1), .int .u64 (wd (z) 2), .int .u64 (wd (z) 3)] 64) (.cells #[.int .u64 (wd (X) 0), .int .u64 (wd (X) 1), .int .u64 (wd (X) 2), .int .u64 (wd (X) 3), .int .u64 (wd (Y) 0), .int .u64 (wd (Y) 1), .int .u64 (wd (Y) 2), .int .u64 (wd (Y) 3), .bool (true)] 26) (.cells #[.int .u64 0, .int .u64 0, .int .u64 0, .int .u64 0, .int .u64 0, .int .u64 0, .int .u64 0, .int .u64 0, .int .u64 0, .int .u64 0, .int .u64 0, .int .u64 0] 64)
  generalize (((w.alloc (.cells #[.func (.func 58) #[ptrTo b] #[], .func (.func 59) #[ptrTo b] #[], .func (.func 60) #[ptrTo b] #[], .func (.func 61) #[ptrTo b] #[]] 60)).alloc (.cells #[.int .u64 (wd (x) 0), .int .u64 (wd (x) 1), .int .u64 (wd (x) 2), .int .u64 (wd (x) 3), .int .u64 (wd (y) 0), .int .u64 (wd (y) 1), .int .u64 (wd (y) 2), .int .u64 (wd (y) 3), .int .u64 (wd (z) 0), .int .u64 (wd (z) 1), .int .u64 (wd (z) 2), .int .u64 (wd (z) 3)] 64)).alloc (.cells #[.int .u64 (wd (X) 0), .int .u64 (wd (X) 1), .int .u64 (wd (X) 2), .int .u64 (wd (X) 3), .int .u64 (wd (Y) 0), .int .u64 (wd (Y) 1), .int .u64 (wd (Y) 2), .int .u64 (wd (Y) 3), .bool (true)] 26)).alloc (.cells #[.int .u64 0, .int .u64 0, .int .u64 0, .int .u64 0, .int .u64 0, .int .u64 0, .int .u64 0, .int .u64 0, .int .u64 0, .int .u64 0, .int .u64 0, .int .u64 0] 64) = w1 at *
  have b0 : w1.heap[w.heap.size]? = some (.cells (cc b) 60 (0, 0)) := b0
  have b1 : w1.heap[w.heap.size + 1]? = some (.cells (sc x y z) 64 (0, 0)) := b1
  have b2 : w1.heap[w.heap.size + 1 + 1]? = some (.cells (qc X Y true) 26 (0, 0)) := b2
  have hf := hF.ext hx
  clear hF
  refine' wp_plain (m := 2) (A := _) (by kernel_rfl) ?h1 ?h2
  case h1 =>
    refine mk_step (.pointer (some ⟨w.heap.size + 1 + 1, 8, none⟩)) rfl (made_field rfl rfl (fldT2 _ ·)) ?_
    simp only [Act.put, List.setIfInBounds_toArray, List.set_cons_zero, List.set_cons_succ]
    refine mk_step (.bool true) rfl (made_load1 rfl rfl b2 rfl (isn_bool ·)) ?_
    simp only [Act.put, List.setIfInBounds_toArray, List.set_cons_zero, List.set_cons_succ]
    exact mk_end
  case h2 =>
    refine prest_done rfl ?_
    intro w2 hE
    replace b0 := hE.block b0
    replace b1 := hE.block b1
    replace b2 := hE.block b2
    replace b3 := hE.block b3
    replace hf := hf.ext hE
    replace hx := hx.trans hE
    clear hE
    go_upto_region 2 with (fail)
    refine' wp_plain (m := 1) (A := _) (by kernel_rfl) ?h1 ?h2
    case h1 =>
      refine mk_step (sv x y z) rfl (made_load rfl rfl b1 rfl Try.underlying64 rfl (iS _ _ _)) ?_
      simp only [Act.put, List.setIfInBounds_toArray, List.set_cons_zero, List.set_cons_succ]
      exact mk_end
    case h2 =>
      refine prest_store _ rfl rfl rfl rfl rfl rfl b3 (iS _ _ _) rfl (sc_one _ _ _) ?_
      intro w3 hB hb
      go_wp2
      exact bodyPost_ret (results_cell_row rfl _ _ (w.heap.size + 1 + 1 + 1) 64 (sc x y z) (0, 0) _ rfl hb Try.underlying64 rfl (by kernel_rfl)) rfl ⟨rfl, hx.new hB (by omega)⟩
set_option maxRecDepth 100000 in
set_option maxHeartbeats 8000000 in
theorem plus_lift {b : Nat} (x y X Y : Nat) {w : World} (hF : Fp w b) :
    Calls Try.prog 37 #[cv b, sv x y 0, qv X Y false] w fun e w' => e = .returned (sv X Y 1) ∧ Ext w w' := by
  unfold cv sv qv cc fv sc qc
  go_enter Try.func37, Try.ntmps37
  go_upto_region 1 with (fail)
  obtain ⟨hx, b0, b1, b2, b3⟩ := blocks4 w (.cells #[.func (.func 58) #[ptrTo b] #[], .func (.func 59) #[ptrTo b] #[], .func (.func 60) #[ptrTo b] #[], .func (.func 61) #[ptrTo b] #[]] 60) (.cells #[.int .u64 (wd (x) 0), .int .u64 (wd (x) 1), .int .u64 (wd (x) 2), .int .u64 (wd (x) 3), .int .u64 (wd (y) 0), .int .u64 (wd (y) 1), .int .u64 (wd (y) 2), .int .u64 (wd (y) 3), .int .u64 (wd (0) 0), .int .u64 (wd (0) 1), .int .u64 (wd (0) 2), .int .u64 (wd (0) 3)] 64) (.cells #[.int .u64 (wd (X) 0), .int .u64 (wd (X) 1), .int .u64 (wd (X) 2), .int .u64 (wd (X) 3), .int .u64 (wd (Y) 0), .int .u64 (wd (Y) 1), .int .u64 (wd (Y) 2), .int .u64 (wd (Y) 3), .bool (false)] 26) (.cells #[.int .u64 0, .int .u64 0, .int .u64 0, .int .u64 0, .int .u64 0, .int .u64 0, .int .u64 0, .int .u64 0, .int .u64 0, .int .u64 0, .int .u64 0, .int .u64 0] 64)
  generalize (((w.alloc (.cells #[.func (.func 58) #[ptrTo b] #[], .func (.func 59) #[ptrTo b] #[], .func (.func 60) #[ptrTo b] #[], .func (.func 61) #[ptrTo b] #[]] 60)).alloc (.cells #[.int .u64 (wd (x) 0), .int .u64 (wd (x) 1), .int .u64 (wd (x) 2), .int .u64 (wd (x) 3), .int .u64 (wd (y) 0), .int .u64 (wd (y) 1), .int .u64 (wd (y) 2), .int .u64 (wd (y) 3), .int .u64 (wd (0) 0), .int .u64 (wd (0) 1), .int .u64 (wd (0) 2), .int .u64 (wd (0) 3)] 64)).alloc (.cells #[.int .u64 (wd (X) 0), .int .u64 (wd (X) 1), .int .u64 (wd (X) 2), .int .u64 (wd (X) 3), .int .u64 (wd (Y) 0), .int .u64 (wd (Y) 1), .int .u64 (wd (Y) 2), .int .u64 (wd (Y) 3), .bool (false)] 26)).alloc (.cells #[.int .u64 0, .int .u64 0, .int .u64 0, .int .u64 0, .int .u64 0, .int .u64 0, .int .u64 0, .int .u64 0, .int .u64 0, .int .u64 0, .int .u64 0, .int .u64 0] 64) = w1 at *
  have b0 : w1.heap[w.heap.size]? = some (.cells (cc b) 60 (0, 0)) := b0
  have b1 : w1.heap[w.heap.size + 1]? = some (.cells (sc x y 0) 64 (0, 0)) := b1
  have b2 : w1.heap[w.heap.size + 1 + 1]? = some (.cells (qc X Y false) 26 (0, 0)) := b2
  have hf := hF.ext hx
  clear hF
  refine' wp_plain (m := 2) (A := _) (by kernel_rfl) ?h1 ?h2
  case h1 =>
    refine mk_step (.pointer (some ⟨w.heap.size + 1 + 1, 8, none⟩)) rfl (made_field rfl rfl (fldT2 _ ·)) ?_
    simp only [Act.put, List.setIfInBounds_toArray, List.set_cons_zero, List.set_cons_succ]
    refine mk_step (.bool false) rfl (made_load1 rfl rfl b2 rfl (isn_bool ·)) ?_
    simp only [Act.put, List.setIfInBounds_toArray, List.set_cons_zero, List.set_cons_succ]
    exact mk_end
  case h2 =>
    refine prest_done rfl ?_
    intro w2 hE
    replace b0 := hE.block b0
    replace b1 := hE.block b1
    replace b2 := hE.block b2
    replace b3 := hE.block b3
    replace hf := hf.ext hE
    replace hx := hx.trans hE
    clear hE
    go_upto_region 3 with (fail)
    refine' wp_plain (m := 3) (A := _) (by kernel_rfl) ?h1 ?h2
    case h1 =>
      refine mk_step (.pointer (some ⟨w.heap.size + 1, 8, none⟩)) rfl (made_field rfl rfl (fldS2 _ ·)) ?_
      simp only [Act.put, List.setIfInBounds_toArray, List.set_cons_zero, List.set_cons_succ]
      refine mk_step (nv 0) rfl (made_load rfl rfl b1 rfl uN rfl (iN _)) ?_
      simp only [Act.put, List.setIfInBounds_toArray, List.set_cons_zero, List.set_cons_succ]
      refine mk_step (.bool true) rfl (made_fun (args := [nv 0]) rfl rfl (fun W => run_callFunc_in Try.func62 rfl rfl _ W) (fun W hW => isz_yes rfl W)) ?_
      simp only [Act.put, List.setIfInBounds_toArray, List.set_cons_zero, List.set_cons_succ]
      exact mk_end
    case h2 =>
      refine prest_done rfl ?_
      intro w3 hE
      replace b0 := hE.block b0
      replace b1 := hE.block b1
      replace b2 := hE.block b2
      replace b3 := hE.block b3
      replace hf := hf.ext hE
      replace hx := hx.trans hE
      clear hE
      go_upto_region 4 with (fail)
      refine' wp_plain (m := 2) (A := _) (by kernel_rfl) ?h1 ?h2
      case h1 =>
        refine mk_step (qv X Y false) rfl (made_load rfl rfl b2 rfl Try.underlying26 rfl (iT _ _ _)) ?_
        simp only [Act.put, List.setIfInBounds_toArray, List.set_cons_zero, List.set_cons_succ]
        refine mk_step (sv X Y 1) rfl (made_fun (args := [qv X Y false]) rfl rfl (fun W => run_callFunc_in Try.func38 rfl rfl _ W) (fun W hW => lift_near X Y W)) ?_
        simp only [Act.put, List.setIfInBounds_toArray, List.set_cons_zero, List.set_cons_succ]
        exact mk_end
      case h2 =>
        refine prest_store _ rfl rfl rfl rfl rfl rfl b3 (iS _ _ _) rfl (sc_one _ _ _) ?_
        intro w4 hB hb
        go_wp2
        exact bodyPost_ret (results_cell_row rfl _ _ (w.heap.size + 1 + 1 + 1) 64 (sc X Y 1) (0, 0) _ rfl hb Try.underlying64 rfl (by kernel_rfl)) rfl ⟨rfl, hx.new hB (by omega)⟩
def runOf (x z X : Fe) : Fe := X * (z * z) - x
def riseOf (y z Y : Fe) : Fe := Y * (z * z * z) - y
def plus3 (x y z X Y : Fe) : Fe × Fe × Fe :=
  let zz : Fe := z * z
  let u : Fe := X * zz
  let run : Fe := u - x
  let zzz : Fe := zz * z
  let v : Fe := Y * zzz
  let rise : Fe := v - y
  let sq : Fe := run * run
  let cube : Fe := sq * run
  let cross : Fe := x * sq
  let rr : Fe := rise * rise
  let r1 : Fe := rr - cube
  let c2 : Fe := cross + cross
  let x3 : Fe := r1 - c2
  let d : Fe := cross - x3
  let rd : Fe := rise * d
  let yc : Fe := y * cube
  let y3 : Fe := rd - yc
  let z3 : Fe := z * run
  (x3, y3, z3)
set_option maxRecDepth 100000 in
set_option maxHeartbeats 8000000 in
theorem plus_same {b : Nat} (x y z X Y : Fe) (hz : z.val ≠ 0) (hr : (runOf x z X).val = 0) (hs : (riseOf y z Y).val = 0) {w : World} (hF : Fp w b) :
    Calls Try.prog 37 #[cv b, sv x.val y.val z.val, qv X.val Y.val false] w fun e w' => e = .returned (sv (twice3 x y z).1.val (twice3 x y z).2.1.val (twice3 x y z).2.2.val) ∧ Ext w w' := by
  obtain ⟨zz, hzz⟩ : ∃ t : Fe, t = z * z := ⟨_, rfl⟩
  obtain ⟨u, hu⟩ : ∃ t : Fe, t = X * zz := ⟨_, rfl⟩
  obtain ⟨run, hrun⟩ : ∃ t : Fe, t = u - x := ⟨_, rfl⟩
  obtain ⟨zzz, hzzz⟩ : ∃ t : Fe, t = zz * z := ⟨_, rfl⟩
  obtain ⟨v, hv⟩ : ∃ t : Fe, t = Y * zzz := ⟨_, rfl⟩
  obtain ⟨rise, hrise⟩ : ∃ t : Fe, t = v - y := ⟨_, rfl⟩
  have h1 : runOf x z X = run := by subst hrun hu hzz; rfl
  have h2 : riseOf y z Y = rise := by subst hrise hv hzzz hzz; rfl
  rw [h1] at hr
  rw [h2] at hs
  clear h1 h2
  have kzz := veil hzz
  have ku := veil hu
  have krun := veil hrun
  have kzzz := veil hzzz
  have kv := veil hv
  have krise := veil hrise
  clear hrise hv hzzz hrun hu hzz
  have kz0 := veil hz
  have kr := veil hr
  have ks := veil hs
  clear hz hr hs
  obtain ⟨X3, Y3, Z3, h3⟩ : ∃ X3 Y3 Z3, twice3 x y z = (X3, Y3, Z3) := ⟨_, _, _, rfl⟩
  have KT := veil (fun W (hF : Fp W b) => twice_calls x y z hF)
  rw [h3] at KT ⊢
  clear h3
  show Calls Try.prog 37 #[cv b, sv x.val y.val z.val, qv X.val Y.val false] w fun e w' => e = .returned (sv X3.val Y3.val Z3.val) ∧ Ext w w'
  unfold cv sv qv cc fv sc qc
  go_enter Try.func37, Try.ntmps37
  go_upto_region 1 with (fail)
  obtain ⟨hx, b0, b1, b2, b3⟩ := blocks4 w (.cells #[.func (.func 58) #[ptrTo b] #[], .func (.func 59) #[ptrTo b] #[], .func (.func 60) #[ptrTo b] #[], .func (.func 61) #[ptrTo b] #[]] 60) (.cells #[.int .u64 (wd (x.val) 0), .int .u64 (wd (x.val) 1), .int .u64 (wd (x.val) 2), .int .u64 (wd (x.val) 3), .int .u64 (wd (y.val) 0), .int .u64 (wd (y.val) 1), .int .u64 (wd (y.val) 2), .int .u64 (wd (y.val) 3), .int .u64 (wd (z.val) 0), .int .u64 (wd (z.val) 1), .int .u64 (wd (z.val) 2), .int .u64 (wd (z.val) 3)] 64) (.cells #[.int .u64 (wd (X.val) 0), .int .u64 (wd (X.val) 1), .int .u64 (wd (X.val) 2), .int .u64 (wd (X.val) 3), .int .u64 (wd (Y.val) 0), .int .u64 (wd (Y.val) 1), .int .u64 (wd (Y.val) 2), .int .u64 (wd (Y.val) 3), .bool (false)] 26) (.cells #[.int .u64 0, .int .u64 0, .int .u64 0, .int .u64 0, .int .u64 0, .int .u64 0, .int .u64 0, .int .u64 0, .int .u64 0, .int .u64 0, .int .u64 0, .int .u64 0] 64)
  generalize (((w.alloc (.cells #[.func (.func 58) #[ptrTo b] #[], .func (.func 59) #[ptrTo b] #[], .func (.func 60) #[ptrTo b] #[], .func (.func 61) #[ptrTo b] #[]] 60)).alloc (.cells #[.int .u64 (wd (x.val) 0), .int .u64 (wd (x.val) 1), .int .u64 (wd (x.val) 2), .int .u64 (wd (x.val) 3), .int .u64 (wd (y.val) 0), .int .u64 (wd (y.val) 1), .int .u64 (wd (y.val) 2), .int .u64 (wd (y.val) 3), .int .u64 (wd (z.val) 0), .int .u64 (wd (z.val) 1), .int .u64 (wd (z.val) 2), .int .u64 (wd (z.val) 3)] 64)).alloc (.cells #[.int .u64 (wd (X.val) 0), .int .u64 (wd (X.val) 1), .int .u64 (wd (X.val) 2), .int .u64 (wd (X.val) 3), .int .u64 (wd (Y.val) 0), .int .u64 (wd (Y.val) 1), .int .u64 (wd (Y.val) 2), .int .u64 (wd (Y.val) 3), .bool (false)] 26)).alloc (.cells #[.int .u64 0, .int .u64 0, .int .u64 0, .int .u64 0, .int .u64 0, .int .u64 0, .int .u64 0, .int .u64 0, .int .u64 0, .int .u64 0, .int .u64 0, .int .u64 0] 64) = w1 at *
  have b0 : w1.heap[w.heap.size]? = some (.cells (cc b) 60 (0, 0)) := b0
  have b1 : w1.heap[w.heap.size + 1]? = some (.cells (sc x.val y.val z.val) 64 (0, 0)) := b1
  have b2 : w1.heap[w.heap.size + 1 + 1]? = some (.cells (qc X.val Y.val false) 26 (0, 0)) := b2
  have hf := hF.ext hx
  clear hF
  refine' wp_plain (m := 2) (A := _) (by kernel_rfl) ?h1 ?h2
  case h1 =>
    refine mk_step (.pointer (some ⟨w.heap.size + 1 + 1, 8, none⟩)) rfl (made_field rfl rfl (fldT2 _ ·)) ?_
    simp only [Act.put, List.setIfInBounds_toArray, List.set_cons_zero, List.set_cons_succ]
    refine mk_step (.bool false) rfl (made_load1 rfl rfl b2 rfl (isn_bool ·)) ?_
    simp only [Act.put, List.setIfInBounds_toArray, List.set_cons_zero, List.set_cons_succ]
    exact mk_end
  case h2 =>
    refine prest_done rfl ?_
    intro w2 hE
    replace b0 := hE.block b0
    replace b1 := hE.block b1
    replace b2 := hE.block b2
    replace b3 := hE.block b3
    replace hf := hf.ext hE
    replace hx := hx.trans hE
    clear hE
    go_upto_region 3 with (fail)
    refine' wp_plain (m := 3) (A := _) (by kernel_rfl) ?h1 ?h2
    case h1 =>
      refine mk_step (.pointer (some ⟨w.heap.size + 1, 8, none⟩)) rfl (made_field rfl rfl (fldS2 _ ·)) ?_
      simp only [Act.put, List.setIfInBounds_toArray, List.set_cons_zero, List.set_cons_succ]
      refine mk_step (nv z.val) rfl (made_load rfl rfl b1 rfl uN rfl (iN _)) ?_
      simp only [Act.put, List.setIfInBounds_toArray, List.set_cons_zero, List.set_cons_succ]
      refine mk_step (.bool false) rfl (made_fun (args := [nv z.val]) rfl rfl (fun W => run_callFunc_in Try.func62 rfl rfl _ W) (fun W hW => isz_no kz0.out (fe_top _) W)) ?_
      simp only [Act.put, List.setIfInBounds_toArray, List.set_cons_zero, List.set_cons_succ]
      exact mk_end
    case h2 =>
      refine prest_done rfl ?_
      intro w3 hE
      replace b0 := hE.block b0
      replace b1 := hE.block b1
      replace b2 := hE.block b2
      replace b3 := hE.block b3
      replace hf := hf.ext hE
      replace hx := hx.trans hE
      clear hE
      go_upto_region 5 with (fail)
      refine' wp_plain (m := 7) (A := _) (by kernel_rfl) ?h1 ?h2
      case h1 =>
        refine mk_step (.pointer (some ⟨w.heap.size, 2, none⟩)) rfl (made_field rfl rfl (fldK2 _ ·)) ?_
        simp only [Act.put, List.setIfInBounds_toArray, List.set_cons_zero, List.set_cons_succ]
        refine mk_step (fv 60 b) rfl (made_load1 rfl rfl b0 rfl (isn_func ·)) ?_
        simp only [Act.put, List.setIfInBounds_toArray, List.set_cons_zero, List.set_cons_succ]
        refine mk_step (.pointer (some ⟨w.heap.size + 1, 8, none⟩)) rfl (made_field rfl rfl (fldS2 _ ·)) ?_
        simp only [Act.put, List.setIfInBounds_toArray, List.set_cons_zero, List.set_cons_succ]
        refine mk_step (nv z.val) rfl (made_load rfl rfl b1 rfl uN rfl (iN _)) ?_
        simp only [Act.put, List.setIfInBounds_toArray, List.set_cons_zero, List.set_cons_succ]
        refine mk_step (.pointer (some ⟨w.heap.size + 1, 8, none⟩)) rfl (made_field rfl rfl (fldS2 _ ·)) ?_
        simp only [Act.put, List.setIfInBounds_toArray, List.set_cons_zero, List.set_cons_succ]
        refine mk_step (nv z.val) rfl (made_load rfl rfl b1 rfl uN rfl (iN _)) ?_
        simp only [Act.put, List.setIfInBounds_toArray, List.set_cons_zero, List.set_cons_succ]
        refine mk_step (nv zz.val) rfl (made_by (args := [nv z.val, nv z.val]) rfl rfl rfl (he_kMul _ ·) (fun W hW => kmul_p kzz.out (hf.ext hW))) ?_
        simp only [Act.put, List.setIfInBounds_toArray, List.set_cons_zero, List.set_cons_succ]
        exact mk_end
      case h2 =>
        refine prest_var _ _ rfl rfl rfl rfl rfl rfl rfl (hzN ·) (fun _ => rfl) (fun _ => rfl) (iN _) rfl (nc_one _) ?_
        intro gzz w4 hgzz bzz hE
        replace b0 := hE.block b0
        replace b1 := hE.block b1
        replace b2 := hE.block b2
        replace b3 := hE.block b3
        replace hf := hf.ext hE
        replace hx := hx.trans hE
        clear hE
        simp only [Act.put, List.setIfInBounds_toArray, List.set_cons_zero, List.set_cons_succ]
        clear hgzz
        go_upto_region 6 with (fail)
        refine' wp_made (m := 11) (A := _) 12 (by kernel_rfl) (by kernel_rfl) (by kernel_rfl) ?h1 ?h2
        case h1 =>
          refine mk_step (.pointer (some ⟨w.heap.size, 1, none⟩)) rfl (made_field rfl rfl (fldK1 _ ·)) ?_
          simp only [Act.put, List.setIfInBounds_toArray, List.set_cons_zero, List.set_cons_succ]
          refine mk_step (fv 59 b) rfl (made_load1 rfl rfl b0 rfl (isn_func ·)) ?_
          simp only [Act.put, List.setIfInBounds_toArray, List.set_cons_zero, List.set_cons_succ]
          refine mk_step (.pointer (some ⟨w.heap.size, 2, none⟩)) rfl (made_field rfl rfl (fldK2 _ ·)) ?_
          simp only [Act.put, List.setIfInBounds_toArray, List.set_cons_zero, List.set_cons_succ]
          refine mk_step (fv 60 b) rfl (made_load1 rfl rfl b0 rfl (isn_func ·)) ?_
          simp only [Act.put, List.setIfInBounds_toArray, List.set_cons_zero, List.set_cons_succ]
          refine mk_step (ptrTo (w.heap.size + 1 + 1)) rfl (made_field rfl rfl (fldT0 _ ·)) ?_
          simp only [Act.put, List.setIfInBounds_toArray, List.set_cons_zero, List.set_cons_succ]
          refine mk_step (nv X.val) rfl (made_load rfl rfl b2 rfl uN rfl (iN _)) ?_
          simp only [Act.put, List.setIfInBounds_toArray, List.set_cons_zero, List.set_cons_succ]
          refine mk_step (nv zz.val) rfl (made_load rfl rfl bzz rfl uN rfl (iN _)) ?_
          simp only [Act.put, List.setIfInBounds_toArray, List.set_cons_zero, List.set_cons_succ]
          refine mk_step (nv u.val) rfl (made_by (args := [nv X.val, nv zz.val]) rfl rfl rfl (he_kMul _ ·) (fun W hW => kmul_p ku.out (hf.ext hW))) ?_
          simp only [Act.put, List.setIfInBounds_toArray, List.set_cons_zero, List.set_cons_succ]
          refine mk_step (ptrTo (w.heap.size + 1)) rfl (made_field rfl rfl (fldS0 _ ·)) ?_
          simp only [Act.put, List.setIfInBounds_toArray, List.set_cons_zero, List.set_cons_succ]
          refine mk_step (nv x.val) rfl (made_load rfl rfl b1 rfl uN rfl (iN _)) ?_
          simp only [Act.put, List.setIfInBounds_toArray, List.set_cons_zero, List.set_cons_succ]
          refine mk_step (nv run.val) rfl (made_by (args := [nv u.val, nv x.val]) rfl rfl rfl (he_kSub _ ·) (fun W hW => ksub_p krun.out (hf.ext hW))) ?_
          simp only [Act.put, List.setIfInBounds_toArray, List.set_cons_zero, List.set_cons_succ]
          exact mk_end
        case h2 =>
          refine rest_var _ _ rfl rfl rfl rfl rfl rfl rfl rfl rfl (by kernel_rfl) (by kernel_rfl) (by kernel_rfl) rfl rfl (hzN ·) (fun _ => rfl) (fun _ => rfl) (iN _) rfl (nc_one _) ?_
          intro grun w5 hgrun brun hE
          refine NoPanic.normal ?_
          replace b0 := hE.block b0
          replace b1 := hE.block b1
          replace b2 := hE.block b2
          replace b3 := hE.block b3
          replace bzz := hE.block bzz
          replace hf := hf.ext hE
          replace hx := hx.trans hE
          clear hE
          simp only [Act.put, List.setIfInBounds_toArray, List.set_cons_zero, List.set_cons_succ]
          clear hgrun
          go_upto_region 7 with (fail)
          refine' wp_made (m := 16) (A := _) 17 (by kernel_rfl) (by kernel_rfl) (by kernel_rfl) ?h1 ?h2
          case h1 =>
            refine mk_step (.pointer (some ⟨w.heap.size, 1, none⟩)) rfl (made_field rfl rfl (fldK1 _ ·)) ?_
            simp only [Act.put, List.setIfInBounds_toArray, List.set_cons_zero, List.set_cons_succ]
            refine mk_step (fv 59 b) rfl (made_load1 rfl rfl b0 rfl (isn_func ·)) ?_
            simp only [Act.put, List.setIfInBounds_toArray, List.set_cons_zero, List.set_cons_succ]
            refine mk_step (.pointer (some ⟨w.heap.size, 2, none⟩)) rfl (made_field rfl rfl (fldK2 _ ·)) ?_
            simp only [Act.put, List.setIfInBounds_toArray, List.set_cons_zero, List.set_cons_succ]
            refine mk_step (fv 60 b) rfl (made_load1 rfl rfl b0 rfl (isn_func ·)) ?_
            simp only [Act.put, List.setIfInBounds_toArray, List.set_cons_zero, List.set_cons_succ]
            refine mk_step (.pointer (some ⟨w.heap.size + 1 + 1, 4, none⟩)) rfl (made_field rfl rfl (fldT1 _ ·)) ?_
            simp only [Act.put, List.setIfInBounds_toArray, List.set_cons_zero, List.set_cons_succ]
            refine mk_step (nv Y.val) rfl (made_load rfl rfl b2 rfl uN rfl (iN _)) ?_
            simp only [Act.put, List.setIfInBounds_toArray, List.set_cons_zero, List.set_cons_succ]
            refine mk_step (.pointer (some ⟨w.heap.size, 2, none⟩)) rfl (made_field rfl rfl (fldK2 _ ·)) ?_
            simp only [Act.put, List.setIfInBounds_toArray, List.set_cons_zero, List.set_cons_succ]
            refine mk_step (fv 60 b) rfl (made_load1 rfl rfl b0 rfl (isn_func ·)) ?_
            simp only [Act.put, List.setIfInBounds_toArray, List.set_cons_zero, List.set_cons_succ]
            refine mk_step (nv zz.val) rfl (made_load rfl rfl bzz rfl uN rfl (iN _)) ?_
            simp only [Act.put, List.setIfInBounds_toArray, List.set_cons_zero, List.set_cons_succ]
            refine mk_step (.pointer (some ⟨w.heap.size + 1, 8, none⟩)) rfl (made_field rfl rfl (fldS2 _ ·)) ?_
            simp only [Act.put, List.setIfInBounds_toArray, List.set_cons_zero, List.set_cons_succ]
            refine mk_step (nv z.val) rfl (made_load rfl rfl b1 rfl uN rfl (iN _)) ?_
            simp only [Act.put, List.setIfInBounds_toArray, List.set_cons_zero, List.set_cons_succ]
            refine mk_step (nv zzz.val) rfl (made_by (args := [nv zz.val, nv z.val]) rfl rfl rfl (he_kMul _ ·) (fun W hW => kmul_p kzzz.out (hf.ext hW))) ?_
            simp only [Act.put, List.setIfInBounds_toArray, List.set_cons_zero, List.set_cons_succ]
            refine mk_step (nv v.val) rfl (made_by (args := [nv Y.val, nv zzz.val]) rfl rfl rfl (he_kMul _ ·) (fun W hW => kmul_p kv.out (hf.ext hW))) ?_
            simp only [Act.put, List.setIfInBounds_toArray, List.set_cons_zero, List.set_cons_succ]
            refine mk_step (.pointer (some ⟨w.heap.size + 1, 4, none⟩)) rfl (made_field rfl rfl (fldS1 _ ·)) ?_
            simp only [Act.put, List.setIfInBounds_toArray, List.set_cons_zero, List.set_cons_succ]
            refine mk_step (nv y.val) rfl (made_load rfl rfl b1 rfl uN rfl (iN _)) ?_
            simp only [Act.put, List.setIfInBounds_toArray, List.set_cons_zero, List.set_cons_succ]
            refine mk_step (nv rise.val) rfl (made_by (args := [nv v.val, nv y.val]) rfl rfl rfl (he_kSub _ ·) (fun W hW => ksub_p krise.out (hf.ext hW))) ?_
            simp only [Act.put, List.setIfInBounds_toArray, List.set_cons_zero, List.set_cons_succ]
            exact mk_end
          case h2 =>
            refine rest_var _ _ rfl rfl rfl rfl rfl rfl rfl rfl rfl (by kernel_rfl) (by kernel_rfl) (by kernel_rfl) rfl rfl (hzN ·) (fun _ => rfl) (fun _ => rfl) (iN _) rfl (nc_one _) ?_
            intro grise w6 hgrise brise hE
            refine NoPanic.normal ?_
            replace b0 := hE.block b0
            replace b1 := hE.block b1
            replace b2 := hE.block b2
            replace b3 := hE.block b3
            replace bzz := hE.block bzz
            replace brun := hE.block brun
            replace hf := hf.ext hE
            replace hx := hx.trans hE
            clear hE
            simp only [Act.put, List.setIfInBounds_toArray, List.set_cons_zero, List.set_cons_succ]
            clear hgrise
            go_upto_region 8 with (fail)
            refine' wp_plain (m := 2) (A := _) (by kernel_rfl) ?h1 ?h2
            case h1 =>
              refine mk_step (nv run.val) rfl (made_load rfl rfl brun rfl uN rfl (iN _)) ?_
              simp only [Act.put, List.setIfInBounds_toArray, List.set_cons_zero, List.set_cons_succ]
              refine mk_step (.bool true) rfl (made_fun (args := [nv run.val]) rfl rfl (fun W => run_callFunc_in Try.func62 rfl rfl _ W) (fun W hW => isz_yes kr.out W)) ?_
              simp only [Act.put, List.setIfInBounds_toArray, List.set_cons_zero, List.set_cons_succ]
              exact mk_end
            case h2 =>
              refine prest_done rfl ?_
              intro w7 hE
              replace b0 := hE.block b0
              replace b1 := hE.block b1
              replace b2 := hE.block b2
              replace b3 := hE.block b3
              replace bzz := hE.block bzz
              replace brun := hE.block brun
              replace brise := hE.block brise
              replace hf := hf.ext hE
              replace hx := hx.trans hE
              clear hE
              go_upto_region 9 with (fail)
              refine' wp_plain (m := 2) (A := _) (by kernel_rfl) ?h1 ?h2
              case h1 =>
                refine mk_step (nv rise.val) rfl (made_load rfl rfl brise rfl uN rfl (iN _)) ?_
                simp only [Act.put, List.setIfInBounds_toArray, List.set_cons_zero, List.set_cons_succ]
                refine mk_step (.bool true) rfl (made_fun (args := [nv rise.val]) rfl rfl (fun W => run_callFunc_in Try.func62 rfl rfl _ W) (fun W hW => isz_yes ks.out W)) ?_
                simp only [Act.put, List.setIfInBounds_toArray, List.set_cons_zero, List.set_cons_succ]
                exact mk_end
              case h2 =>
                refine prest_done rfl ?_
                intro w8 hE
                replace b0 := hE.block b0
                replace b1 := hE.block b1
                replace b2 := hE.block b2
                replace b3 := hE.block b3
                replace bzz := hE.block bzz
                replace brun := hE.block brun
                replace brise := hE.block brise
                replace hf := hf.ext hE
                replace hx := hx.trans hE
                clear hE
                go_upto_region 10 with (fail)
                refine' wp_plain (m := 3) (A := _) (by kernel_rfl) ?h1 ?h2
                case h1 =>
                  refine mk_step (cv b) rfl (made_load rfl rfl b0 rfl Try.underlying60 rfl (iK _)) ?_
                  simp only [Act.put, List.setIfInBounds_toArray, List.set_cons_zero, List.set_cons_succ]
                  refine mk_step (sv x.val y.val z.val) rfl (made_load rfl rfl b1 rfl Try.underlying64 rfl (iS _ _ _)) ?_
                  simp only [Act.put, List.setIfInBounds_toArray, List.set_cons_zero, List.set_cons_succ]
                  refine mk_step (sv X3.val Y3.val Z3.val) rfl (made_fun (args := [cv b, sv x.val y.val z.val]) rfl rfl (fun W => run_callFunc_in Try.func41 rfl rfl _ W) (fun W hW => KT.out W (hf.ext hW))) ?_
                  simp only [Act.put, List.setIfInBounds_toArray, List.set_cons_zero, List.set_cons_succ]
                  exact mk_end
                case h2 =>
                  refine prest_store _ rfl rfl rfl rfl rfl rfl b3 (iS _ _ _) rfl (sc_one _ _ _) ?_
                  intro w9 hB hb
                  go_wp2
                  exact bodyPost_ret (results_cell_row rfl _ _ (w.heap.size + 1 + 1 + 1) 64 (sc X3.val Y3.val Z3.val) (0, 0) _ rfl hb Try.underlying64 rfl (by kernel_rfl)) rfl ⟨rfl, hx.new hB (by omega)⟩
set_option maxRecDepth 100000 in
set_option maxHeartbeats 8000000 in
theorem plus_opp {b : Nat} (x y z X Y : Fe) (hz : z.val ≠ 0) (hr : (runOf x z X).val = 0) (hs : (riseOf y z Y).val ≠ 0) {w : World} (hF : Fp w b) :
    Calls Try.prog 37 #[cv b, sv x.val y.val z.val, qv X.val Y.val false] w fun e w' => e = .returned (sv 0 0 0) ∧ Ext w w' := by
  obtain ⟨zz, hzz⟩ : ∃ t : Fe, t = z * z := ⟨_, rfl⟩
  obtain ⟨u, hu⟩ : ∃ t : Fe, t = X * zz := ⟨_, rfl⟩
  obtain ⟨run, hrun⟩ : ∃ t : Fe, t = u - x := ⟨_, rfl⟩
  obtain ⟨zzz, hzzz⟩ : ∃ t : Fe, t = zz * z := ⟨_, rfl⟩
  obtain ⟨v, hv⟩ : ∃ t : Fe, t = Y * zzz := ⟨_, rfl⟩
  obtain ⟨rise, hrise⟩ : ∃ t : Fe, t = v - y := ⟨_, rfl⟩
  have h1 : runOf x z X = run := by subst hrun hu hzz; rfl
  have h2 : riseOf y z Y = rise := by subst hrise hv hzzz hzz; rfl
  rw [h1] at hr
  rw [h2] at hs
  clear h1 h2
  have kzz := veil hzz
  have ku := veil hu
  have krun := veil hrun
  have kzzz := veil hzzz
  have kv := veil hv
  have krise := veil hrise
  clear hrise hv hzzz hrun hu hzz
  have kz0 := veil hz
  have kr := veil hr
  have ks := veil hs
  clear hz hr hs
  unfold cv sv qv cc fv sc qc
  go_enter Try.func37, Try.ntmps37
  go_upto_region 1 with (fail)
  obtain ⟨hx, b0, b1, b2, b3⟩ := blocks4 w (.cells #[.func (.func 58) #[ptrTo b] #[], .func (.func 59) #[ptrTo b] #[], .func (.func 60) #[ptrTo b] #[], .func (.func 61) #[ptrTo b] #[]] 60) (.cells #[.int .u64 (wd (x.val) 0), .int .u64 (wd (x.val) 1), .int .u64 (wd (x.val) 2), .int .u64 (wd (x.val) 3), .int .u64 (wd (y.val) 0), .int .u64 (wd (y.val) 1), .int .u64 (wd (y.val) 2), .int .u64 (wd (y.val) 3), .int .u64 (wd (z.val) 0), .int .u64 (wd (z.val) 1), .int .u64 (wd (z.val) 2), .int .u64 (wd (z.val) 3)] 64) (.cells #[.int .u64 (wd (X.val) 0), .int .u64 (wd (X.val) 1), .int .u64 (wd (X.val) 2), .int .u64 (wd (X.val) 3), .int .u64 (wd (Y.val) 0), .int .u64 (wd (Y.val) 1), .int .u64 (wd (Y.val) 2), .int .u64 (wd (Y.val) 3), .bool (false)] 26) (.cells #[.int .u64 0, .int .u64 0, .int .u64 0, .int .u64 0, .int .u64 0, .int .u64 0, .int .u64 0, .int .u64 0, .int .u64 0, .int .u64 0, .int .u64 0, .int .u64 0] 64)
  generalize (((w.alloc (.cells #[.func (.func 58) #[ptrTo b] #[], .func (.func 59) #[ptrTo b] #[], .func (.func 60) #[ptrTo b] #[], .func (.func 61) #[ptrTo b] #[]] 60)).alloc (.cells #[.int .u64 (wd (x.val) 0), .int .u64 (wd (x.val) 1), .int .u64 (wd (x.val) 2), .int .u64 (wd (x.val) 3), .int .u64 (wd (y.val) 0), .int .u64 (wd (y.val) 1), .int .u64 (wd (y.val) 2), .int .u64 (wd (y.val) 3), .int .u64 (wd (z.val) 0), .int .u64 (wd (z.val) 1), .int .u64 (wd (z.val) 2), .int .u64 (wd (z.val) 3)] 64)).alloc (.cells #[.int .u64 (wd (X.val) 0), .int .u64 (wd (X.val) 1), .int .u64 (wd (X.val) 2), .int .u64 (wd (X.val) 3), .int .u64 (wd (Y.val) 0), .int .u64 (wd (Y.val) 1), .int .u64 (wd (Y.val) 2), .int .u64 (wd (Y.val) 3), .bool (false)] 26)).alloc (.cells #[.int .u64 0, .int .u64 0, .int .u64 0, .int .u64 0, .int .u64 0, .int .u64 0, .int .u64 0, .int .u64 0, .int .u64 0, .int .u64 0, .int .u64 0, .int .u64 0] 64) = w1 at *
  have b0 : w1.heap[w.heap.size]? = some (.cells (cc b) 60 (0, 0)) := b0
  have b1 : w1.heap[w.heap.size + 1]? = some (.cells (sc x.val y.val z.val) 64 (0, 0)) := b1
  have b2 : w1.heap[w.heap.size + 1 + 1]? = some (.cells (qc X.val Y.val false) 26 (0, 0)) := b2
  have hf := hF.ext hx
  clear hF
  refine' wp_plain (m := 2) (A := _) (by kernel_rfl) ?h1 ?h2
  case h1 =>
    refine mk_step (.pointer (some ⟨w.heap.size + 1 + 1, 8, none⟩)) rfl (made_field rfl rfl (fldT2 _ ·)) ?_
    simp only [Act.put, List.setIfInBounds_toArray, List.set_cons_zero, List.set_cons_succ]
    refine mk_step (.bool false) rfl (made_load1 rfl rfl b2 rfl (isn_bool ·)) ?_
    simp only [Act.put, List.setIfInBounds_toArray, List.set_cons_zero, List.set_cons_succ]
    exact mk_end
  case h2 =>
    refine prest_done rfl ?_
    intro w2 hE
    replace b0 := hE.block b0
    replace b1 := hE.block b1
    replace b2 := hE.block b2
    replace b3 := hE.block b3
    replace hf := hf.ext hE
    replace hx := hx.trans hE
    clear hE
    go_upto_region 3 with (fail)
    refine' wp_plain (m := 3) (A := _) (by kernel_rfl) ?h1 ?h2
    case h1 =>
      refine mk_step (.pointer (some ⟨w.heap.size + 1, 8, none⟩)) rfl (made_field rfl rfl (fldS2 _ ·)) ?_
      simp only [Act.put, List.setIfInBounds_toArray, List.set_cons_zero, List.set_cons_succ]
      refine mk_step (nv z.val) rfl (made_load rfl rfl b1 rfl uN rfl (iN _)) ?_
      simp only [Act.put, List.setIfInBounds_toArray, List.set_cons_zero, List.set_cons_succ]
      refine mk_step (.bool false) rfl (made_fun (args := [nv z.val]) rfl rfl (fun W => run_callFunc_in Try.func62 rfl rfl _ W) (fun W hW => isz_no kz0.out (fe_top _) W)) ?_
      simp only [Act.put, List.setIfInBounds_toArray, List.set_cons_zero, List.set_cons_succ]
      exact mk_end
    case h2 =>
      refine prest_done rfl ?_
      intro w3 hE
      replace b0 := hE.block b0
      replace b1 := hE.block b1
      replace b2 := hE.block b2
      replace b3 := hE.block b3
      replace hf := hf.ext hE
      replace hx := hx.trans hE
      clear hE
      go_upto_region 5 with (fail)
      refine' wp_plain (m := 7) (A := _) (by kernel_rfl) ?h1 ?h2
      case h1 =>
        refine mk_step (.pointer (some ⟨w.heap.size, 2, none⟩)) rfl (made_field rfl rfl (fldK2 _ ·)) ?_
        simp only [Act.put, List.setIfInBounds_toArray, List.set_cons_zero, List.set_cons_succ]
        refine mk_step (fv 60 b) rfl (made_load1 rfl rfl b0 rfl (isn_func ·)) ?_
        simp only [Act.put, List.setIfInBounds_toArray, List.set_cons_zero, List.set_cons_succ]
        refine mk_step (.pointer (some ⟨w.heap.size + 1, 8, none⟩)) rfl (made_field rfl rfl (fldS2 _ ·)) ?_
        simp only [Act.put, List.setIfInBounds_toArray, List.set_cons_zero, List.set_cons_succ]
        refine mk_step (nv z.val) rfl (made_load rfl rfl b1 rfl uN rfl (iN _)) ?_
        simp only [Act.put, List.setIfInBounds_toArray, List.set_cons_zero, List.set_cons_succ]
        refine mk_step (.pointer (some ⟨w.heap.size + 1, 8, none⟩)) rfl (made_field rfl rfl (fldS2 _ ·)) ?_
        simp only [Act.put, List.setIfInBounds_toArray, List.set_cons_zero, List.set_cons_succ]
        refine mk_step (nv z.val) rfl (made_load rfl rfl b1 rfl uN rfl (iN _)) ?_
        simp only [Act.put, List.setIfInBounds_toArray, List.set_cons_zero, List.set_cons_succ]
        refine mk_step (nv zz.val) rfl (made_by (args := [nv z.val, nv z.val]) rfl rfl rfl (he_kMul _ ·) (fun W hW => kmul_p kzz.out (hf.ext hW))) ?_
        simp only [Act.put, List.setIfInBounds_toArray, List.set_cons_zero, List.set_cons_succ]
        exact mk_end
      case h2 =>
        refine prest_var _ _ rfl rfl rfl rfl rfl rfl rfl (hzN ·) (fun _ => rfl) (fun _ => rfl) (iN _) rfl (nc_one _) ?_
        intro gzz w4 hgzz bzz hE
        replace b0 := hE.block b0
        replace b1 := hE.block b1
        replace b2 := hE.block b2
        replace b3 := hE.block b3
        replace hf := hf.ext hE
        replace hx := hx.trans hE
        clear hE
        simp only [Act.put, List.setIfInBounds_toArray, List.set_cons_zero, List.set_cons_succ]
        clear hgzz
        go_upto_region 6 with (fail)
        refine' wp_made (m := 11) (A := _) 12 (by kernel_rfl) (by kernel_rfl) (by kernel_rfl) ?h1 ?h2
        case h1 =>
          refine mk_step (.pointer (some ⟨w.heap.size, 1, none⟩)) rfl (made_field rfl rfl (fldK1 _ ·)) ?_
          simp only [Act.put, List.setIfInBounds_toArray, List.set_cons_zero, List.set_cons_succ]
          refine mk_step (fv 59 b) rfl (made_load1 rfl rfl b0 rfl (isn_func ·)) ?_
          simp only [Act.put, List.setIfInBounds_toArray, List.set_cons_zero, List.set_cons_succ]
          refine mk_step (.pointer (some ⟨w.heap.size, 2, none⟩)) rfl (made_field rfl rfl (fldK2 _ ·)) ?_
          simp only [Act.put, List.setIfInBounds_toArray, List.set_cons_zero, List.set_cons_succ]
          refine mk_step (fv 60 b) rfl (made_load1 rfl rfl b0 rfl (isn_func ·)) ?_
          simp only [Act.put, List.setIfInBounds_toArray, List.set_cons_zero, List.set_cons_succ]
          refine mk_step (ptrTo (w.heap.size + 1 + 1)) rfl (made_field rfl rfl (fldT0 _ ·)) ?_
          simp only [Act.put, List.setIfInBounds_toArray, List.set_cons_zero, List.set_cons_succ]
          refine mk_step (nv X.val) rfl (made_load rfl rfl b2 rfl uN rfl (iN _)) ?_
          simp only [Act.put, List.setIfInBounds_toArray, List.set_cons_zero, List.set_cons_succ]
          refine mk_step (nv zz.val) rfl (made_load rfl rfl bzz rfl uN rfl (iN _)) ?_
          simp only [Act.put, List.setIfInBounds_toArray, List.set_cons_zero, List.set_cons_succ]
          refine mk_step (nv u.val) rfl (made_by (args := [nv X.val, nv zz.val]) rfl rfl rfl (he_kMul _ ·) (fun W hW => kmul_p ku.out (hf.ext hW))) ?_
          simp only [Act.put, List.setIfInBounds_toArray, List.set_cons_zero, List.set_cons_succ]
          refine mk_step (ptrTo (w.heap.size + 1)) rfl (made_field rfl rfl (fldS0 _ ·)) ?_
          simp only [Act.put, List.setIfInBounds_toArray, List.set_cons_zero, List.set_cons_succ]
          refine mk_step (nv x.val) rfl (made_load rfl rfl b1 rfl uN rfl (iN _)) ?_
          simp only [Act.put, List.setIfInBounds_toArray, List.set_cons_zero, List.set_cons_succ]
          refine mk_step (nv run.val) rfl (made_by (args := [nv u.val, nv x.val]) rfl rfl rfl (he_kSub _ ·) (fun W hW => ksub_p krun.out (hf.ext hW))) ?_
          simp only [Act.put, List.setIfInBounds_toArray, List.set_cons_zero, List.set_cons_succ]
          exact mk_end
        case h2 =>
          refine rest_var _ _ rfl rfl rfl rfl rfl rfl rfl rfl rfl (by kernel_rfl) (by kernel_rfl) (by kernel_rfl) rfl rfl (hzN ·) (fun _ => rfl) (fun _ => rfl) (iN _) rfl (nc_one _) ?_
          intro grun w5 hgrun brun hE
          refine NoPanic.normal ?_
          replace b0 := hE.block b0
          replace b1 := hE.block b1
          replace b2 := hE.block b2
          replace b3 := hE.block b3
          replace bzz := hE.block bzz
          replace hf := hf.ext hE
          replace hx := hx.trans hE
          clear hE
          simp only [Act.put, List.setIfInBounds_toArray, List.set_cons_zero, List.set_cons_succ]
          clear hgrun
          go_upto_region 7 with (fail)
          refine' wp_made (m := 16) (A := _) 17 (by kernel_rfl) (by kernel_rfl) (by kernel_rfl) ?h1 ?h2
          case h1 =>
            refine mk_step (.pointer (some ⟨w.heap.size, 1, none⟩)) rfl (made_field rfl rfl (fldK1 _ ·)) ?_
            simp only [Act.put, List.setIfInBounds_toArray, List.set_cons_zero, List.set_cons_succ]
            refine mk_step (fv 59 b) rfl (made_load1 rfl rfl b0 rfl (isn_func ·)) ?_
            simp only [Act.put, List.setIfInBounds_toArray, List.set_cons_zero, List.set_cons_succ]
            refine mk_step (.pointer (some ⟨w.heap.size, 2, none⟩)) rfl (made_field rfl rfl (fldK2 _ ·)) ?_
            simp only [Act.put, List.setIfInBounds_toArray, List.set_cons_zero, List.set_cons_succ]
            refine mk_step (fv 60 b) rfl (made_load1 rfl rfl b0 rfl (isn_func ·)) ?_
            simp only [Act.put, List.setIfInBounds_toArray, List.set_cons_zero, List.set_cons_succ]
            refine mk_step (.pointer (some ⟨w.heap.size + 1 + 1, 4, none⟩)) rfl (made_field rfl rfl (fldT1 _ ·)) ?_
            simp only [Act.put, List.setIfInBounds_toArray, List.set_cons_zero, List.set_cons_succ]
            refine mk_step (nv Y.val) rfl (made_load rfl rfl b2 rfl uN rfl (iN _)) ?_
            simp only [Act.put, List.setIfInBounds_toArray, List.set_cons_zero, List.set_cons_succ]
            refine mk_step (.pointer (some ⟨w.heap.size, 2, none⟩)) rfl (made_field rfl rfl (fldK2 _ ·)) ?_
            simp only [Act.put, List.setIfInBounds_toArray, List.set_cons_zero, List.set_cons_succ]
            refine mk_step (fv 60 b) rfl (made_load1 rfl rfl b0 rfl (isn_func ·)) ?_
            simp only [Act.put, List.setIfInBounds_toArray, List.set_cons_zero, List.set_cons_succ]
            refine mk_step (nv zz.val) rfl (made_load rfl rfl bzz rfl uN rfl (iN _)) ?_
            simp only [Act.put, List.setIfInBounds_toArray, List.set_cons_zero, List.set_cons_succ]
            refine mk_step (.pointer (some ⟨w.heap.size + 1, 8, none⟩)) rfl (made_field rfl rfl (fldS2 _ ·)) ?_
            simp only [Act.put, List.setIfInBounds_toArray, List.set_cons_zero, List.set_cons_succ]
            refine mk_step (nv z.val) rfl (made_load rfl rfl b1 rfl uN rfl (iN _)) ?_
            simp only [Act.put, List.setIfInBounds_toArray, List.set_cons_zero, List.set_cons_succ]
            refine mk_step (nv zzz.val) rfl (made_by (args := [nv zz.val, nv z.val]) rfl rfl rfl (he_kMul _ ·) (fun W hW => kmul_p kzzz.out (hf.ext hW))) ?_
            simp only [Act.put, List.setIfInBounds_toArray, List.set_cons_zero, List.set_cons_succ]
            refine mk_step (nv v.val) rfl (made_by (args := [nv Y.val, nv zzz.val]) rfl rfl rfl (he_kMul _ ·) (fun W hW => kmul_p kv.out (hf.ext hW))) ?_
            simp only [Act.put, List.setIfInBounds_toArray, List.set_cons_zero, List.set_cons_succ]
            refine mk_step (.pointer (some ⟨w.heap.size + 1, 4, none⟩)) rfl (made_field rfl rfl (fldS1 _ ·)) ?_
            simp only [Act.put, List.setIfInBounds_toArray, List.set_cons_zero, List.set_cons_succ]
            refine mk_step (nv y.val) rfl (made_load rfl rfl b1 rfl uN rfl (iN _)) ?_
            simp only [Act.put, List.setIfInBounds_toArray, List.set_cons_zero, List.set_cons_succ]
            refine mk_step (nv rise.val) rfl (made_by (args := [nv v.val, nv y.val]) rfl rfl rfl (he_kSub _ ·) (fun W hW => ksub_p krise.out (hf.ext hW))) ?_
            simp only [Act.put, List.setIfInBounds_toArray, List.set_cons_zero, List.set_cons_succ]
            exact mk_end
          case h2 =>
            refine rest_var _ _ rfl rfl rfl rfl rfl rfl rfl rfl rfl (by kernel_rfl) (by kernel_rfl) (by kernel_rfl) rfl rfl (hzN ·) (fun _ => rfl) (fun _ => rfl) (iN _) rfl (nc_one _) ?_
            intro grise w6 hgrise brise hE
            refine NoPanic.normal ?_
            replace b0 := hE.block b0
            replace b1 := hE.block b1
            replace b2 := hE.block b2
            replace b3 := hE.block b3
            replace bzz := hE.block bzz
            replace brun := hE.block brun
            replace hf := hf.ext hE
            replace hx := hx.trans hE
            clear hE
            simp only [Act.put, List.setIfInBounds_toArray, List.set_cons_zero, List.set_cons_succ]
            clear hgrise
            go_upto_region 8 with (fail)
            refine' wp_plain (m := 2) (A := _) (by kernel_rfl) ?h1 ?h2
            case h1 =>
              refine mk_step (nv run.val) rfl (made_load rfl rfl brun rfl uN rfl (iN _)) ?_
              simp only [Act.put, List.setIfInBounds_toArray, List.set_cons_zero, List.set_cons_succ]
              refine mk_step (.bool true) rfl (made_fun (args := [nv run.val]) rfl rfl (fun W => run_callFunc_in Try.func62 rfl rfl _ W) (fun W hW => isz_yes kr.out W)) ?_
              simp only [Act.put, List.setIfInBounds_toArray, List.set_cons_zero, List.set_cons_succ]
              exact mk_end
            case h2 =>
              refine prest_done rfl ?_
              intro w7 hE
              replace b0 := hE.block b0
              replace b1 := hE.block b1
              replace b2 := hE.block b2
              replace b3 := hE.block b3
              replace bzz := hE.block bzz
              replace brun := hE.block brun
              replace brise := hE.block brise
              replace hf := hf.ext hE
              replace hx := hx.trans hE
              clear hE
              go_upto_region 9 with (fail)
              refine' wp_plain (m := 2) (A := _) (by kernel_rfl) ?h1 ?h2
              case h1 =>
                refine mk_step (nv rise.val) rfl (made_load rfl rfl brise rfl uN rfl (iN _)) ?_
                simp only [Act.put, List.setIfInBounds_toArray, List.set_cons_zero, List.set_cons_succ]
                refine mk_step (.bool false) rfl (made_fun (args := [nv rise.val]) rfl rfl (fun W => run_callFunc_in Try.func62 rfl rfl _ W) (fun W hW => isz_no ks.out (fe_top _) W)) ?_
                simp only [Act.put, List.setIfInBounds_toArray, List.set_cons_zero, List.set_cons_succ]
                exact mk_end
              case h2 =>
                refine prest_done rfl ?_
                intro w8 hE
                replace b0 := hE.block b0
                replace b1 := hE.block b1
                replace b2 := hE.block b2
                replace b3 := hE.block b3
                replace bzz := hE.block bzz
                replace brun := hE.block brun
                replace brise := hE.block brise
                replace hf := hf.ext hE
                replace hx := hx.trans hE
                clear hE
                go_upto_region 11 with (fail)
                refine' wp_plain (m := 1) (A := _) (by kernel_rfl) ?h1 ?h2
                case h1 =>
                  refine mk_step (sv 0 0 0) rfl (made_build rfl rfl (bldS0 ·)) ?_
                  simp only [Act.put, List.setIfInBounds_toArray, List.set_cons_zero, List.set_cons_succ]
                  exact mk_end
                case h2 =>
                  refine prest_store _ rfl rfl rfl rfl rfl rfl b3 (iS _ _ _) rfl (sc_one _ _ _) ?_
                  intro w9 hB hb
                  go_wp2
                  exact bodyPost_ret (results_cell_row rfl _ _ (w.heap.size + 1 + 1 + 1) 64 (sc 0 0 0) (0, 0) _ rfl hb Try.underlying64 rfl (by kernel_rfl)) rfl ⟨rfl, hx.new hB (by omega)⟩
set_option maxRecDepth 100000 in
set_option maxHeartbeats 8000000 in
theorem plus_else {b : Nat} (x y z X Y : Fe) (hz : z.val ≠ 0) (hr : (runOf x z X).val ≠ 0) {w : World} (hF : Fp w b) :
    Calls Try.prog 37 #[cv b, sv x.val y.val z.val, qv X.val Y.val false] w fun e w' => e = .returned (sv (plus3 x y z X Y).1.val (plus3 x y z X Y).2.1.val (plus3 x y z X Y).2.2.val) ∧ Ext w w' := by
  obtain ⟨zz, hzz⟩ : ∃ t : Fe, t = z * z := ⟨_, rfl⟩
  obtain ⟨u, hu⟩ : ∃ t : Fe, t = X * zz := ⟨_, rfl⟩
  obtain ⟨run, hrun⟩ : ∃ t : Fe, t = u - x := ⟨_, rfl⟩
  obtain ⟨zzz, hzzz⟩ : ∃ t : Fe, t = zz * z := ⟨_, rfl⟩
  obtain ⟨v, hv⟩ : ∃ t : Fe, t = Y * zzz := ⟨_, rfl⟩
  obtain ⟨rise, hrise⟩ : ∃ t : Fe, t = v - y := ⟨_, rfl⟩
  obtain ⟨sq, hsq⟩ : ∃ t : Fe, t = run * run := ⟨_, rfl⟩
  obtain ⟨cube, hcube⟩ : ∃ t : Fe, t = sq * run := ⟨_, rfl⟩
  obtain ⟨cross, hcross⟩ : ∃ t : Fe, t = x * sq := ⟨_, rfl⟩
  obtain ⟨rr, hrr⟩ : ∃ t : Fe, t = rise * rise := ⟨_, rfl⟩
  obtain ⟨r1, hr1⟩ : ∃ t : Fe, t = rr - cube := ⟨_, rfl⟩
  obtain ⟨c2, hc2⟩ : ∃ t : Fe, t = cross + cross := ⟨_, rfl⟩
  obtain ⟨x3, hx3⟩ : ∃ t : Fe, t = r1 - c2 := ⟨_, rfl⟩
  obtain ⟨d, hd⟩ : ∃ t : Fe, t = cross - x3 := ⟨_, rfl⟩
  obtain ⟨rd, hrd⟩ : ∃ t : Fe, t = rise * d := ⟨_, rfl⟩
  obtain ⟨yc, hyc⟩ : ∃ t : Fe, t = y * cube := ⟨_, rfl⟩
  obtain ⟨y3, hy3⟩ : ∃ t : Fe, t = rd - yc := ⟨_, rfl⟩
  obtain ⟨z3, hz3⟩ : ∃ t : Fe, t = z * run := ⟨_, rfl⟩
  have h1 : runOf x z X = run := by subst hrun hu hzz; rfl
  rw [h1] at hr
  clear h1
  have hfin : plus3 x y z X Y = (x3, y3, z3) := by
    subst hz3 hy3 hyc hrd hd hx3 hc2 hr1 hrr hcross hcube hsq hrise hv hzzz hrun hu hzz
    rfl
  rw [hfin]
  clear hfin
  have kzz := veil hzz
  have ku := veil hu
  have krun := veil hrun
  have kzzz := veil hzzz
  have kv := veil hv
  have krise := veil hrise
  have ksq := veil hsq
  have kcube := veil hcube
  have kcross := veil hcross
  have krr := veil hrr
  have kr1 := veil hr1
  have kc2 := veil hc2
  have kx3 := veil hx3
  have kd := veil hd
  have krd := veil hrd
  have kyc := veil hyc
  have ky3 := veil hy3
  have kz3 := veil hz3
  clear hz3 hy3 hyc hrd hd hx3 hc2 hr1 hrr hcross hcube hsq hrise hv hzzz hrun hu hzz
  have kz0 := veil hz
  have kr := veil hr
  clear hz hr
  show Calls Try.prog 37 #[cv b, sv x.val y.val z.val, qv X.val Y.val false] w fun e w' => e = .returned (sv x3.val y3.val z3.val) ∧ Ext w w'
  unfold cv sv qv cc fv sc qc
  go_enter Try.func37, Try.ntmps37
  go_upto_region 1 with (fail)
  obtain ⟨hx, b0, b1, b2, b3⟩ := blocks4 w (.cells #[.func (.func 58) #[ptrTo b] #[], .func (.func 59) #[ptrTo b] #[], .func (.func 60) #[ptrTo b] #[], .func (.func 61) #[ptrTo b] #[]] 60) (.cells #[.int .u64 (wd (x.val) 0), .int .u64 (wd (x.val) 1), .int .u64 (wd (x.val) 2), .int .u64 (wd (x.val) 3), .int .u64 (wd (y.val) 0), .int .u64 (wd (y.val) 1), .int .u64 (wd (y.val) 2), .int .u64 (wd (y.val) 3), .int .u64 (wd (z.val) 0), .int .u64 (wd (z.val) 1), .int .u64 (wd (z.val) 2), .int .u64 (wd (z.val) 3)] 64) (.cells #[.int .u64 (wd (X.val) 0), .int .u64 (wd (X.val) 1), .int .u64 (wd (X.val) 2), .int .u64 (wd (X.val) 3), .int .u64 (wd (Y.val) 0), .int .u64 (wd (Y.val) 1), .int .u64 (wd (Y.val) 2), .int .u64 (wd (Y.val) 3), .bool (false)] 26) (.cells #[.int .u64 0, .int .u64 0, .int .u64 0, .int .u64 0, .int .u64 0, .int .u64 0, .int .u64 0, .int .u64 0, .int .u64 0, .int .u64 0, .int .u64 0, .int .u64 0] 64)
  generalize (((w.alloc (.cells #[.func (.func 58) #[ptrTo b] #[], .func (.func 59) #[ptrTo b] #[], .func (.func 60) #[ptrTo b] #[], .func (.func 61) #[ptrTo b] #[]] 60)).alloc (.cells #[.int .u64 (wd (x.val) 0), .int .u64 (wd (x.val) 1), .int .u64 (wd (x.val) 2), .int .u64 (wd (x.val) 3), .int .u64 (wd (y.val) 0), .int .u64 (wd (y.val) 1), .int .u64 (wd (y.val) 2), .int .u64 (wd (y.val) 3), .int .u64 (wd (z.val) 0), .int .u64 (wd (z.val) 1), .int .u64 (wd (z.val) 2), .int .u64 (wd (z.val) 3)] 64)).alloc (.cells #[.int .u64 (wd (X.val) 0), .int .u64 (wd (X.val) 1), .int .u64 (wd (X.val) 2), .int .u64 (wd (X.val) 3), .int .u64 (wd (Y.val) 0), .int .u64 (wd (Y.val) 1), .int .u64 (wd (Y.val) 2), .int .u64 (wd (Y.val) 3), .bool (false)] 26)).alloc (.cells #[.int .u64 0, .int .u64 0, .int .u64 0, .int .u64 0, .int .u64 0, .int .u64 0, .int .u64 0, .int .u64 0, .int .u64 0, .int .u64 0, .int .u64 0, .int .u64 0] 64) = w1 at *
  have b0 : w1.heap[w.heap.size]? = some (.cells (cc b) 60 (0, 0)) := b0
  have b1 : w1.heap[w.heap.size + 1]? = some (.cells (sc x.val y.val z.val) 64 (0, 0)) := b1
  have b2 : w1.heap[w.heap.size + 1 + 1]? = some (.cells (qc X.val Y.val false) 26 (0, 0)) := b2
  have hf := hF.ext hx
  clear hF
  refine' wp_plain (m := 2) (A := _) (by kernel_rfl) ?h1 ?h2
  case h1 =>
    refine mk_step (.pointer (some ⟨w.heap.size + 1 + 1, 8, none⟩)) rfl (made_field rfl rfl (fldT2 _ ·)) ?_
    simp only [Act.put, List.setIfInBounds_toArray, List.set_cons_zero, List.set_cons_succ]
    refine mk_step (.bool false) rfl (made_load1 rfl rfl b2 rfl (isn_bool ·)) ?_
    simp only [Act.put, List.setIfInBounds_toArray, List.set_cons_zero, List.set_cons_succ]
    exact mk_end
  case h2 =>
    refine prest_done rfl ?_
    intro w2 hE
    replace b0 := hE.block b0
    replace b1 := hE.block b1
    replace b2 := hE.block b2
    replace b3 := hE.block b3
    replace hf := hf.ext hE
    replace hx := hx.trans hE
    clear hE
    go_upto_region 3 with (fail)
    refine' wp_plain (m := 3) (A := _) (by kernel_rfl) ?h1 ?h2
    case h1 =>
      refine mk_step (.pointer (some ⟨w.heap.size + 1, 8, none⟩)) rfl (made_field rfl rfl (fldS2 _ ·)) ?_
      simp only [Act.put, List.setIfInBounds_toArray, List.set_cons_zero, List.set_cons_succ]
      refine mk_step (nv z.val) rfl (made_load rfl rfl b1 rfl uN rfl (iN _)) ?_
      simp only [Act.put, List.setIfInBounds_toArray, List.set_cons_zero, List.set_cons_succ]
      refine mk_step (.bool false) rfl (made_fun (args := [nv z.val]) rfl rfl (fun W => run_callFunc_in Try.func62 rfl rfl _ W) (fun W hW => isz_no kz0.out (fe_top _) W)) ?_
      simp only [Act.put, List.setIfInBounds_toArray, List.set_cons_zero, List.set_cons_succ]
      exact mk_end
    case h2 =>
      refine prest_done rfl ?_
      intro w3 hE
      replace b0 := hE.block b0
      replace b1 := hE.block b1
      replace b2 := hE.block b2
      replace b3 := hE.block b3
      replace hf := hf.ext hE
      replace hx := hx.trans hE
      clear hE
      go_upto_region 5 with (fail)
      refine' wp_plain (m := 7) (A := _) (by kernel_rfl) ?h1 ?h2
      case h1 =>
        refine mk_step (.pointer (some ⟨w.heap.size, 2, none⟩)) rfl (made_field rfl rfl (fldK2 _ ·)) ?_
        simp only [Act.put, List.setIfInBounds_toArray, List.set_cons_zero, List.set_cons_succ]
        refine mk_step (fv 60 b) rfl (made_load1 rfl rfl b0 rfl (isn_func ·)) ?_
        simp only [Act.put, List.setIfInBounds_toArray, List.set_cons_zero, List.set_cons_succ]
        refine mk_step (.pointer (some ⟨w.heap.size + 1, 8, none⟩)) rfl (made_field rfl rfl (fldS2 _ ·)) ?_
        simp only [Act.put, List.setIfInBounds_toArray, List.set_cons_zero, List.set_cons_succ]
        refine mk_step (nv z.val) rfl (made_load rfl rfl b1 rfl uN rfl (iN _)) ?_
        simp only [Act.put, List.setIfInBounds_toArray, List.set_cons_zero, List.set_cons_succ]
        refine mk_step (.pointer (some ⟨w.heap.size + 1, 8, none⟩)) rfl (made_field rfl rfl (fldS2 _ ·)) ?_
        simp only [Act.put, List.setIfInBounds_toArray, List.set_cons_zero, List.set_cons_succ]
        refine mk_step (nv z.val) rfl (made_load rfl rfl b1 rfl uN rfl (iN _)) ?_
        simp only [Act.put, List.setIfInBounds_toArray, List.set_cons_zero, List.set_cons_succ]
        refine mk_step (nv zz.val) rfl (made_by (args := [nv z.val, nv z.val]) rfl rfl rfl (he_kMul _ ·) (fun W hW => kmul_p kzz.out (hf.ext hW))) ?_
        simp only [Act.put, List.setIfInBounds_toArray, List.set_cons_zero, List.set_cons_succ]
        exact mk_end
      case h2 =>
        refine prest_var _ _ rfl rfl rfl rfl rfl rfl rfl (hzN ·) (fun _ => rfl) (fun _ => rfl) (iN _) rfl (nc_one _) ?_
        intro gzz w4 hgzz bzz hE
        replace b0 := hE.block b0
        replace b1 := hE.block b1
        replace b2 := hE.block b2
        replace b3 := hE.block b3
        replace hf := hf.ext hE
        replace hx := hx.trans hE
        clear hE
        simp only [Act.put, List.setIfInBounds_toArray, List.set_cons_zero, List.set_cons_succ]
        clear hgzz
        go_upto_region 6 with (fail)
        refine' wp_made (m := 11) (A := _) 12 (by kernel_rfl) (by kernel_rfl) (by kernel_rfl) ?h1 ?h2
        case h1 =>
          refine mk_step (.pointer (some ⟨w.heap.size, 1, none⟩)) rfl (made_field rfl rfl (fldK1 _ ·)) ?_
          simp only [Act.put, List.setIfInBounds_toArray, List.set_cons_zero, List.set_cons_succ]
          refine mk_step (fv 59 b) rfl (made_load1 rfl rfl b0 rfl (isn_func ·)) ?_
          simp only [Act.put, List.setIfInBounds_toArray, List.set_cons_zero, List.set_cons_succ]
          refine mk_step (.pointer (some ⟨w.heap.size, 2, none⟩)) rfl (made_field rfl rfl (fldK2 _ ·)) ?_
          simp only [Act.put, List.setIfInBounds_toArray, List.set_cons_zero, List.set_cons_succ]
          refine mk_step (fv 60 b) rfl (made_load1 rfl rfl b0 rfl (isn_func ·)) ?_
          simp only [Act.put, List.setIfInBounds_toArray, List.set_cons_zero, List.set_cons_succ]
          refine mk_step (ptrTo (w.heap.size + 1 + 1)) rfl (made_field rfl rfl (fldT0 _ ·)) ?_
          simp only [Act.put, List.setIfInBounds_toArray, List.set_cons_zero, List.set_cons_succ]
          refine mk_step (nv X.val) rfl (made_load rfl rfl b2 rfl uN rfl (iN _)) ?_
          simp only [Act.put, List.setIfInBounds_toArray, List.set_cons_zero, List.set_cons_succ]
          refine mk_step (nv zz.val) rfl (made_load rfl rfl bzz rfl uN rfl (iN _)) ?_
          simp only [Act.put, List.setIfInBounds_toArray, List.set_cons_zero, List.set_cons_succ]
          refine mk_step (nv u.val) rfl (made_by (args := [nv X.val, nv zz.val]) rfl rfl rfl (he_kMul _ ·) (fun W hW => kmul_p ku.out (hf.ext hW))) ?_
          simp only [Act.put, List.setIfInBounds_toArray, List.set_cons_zero, List.set_cons_succ]
          refine mk_step (ptrTo (w.heap.size + 1)) rfl (made_field rfl rfl (fldS0 _ ·)) ?_
          simp only [Act.put, List.setIfInBounds_toArray, List.set_cons_zero, List.set_cons_succ]
          refine mk_step (nv x.val) rfl (made_load rfl rfl b1 rfl uN rfl (iN _)) ?_
          simp only [Act.put, List.setIfInBounds_toArray, List.set_cons_zero, List.set_cons_succ]
          refine mk_step (nv run.val) rfl (made_by (args := [nv u.val, nv x.val]) rfl rfl rfl (he_kSub _ ·) (fun W hW => ksub_p krun.out (hf.ext hW))) ?_
          simp only [Act.put, List.setIfInBounds_toArray, List.set_cons_zero, List.set_cons_succ]
          exact mk_end
        case h2 =>
          refine rest_var _ _ rfl rfl rfl rfl rfl rfl rfl rfl rfl (by kernel_rfl) (by kernel_rfl) (by kernel_rfl) rfl rfl (hzN ·) (fun _ => rfl) (fun _ => rfl) (iN _) rfl (nc_one _) ?_
          intro grun w5 hgrun brun hE
          refine NoPanic.normal ?_
          replace b0 := hE.block b0
          replace b1 := hE.block b1
          replace b2 := hE.block b2
          replace b3 := hE.block b3
          replace bzz := hE.block bzz
          replace hf := hf.ext hE
          replace hx := hx.trans hE
          clear hE
          simp only [Act.put, List.setIfInBounds_toArray, List.set_cons_zero, List.set_cons_succ]
          clear hgrun
          go_upto_region 7 with (fail)
          refine' wp_made (m := 16) (A := _) 17 (by kernel_rfl) (by kernel_rfl) (by kernel_rfl) ?h1 ?h2
          case h1 =>
            refine mk_step (.pointer (some ⟨w.heap.size, 1, none⟩)) rfl (made_field rfl rfl (fldK1 _ ·)) ?_
            simp only [Act.put, List.setIfInBounds_toArray, List.set_cons_zero, List.set_cons_succ]
            refine mk_step (fv 59 b) rfl (made_load1 rfl rfl b0 rfl (isn_func ·)) ?_
            simp only [Act.put, List.setIfInBounds_toArray, List.set_cons_zero, List.set_cons_succ]
            refine mk_step (.pointer (some ⟨w.heap.size, 2, none⟩)) rfl (made_field rfl rfl (fldK2 _ ·)) ?_
            simp only [Act.put, List.setIfInBounds_toArray, List.set_cons_zero, List.set_cons_succ]
            refine mk_step (fv 60 b) rfl (made_load1 rfl rfl b0 rfl (isn_func ·)) ?_
            simp only [Act.put, List.setIfInBounds_toArray, List.set_cons_zero, List.set_cons_succ]
            refine mk_step (.pointer (some ⟨w.heap.size + 1 + 1, 4, none⟩)) rfl (made_field rfl rfl (fldT1 _ ·)) ?_
            simp only [Act.put, List.setIfInBounds_toArray, List.set_cons_zero, List.set_cons_succ]
            refine mk_step (nv Y.val) rfl (made_load rfl rfl b2 rfl uN rfl (iN _)) ?_
            simp only [Act.put, List.setIfInBounds_toArray, List.set_cons_zero, List.set_cons_succ]
            refine mk_step (.pointer (some ⟨w.heap.size, 2, none⟩)) rfl (made_field rfl rfl (fldK2 _ ·)) ?_
            simp only [Act.put, List.setIfInBounds_toArray, List.set_cons_zero, List.set_cons_succ]
            refine mk_step (fv 60 b) rfl (made_load1 rfl rfl b0 rfl (isn_func ·)) ?_
            simp only [Act.put, List.setIfInBounds_toArray, List.set_cons_zero, List.set_cons_succ]
            refine mk_step (nv zz.val) rfl (made_load rfl rfl bzz rfl uN rfl (iN _)) ?_
            simp only [Act.put, List.setIfInBounds_toArray, List.set_cons_zero, List.set_cons_succ]
            refine mk_step (.pointer (some ⟨w.heap.size + 1, 8, none⟩)) rfl (made_field rfl rfl (fldS2 _ ·)) ?_
            simp only [Act.put, List.setIfInBounds_toArray, List.set_cons_zero, List.set_cons_succ]
            refine mk_step (nv z.val) rfl (made_load rfl rfl b1 rfl uN rfl (iN _)) ?_
            simp only [Act.put, List.setIfInBounds_toArray, List.set_cons_zero, List.set_cons_succ]
            refine mk_step (nv zzz.val) rfl (made_by (args := [nv zz.val, nv z.val]) rfl rfl rfl (he_kMul _ ·) (fun W hW => kmul_p kzzz.out (hf.ext hW))) ?_
            simp only [Act.put, List.setIfInBounds_toArray, List.set_cons_zero, List.set_cons_succ]
            refine mk_step (nv v.val) rfl (made_by (args := [nv Y.val, nv zzz.val]) rfl rfl rfl (he_kMul _ ·) (fun W hW => kmul_p kv.out (hf.ext hW))) ?_
            simp only [Act.put, List.setIfInBounds_toArray, List.set_cons_zero, List.set_cons_succ]
            refine mk_step (.pointer (some ⟨w.heap.size + 1, 4, none⟩)) rfl (made_field rfl rfl (fldS1 _ ·)) ?_
            simp only [Act.put, List.setIfInBounds_toArray, List.set_cons_zero, List.set_cons_succ]
            refine mk_step (nv y.val) rfl (made_load rfl rfl b1 rfl uN rfl (iN _)) ?_
            simp only [Act.put, List.setIfInBounds_toArray, List.set_cons_zero, List.set_cons_succ]
            refine mk_step (nv rise.val) rfl (made_by (args := [nv v.val, nv y.val]) rfl rfl rfl (he_kSub _ ·) (fun W hW => ksub_p krise.out (hf.ext hW))) ?_
            simp only [Act.put, List.setIfInBounds_toArray, List.set_cons_zero, List.set_cons_succ]
            exact mk_end
          case h2 =>
            refine rest_var _ _ rfl rfl rfl rfl rfl rfl rfl rfl rfl (by kernel_rfl) (by kernel_rfl) (by kernel_rfl) rfl rfl (hzN ·) (fun _ => rfl) (fun _ => rfl) (iN _) rfl (nc_one _) ?_
            intro grise w6 hgrise brise hE
            refine NoPanic.normal ?_
            replace b0 := hE.block b0
            replace b1 := hE.block b1
            replace b2 := hE.block b2
            replace b3 := hE.block b3
            replace bzz := hE.block bzz
            replace brun := hE.block brun
            replace hf := hf.ext hE
            replace hx := hx.trans hE
            clear hE
            simp only [Act.put, List.setIfInBounds_toArray, List.set_cons_zero, List.set_cons_succ]
            clear hgrise
            go_upto_region 8 with (fail)
            refine' wp_plain (m := 2) (A := _) (by kernel_rfl) ?h1 ?h2
            case h1 =>
              refine mk_step (nv run.val) rfl (made_load rfl rfl brun rfl uN rfl (iN _)) ?_
              simp only [Act.put, List.setIfInBounds_toArray, List.set_cons_zero, List.set_cons_succ]
              refine mk_step (.bool false) rfl (made_fun (args := [nv run.val]) rfl rfl (fun W => run_callFunc_in Try.func62 rfl rfl _ W) (fun W hW => isz_no kr.out (fe_top _) W)) ?_
              simp only [Act.put, List.setIfInBounds_toArray, List.set_cons_zero, List.set_cons_succ]
              exact mk_end
            case h2 =>
              refine prest_done rfl ?_
              intro w7 hE
              replace b0 := hE.block b0
              replace b1 := hE.block b1
              replace b2 := hE.block b2
              replace b3 := hE.block b3
              replace bzz := hE.block bzz
              replace brun := hE.block brun
              replace brise := hE.block brise
              replace hf := hf.ext hE
              replace hx := hx.trans hE
              clear hE
              go_upto_region 12 with (fail)
              refine' wp_plain (m := 5) (A := _) (by kernel_rfl) ?h1 ?h2
              case h1 =>
                refine mk_step (.pointer (some ⟨w.heap.size, 2, none⟩)) rfl (made_field rfl rfl (fldK2 _ ·)) ?_
                simp only [Act.put, List.setIfInBounds_toArray, List.set_cons_zero, List.set_cons_succ]
                refine mk_step (fv 60 b) rfl (made_load1 rfl rfl b0 rfl (isn_func ·)) ?_
                simp only [Act.put, List.setIfInBounds_toArray, List.set_cons_zero, List.set_cons_succ]
                refine mk_step (nv run.val) rfl (made_load rfl rfl brun rfl uN rfl (iN _)) ?_
                simp only [Act.put, List.setIfInBounds_toArray, List.set_cons_zero, List.set_cons_succ]
                refine mk_step (nv run.val) rfl (made_load rfl rfl brun rfl uN rfl (iN _)) ?_
                simp only [Act.put, List.setIfInBounds_toArray, List.set_cons_zero, List.set_cons_succ]
                refine mk_step (nv sq.val) rfl (made_by (args := [nv run.val, nv run.val]) rfl rfl rfl (he_kMul _ ·) (fun W hW => kmul_p ksq.out (hf.ext hW))) ?_
                simp only [Act.put, List.setIfInBounds_toArray, List.set_cons_zero, List.set_cons_succ]
                exact mk_end
              case h2 =>
                refine prest_var _ _ rfl rfl rfl rfl rfl rfl rfl (hzN ·) (fun _ => rfl) (fun _ => rfl) (iN _) rfl (nc_one _) ?_
                intro gsq w8 hgsq bsq hE
                replace b0 := hE.block b0
                replace b1 := hE.block b1
                replace b2 := hE.block b2
                replace b3 := hE.block b3
                replace bzz := hE.block bzz
                replace brun := hE.block brun
                replace brise := hE.block brise
                replace hf := hf.ext hE
                replace hx := hx.trans hE
                clear hE
                simp only [Act.put, List.setIfInBounds_toArray, List.set_cons_zero, List.set_cons_succ]
                clear hgsq
                go_upto_region 13 with (fail)
                refine' wp_plain (m := 5) (A := _) (by kernel_rfl) ?h1 ?h2
                case h1 =>
                  refine mk_step (.pointer (some ⟨w.heap.size, 2, none⟩)) rfl (made_field rfl rfl (fldK2 _ ·)) ?_
                  simp only [Act.put, List.setIfInBounds_toArray, List.set_cons_zero, List.set_cons_succ]
                  refine mk_step (fv 60 b) rfl (made_load1 rfl rfl b0 rfl (isn_func ·)) ?_
                  simp only [Act.put, List.setIfInBounds_toArray, List.set_cons_zero, List.set_cons_succ]
                  refine mk_step (nv sq.val) rfl (made_load rfl rfl bsq rfl uN rfl (iN _)) ?_
                  simp only [Act.put, List.setIfInBounds_toArray, List.set_cons_zero, List.set_cons_succ]
                  refine mk_step (nv run.val) rfl (made_load rfl rfl brun rfl uN rfl (iN _)) ?_
                  simp only [Act.put, List.setIfInBounds_toArray, List.set_cons_zero, List.set_cons_succ]
                  refine mk_step (nv cube.val) rfl (made_by (args := [nv sq.val, nv run.val]) rfl rfl rfl (he_kMul _ ·) (fun W hW => kmul_p kcube.out (hf.ext hW))) ?_
                  simp only [Act.put, List.setIfInBounds_toArray, List.set_cons_zero, List.set_cons_succ]
                  exact mk_end
                case h2 =>
                  refine prest_var _ _ rfl rfl rfl rfl rfl rfl rfl (hzN ·) (fun _ => rfl) (fun _ => rfl) (iN _) rfl (nc_one _) ?_
                  intro gcube w9 hgcube bcube hE
                  replace b0 := hE.block b0
                  replace b1 := hE.block b1
                  replace b2 := hE.block b2
                  replace b3 := hE.block b3
                  replace bzz := hE.block bzz
                  replace brun := hE.block brun
                  replace brise := hE.block brise
                  replace bsq := hE.block bsq
                  replace hf := hf.ext hE
                  replace hx := hx.trans hE
                  clear hE
                  simp only [Act.put, List.setIfInBounds_toArray, List.set_cons_zero, List.set_cons_succ]
                  clear hgcube
                  go_upto_region 14 with (fail)
                  refine' wp_plain (m := 6) (A := _) (by kernel_rfl) ?h1 ?h2
                  case h1 =>
                    refine mk_step (.pointer (some ⟨w.heap.size, 2, none⟩)) rfl (made_field rfl rfl (fldK2 _ ·)) ?_
                    simp only [Act.put, List.setIfInBounds_toArray, List.set_cons_zero, List.set_cons_succ]
                    refine mk_step (fv 60 b) rfl (made_load1 rfl rfl b0 rfl (isn_func ·)) ?_
                    simp only [Act.put, List.setIfInBounds_toArray, List.set_cons_zero, List.set_cons_succ]
                    refine mk_step (ptrTo (w.heap.size + 1)) rfl (made_field rfl rfl (fldS0 _ ·)) ?_
                    simp only [Act.put, List.setIfInBounds_toArray, List.set_cons_zero, List.set_cons_succ]
                    refine mk_step (nv x.val) rfl (made_load rfl rfl b1 rfl uN rfl (iN _)) ?_
                    simp only [Act.put, List.setIfInBounds_toArray, List.set_cons_zero, List.set_cons_succ]
                    refine mk_step (nv sq.val) rfl (made_load rfl rfl bsq rfl uN rfl (iN _)) ?_
                    simp only [Act.put, List.setIfInBounds_toArray, List.set_cons_zero, List.set_cons_succ]
                    refine mk_step (nv cross.val) rfl (made_by (args := [nv x.val, nv sq.val]) rfl rfl rfl (he_kMul _ ·) (fun W hW => kmul_p kcross.out (hf.ext hW))) ?_
                    simp only [Act.put, List.setIfInBounds_toArray, List.set_cons_zero, List.set_cons_succ]
                    exact mk_end
                  case h2 =>
                    refine prest_var _ _ rfl rfl rfl rfl rfl rfl rfl (hzN ·) (fun _ => rfl) (fun _ => rfl) (iN _) rfl (nc_one _) ?_
                    intro gcross w10 hgcross bcross hE
                    replace b0 := hE.block b0
                    replace b1 := hE.block b1
                    replace b2 := hE.block b2
                    replace b3 := hE.block b3
                    replace bzz := hE.block bzz
                    replace brun := hE.block brun
                    replace brise := hE.block brise
                    replace bsq := hE.block bsq
                    replace bcube := hE.block bcube
                    replace hf := hf.ext hE
                    replace hx := hx.trans hE
                    clear hE
                    simp only [Act.put, List.setIfInBounds_toArray, List.set_cons_zero, List.set_cons_succ]
                    clear hgcross
                    go_upto_region 15 with (fail)
                    refine' wp_made (m := 15) (A := _) 16 (by kernel_rfl) (by kernel_rfl) (by kernel_rfl) ?h1 ?h2
                    case h1 =>
                      refine mk_step (.pointer (some ⟨w.heap.size, 1, none⟩)) rfl (made_field rfl rfl (fldK1 _ ·)) ?_
                      simp only [Act.put, List.setIfInBounds_toArray, List.set_cons_zero, List.set_cons_succ]
                      refine mk_step (fv 59 b) rfl (made_load1 rfl rfl b0 rfl (isn_func ·)) ?_
                      simp only [Act.put, List.setIfInBounds_toArray, List.set_cons_zero, List.set_cons_succ]
                      refine mk_step (.pointer (some ⟨w.heap.size, 1, none⟩)) rfl (made_field rfl rfl (fldK1 _ ·)) ?_
                      simp only [Act.put, List.setIfInBounds_toArray, List.set_cons_zero, List.set_cons_succ]
                      refine mk_step (fv 59 b) rfl (made_load1 rfl rfl b0 rfl (isn_func ·)) ?_
                      simp only [Act.put, List.setIfInBounds_toArray, List.set_cons_zero, List.set_cons_succ]
                      refine mk_step (.pointer (some ⟨w.heap.size, 2, none⟩)) rfl (made_field rfl rfl (fldK2 _ ·)) ?_
                      simp only [Act.put, List.setIfInBounds_toArray, List.set_cons_zero, List.set_cons_succ]
                      refine mk_step (fv 60 b) rfl (made_load1 rfl rfl b0 rfl (isn_func ·)) ?_
                      simp only [Act.put, List.setIfInBounds_toArray, List.set_cons_zero, List.set_cons_succ]
                      refine mk_step (nv rise.val) rfl (made_load rfl rfl brise rfl uN rfl (iN _)) ?_
                      simp only [Act.put, List.setIfInBounds_toArray, List.set_cons_zero, List.set_cons_succ]
                      refine mk_step (nv rise.val) rfl (made_load rfl rfl brise rfl uN rfl (iN _)) ?_
                      simp only [Act.put, List.setIfInBounds_toArray, List.set_cons_zero, List.set_cons_succ]
                      refine mk_step (nv rr.val) rfl (made_by (args := [nv rise.val, nv rise.val]) rfl rfl rfl (he_kMul _ ·) (fun W hW => kmul_p krr.out (hf.ext hW))) ?_
                      simp only [Act.put, List.setIfInBounds_toArray, List.set_cons_zero, List.set_cons_succ]
                      refine mk_step (nv cube.val) rfl (made_load rfl rfl bcube rfl uN rfl (iN _)) ?_
                      simp only [Act.put, List.setIfInBounds_toArray, List.set_cons_zero, List.set_cons_succ]
                      refine mk_step (nv r1.val) rfl (made_by (args := [nv rr.val, nv cube.val]) rfl rfl rfl (he_kSub _ ·) (fun W hW => ksub_p kr1.out (hf.ext hW))) ?_
                      simp only [Act.put, List.setIfInBounds_toArray, List.set_cons_zero, List.set_cons_succ]
                      refine mk_step (cv b) rfl (made_load rfl rfl b0 rfl Try.underlying60 rfl (iK _)) ?_
                      simp only [Act.put, List.setIfInBounds_toArray, List.set_cons_zero, List.set_cons_succ]
                      refine mk_step (nv cross.val) rfl (made_load rfl rfl bcross rfl uN rfl (iN _)) ?_
                      simp only [Act.put, List.setIfInBounds_toArray, List.set_cons_zero, List.set_cons_succ]
                      refine mk_step (nv c2.val) rfl (made_fun (args := [cv b, nv cross.val]) rfl rfl (fun W => run_callFunc_in Try.func66 rfl rfl _ W) (fun W hW => dbl_calls kc2.out (hf.ext hW))) ?_
                      simp only [Act.put, List.setIfInBounds_toArray, List.set_cons_zero, List.set_cons_succ]
                      refine mk_step (nv x3.val) rfl (made_by (args := [nv r1.val, nv c2.val]) rfl rfl rfl (he_kSub _ ·) (fun W hW => ksub_p kx3.out (hf.ext hW))) ?_
                      simp only [Act.put, List.setIfInBounds_toArray, List.set_cons_zero, List.set_cons_succ]
                      exact mk_end
                    case h2 =>
                      refine rest_var _ _ rfl rfl rfl rfl rfl rfl rfl rfl rfl (by kernel_rfl) (by kernel_rfl) (by kernel_rfl) rfl rfl (hzN ·) (fun _ => rfl) (fun _ => rfl) (iN _) rfl (nc_one _) ?_
                      intro gx3 w11 hgx3 bx3 hE
                      refine NoPanic.normal ?_
                      replace b0 := hE.block b0
                      replace b1 := hE.block b1
                      replace b2 := hE.block b2
                      replace b3 := hE.block b3
                      replace bzz := hE.block bzz
                      replace brun := hE.block brun
                      replace brise := hE.block brise
                      replace bsq := hE.block bsq
                      replace bcube := hE.block bcube
                      replace bcross := hE.block bcross
                      replace hf := hf.ext hE
                      replace hx := hx.trans hE
                      clear hE
                      simp only [Act.put, List.setIfInBounds_toArray, List.set_cons_zero, List.set_cons_succ]
                      clear hgx3
                      go_upto_region 16 with (fail)
                      refine' wp_made (m := 26) (A := _) 26 (by kernel_rfl) (by kernel_rfl) (by kernel_rfl) ?h1 ?h2
                      case h1 =>
                        refine mk_step (nv x3.val) rfl (made_load rfl rfl bx3 rfl uN rfl (iN _)) ?_
                        simp only [Act.put, List.setIfInBounds_toArray, List.set_cons_zero, List.set_cons_succ]
                        refine mk_step (.pointer (some ⟨w.heap.size, 1, none⟩)) rfl (made_field rfl rfl (fldK1 _ ·)) ?_
                        simp only [Act.put, List.setIfInBounds_toArray, List.set_cons_zero, List.set_cons_succ]
                        refine mk_step (fv 59 b) rfl (made_load1 rfl rfl b0 rfl (isn_func ·)) ?_
                        simp only [Act.put, List.setIfInBounds_toArray, List.set_cons_zero, List.set_cons_succ]
                        refine mk_step (.pointer (some ⟨w.heap.size, 2, none⟩)) rfl (made_field rfl rfl (fldK2 _ ·)) ?_
                        simp only [Act.put, List.setIfInBounds_toArray, List.set_cons_zero, List.set_cons_succ]
                        refine mk_step (fv 60 b) rfl (made_load1 rfl rfl b0 rfl (isn_func ·)) ?_
                        simp only [Act.put, List.setIfInBounds_toArray, List.set_cons_zero, List.set_cons_succ]
                        refine mk_step (nv rise.val) rfl (made_load rfl rfl brise rfl uN rfl (iN _)) ?_
                        simp only [Act.put, List.setIfInBounds_toArray, List.set_cons_zero, List.set_cons_succ]
                        refine mk_step (.pointer (some ⟨w.heap.size, 1, none⟩)) rfl (made_field rfl rfl (fldK1 _ ·)) ?_
                        simp only [Act.put, List.setIfInBounds_toArray, List.set_cons_zero, List.set_cons_succ]
                        refine mk_step (fv 59 b) rfl (made_load1 rfl rfl b0 rfl (isn_func ·)) ?_
                        simp only [Act.put, List.setIfInBounds_toArray, List.set_cons_zero, List.set_cons_succ]
                        refine mk_step (nv cross.val) rfl (made_load rfl rfl bcross rfl uN rfl (iN _)) ?_
                        simp only [Act.put, List.setIfInBounds_toArray, List.set_cons_zero, List.set_cons_succ]
                        refine mk_step (nv x3.val) rfl (made_load rfl rfl bx3 rfl uN rfl (iN _)) ?_
                        simp only [Act.put, List.setIfInBounds_toArray, List.set_cons_zero, List.set_cons_succ]
                        refine mk_step (nv d.val) rfl (made_by (args := [nv cross.val, nv x3.val]) rfl rfl rfl (he_kSub _ ·) (fun W hW => ksub_p kd.out (hf.ext hW))) ?_
                        simp only [Act.put, List.setIfInBounds_toArray, List.set_cons_zero, List.set_cons_succ]
                        refine mk_step (nv rd.val) rfl (made_by (args := [nv rise.val, nv d.val]) rfl rfl rfl (he_kMul _ ·) (fun W hW => kmul_p krd.out (hf.ext hW))) ?_
                        simp only [Act.put, List.setIfInBounds_toArray, List.set_cons_zero, List.set_cons_succ]
                        refine mk_step (.pointer (some ⟨w.heap.size, 2, none⟩)) rfl (made_field rfl rfl (fldK2 _ ·)) ?_
                        simp only [Act.put, List.setIfInBounds_toArray, List.set_cons_zero, List.set_cons_succ]
                        refine mk_step (fv 60 b) rfl (made_load1 rfl rfl b0 rfl (isn_func ·)) ?_
                        simp only [Act.put, List.setIfInBounds_toArray, List.set_cons_zero, List.set_cons_succ]
                        refine mk_step (.pointer (some ⟨w.heap.size + 1, 4, none⟩)) rfl (made_field rfl rfl (fldS1 _ ·)) ?_
                        simp only [Act.put, List.setIfInBounds_toArray, List.set_cons_zero, List.set_cons_succ]
                        refine mk_step (nv y.val) rfl (made_load rfl rfl b1 rfl uN rfl (iN _)) ?_
                        simp only [Act.put, List.setIfInBounds_toArray, List.set_cons_zero, List.set_cons_succ]
                        refine mk_step (nv cube.val) rfl (made_load rfl rfl bcube rfl uN rfl (iN _)) ?_
                        simp only [Act.put, List.setIfInBounds_toArray, List.set_cons_zero, List.set_cons_succ]
                        refine mk_step (nv yc.val) rfl (made_by (args := [nv y.val, nv cube.val]) rfl rfl rfl (he_kMul _ ·) (fun W hW => kmul_p kyc.out (hf.ext hW))) ?_
                        simp only [Act.put, List.setIfInBounds_toArray, List.set_cons_zero, List.set_cons_succ]
                        refine mk_step (nv y3.val) rfl (made_by (args := [nv rd.val, nv yc.val]) rfl rfl rfl (he_kSub _ ·) (fun W hW => ksub_p ky3.out (hf.ext hW))) ?_
                        simp only [Act.put, List.setIfInBounds_toArray, List.set_cons_zero, List.set_cons_succ]
                        refine mk_step (.pointer (some ⟨w.heap.size, 2, none⟩)) rfl (made_field rfl rfl (fldK2 _ ·)) ?_
                        simp only [Act.put, List.setIfInBounds_toArray, List.set_cons_zero, List.set_cons_succ]
                        refine mk_step (fv 60 b) rfl (made_load1 rfl rfl b0 rfl (isn_func ·)) ?_
                        simp only [Act.put, List.setIfInBounds_toArray, List.set_cons_zero, List.set_cons_succ]
                        refine mk_step (.pointer (some ⟨w.heap.size + 1, 8, none⟩)) rfl (made_field rfl rfl (fldS2 _ ·)) ?_
                        simp only [Act.put, List.setIfInBounds_toArray, List.set_cons_zero, List.set_cons_succ]
                        refine mk_step (nv z.val) rfl (made_load rfl rfl b1 rfl uN rfl (iN _)) ?_
                        simp only [Act.put, List.setIfInBounds_toArray, List.set_cons_zero, List.set_cons_succ]
                        refine mk_step (nv run.val) rfl (made_load rfl rfl brun rfl uN rfl (iN _)) ?_
                        simp only [Act.put, List.setIfInBounds_toArray, List.set_cons_zero, List.set_cons_succ]
                        refine mk_step (nv z3.val) rfl (made_by (args := [nv z.val, nv run.val]) rfl rfl rfl (he_kMul _ ·) (fun W hW => kmul_p kz3.out (hf.ext hW))) ?_
                        simp only [Act.put, List.setIfInBounds_toArray, List.set_cons_zero, List.set_cons_succ]
                        refine mk_step (sv x3.val y3.val z3.val) rfl (made_build (vs := [(0, nv x3.val), (1, nv y3.val), (2, nv z3.val)]) rfl rfl (fun W => bldS W _ _ _)) ?_
                        simp only [Act.put, List.setIfInBounds_toArray, List.set_cons_zero, List.set_cons_succ]
                        exact mk_end
                      case h2 =>
                        refine rest_store _ rfl rfl rfl rfl rfl (by kernel_rfl) (by kernel_rfl) rfl rfl rfl b3 (iS _ _ _) rfl (sc_one _ _ _) ?_
                        intro w12 hB hb
                        refine NoPanic.normal ?_
                        go_wp2
                        exact bodyPost_ret (results_cell_row rfl _ _ (w.heap.size + 1 + 1 + 1) 64 (sc x3.val y3.val z3.val) (0, 0) _ rfl hb Try.underlying64 rfl (by kernel_rfl)) rfl ⟨rfl, hx.new hB (by omega)⟩
end Go.Proofs.Ytppfcdpokgnpfaa


/-
  point.curve: whether a point is on the curve.
-/
namespace Go.Proofs.Ytppfcdpokgnpfaa
open Go.RowKit

set_option maxRecDepth 100000 in
set_option maxHeartbeats 8000000 in
theorem on_far0 {b : Nat} (Y : Nat) (hY : Y < top) {w : World} (hF : Fp w b) :
    Calls Try.prog 35 #[cv b, qv 0 Y true] w fun e w' => e = .returned (.bool (decide (Y = 0))) ∧ Ext w w' := by
  have kY := veil hY
  clear hY
  obtain ⟨q, hq⟩ : ∃ q, q = decide (Y = 0) := ⟨_, rfl⟩
  rw [← hq]
  have kq := veil hq
  clear hq
  unfold cv qv cc fv qc
  go_enter Try.func35, Try.ntmps35
  go_upto_region 1 with (fail)
  obtain ⟨hx, b0, b1⟩ := blocks2 w (.cells #[.func (.func 58) #[ptrTo b] #[], .func (.func 59) #[ptrTo b] #[], .func (.func 60) #[ptrTo b] #[], .func (.func 61) #[ptrTo b] #[]] 60) (.cells #[.int .u64 (wd (0) 0), .int .u64 (wd (0) 1), .int .u64 (wd (0) 2), .int .u64 (wd (0) 3), .int .u64 (wd (Y) 0), .int .u64 (wd (Y) 1), .int .u64 (wd (Y) 2), .int .u64 (wd (Y) 3), .bool (true)] 26)
  generalize (w.alloc (.cells #[.func (.func 58) #[ptrTo b] #[], .func (.func 59) #[ptrTo b] #[], .func (.func 60) #[ptrTo b] #[], .func (.func 61) #[ptrTo b] #[]] 60)).alloc (.cells #[.int .u64 (wd (0) 0), .int .u64 (wd (0) 1), .int .u64 (wd (0) 2), .int .u64 (wd (0) 3), .int .u64 (wd (Y) 0), .int .u64 (wd (Y) 1), .int .u64 (wd (Y) 2), .int .u64 (wd (Y) 3), .bool (true)] 26) = w1 at *
  have b0 : w1.heap[w.heap.size]? = some (.cells (cc b) 60 (0, 0)) := b0
  have b1 : w1.heap[w.heap.size + 1]? = some (.cells (qc 0 Y true) 26 (0, 0)) := b1
  have hf := hF.ext hx
  clear hF
  refine' wp_plain (m := 2) (A := _) (by kernel_rfl) ?h1 ?h2
  case h1 =>
    refine mk_step (.pointer (some ⟨w.heap.size + 1, 8, none⟩)) rfl (made_field rfl rfl (fldT2 _ ·)) ?_
    simp only [Act.put, List.setIfInBounds_toArray, List.set_cons_zero, List.set_cons_succ]
    refine mk_step (.bool true) rfl (made_load1 rfl rfl b1 rfl (isn_bool ·)) ?_
    simp only [Act.put, List.setIfInBounds_toArray, List.set_cons_zero, List.set_cons_succ]
    exact mk_end
  case h2 =>
    refine prest_done rfl ?_
    intro w2 hE
    replace b0 := hE.block b0
    replace b1 := hE.block b1
    replace hf := hf.ext hE
    replace hx := hx.trans hE
    clear hE
    go_upto_region 2 with (fail)
    refine' wp_plainG (m := 9) (A := _) ?h1 ?h2
    case h1 =>
      refine mk_step (ptrTo (w.heap.size + 1)) rfl (made_field rfl rfl (fldT0 _ ·)) ?_
      simp only [Act.put, List.setIfInBounds_toArray, List.set_cons_zero, List.set_cons_succ]
      refine mk_step (nv 0) rfl (made_load rfl rfl b1 rfl uN rfl (iN _)) ?_
      simp only [Act.put, List.setIfInBounds_toArray, List.set_cons_zero, List.set_cons_succ]
      refine mk_step (.bool true) rfl (made_fun (args := [nv 0]) rfl rfl (fun W => run_callFunc_in Try.func62 rfl rfl _ W) (fun W hW => isz_yes rfl W)) ?_
      simp only [Act.put, List.setIfInBounds_toArray, List.set_cons_zero, List.set_cons_succ]
      refine mk_step (.bool true) rfl (made_move (.inl rfl) rfl) ?_
      simp only [Act.put, List.setIfInBounds_toArray, List.set_cons_zero, List.set_cons_succ]
      refine mk_want (.pointer (some ⟨w.heap.size + 1, 4, none⟩)) rfl (made_field rfl rfl (fldT1 _ ·)) ?_
      simp only [Act.put, List.setIfInBounds_toArray, List.set_cons_zero, List.set_cons_succ]
      refine mk_want (nv Y) rfl (made_load rfl rfl b1 rfl uN rfl (iN _)) ?_
      simp only [Act.put, List.setIfInBounds_toArray, List.set_cons_zero, List.set_cons_succ]
      refine mk_want (.bool q) rfl (made_fun (args := [nv Y]) rfl rfl (fun W => run_callFunc_in Try.func62 rfl rfl _ W) (fun W hW => by rw [kq.out]; exact isz_calls Y kY.out W)) ?_
      simp only [Act.put, List.setIfInBounds_toArray, List.set_cons_zero, List.set_cons_succ]
      refine mk_step (.bool q) rfl (made_pick rfl rfl rfl) ?_
      simp only [Act.put, List.setIfInBounds_toArray, List.set_cons_zero, List.set_cons_succ]
      refine mk_step (.bool q) rfl (made_move (.inr rfl) rfl) ?_
      simp only [Act.put, List.setIfInBounds_toArray, List.set_cons_zero, List.set_cons_succ]
      exact mk_end
    case h2 =>
      refine prest_done rfl ?_
      intro w3 hE
      replace b0 := hE.block b0
      replace b1 := hE.block b1
      replace hf := hf.ext hE
      replace hx := hx.trans hE
      clear hE
      go_wp2
      go_ret
      exact ⟨rfl, hx⟩
set_option maxRecDepth 100000 in
set_option maxHeartbeats 8000000 in
theorem on_far1 {b : Nat} (X Y : Nat) (hX : X < top) (h0 : X ≠ 0) {w : World} (hF : Fp w b) :
    Calls Try.prog 35 #[cv b, qv X Y true] w fun e w' => e = .returned (.bool false) ∧ Ext w w' := by
  have kX := veil hX
  have k0 := veil h0
  clear hX h0
  unfold cv qv cc fv qc
  go_enter Try.func35, Try.ntmps35
  go_upto_region 1 with (fail)
  obtain ⟨hx, b0, b1⟩ := blocks2 w (.cells #[.func (.func 58) #[ptrTo b] #[], .func (.func 59) #[ptrTo b] #[], .func (.func 60) #[ptrTo b] #[], .func (.func 61) #[ptrTo b] #[]] 60) (.cells #[.int .u64 (wd (X) 0), .int .u64 (wd (X) 1), .int .u64 (wd (X) 2), .int .u64 (wd (X) 3), .int .u64 (wd (Y) 0), .int .u64 (wd (Y) 1), .int .u64 (wd (Y) 2), .int .u64 (wd (Y) 3), .bool (true)] 26)
  generalize (w.alloc (.cells #[.func (.func 58) #[ptrTo b] #[], .func (.func 59) #[ptrTo b] #[], .func (.func 60) #[ptrTo b] #[], .func (.func 61) #[ptrTo b] #[]] 60)).alloc (.cells #[.int .u64 (wd (X) 0), .int .u64 (wd (X) 1), .int .u64 (wd (X) 2), .int .u64 (wd (X) 3), .int .u64 (wd (Y) 0), .int .u64 (wd (Y) 1), .int .u64 (wd (Y) 2), .int .u64 (wd (Y) 3), .bool (true)] 26) = w1 at *
  have b0 : w1.heap[w.heap.size]? = some (.cells (cc b) 60 (0, 0)) := b0
  have b1 : w1.heap[w.heap.size + 1]? = some (.cells (qc X Y true) 26 (0, 0)) := b1
  have hf := hF.ext hx
  clear hF
  refine' wp_plain (m := 2) (A := _) (by kernel_rfl) ?h1 ?h2
  case h1 =>
    refine mk_step (.pointer (some ⟨w.heap.size + 1, 8, none⟩)) rfl (made_field rfl rfl (fldT2 _ ·)) ?_
    simp only [Act.put, List.setIfInBounds_toArray, List.set_cons_zero, List.set_cons_succ]
    refine mk_step (.bool true) rfl (made_load1 rfl rfl b1 rfl (isn_bool ·)) ?_
    simp only [Act.put, List.setIfInBounds_toArray, List.set_cons_zero, List.set_cons_succ]
    exact mk_end
  case h2 =>
    refine prest_done rfl ?_
    intro w2 hE
    replace b0 := hE.block b0
    replace b1 := hE.block b1
    replace hf := hf.ext hE
    replace hx := hx.trans hE
    clear hE
    go_upto_region 2 with (fail)
    refine' wp_plainG (m := 9) (A := _) ?h1 ?h2
    case h1 =>
      refine mk_step (ptrTo (w.heap.size + 1)) rfl (made_field rfl rfl (fldT0 _ ·)) ?_
      simp only [Act.put, List.setIfInBounds_toArray, List.set_cons_zero, List.set_cons_succ]
      refine mk_step (nv X) rfl (made_load rfl rfl b1 rfl uN rfl (iN _)) ?_
      simp only [Act.put, List.setIfInBounds_toArray, List.set_cons_zero, List.set_cons_succ]
      refine mk_step (.bool false) rfl (made_fun (args := [nv X]) rfl rfl (fun W => run_callFunc_in Try.func62 rfl rfl _ W) (fun W hW => isz_no k0.out kX.out W)) ?_
      simp only [Act.put, List.setIfInBounds_toArray, List.set_cons_zero, List.set_cons_succ]
      refine mk_step (.bool false) rfl (made_move (.inl rfl) rfl) ?_
      simp only [Act.put, List.setIfInBounds_toArray, List.set_cons_zero, List.set_cons_succ]
      refine mk_skip rfl ?_
      simp only [Act.put, List.setIfInBounds_toArray, List.set_cons_zero, List.set_cons_succ]
      refine mk_skip rfl ?_
      simp only [Act.put, List.setIfInBounds_toArray, List.set_cons_zero, List.set_cons_succ]
      refine mk_skip rfl ?_
      simp only [Act.put, List.setIfInBounds_toArray, List.set_cons_zero, List.set_cons_succ]
      refine mk_step (.bool false) rfl (made_pick rfl rfl rfl) ?_
      simp only [Act.put, List.setIfInBounds_toArray, List.set_cons_zero, List.set_cons_succ]
      refine mk_step (.bool false) rfl (made_move (.inr rfl) rfl) ?_
      simp only [Act.put, List.setIfInBounds_toArray, List.set_cons_zero, List.set_cons_succ]
      exact mk_end
    case h2 =>
      refine prest_done rfl ?_
      intro w3 hE
      replace b0 := hE.block b0
      replace b1 := hE.block b1
      replace hf := hf.ext hE
      replace hx := hx.trans hE
      clear hE
      go_wp2
      go_ret
      exact ⟨rfl, hx⟩
set_option maxRecDepth 100000 in
set_option maxHeartbeats 8000000 in
theorem on_out {b : Nat} (X Y : Nat) (hX : X < top) (h0 : ¬ X < Pt.pp) {w : World} (hF : Fp w b) :
    Calls Try.prog 35 #[cv b, qv X Y false] w fun e w' => e = .returned (.bool false) ∧ Ext w w' := by
  have kX := veil hX
  have k0 := veil h0
  clear hX h0
  unfold cv qv cc fv qc
  go_enter Try.func35, Try.ntmps35
  go_upto_region 1 with (fail)
  obtain ⟨hx, b0, b1⟩ := blocks2 w (.cells #[.func (.func 58) #[ptrTo b] #[], .func (.func 59) #[ptrTo b] #[], .func (.func 60) #[ptrTo b] #[], .func (.func 61) #[ptrTo b] #[]] 60) (.cells #[.int .u64 (wd (X) 0), .int .u64 (wd (X) 1), .int .u64 (wd (X) 2), .int .u64 (wd (X) 3), .int .u64 (wd (Y) 0), .int .u64 (wd (Y) 1), .int .u64 (wd (Y) 2), .int .u64 (wd (Y) 3), .bool (false)] 26)
  generalize (w.alloc (.cells #[.func (.func 58) #[ptrTo b] #[], .func (.func 59) #[ptrTo b] #[], .func (.func 60) #[ptrTo b] #[], .func (.func 61) #[ptrTo b] #[]] 60)).alloc (.cells #[.int .u64 (wd (X) 0), .int .u64 (wd (X) 1), .int .u64 (wd (X) 2), .int .u64 (wd (X) 3), .int .u64 (wd (Y) 0), .int .u64 (wd (Y) 1), .int .u64 (wd (Y) 2), .int .u64 (wd (Y) 3), .bool (false)] 26) = w1 at *
  have b0 : w1.heap[w.heap.size]? = some (.cells (cc b) 60 (0, 0)) := b0
  have b1 : w1.heap[w.heap.size + 1]? = some (.cells (qc X Y false) 26 (0, 0)) := b1
  have hf := hF.ext hx
  clear hF
  refine' wp_plain (m := 2) (A := _) (by kernel_rfl) ?h1 ?h2
  case h1 =>
    refine mk_step (.pointer (some ⟨w.heap.size + 1, 8, none⟩)) rfl (made_field rfl rfl (fldT2 _ ·)) ?_
    simp only [Act.put, List.setIfInBounds_toArray, List.set_cons_zero, List.set_cons_succ]
    refine mk_step (.bool false) rfl (made_load1 rfl rfl b1 rfl (isn_bool ·)) ?_
    simp only [Act.put, List.setIfInBounds_toArray, List.set_cons_zero, List.set_cons_succ]
    exact mk_end
  case h2 =>
    refine prest_done rfl ?_
    intro w2 hE
    replace b0 := hE.block b0
    replace b1 := hE.block b1
    replace hf := hf.ext hE
    replace hx := hx.trans hE
    clear hE
    go_upto_region 3 with (fail)
    refine' wp_madeG (m := 12) (A := _) 12 (by kernel_rfl) (by kernel_rfl) ?h1 ?h2
    case h1 =>
      refine mk_step (ptrTo (w.heap.size + 1)) rfl (made_field rfl rfl (fldT0 _ ·)) ?_
      simp only [Act.put, List.setIfInBounds_toArray, List.set_cons_zero, List.set_cons_succ]
      refine mk_step (nv X) rfl (made_load rfl rfl b1 rfl uN rfl (iN _)) ?_
      simp only [Act.put, List.setIfInBounds_toArray, List.set_cons_zero, List.set_cons_succ]
      refine mk_step (nv Pt.pp) rfl (made_fun (args := []) rfl rfl (fun W => run_callFunc_in Try.func14 rfl rfl _ W) (fun W hW => pP_is W)) ?_
      simp only [Act.put, List.setIfInBounds_toArray, List.set_cons_zero, List.set_cons_succ]
      refine mk_step (.int .i64 (cmpN X Pt.pp)) rfl (made_fun (args := [nv X, nv Pt.pp]) rfl rfl (fun W => run_callFunc_in Try.func63 rfl rfl _ W) (fun W hW => cmp_no kX.out W)) ?_
      simp only [Act.put, List.setIfInBounds_toArray, List.set_cons_zero, List.set_cons_succ]
      refine mk_step (.bool true) rfl (made_geq rfl rfl (cmp_no_ge k0.out)) ?_
      simp only [Act.put, List.setIfInBounds_toArray, List.set_cons_zero, List.set_cons_succ]
      refine mk_step (.bool true) rfl (made_move (.inl rfl) rfl) ?_
      simp only [Act.put, List.setIfInBounds_toArray, List.set_cons_zero, List.set_cons_succ]
      refine mk_skip rfl ?_
      simp only [Act.put, List.setIfInBounds_toArray, List.set_cons_zero, List.set_cons_succ]
      refine mk_skip rfl ?_
      simp only [Act.put, List.setIfInBounds_toArray, List.set_cons_zero, List.set_cons_succ]
      refine mk_skip rfl ?_
      simp only [Act.put, List.setIfInBounds_toArray, List.set_cons_zero, List.set_cons_succ]
      refine mk_skip rfl ?_
      simp only [Act.put, List.setIfInBounds_toArray, List.set_cons_zero, List.set_cons_succ]
      refine mk_skip rfl ?_
      simp only [Act.put, List.setIfInBounds_toArray, List.set_cons_zero, List.set_cons_succ]
      refine mk_step (.bool true) rfl (made_pick rfl rfl rfl) ?_
      simp only [Act.put, List.setIfInBounds_toArray, List.set_cons_zero, List.set_cons_succ]
      exact mk_end
    case h2 =>
      refine rest_done rfl (by kernel_rfl) ?_
      intro w3 hE
      refine NoPanic.normal ?_
      replace b0 := hE.block b0
      replace b1 := hE.block b1
      replace hf := hf.ext hE
      replace hx := hx.trans hE
      clear hE
      go_wp2
      go_ret
      exact ⟨rfl, hx⟩
set_option maxRecDepth 100000 in
set_option maxHeartbeats 8000000 in
theorem on_high {b : Nat} (X Y : Nat) (hX : X < Pt.pp) (hY : Y < top) (h0 : ¬ Y < Pt.pp) {w : World} (hF : Fp w b) :
    Calls Try.prog 35 #[cv b, qv X Y false] w fun e w' => e = .returned (.bool false) ∧ Ext w w' := by
  have kX := veil hX
  have kY := veil hY
  have k0 := veil h0
  clear hX hY h0
  unfold cv qv cc fv qc
  go_enter Try.func35, Try.ntmps35
  go_upto_region 1 with (fail)
  obtain ⟨hx, b0, b1⟩ := blocks2 w (.cells #[.func (.func 58) #[ptrTo b] #[], .func (.func 59) #[ptrTo b] #[], .func (.func 60) #[ptrTo b] #[], .func (.func 61) #[ptrTo b] #[]] 60) (.cells #[.int .u64 (wd (X) 0), .int .u64 (wd (X) 1), .int .u64 (wd (X) 2), .int .u64 (wd (X) 3), .int .u64 (wd (Y) 0), .int .u64 (wd (Y) 1), .int .u64 (wd (Y) 2), .int .u64 (wd (Y) 3), .bool (false)] 26)
  generalize (w.alloc (.cells #[.func (.func 58) #[ptrTo b] #[], .func (.func 59) #[ptrTo b] #[], .func (.func 60) #[ptrTo b] #[], .func (.func 61) #[ptrTo b] #[]] 60)).alloc (.cells #[.int .u64 (wd (X) 0), .int .u64 (wd (X) 1), .int .u64 (wd (X) 2), .int .u64 (wd (X) 3), .int .u64 (wd (Y) 0), .int .u64 (wd (Y) 1), .int .u64 (wd (Y) 2), .int .u64 (wd (Y) 3), .bool (false)] 26) = w1 at *
  have b0 : w1.heap[w.heap.size]? = some (.cells (cc b) 60 (0, 0)) := b0
  have b1 : w1.heap[w.heap.size + 1]? = some (.cells (qc X Y false) 26 (0, 0)) := b1
  have hf := hF.ext hx
  clear hF
  refine' wp_plain (m := 2) (A := _) (by kernel_rfl) ?h1 ?h2
  case h1 =>
    refine mk_step (.pointer (some ⟨w.heap.size + 1, 8, none⟩)) rfl (made_field rfl rfl (fldT2 _ ·)) ?_
    simp only [Act.put, List.setIfInBounds_toArray, List.set_cons_zero, List.set_cons_succ]
    refine mk_step (.bool false) rfl (made_load1 rfl rfl b1 rfl (isn_bool ·)) ?_
    simp only [Act.put, List.setIfInBounds_toArray, List.set_cons_zero, List.set_cons_succ]
    exact mk_end
  case h2 =>
    refine prest_done rfl ?_
    intro w2 hE
    replace b0 := hE.block b0
    replace b1 := hE.block b1
    replace hf := hf.ext hE
    replace hx := hx.trans hE
    clear hE
    go_upto_region 3 with (fail)
    refine' wp_madeG (m := 12) (A := _) 12 (by kernel_rfl) (by kernel_rfl) ?h1 ?h2
    case h1 =>
      refine mk_step (ptrTo (w.heap.size + 1)) rfl (made_field rfl rfl (fldT0 _ ·)) ?_
      simp only [Act.put, List.setIfInBounds_toArray, List.set_cons_zero, List.set_cons_succ]
      refine mk_step (nv X) rfl (made_load rfl rfl b1 rfl uN rfl (iN _)) ?_
      simp only [Act.put, List.setIfInBounds_toArray, List.set_cons_zero, List.set_cons_succ]
      refine mk_step (nv Pt.pp) rfl (made_fun (args := []) rfl rfl (fun W => run_callFunc_in Try.func14 rfl rfl _ W) (fun W hW => pP_is W)) ?_
      simp only [Act.put, List.setIfInBounds_toArray, List.set_cons_zero, List.set_cons_succ]
      refine mk_step (.int .i64 (-1)) rfl (made_fun (args := [nv X, nv Pt.pp]) rfl rfl (fun W => run_callFunc_in Try.func63 rfl rfl _ W) (fun W hW => cmp_in kX.out W)) ?_
      simp only [Act.put, List.setIfInBounds_toArray, List.set_cons_zero, List.set_cons_succ]
      refine mk_step (.bool false) rfl (made_geq rfl rfl (by decide)) ?_
      simp only [Act.put, List.setIfInBounds_toArray, List.set_cons_zero, List.set_cons_succ]
      refine mk_step (.bool false) rfl (made_move (.inl rfl) rfl) ?_
      simp only [Act.put, List.setIfInBounds_toArray, List.set_cons_zero, List.set_cons_succ]
      refine mk_want (.pointer (some ⟨w.heap.size + 1, 4, none⟩)) rfl (made_field rfl rfl (fldT1 _ ·)) ?_
      simp only [Act.put, List.setIfInBounds_toArray, List.set_cons_zero, List.set_cons_succ]
      refine mk_want (nv Y) rfl (made_load rfl rfl b1 rfl uN rfl (iN _)) ?_
      simp only [Act.put, List.setIfInBounds_toArray, List.set_cons_zero, List.set_cons_succ]
      refine mk_want (nv Pt.pp) rfl (made_fun (args := []) rfl rfl (fun W => run_callFunc_in Try.func14 rfl rfl _ W) (fun W hW => pP_is W)) ?_
      simp only [Act.put, List.setIfInBounds_toArray, List.set_cons_zero, List.set_cons_succ]
      refine mk_want (.int .i64 (cmpN Y Pt.pp)) rfl (made_fun (args := [nv Y, nv Pt.pp]) rfl rfl (fun W => run_callFunc_in Try.func63 rfl rfl _ W) (fun W hW => cmp_no kY.out W)) ?_
      simp only [Act.put, List.setIfInBounds_toArray, List.set_cons_zero, List.set_cons_succ]
      refine mk_want (.bool true) rfl (made_geq rfl rfl (cmp_no_ge k0.out)) ?_
      simp only [Act.put, List.setIfInBounds_toArray, List.set_cons_zero, List.set_cons_succ]
      refine mk_step (.bool true) rfl (made_pick rfl rfl rfl) ?_
      simp only [Act.put, List.setIfInBounds_toArray, List.set_cons_zero, List.set_cons_succ]
      exact mk_end
    case h2 =>
      refine rest_done rfl (by kernel_rfl) ?_
      intro w3 hE
      refine NoPanic.normal ?_
      replace b0 := hE.block b0
      replace b1 := hE.block b1
      replace hf := hf.ext hE
      replace hx := hx.trans hE
      clear hE
      go_wp2
      go_ret
      exact ⟨rfl, hx⟩
set_option maxRecDepth 100000 in
set_option maxHeartbeats 8000000 in
theorem on_near {b : Nat} (x y : Fe) {w : World} (hF : Fp w b) :
    Calls Try.prog 35 #[cv b, qv x.val y.val false] w fun e w' => e = .returned (.bool (decide ((y * y).val = (x * x * x - (x + x + x) + Pt.F Pt.bb).val))) ∧ Ext w w' := by
  obtain ⟨sq, hsq⟩ : ∃ t : Fe, t = x * x := ⟨_, rfl⟩
  obtain ⟨cube, hcube⟩ : ∃ t : Fe, t = sq * x := ⟨_, rfl⟩
  obtain ⟨lhs, hlhs⟩ : ∃ t : Fe, t = y * y := ⟨_, rfl⟩
  obtain ⟨tr, htr⟩ : ∃ t : Fe, t = x + x + x := ⟨_, rfl⟩
  obtain ⟨d, hd⟩ : ∃ t : Fe, t = cube - tr := ⟨_, rfl⟩
  obtain ⟨r, hr⟩ : ∃ t : Fe, t = d + Pt.F Pt.bb := ⟨_, rfl⟩
  have hfin : x * x * x - (x + x + x) + Pt.F Pt.bb = r := by
    subst hr hd htr hlhs hcube hsq
    rfl
  rw [hfin, ← hlhs]
  clear hfin
  have ksq := veil hsq
  have kcube := veil hcube
  have klhs := veil hlhs
  have ktr := veil htr
  have kd := veil hd
  have kr := veil hr
  clear hr hd htr hlhs hcube hsq
  have kx := veil x.isLt
  have ky := veil y.isLt
  unfold cv qv cc fv qc
  go_enter Try.func35, Try.ntmps35
  go_upto_region 1 with (fail)
  obtain ⟨hx, b0, b1⟩ := blocks2 w (.cells #[.func (.func 58) #[ptrTo b] #[], .func (.func 59) #[ptrTo b] #[], .func (.func 60) #[ptrTo b] #[], .func (.func 61) #[ptrTo b] #[]] 60) (.cells #[.int .u64 (wd (x.val) 0), .int .u64 (wd (x.val) 1), .int .u64 (wd (x.val) 2), .int .u64 (wd (x.val) 3), .int .u64 (wd (y.val) 0), .int .u64 (wd (y.val) 1), .int .u64 (wd (y.val) 2), .int .u64 (wd (y.val) 3), .bool (false)] 26)
  generalize (w.alloc (.cells #[.func (.func 58) #[ptrTo b] #[], .func (.func 59) #[ptrTo b] #[], .func (.func 60) #[ptrTo b] #[], .func (.func 61) #[ptrTo b] #[]] 60)).alloc (.cells #[.int .u64 (wd (x.val) 0), .int .u64 (wd (x.val) 1), .int .u64 (wd (x.val) 2), .int .u64 (wd (x.val) 3), .int .u64 (wd (y.val) 0), .int .u64 (wd (y.val) 1), .int .u64 (wd (y.val) 2), .int .u64 (wd (y.val) 3), .bool (false)] 26) = w1 at *
  have b0 : w1.heap[w.heap.size]? = some (.cells (cc b) 60 (0, 0)) := b0
  have b1 : w1.heap[w.heap.size + 1]? = some (.cells (qc x.val y.val false) 26 (0, 0)) := b1
  have hf := hF.ext hx
  clear hF
  refine' wp_plain (m := 2) (A := _) (by kernel_rfl) ?h1 ?h2
  case h1 =>
    refine mk_step (.pointer (some ⟨w.heap.size + 1, 8, none⟩)) rfl (made_field rfl rfl (fldT2 _ ·)) ?_
    simp only [Act.put, List.setIfInBounds_toArray, List.set_cons_zero, List.set_cons_succ]
    refine mk_step (.bool false) rfl (made_load1 rfl rfl b1 rfl (isn_bool ·)) ?_
    simp only [Act.put, List.setIfInBounds_toArray, List.set_cons_zero, List.set_cons_succ]
    exact mk_end
  case h2 =>
    refine prest_done rfl ?_
    intro w2 hE
    replace b0 := hE.block b0
    replace b1 := hE.block b1
    replace hf := hf.ext hE
    replace hx := hx.trans hE
    clear hE
    go_upto_region 3 with (fail)
    refine' wp_madeG (m := 12) (A := _) 12 (by kernel_rfl) (by kernel_rfl) ?h1 ?h2
    case h1 =>
      refine mk_step (ptrTo (w.heap.size + 1)) rfl (made_field rfl rfl (fldT0 _ ·)) ?_
      simp only [Act.put, List.setIfInBounds_toArray, List.set_cons_zero, List.set_cons_succ]
      refine mk_step (nv x.val) rfl (made_load rfl rfl b1 rfl uN rfl (iN _)) ?_
      simp only [Act.put, List.setIfInBounds_toArray, List.set_cons_zero, List.set_cons_succ]
      refine mk_step (nv Pt.pp) rfl (made_fun (args := []) rfl rfl (fun W => run_callFunc_in Try.func14 rfl rfl _ W) (fun W hW => pP_is W)) ?_
      simp only [Act.put, List.setIfInBounds_toArray, List.set_cons_zero, List.set_cons_succ]
      refine mk_step (.int .i64 (-1)) rfl (made_fun (args := [nv x.val, nv Pt.pp]) rfl rfl (fun W => run_callFunc_in Try.func63 rfl rfl _ W) (fun W hW => cmp_in kx.out W)) ?_
      simp only [Act.put, List.setIfInBounds_toArray, List.set_cons_zero, List.set_cons_succ]
      refine mk_step (.bool false) rfl (made_geq rfl rfl (by decide)) ?_
      simp only [Act.put, List.setIfInBounds_toArray, List.set_cons_zero, List.set_cons_succ]
      refine mk_step (.bool false) rfl (made_move (.inl rfl) rfl) ?_
      simp only [Act.put, List.setIfInBounds_toArray, List.set_cons_zero, List.set_cons_succ]
      refine mk_want (.pointer (some ⟨w.heap.size + 1, 4, none⟩)) rfl (made_field rfl rfl (fldT1 _ ·)) ?_
      simp only [Act.put, List.setIfInBounds_toArray, List.set_cons_zero, List.set_cons_succ]
      refine mk_want (nv y.val) rfl (made_load rfl rfl b1 rfl uN rfl (iN _)) ?_
      simp only [Act.put, List.setIfInBounds_toArray, List.set_cons_zero, List.set_cons_succ]
      refine mk_want (nv Pt.pp) rfl (made_fun (args := []) rfl rfl (fun W => run_callFunc_in Try.func14 rfl rfl _ W) (fun W hW => pP_is W)) ?_
      simp only [Act.put, List.setIfInBounds_toArray, List.set_cons_zero, List.set_cons_succ]
      refine mk_want (.int .i64 (-1)) rfl (made_fun (args := [nv y.val, nv Pt.pp]) rfl rfl (fun W => run_callFunc_in Try.func63 rfl rfl _ W) (fun W hW => cmp_in ky.out W)) ?_
      simp only [Act.put, List.setIfInBounds_toArray, List.set_cons_zero, List.set_cons_succ]
      refine mk_want (.bool false) rfl (made_geq rfl rfl (by decide)) ?_
      simp only [Act.put, List.setIfInBounds_toArray, List.set_cons_zero, List.set_cons_succ]
      refine mk_step (.bool false) rfl (made_pick rfl rfl rfl) ?_
      simp only [Act.put, List.setIfInBounds_toArray, List.set_cons_zero, List.set_cons_succ]
      exact mk_end
    case h2 =>
      refine rest_done rfl (by kernel_rfl) ?_
      intro w3 hE
      refine NoPanic.normal ?_
      replace b0 := hE.block b0
      replace b1 := hE.block b1
      replace hf := hf.ext hE
      replace hx := hx.trans hE
      clear hE
      go_upto_region 5 with (fail)
      refine' wp_made (m := 12) (A := _) 13 (by kernel_rfl) (by kernel_rfl) (by kernel_rfl) ?h1 ?h2
      case h1 =>
        refine mk_step (.pointer (some ⟨w.heap.size, 2, none⟩)) rfl (made_field rfl rfl (fldK2 _ ·)) ?_
        simp only [Act.put, List.setIfInBounds_toArray, List.set_cons_zero, List.set_cons_succ]
        refine mk_step (fv 60 b) rfl (made_load1 rfl rfl b0 rfl (isn_func ·)) ?_
        simp only [Act.put, List.setIfInBounds_toArray, List.set_cons_zero, List.set_cons_succ]
        refine mk_step (.pointer (some ⟨w.heap.size, 2, none⟩)) rfl (made_field rfl rfl (fldK2 _ ·)) ?_
        simp only [Act.put, List.setIfInBounds_toArray, List.set_cons_zero, List.set_cons_succ]
        refine mk_step (fv 60 b) rfl (made_load1 rfl rfl b0 rfl (isn_func ·)) ?_
        simp only [Act.put, List.setIfInBounds_toArray, List.set_cons_zero, List.set_cons_succ]
        refine mk_step (ptrTo (w.heap.size + 1)) rfl (made_field rfl rfl (fldT0 _ ·)) ?_
        simp only [Act.put, List.setIfInBounds_toArray, List.set_cons_zero, List.set_cons_succ]
        refine mk_step (nv x.val) rfl (made_load rfl rfl b1 rfl uN rfl (iN _)) ?_
        simp only [Act.put, List.setIfInBounds_toArray, List.set_cons_zero, List.set_cons_succ]
        refine mk_step (ptrTo (w.heap.size + 1)) rfl (made_field rfl rfl (fldT0 _ ·)) ?_
        simp only [Act.put, List.setIfInBounds_toArray, List.set_cons_zero, List.set_cons_succ]
        refine mk_step (nv x.val) rfl (made_load rfl rfl b1 rfl uN rfl (iN _)) ?_
        simp only [Act.put, List.setIfInBounds_toArray, List.set_cons_zero, List.set_cons_succ]
        refine mk_step (nv sq.val) rfl (made_by (args := [nv x.val, nv x.val]) rfl rfl rfl (he_kMul _ ·) (fun W hW => kmul_p ksq.out (hf.ext hW))) ?_
        simp only [Act.put, List.setIfInBounds_toArray, List.set_cons_zero, List.set_cons_succ]
        refine mk_step (ptrTo (w.heap.size + 1)) rfl (made_field rfl rfl (fldT0 _ ·)) ?_
        simp only [Act.put, List.setIfInBounds_toArray, List.set_cons_zero, List.set_cons_succ]
        refine mk_step (nv x.val) rfl (made_load rfl rfl b1 rfl uN rfl (iN _)) ?_
        simp only [Act.put, List.setIfInBounds_toArray, List.set_cons_zero, List.set_cons_succ]
        refine mk_step (nv cube.val) rfl (made_by (args := [nv sq.val, nv x.val]) rfl rfl rfl (he_kMul _ ·) (fun W hW => kmul_p kcube.out (hf.ext hW))) ?_
        simp only [Act.put, List.setIfInBounds_toArray, List.set_cons_zero, List.set_cons_succ]
        exact mk_end
      case h2 =>
        refine rest_var _ _ rfl rfl rfl rfl rfl rfl rfl rfl rfl (by kernel_rfl) (by kernel_rfl) (by kernel_rfl) rfl rfl (hzN ·) (fun _ => rfl) (fun _ => rfl) (iN _) rfl (nc_one _) ?_
        intro gcube w4 hgcube bcube hE
        refine NoPanic.normal ?_
        replace b0 := hE.block b0
        replace b1 := hE.block b1
        replace hf := hf.ext hE
        replace hx := hx.trans hE
        clear hE
        simp only [Act.put, List.setIfInBounds_toArray, List.set_cons_zero, List.set_cons_succ]
        clear hgcube
        go_upto_region 6 with (fail)
        refine' wp_made (m := 21) (A := _) 21 (by kernel_rfl) (by kernel_rfl) (by kernel_rfl) ?h1 ?h2
        case h1 =>
          refine mk_step (.pointer (some ⟨w.heap.size, 2, none⟩)) rfl (made_field rfl rfl (fldK2 _ ·)) ?_
          simp only [Act.put, List.setIfInBounds_toArray, List.set_cons_zero, List.set_cons_succ]
          refine mk_step (fv 60 b) rfl (made_load1 rfl rfl b0 rfl (isn_func ·)) ?_
          simp only [Act.put, List.setIfInBounds_toArray, List.set_cons_zero, List.set_cons_succ]
          refine mk_step (.pointer (some ⟨w.heap.size + 1, 4, none⟩)) rfl (made_field rfl rfl (fldT1 _ ·)) ?_
          simp only [Act.put, List.setIfInBounds_toArray, List.set_cons_zero, List.set_cons_succ]
          refine mk_step (nv y.val) rfl (made_load rfl rfl b1 rfl uN rfl (iN _)) ?_
          simp only [Act.put, List.setIfInBounds_toArray, List.set_cons_zero, List.set_cons_succ]
          refine mk_step (.pointer (some ⟨w.heap.size + 1, 4, none⟩)) rfl (made_field rfl rfl (fldT1 _ ·)) ?_
          simp only [Act.put, List.setIfInBounds_toArray, List.set_cons_zero, List.set_cons_succ]
          refine mk_step (nv y.val) rfl (made_load rfl rfl b1 rfl uN rfl (iN _)) ?_
          simp only [Act.put, List.setIfInBounds_toArray, List.set_cons_zero, List.set_cons_succ]
          refine mk_step (nv lhs.val) rfl (made_by (args := [nv y.val, nv y.val]) rfl rfl rfl (he_kMul _ ·) (fun W hW => kmul_p klhs.out (hf.ext hW))) ?_
          simp only [Act.put, List.setIfInBounds_toArray, List.set_cons_zero, List.set_cons_succ]
          refine mk_step (ptrTo w.heap.size) rfl (made_field rfl rfl (fldK0 _ ·)) ?_
          simp only [Act.put, List.setIfInBounds_toArray, List.set_cons_zero, List.set_cons_succ]
          refine mk_step (fv 58 b) rfl (made_load1 rfl rfl b0 rfl (isn_func ·)) ?_
          simp only [Act.put, List.setIfInBounds_toArray, List.set_cons_zero, List.set_cons_succ]
          refine mk_step (.pointer (some ⟨w.heap.size, 1, none⟩)) rfl (made_field rfl rfl (fldK1 _ ·)) ?_
          simp only [Act.put, List.setIfInBounds_toArray, List.set_cons_zero, List.set_cons_succ]
          refine mk_step (fv 59 b) rfl (made_load1 rfl rfl b0 rfl (isn_func ·)) ?_
          simp only [Act.put, List.setIfInBounds_toArray, List.set_cons_zero, List.set_cons_succ]
          refine mk_step (nv cube.val) rfl (made_load rfl rfl bcube rfl uN rfl (iN _)) ?_
          simp only [Act.put, List.setIfInBounds_toArray, List.set_cons_zero, List.set_cons_succ]
          refine mk_step (cv b) rfl (made_load rfl rfl b0 rfl Try.underlying60 rfl (iK _)) ?_
          simp only [Act.put, List.setIfInBounds_toArray, List.set_cons_zero, List.set_cons_succ]
          refine mk_step (ptrTo (w.heap.size + 1)) rfl (made_field rfl rfl (fldT0 _ ·)) ?_
          simp only [Act.put, List.setIfInBounds_toArray, List.set_cons_zero, List.set_cons_succ]
          refine mk_step (nv x.val) rfl (made_load rfl rfl b1 rfl uN rfl (iN _)) ?_
          simp only [Act.put, List.setIfInBounds_toArray, List.set_cons_zero, List.set_cons_succ]
          refine mk_step (nv tr.val) rfl (made_fun (args := [cv b, nv x.val]) rfl rfl (fun W => run_callFunc_in Try.func64 rfl rfl _ W) (fun W hW => trp_calls ktr.out (hf.ext hW))) ?_
          simp only [Act.put, List.setIfInBounds_toArray, List.set_cons_zero, List.set_cons_succ]
          refine mk_step (nv d.val) rfl (made_by (args := [nv cube.val, nv tr.val]) rfl rfl rfl (he_kSub _ ·) (fun W hW => ksub_p kd.out (hf.ext hW))) ?_
          simp only [Act.put, List.setIfInBounds_toArray, List.set_cons_zero, List.set_cons_succ]
          refine mk_step (nv ((Pt.F Pt.bb : Fe).val)) rfl (made_fun (args := []) rfl rfl (fun W => run_callFunc_in Try.func65 rfl rfl _ W) (fun W hW => bb_is W)) ?_
          simp only [Act.put, List.setIfInBounds_toArray, List.set_cons_zero, List.set_cons_succ]
          refine mk_step (nv r.val) rfl (made_by (args := [nv d.val, nv ((Pt.F Pt.bb : Fe).val)]) rfl rfl rfl (he_kAdd _ ·) (fun W hW => kadd_p kr.out (hf.ext hW))) ?_
          simp only [Act.put, List.setIfInBounds_toArray, List.set_cons_zero, List.set_cons_succ]
          refine mk_step (.bool (decide (lhs.val = r.val))) rfl (made_eqn rfl rfl rfl (fe_top _) (fe_top _)) ?_
          simp only [Act.put, List.setIfInBounds_toArray, List.set_cons_zero, List.set_cons_succ]
          refine mk_step (.bool (decide (lhs.val = r.val))) rfl (made_move (.inr rfl) rfl) ?_
          simp only [Act.put, List.setIfInBounds_toArray, List.set_cons_zero, List.set_cons_succ]
          exact mk_end
        case h2 =>
          refine rest_done rfl (by kernel_rfl) ?_
          intro w5 hE
          refine NoPanic.normal ?_
          replace b0 := hE.block b0
          replace b1 := hE.block b1
          replace bcube := hE.block bcube
          replace hf := hf.ext hE
          replace hx := hx.trans hE
          clear hE
          go_wp2
          go_ret
          exact ⟨rfl, hx⟩
end Go.Proofs.Ytppfcdpokgnpfaa


/-
  Scaled points: what twice, plus and flat make of points of P-256.
-/
namespace Go.Proofs.Ytppfcdpokgnpfaa
open Go.RowKit

/-- x, y, z are the point p: X is x / z z, Y is y / z z z; with z 0 it is Far. -/
def Rep (x y z : Fe) : Pt.P Pt.pp → Prop
  | none => z = 0
  | some (X, Y) => z ≠ 0 ∧ x = X * (z * z) ∧ y = Y * (z * z * z)

section
variable {n : Nat} [NeZero n]
theorem rt_m {X Y z l x Z s u : Fin n} (hl : l * (Y + Y) = 3 * (X * X - 1)) (hx : x = X * (z * z)) (hZ : Z = Y * (z * z * z) * z + Y * (z * z * z) * z) (hs : s = x - z * z) (hu : u = x + z * z) : s * u + s * u + s * u = l * Z := by
  subst hs hu hx hZ
  have h : l * (Y * (z * z * z) * z + Y * (z * z * z) * z) = l * (Y + Y) * (z * z * z * z) := by grobner
  rw [h, hl]
  grobner
theorem rt_c {X Y z x y Z : Fin n} (hx : x = X * (z * z)) (hy : y = Y * (z * z * z)) (hZ : Z = y * z + y * z) : (x * (y * y) + x * (y * y)) + (x * (y * y) + x * (y * y)) = X * (Z * Z) := by
  subst hZ hy hx
  grobner
theorem rt_x {m l Z c X : Fin n} (hm : m = l * Z) (hc : c = X * (Z * Z)) : m * m - (c + c) = (l * l - X - X) * (Z * Z) := by
  subst hm hc
  grobner
theorem rt_t {Y z y Z : Fin n} (hy : y = Y * (z * z * z)) (hZ : Z = y * z + y * z) : ((y * y * (y * y) + y * y * (y * y)) + (y * y * (y * y) + y * y * (y * y))) + ((y * y * (y * y) + y * y * (y * y)) + (y * y * (y * y) + y * y * (y * y))) = Y * (Z * Z * Z) := by
  subst hZ hy
  grobner
theorem rt_y {m l Z c X x3 X3 t Y : Fin n} (hm : m = l * Z) (hc : c = X * (Z * Z)) (hx : x3 = X3 * (Z * Z)) (ht : t = Y * (Z * Z * Z)) : m * (c - x3) - t = (l * (X - X3) - Y) * (Z * Z * Z) := by
  subst hm hc hx ht
  grobner
theorem rp_run {X1 X2 z x : Fin n} (hx : x = X1 * (z * z)) : X2 * (z * z) - x = (X2 - X1) * (z * z) := by subst hx; grobner
theorem rp_rise {Y1 Y2 z y : Fin n} (hy : y = Y1 * (z * z * z)) : Y2 * (z * z * z) - y = (Y2 - Y1) * (z * z * z) := by subst hy; grobner
theorem rp_l {X1 X2 Y1 Y2 z l run Z : Fin n} (hl : l * (X2 - X1) = Y2 - Y1) (hr : run = (X2 - X1) * (z * z)) (hZ : Z = z * run) : (Y2 - Y1) * (z * z * z) = l * Z := by
  subst hZ hr
  rw [← hl]
  grobner
theorem rp_x {X1 X2 z l run Z rise x : Fin n} (hx : x = X1 * (z * z)) (hr : run = (X2 - X1) * (z * z)) (hZ : Z = z * run) (hs : rise = l * Z) :
    rise * rise - run * run * run - (x * (run * run) + x * (run * run)) = (l * l - X1 - X2) * (Z * Z) := by
  subst hs hZ hr hx
  grobner
theorem rp_y {X1 Y1 X2 z l run Z rise x y x3 X3 : Fin n} (hx : x = X1 * (z * z)) (hy : y = Y1 * (z * z * z)) (hr : run = (X2 - X1) * (z * z)) (hZ : Z = z * run) (hs : rise = l * Z) (h3 : x3 = X3 * (Z * Z)) :
    rise * (x * (run * run) - x3) - y * (run * run * run) = (l * (X1 - X3) - Y1) * (Z * Z * Z) := by
  subst h3 hs hZ hr hx hy
  grobner
theorem rf_x {X x z t : Fin n} (hx : x = X * (z * z)) (ht : z * t = 1) : x * (t * t) = X := by
  subst hx
  have h : X * (z * z) * (t * t) = X * (z * t) * (z * t) := by grobner
  rw [h, ht]
  grobner
theorem rf_y {Y y z t : Fin n} (hy : y = Y * (z * z * z)) (ht : z * t = 1) : y * (t * t * t) = Y := by
  subst hy
  have h : Y * (z * z * z) * (t * t * t) = Y * (z * t) * (z * t) * (z * t) := by grobner
  rw [h, ht]
  grobner
theorem three_x (x : Fin n) : x + x + x = 3 * x := by grobner
theorem opp_of {y1 y2 : Fin n} (h : (y1 - y2) * (y1 - (0 - y2)) = 0) (hz : ∀ x y : Fin n, x * y = 0 → x = 0 ∨ y = 0) (hn : y1 ≠ y2) : y1 = 0 - y2 := by
  rcases hz _ _ h with h | h
  · exact absurd (Pt.eq_of_sub h) hn
  · exact Pt.eq_of_sub h
theorem opp_sq {y1 y2 : Fin n} (h : y1 * y1 = y2 * y2) : (y1 - y2) * (y1 - (0 - y2)) = 0 := by grobner
end
end Go.Proofs.Ytppfcdpokgnpfaa


/-
  point.curve by what its scaled points stand for: twice, plus, flat, on.
-/
namespace Go.Proofs.Ytppfcdpokgnpfaa
open Go.RowKit

theorem fe_ne {x : Fe} (h : x ≠ 0) : x.val ≠ 0 := fun e => h (Fin.ext (by rw [e, v_zero]))
theorem fe_z {x : Fe} (h : x = 0) : x.val = 0 := by rw [h, v_zero]
theorem noz {x y : Fe} (hx : x ≠ 0) (hy : y ≠ 0) : x * y ≠ 0 := fun e => by
  rcases Pt.good.hz _ _ e with h | h
  · exact hx h
  · exact hy h
section
variable {n : Nat} [NeZero n]
theorem r0 (y : Fin n) : y * 0 + y * 0 = 0 := by grobner
theorem r1 (Y z : Fin n) : Y * (z * z * z) * z + Y * (z * z * z) * z = (Y + Y) * (z * z * (z * z)) := by grobner
theorem r2 (u i d : Fin n) (h : d * i = 1) : u * i * d = u := by
  have e : u * i * d = u * (d * i) := by grobner
  rw [e, h]
  grobner
theorem r3 (X : Fin n) : X = X * (1 * 1) := by grobner
theorem r4 (X : Fin n) : X = X * (1 * 1 * 1) := by grobner
theorem r5 (X z : Fin n) : (X - X) * z = 0 := by grobner
end

theorem rep_twice {x y z : Fe} {p : Pt.P Pt.pp} (hp : Pt.E256.on p) (h : Rep x y z p) : Rep (twice3 x y z).1 (twice3 x y z).2.1 (twice3 x y z).2.2 (Pt.E256.add p p) := by
  rcases p with _ | ⟨X, Y⟩
  · have hz : z = 0 := h
    subst hz
    exact r0 y
  · obtain ⟨hz, hx, hy⟩ := h
    have hd := Pt.down_same hp
    have hn : ¬ (X = X ∧ Y = 0 - Y) := fun e => hd ((Pt.ring_neg _ _).1 e.2)
    rw [Pt.add_near hn, Pt.lam_same]
    have hl := r2 (3 * (X * X - 1)) _ _ (Pt.good.hinv (Y + Y) hd)
    generalize 3 * (X * X - 1) * Pt.E256.inv (Y + Y) = l at hl ⊢
    have hZ : y * z + y * z = Y * (z * z * z) * z + Y * (z * z * z) * z := by rw [hy]
    have hm := rt_m hl hx hZ rfl rfl
    have hc := rt_c hx hy rfl
    have h3 := rt_x hm hc
    refine ⟨?_, h3, rt_y hm hc h3 (rt_t hy rfl)⟩
    show y * z + y * z ≠ 0
    rw [hZ, r1]
    exact noz hd (noz (noz hz hz) (noz hz hz))

/-- A point's value. -/
def qvP (p : Pt.P Pt.pp) : Value := qv (Pt.pX p) (Pt.pY p) (Pt.pFar p)

theorem twice_rep {x y z : Fe} {p : Pt.P Pt.pp} (hp : Pt.E256.on p) (h : Rep x y z p) : ∃ x' y' z' : Fe, Rep x' y' z' (Pt.E256.add p p) ∧
    ∀ (b : Nat) (w : World), Fp w b → Calls Try.prog 41 #[cv b, sv x.val y.val z.val] w fun e w' => e = .returned (sv x'.val y'.val z'.val) ∧ Ext w w' :=
  ⟨_, _, _, rep_twice hp h, fun _ _ hF => twice_calls x y z hF⟩

theorem plus_rep {x y z : Fe} {p q : Pt.P Pt.pp} (hp : Pt.E256.on p) (hq : Pt.E256.on q) (h : Rep x y z p) : ∃ x' y' z' : Fe, Rep x' y' z' (Pt.E256.add p q) ∧
    ∀ (b : Nat) (w : World), Fp w b → Calls Try.prog 37 #[cv b, sv x.val y.val z.val, qvP q] w fun e w' => e = .returned (sv x'.val y'.val z'.val) ∧ Ext w w' := by
  rcases q with _ | ⟨X2, Y2⟩
  · rw [Pt.add_none]
    exact ⟨_, _, _, h, fun _ _ hF => plus_far x.val y.val z.val 0 0 hF⟩
  rcases p with _ | ⟨X1, Y1⟩
  · have hz : z = 0 := h
    subst hz
    rw [Pt.none_add, v_zero]
    refine ⟨X2, Y2, 1, ⟨?_, r3 X2, r4 Y2⟩, fun b w hF => ?_⟩
    · intro e
      have := congrArg Fin.val e
      rw [v_one, v_zero] at this
      exact absurd this (by decide)
    · rw [v_one]
      exact plus_lift x.val y.val X2.val Y2.val hF
  · obtain ⟨hz, hx, hy⟩ := h
    have hz3 : z * z * z ≠ 0 := noz (noz hz hz) hz
    have hrun : runOf x z X2 = (X2 - X1) * (z * z) := rp_run hx
    have hrise : riseOf y z Y2 = (Y2 - Y1) * (z * z * z) := rp_rise hy
    by_cases hX : X1 = X2
    · subst hX
      have h0 : (runOf x z X1).val = 0 := fe_z (by rw [hrun]; exact r5 _ _)
      by_cases hY : Y1 = Y2
      · subst hY
        have h1 : (riseOf y z Y1).val = 0 := fe_z (by rw [hrise]; exact r5 _ _)
        exact ⟨_, _, _, rep_twice hp ⟨hz, hx, hy⟩, fun _ _ hF => plus_same x y z X1 Y1 (fe_ne hz) h0 h1 hF⟩
      · have h1 : (riseOf y z Y2).val ≠ 0 := fe_ne (by rw [hrise]; exact noz (fun e => hY (Pt.eq_of_sub e).symm) hz3)
        have he : Y1 * Y1 = Y2 * Y2 := by
          have e1 : Y1 * Y1 = _ := (Pt.on_iff X1 Y1).1 hp
          have e2 : Y2 * Y2 = _ := (Pt.on_iff X1 Y2).1 hq
          rw [e1, e2]
        have ho := opp_of (opp_sq he) Pt.good.hz hY
        rw [Pt.add_far ⟨rfl, ho⟩]
        refine ⟨0, 0, 0, rfl, fun b w hF => ?_⟩
        rw [v_zero]
        exact plus_opp x y z X1 Y2 (fe_ne hz) h0 h1 hF
    · have hd : X2 - X1 ≠ 0 := fun e => hX (Pt.eq_of_sub e).symm
      have h0 : runOf x z X2 ≠ 0 := by rw [hrun]; exact noz hd (noz hz hz)
      rw [Pt.add_near (fun e => hX e.1), Pt.lam_else (fun e => hX e.1)]
      have hl := r2 (Y2 - Y1) _ _ (Pt.good.hinv (X2 - X1) hd)
      generalize (Y2 - Y1) * Pt.E256.inv (X2 - X1) = l at hl ⊢
      have hs : riseOf y z Y2 = l * (z * runOf x z X2) := by rw [hrise]; exact rp_l hl hrun rfl
      have h3 := rp_x (X2 := X2) hx hrun rfl hs
      exact ⟨_, _, _, ⟨noz hz h0, h3, rp_y (X2 := X2) hx hy hrun rfl hs h3⟩, fun _ _ hF => plus_else x y z X2 Y2 (fe_ne hz) (fe_ne h0) hF⟩

theorem lift_rep (p : Pt.P Pt.pp) : ∃ x y z : Fe, Rep x y z p ∧ ∀ w, Calls Try.prog 38 #[qvP p] w fun e w' => e = .returned (sv x.val y.val z.val) ∧ Ext w w' := by
  rcases p with _ | ⟨X, Y⟩
  · refine ⟨0, 0, 0, rfl, fun w => ?_⟩
    rw [v_zero]
    exact lift_far 0 0 w
  · refine ⟨X, Y, 1, ⟨?_, r3 X, r4 Y⟩, fun w => ?_⟩
    · intro e
      have := congrArg Fin.val e
      rw [v_one, v_zero] at this
      exact absurd this (by decide)
    · rw [v_one]
      exact lift_near X.val Y.val w

theorem flat_rep {b : Nat} {x y z : Fe} {p : Pt.P Pt.pp} (h : Rep x y z p) {w : World} (hF : Fp w b) :
    Calls Try.prog 36 #[cv b, sv x.val y.val z.val] w fun e w' => e = .returned (qvP p) ∧ Ext w w' := by
  rcases p with _ | ⟨X, Y⟩
  · have hz : z = 0 := h
    subst hz
    rw [v_zero]
    exact flat_far x.val y.val hF
  · obtain ⟨hz, hx, hy⟩ := h
    have ht := Pt.good.hinv z hz
    refine (flat_near x y z hz hF).mono fun _ _ ⟨he, hw⟩ => ⟨?_, hw⟩
    rw [he]
    have e1 : (flat2 x y z).1 = X := rf_x hx ht
    have e2 : (flat2 x y z).2 = Y := rf_y hy ht
    rw [e1, e2]
    rfl

theorem on_calls {b : Nat} (X Y : Nat) (f : Bool) (hX : X < top) (hY : Y < top) {w : World} (hF : Fp w b) :
    Calls Try.prog 35 #[cv b, qv X Y f] w fun e w' => e = .returned (.bool (onB X Y f)) ∧ Ext w w' := by
  unfold onB
  cases f with
  | true =>
    by_cases h0 : X = 0
    · subst h0
      simp only [if_true, decide_true, Bool.true_and]
      exact on_far0 Y hY hF
    · simp only [if_true, h0, decide_false, Bool.false_and]
      exact on_far1 X Y hX h0 hF
  | false =>
    by_cases hx : X < Pt.pp
    · by_cases hy : Y < Pt.pp
      · simp only [Bool.false_eq_true, if_false, hx, hy, decide_true, Bool.true_and]
        have k := on_near (b := b) ⟨X, hx⟩ ⟨Y, hy⟩ hF
        rw [three_x, ← right_val, ← Pt.v_mul] at k
        exact k
      · simp only [Bool.false_eq_true, if_false, hx, hy, decide_true, decide_false, Bool.true_and, Bool.false_and]
        exact on_high X Y hx hY hy hF
    · simp only [Bool.false_eq_true, if_false, hx, decide_false, Bool.false_and]
      exact on_out X Y hX hx hF
theorem on_yes {b : Nat} (q : Pt.Q) {w : World} (hF : Fp w b) : Calls Try.prog 35 #[cv b, qvP q.1] w fun e w' => e = .returned (.bool true) ∧ Ext w w' := by
  have k := on_calls (Pt.pX q.1) (Pt.pY q.1) (Pt.pFar q.1) (p_top q.1).1 (p_top q.1).2 hF
  rw [onB_of] at k
  exact k
theorem on_no {b : Nat} {X Y : Nat} {f : Bool} (hX : X < top) (hY : Y < top) (h : onB X Y f = false) {w : World} (hF : Fp w b) : Calls Try.prog 35 #[cv b, qv X Y f] w fun e w' => e = .returned (.bool false) ∧ Ext w w' := by
  have k := on_calls X Y f hX hY hF
  rw [h] at k
  exact k
end Go.Proofs.Ytppfcdpokgnpfaa


/-
  What point's own functions share: errors, a number put into a point, two results.
-/
namespace Go.Proofs.Ytppfcdpokgnpfaa
open Go.RowKit

theorem made_not' {P : Program} {o : Oper} {a : Act} {w : World} {ty : TypeId} {x : Operand} {b r : Bool} (ho : o.op = .unOp .not ty x) (hx : a.eval x = .bool b) (hr : (!b) = r) : Made P o (.bool r) a w := hr ▸ made_not ho hx
theorem mkErr1 (W : World) : (Instr.makeInterface 37 (.int .i64 1)).run Try.prog W = .ok (.iface 37 (.int .i64 1)) W := by simp [Instr.makeInterface, go_sem]
theorem mkErr2 (W : World) : (Instr.makeInterface 37 (.int .i64 2)).run Try.prog W = .ok (.iface 37 (.int .i64 2)) W := by simp [Instr.makeInterface, go_sem]
theorem qv_zero : qv 0 0 false = .agg #[.int .u64 0, .int .u64 0, .int .u64 0, .int .u64 0, .int .u64 0, .int .u64 0, .int .u64 0, .int .u64 0, .bool false] := by
  obtain ⟨h0, h1, h2, h3⟩ := wd_z
  unfold qv qc
  rw [h0, h1, h2, h3]

theorem wpl_load {P : Program} {ops : Array Oper} {Q : Exit → Act → World → Prop} {rest : List Oper} {o : Oper} {a : Act} {w : World} {ty : TypeId} {x : Operand} {g t : Nat} {C cs : Array Value} {fr : Nat × Nat} {d : TypeDesc} (hg : o.guard = none) (ho : o.op = .load ty x) (hx : a.eval x = ptrTo g) (hb : w.heap[g]? = some (.cells C t fr))
    (hcs : C = cs) (hu : P.underlying ty = some d) (hd : d.isRow = true) (hi : (P.info? ty).map (·.size) = some cs.size) (h : wpList P ops Q rest (a.put o.dst (.agg cs)) w) : wpList P ops Q (o :: rest) a w := by
  subst hcs
  refine wpList_load_mid hg ty x ho g 0 hx C.toList d (fun j v hv => by rw [cell_of_row w g (0 + j) C t fr hb, Nat.zero_add]; simpa using hv) hu hd (by simpa using hi) ?_
  simpa using h
theorem but_keep {w W : World} {g r : Nat} {o : Obj} (hB : But r w W) (hg : w.heap[g]? = some o) (hne : g ≠ r) : W.heap[g]? = some o := by
  rw [hB.block g (Array.getElem?_eq_some_iff.1 hg).1 (by intro e; simp at e; exact hne e), hg]
theorem Fp.but {w W : World} {b r : Nat} (h : Fp w b) (hB : But r w W) (hne : b ≠ r) : Fp W b := by
  obtain ⟨N, Q, h1, h2⟩ := h
  exact ⟨N, Q, h1, h2.of_block (hB.block b h2.lt (by intro e; simp at e; exact hne e))⟩
theorem qc_row {W : World} {g X Y : Nat} {f : Bool} (h : W.heap[g]? = some (.cells (qc X Y f) 26 (0, 0))) : W.rowIs g 26 9 (pc X Y f) := ⟨qc X Y f, h, rfl, arr9 X Y f⟩
/-- A number is put into a point's Y. -/
theorem prest_mid {Q : Exit → Act → World → Prop} {l : List Oper} {m : Nat} {a : Act} {w : World} {x y : Operand} {g X Y Y' : Nat} {f : Bool} (os : Oper) (hl : l.drop m = [os]) (ho : os.op = .store 24 x y) (hd : os.dst = none) (hg : os.guard = none)
    (hx : a.eval x = .pointer (some ⟨g, 4, none⟩)) (hy : a.eval y = .agg (nc Y')) (hb : w.heap[g]? = some (.cells (qc X Y f) 26 (0, 0)))
    (h : ∀ W, But g w W → W.heap[g]? = some (.cells (qc X Y' f) 26 (0, 0)) → Q .normal a W) : PRest Try.prog l Q m a w := fun W hW => by
  have hr := qc_row (hW.block hb)
  rw [hl]
  refine wpList_plain hg fun K hK => wp_store_mid 24 x y ho g 4 (nc Y') hx hy ?_ (iN _) (nc_one _) (hK _ _ (wpList_nil ?_))
  · intro j hj
    have hj4 : j < 4 := hj
    rw [hr.cell (by omega)]
    exact ⟨rfl, hr.frozen _⟩
  · rw [hd]
    refine h _ (But.setCells _ _ _ (but_ext hW)) (blk9 ((row_setCells (nc Y').toList 4 W _ hr).congr fun j hj => ?_))
    match j, hj with
    | 0, _ => rfl
    | 1, _ => rfl
    | 2, _ => rfl
    | 3, _ => rfl
    | 4, _ => rfl
    | 5, _ => rfl
    | 6, _ => rfl
    | 7, _ => rfl
    | 8, _ => rfl
end Go.Proofs.Ytppfcdpokgnpfaa


/-
  point.Neg.
-/
namespace Go.Proofs.Ytppfcdpokgnpfaa
open Go.RowKit

set_option maxRecDepth 100000 in
set_option maxHeartbeats 8000000 in
theorem neg_no (X Y : Nat) (f : Bool) (haX : X < top) (haY : Y < top) (haB : onB X Y f = false) (w : World) :
    Calls Try.prog 12 #[qv X Y f] w fun e w' => e = .returned (.tuple #[qv 0 0 false, .iface 37 (.int .i64 1)]) ∧ Ext w w' := by
  have kaX := veil haX
  have kaY := veil haY
  have kaB := veil haB
  clear haX haY haB
  unfold qv qc
  go_enter Try.func12, Try.ntmps12
  go_upto_region 1 with (fail)
  obtain ⟨hx, b0, b1⟩ := blocks2 w (.cells #[.int .u64 (wd (X) 0), .int .u64 (wd (X) 1), .int .u64 (wd (X) 2), .int .u64 (wd (X) 3), .int .u64 (wd (Y) 0), .int .u64 (wd (Y) 1), .int .u64 (wd (Y) 2), .int .u64 (wd (Y) 3), .bool (f)] 26) (.cells #[.int .u64 0, .int .u64 0, .int .u64 0, .int .u64 0, .int .u64 0, .int .u64 0, .int .u64 0, .int .u64 0, .bool false] 26)
  generalize (w.alloc (.cells #[.int .u64 (wd (X) 0), .int .u64 (wd (X) 1), .int .u64 (wd (X) 2), .int .u64 (wd (X) 3), .int .u64 (wd (Y) 0), .int .u64 (wd (Y) 1), .int .u64 (wd (Y) 2), .int .u64 (wd (Y) 3), .bool (f)] 26)).alloc (.cells #[.int .u64 0, .int .u64 0, .int .u64 0, .int .u64 0, .int .u64 0, .int .u64 0, .int .u64 0, .int .u64 0, .bool false] 26) = w1 at *
  have b0 : w1.heap[w.heap.size]? = some (.cells (qc X Y f) 26 (0, 0)) := b0
  refine wp_region_lit ?_
  refine wpl_fun (R := fun v W' => ∃ b, v = cv b ∧ Fp W' b ∧ Ext w1 W') rfl rfl rfl (fun W => run_callFunc_in Try.func34 rfl rfl _ W) ((curve_calls w1).mono fun e W' ⟨b, he, hF, hE⟩ => ⟨_, he, b, rfl, hF, hE⟩) ?_
  rintro v w2 ⟨b, rfl, hf, hE⟩
  simp only [Act.put, List.setIfInBounds_toArray, List.set_cons_zero, List.set_cons_succ]
  replace b0 := hE.block b0
  replace b1 := hE.block b1
  replace hx := hx.trans hE
  clear hE
  refine wpl_var _ _ rfl rfl rfl rfl rfl rfl (hzK ·) (fun _ => rfl) (fun _ => rfl) (iK _) rfl (cc_one _) ?_
  intro gc w3 hgc bc hE
  replace b0 := hE.block b0
  replace b1 := hE.block b1
  replace hf := hf.ext hE
  replace hx := hx.trans hE
  clear hE
  simp only [Act.put, List.setIfInBounds_toArray, List.set_cons_zero, List.set_cons_succ]
  clear hgc
  refine wpList_nil ?_
  go_upto_region 2 with (fail)
  refine' wp_plain (m := 4) (A := _) (by kernel_rfl) ?h1 ?h2
  case h1 =>
    refine mk_step (cv b) rfl (made_load rfl rfl bc rfl Try.underlying60 rfl (iK _)) ?_
    simp only [Act.put, List.setIfInBounds_toArray, List.set_cons_zero, List.set_cons_succ]
    refine mk_step (qv X Y f) rfl (made_load rfl rfl b0 rfl Try.underlying26 rfl (iT _ _ _)) ?_
    simp only [Act.put, List.setIfInBounds_toArray, List.set_cons_zero, List.set_cons_succ]
    refine mk_step (.bool false) rfl (made_fun (args := [cv b, qv X Y f]) rfl rfl (fun W => run_callFunc_in Try.func35 rfl rfl _ W) (fun W hW => on_no kaX.out kaY.out kaB.out (hf.ext hW))) ?_
    simp only [Act.put, List.setIfInBounds_toArray, List.set_cons_zero, List.set_cons_succ]
    refine mk_step (.bool true) rfl (made_not' rfl rfl rfl) ?_
    simp only [Act.put, List.setIfInBounds_toArray, List.set_cons_zero, List.set_cons_succ]
    exact mk_end
  case h2 =>
    refine prest_done rfl ?_
    intro w4 hE
    replace b0 := hE.block b0
    replace b1 := hE.block b1
    replace bc := hE.block bc
    replace hf := hf.ext hE
    replace hx := hx.trans hE
    clear hE
    go_upto_region 3 with (fail)
    refine' wp_plain (m := 2) (A := _) (by kernel_rfl) ?h1 ?h2
    case h1 =>
      refine mk_step (qv 0 0 false) rfl (made_build rfl rfl (bldT0 ·)) ?_
      simp only [Act.put, List.setIfInBounds_toArray, List.set_cons_zero, List.set_cons_succ]
      refine mk_step (.iface 37 (.int .i64 1)) rfl (made_iface rfl (mkErr1 ·)) ?_
      simp only [Act.put, List.setIfInBounds_toArray, List.set_cons_zero, List.set_cons_succ]
      exact mk_end
    case h2 =>
      refine prest_store' _ rfl rfl rfl rfl rfl rfl b1 (iT _ _ _) rfl (qc_one _ _ _) ?_
      intro w5 hB hb
      go_wp2
      exact bodyPost_ret (results_row_tmp2 rfl _ _ (w.heap.size + 1) 26 (qc 0 0 false) (0, 0) _ rfl hb Try.underlying26 rfl (iT _ _ _)) rfl ⟨rfl, hx.new hB (by omega)⟩
set_option maxRecDepth 100000 in
set_option maxHeartbeats 8000000 in
theorem neg_yes (q : Pt.Q) (Y : Nat) (hY : ∀ (b : Nat) (w : World), Fp w b → Calls Try.prog 59 #[ptrTo b, nv 0, nv (Pt.pY q.1)] w fun e w' => e = .returned (nv Y) ∧ Ext w w') (w : World) :
    Calls Try.prog 12 #[qvP q.1] w fun e w' => e = .returned (.tuple #[qv (Pt.pX q.1) Y (Pt.pFar q.1), .nilIface]) ∧ Ext w w' := by
  have kY := veil hY
  clear hY
  unfold qvP qv qc
  go_enter Try.func12, Try.ntmps12
  go_upto_region 1 with (fail)
  obtain ⟨hx, b0, b1⟩ := blocks2 w (.cells #[.int .u64 (wd (Pt.pX q.1) 0), .int .u64 (wd (Pt.pX q.1) 1), .int .u64 (wd (Pt.pX q.1) 2), .int .u64 (wd (Pt.pX q.1) 3), .int .u64 (wd (Pt.pY q.1) 0), .int .u64 (wd (Pt.pY q.1) 1), .int .u64 (wd (Pt.pY q.1) 2), .int .u64 (wd (Pt.pY q.1) 3), .bool (Pt.pFar q.1)] 26) (.cells #[.int .u64 0, .int .u64 0, .int .u64 0, .int .u64 0, .int .u64 0, .int .u64 0, .int .u64 0, .int .u64 0, .bool false] 26)
  generalize (w.alloc (.cells #[.int .u64 (wd (Pt.pX q.1) 0), .int .u64 (wd (Pt.pX q.1) 1), .int .u64 (wd (Pt.pX q.1) 2), .int .u64 (wd (Pt.pX q.1) 3), .int .u64 (wd (Pt.pY q.1) 0), .int .u64 (wd (Pt.pY q.1) 1), .int .u64 (wd (Pt.pY q.1) 2), .int .u64 (wd (Pt.pY q.1) 3), .bool (Pt.pFar q.1)] 26)).alloc (.cells #[.int .u64 0, .int .u64 0, .int .u64 0, .int .u64 0, .int .u64 0, .int .u64 0, .int .u64 0, .int .u64 0, .bool false] 26) = w1 at *
  have b0 : w1.heap[w.heap.size]? = some (.cells (qc (Pt.pX q.1) (Pt.pY q.1) (Pt.pFar q.1)) 26 (0, 0)) := b0
  refine wp_region_lit ?_
  refine wpl_fun (R := fun v W' => ∃ b, v = cv b ∧ Fp W' b ∧ Ext w1 W') rfl rfl rfl (fun W => run_callFunc_in Try.func34 rfl rfl _ W) ((curve_calls w1).mono fun e W' ⟨b, he, hF, hE⟩ => ⟨_, he, b, rfl, hF, hE⟩) ?_
  rintro v w2 ⟨b, rfl, hf, hE⟩
  simp only [Act.put, List.setIfInBounds_toArray, List.set_cons_zero, List.set_cons_succ]
  replace b0 := hE.block b0
  replace b1 := hE.block b1
  replace hx := hx.trans hE
  clear hE
  refine wpl_var _ _ rfl rfl rfl rfl rfl rfl (hzK ·) (fun _ => rfl) (fun _ => rfl) (iK _) rfl (cc_one _) ?_
  intro gc w3 hgc bc hE
  replace b0 := hE.block b0
  replace b1 := hE.block b1
  replace hf := hf.ext hE
  replace hx := hx.trans hE
  clear hE
  simp only [Act.put, List.setIfInBounds_toArray, List.set_cons_zero, List.set_cons_succ]
  clear hgc
  refine wpList_nil ?_
  go_upto_region 2 with (fail)
  refine' wp_plain (m := 4) (A := _) (by kernel_rfl) ?h1 ?h2
  case h1 =>
    refine mk_step (cv b) rfl (made_load rfl rfl bc rfl Try.underlying60 rfl (iK _)) ?_
    simp only [Act.put, List.setIfInBounds_toArray, List.set_cons_zero, List.set_cons_succ]
    refine mk_step (qv (Pt.pX q.1) (Pt.pY q.1) (Pt.pFar q.1)) rfl (made_load rfl rfl b0 rfl Try.underlying26 rfl (iT _ _ _)) ?_
    simp only [Act.put, List.setIfInBounds_toArray, List.set_cons_zero, List.set_cons_succ]
    refine mk_step (.bool true) rfl (made_fun (args := [cv b, qv (Pt.pX q.1) (Pt.pY q.1) (Pt.pFar q.1)]) rfl rfl (fun W => run_callFunc_in Try.func35 rfl rfl _ W) (fun W hW => on_yes q (hf.ext hW))) ?_
    simp only [Act.put, List.setIfInBounds_toArray, List.set_cons_zero, List.set_cons_succ]
    refine mk_step (.bool false) rfl (made_not' rfl rfl rfl) ?_
    simp only [Act.put, List.setIfInBounds_toArray, List.set_cons_zero, List.set_cons_succ]
    exact mk_end
  case h2 =>
    refine prest_done rfl ?_
    intro w4 hE
    replace b0 := hE.block b0
    replace b1 := hE.block b1
    replace bc := hE.block bc
    replace hf := hf.ext hE
    replace hx := hx.trans hE
    clear hE
    go_upto_region 4 with (fail)
    refine' wp_plain (m := 7) (A := _) (by kernel_rfl) ?h1 ?h2
    case h1 =>
      refine mk_step (.pointer (some ⟨gc, 1, none⟩)) rfl (made_field rfl rfl (fldK1 _ ·)) ?_
      simp only [Act.put, List.setIfInBounds_toArray, List.set_cons_zero, List.set_cons_succ]
      refine mk_step (fv 59 b) rfl (made_load1 rfl rfl bc rfl (isn_func ·)) ?_
      simp only [Act.put, List.setIfInBounds_toArray, List.set_cons_zero, List.set_cons_succ]
      refine mk_step (nv 0) rfl (made_build rfl rfl (bldN0 ·)) ?_
      simp only [Act.put, List.setIfInBounds_toArray, List.set_cons_zero, List.set_cons_succ]
      refine mk_step (.pointer (some ⟨w.heap.size, 4, none⟩)) rfl (made_field rfl rfl (fldT1 _ ·)) ?_
      simp only [Act.put, List.setIfInBounds_toArray, List.set_cons_zero, List.set_cons_succ]
      refine mk_step (nv (Pt.pY q.1)) rfl (made_load rfl rfl b0 rfl uN rfl (iN _)) ?_
      simp only [Act.put, List.setIfInBounds_toArray, List.set_cons_zero, List.set_cons_succ]
      refine mk_step (nv Y) rfl (made_by (args := [nv 0, nv (Pt.pY q.1)]) rfl rfl rfl (he_kSub _ ·) (fun W hW => kY.out _ _ (hf.ext hW))) ?_
      simp only [Act.put, List.setIfInBounds_toArray, List.set_cons_zero, List.set_cons_succ]
      refine mk_step (.pointer (some ⟨w.heap.size, 4, none⟩)) rfl (made_field rfl rfl (fldT1 _ ·)) ?_
      simp only [Act.put, List.setIfInBounds_toArray, List.set_cons_zero, List.set_cons_succ]
      exact mk_end
    case h2 =>
      refine prest_mid _ rfl rfl rfl rfl rfl rfl b0 ?_
      intro w5 hB hb
      replace b1 : w5.heap[_]? = _ := (hB.block _ (Array.getElem?_eq_some_iff.1 b1).1 (by intro e; simp at e)).trans b1
      clear bc
      replace hx := hx.new hB (by omega)
      clear hB b0
      go_upto_region 5 with (fail)
      refine' wp_plain (m := 1) (A := _) (by kernel_rfl) ?h1 ?h2
      case h1 =>
        refine mk_step (qv (Pt.pX q.1) Y (Pt.pFar q.1)) rfl (made_load rfl rfl hb rfl Try.underlying26 rfl (iT _ _ _)) ?_
        simp only [Act.put, List.setIfInBounds_toArray, List.set_cons_zero, List.set_cons_succ]
        exact mk_end
      case h2 =>
        refine prest_store' _ rfl rfl rfl rfl rfl rfl b1 (iT _ _ _) rfl (qc_one _ _ _) ?_
        intro w6 hB hb
        go_wp2
        exact bodyPost_ret (results_row_tmp2 rfl _ _ (w.heap.size + 1) 26 (qc (Pt.pX q.1) Y (Pt.pFar q.1)) (0, 0) _ rfl hb Try.underlying26 rfl (iT _ _ _)) rfl ⟨rfl, hx.new hB (by omega)⟩
end Go.Proofs.Ytppfcdpokgnpfaa


/-
  point.Add.
-/
namespace Go.Proofs.Ytppfcdpokgnpfaa
open Go.RowKit

set_option maxRecDepth 100000 in
set_option maxHeartbeats 8000000 in
theorem add_no1 (X Y : Nat) (f : Bool) (X' Y' : Nat) (f' : Bool) (haX : X < top) (haY : Y < top) (haB : onB X Y f = false) (w : World) :
    Calls Try.prog 11 #[qv X Y f, qv X' Y' f'] w fun e w' => e = .returned (.tuple #[qv 0 0 false, .iface 37 (.int .i64 1)]) ∧ Ext w w' := by
  have kaX := veil haX
  have kaY := veil haY
  have kaB := veil haB
  clear haX haY haB
  unfold qv qc
  go_enter Try.func11, Try.ntmps11
  go_upto_region 1 with (fail)
  obtain ⟨hx, b0, b1, b2⟩ := blocks3 w (.cells #[.int .u64 (wd (X) 0), .int .u64 (wd (X) 1), .int .u64 (wd (X) 2), .int .u64 (wd (X) 3), .int .u64 (wd (Y) 0), .int .u64 (wd (Y) 1), .int .u64 (wd (Y) 2), .int .u64 (wd (Y) 3), .bool (f)] 26) (.cells #[.int .u64 (wd (X') 0), .int .u64 (wd (X') 1), .int .u64 (wd (X') 2), .int .u64 (wd (X') 3), .int .u64 (wd (Y') 0), .int .u64 (wd (Y') 1), .int .u64 (wd (Y') 2), .int .u64 (wd (Y') 3), .bool (f')] 26) (.cells #[.int .u64 0, .int .u64 0, .int .u64 0, .int .u64 0, .int .u64 0, .int .u64 0, .int .u64 0, .int .u64 0, .bool false] 26)
  generalize ((w.alloc (.cells #[.int .u64 (wd (X) 0), .int .u64 (wd (X) 1), .int .u64 (wd (X) 2), .int .u64 (wd (X) 3), .int .u64 (wd (Y) 0), .int .u64 (wd (Y) 1), .int .u64 (wd (Y) 2), .int .u64 (wd (Y) 3), .bool (f)] 26)).alloc (.cells #[.int .u64 (wd (X') 0), .int .u64 (wd (X') 1), .int .u64 (wd (X') 2), .int .u64 (wd (X') 3), .int .u64 (wd (Y') 0), .int .u64 (wd (Y') 1), .int .u64 (wd (Y') 2), .int .u64 (wd (Y') 3), .bool (f')] 26)).alloc (.cells #[.int .u64 0, .int .u64 0, .int .u64 0, .int .u64 0, .int .u64 0, .int .u64 0, .int .u64 0, .int .u64 0, .bool false] 26) = w1 at *
  have b0 : w1.heap[w.heap.size]? = some (.cells (qc X Y f) 26 (0, 0)) := b0
  have b1 : w1.heap[w.heap.size + 1]? = some (.cells (qc X' Y' f') 26 (0, 0)) := b1
  refine wp_region_lit ?_
  refine wpl_fun (R := fun v W' => ∃ b, v = cv b ∧ Fp W' b ∧ Ext w1 W') rfl rfl rfl (fun W => run_callFunc_in Try.func34 rfl rfl _ W) ((curve_calls w1).mono fun e W' ⟨b, he, hF, hE⟩ => ⟨_, he, b, rfl, hF, hE⟩) ?_
  rintro v w2 ⟨b, rfl, hf, hE⟩
  simp only [Act.put, List.setIfInBounds_toArray, List.set_cons_zero, List.set_cons_succ]
  replace b0 := hE.block b0
  replace b1 := hE.block b1
  replace b2 := hE.block b2
  replace hx := hx.trans hE
  clear hE
  refine wpl_var _ _ rfl rfl rfl rfl rfl rfl (hzK ·) (fun _ => rfl) (fun _ => rfl) (iK _) rfl (cc_one _) ?_
  intro gc w3 hgc bc hE
  replace b0 := hE.block b0
  replace b1 := hE.block b1
  replace b2 := hE.block b2
  replace hf := hf.ext hE
  replace hx := hx.trans hE
  clear hE
  simp only [Act.put, List.setIfInBounds_toArray, List.set_cons_zero, List.set_cons_succ]
  clear hgc
  refine wpList_nil ?_
  go_upto_region 2 with (fail)
  refine' wp_plainG (m := 10) (A := _) ?h1 ?h2
  case h1 =>
    refine mk_step (cv b) rfl (made_load rfl rfl bc rfl Try.underlying60 rfl (iK _)) ?_
    simp only [Act.put, List.setIfInBounds_toArray, List.set_cons_zero, List.set_cons_succ]
    refine mk_step (qv X Y f) rfl (made_load rfl rfl b0 rfl Try.underlying26 rfl (iT _ _ _)) ?_
    simp only [Act.put, List.setIfInBounds_toArray, List.set_cons_zero, List.set_cons_succ]
    refine mk_step (.bool false) rfl (made_fun (args := [cv b, qv X Y f]) rfl rfl (fun W => run_callFunc_in Try.func35 rfl rfl _ W) (fun W hW => on_no kaX.out kaY.out kaB.out (hf.ext hW))) ?_
    simp only [Act.put, List.setIfInBounds_toArray, List.set_cons_zero, List.set_cons_succ]
    refine mk_step (.bool true) rfl (made_not' rfl rfl rfl) ?_
    simp only [Act.put, List.setIfInBounds_toArray, List.set_cons_zero, List.set_cons_succ]
    refine mk_step (.bool true) rfl (made_move (.inl rfl) rfl) ?_
    simp only [Act.put, List.setIfInBounds_toArray, List.set_cons_zero, List.set_cons_succ]
    refine mk_skip rfl ?_
    simp only [Act.put, List.setIfInBounds_toArray, List.set_cons_zero, List.set_cons_succ]
    refine mk_skip rfl ?_
    simp only [Act.put, List.setIfInBounds_toArray, List.set_cons_zero, List.set_cons_succ]
    refine mk_skip rfl ?_
    simp only [Act.put, List.setIfInBounds_toArray, List.set_cons_zero, List.set_cons_succ]
    refine mk_skip rfl ?_
    simp only [Act.put, List.setIfInBounds_toArray, List.set_cons_zero, List.set_cons_succ]
    refine mk_step (.bool true) rfl (made_pick rfl rfl rfl) ?_
    simp only [Act.put, List.setIfInBounds_toArray, List.set_cons_zero, List.set_cons_succ]
    exact mk_end
  case h2 =>
    refine prest_done rfl ?_
    intro w4 hE
    replace b0 := hE.block b0
    replace b1 := hE.block b1
    replace b2 := hE.block b2
    replace bc := hE.block bc
    replace hf := hf.ext hE
    replace hx := hx.trans hE
    clear hE
    go_upto_region 3 with (fail)
    refine' wp_plain (m := 2) (A := _) (by kernel_rfl) ?h1 ?h2
    case h1 =>
      refine mk_step (qv 0 0 false) rfl (made_build rfl rfl (bldT0 ·)) ?_
      simp only [Act.put, List.setIfInBounds_toArray, List.set_cons_zero, List.set_cons_succ]
      refine mk_step (.iface 37 (.int .i64 1)) rfl (made_iface rfl (mkErr1 ·)) ?_
      simp only [Act.put, List.setIfInBounds_toArray, List.set_cons_zero, List.set_cons_succ]
      exact mk_end
    case h2 =>
      refine prest_store' _ rfl rfl rfl rfl rfl rfl b2 (iT _ _ _) rfl (qc_one _ _ _) ?_
      intro w5 hB hb
      go_wp2
      exact bodyPost_ret (results_row_tmp2 rfl _ _ (w.heap.size + 1 + 1) 26 (qc 0 0 false) (0, 0) _ rfl hb Try.underlying26 rfl (iT _ _ _)) rfl ⟨rfl, hx.new hB (by omega)⟩
set_option maxRecDepth 100000 in
set_option maxHeartbeats 8000000 in
theorem add_no2 (q : Pt.Q) (X Y : Nat) (f : Bool) (haX : X < top) (haY : Y < top) (haB : onB X Y f = false) (w : World) :
    Calls Try.prog 11 #[qvP q.1, qv X Y f] w fun e w' => e = .returned (.tuple #[qv 0 0 false, .iface 37 (.int .i64 1)]) ∧ Ext w w' := by
  have kaX := veil haX
  have kaY := veil haY
  have kaB := veil haB
  clear haX haY haB
  unfold qvP qv qc
  go_enter Try.func11, Try.ntmps11
  go_upto_region 1 with (fail)
  obtain ⟨hx, b0, b1, b2⟩ := blocks3 w (.cells #[.int .u64 (wd (Pt.pX q.1) 0), .int .u64 (wd (Pt.pX q.1) 1), .int .u64 (wd (Pt.pX q.1) 2), .int .u64 (wd (Pt.pX q.1) 3), .int .u64 (wd (Pt.pY q.1) 0), .int .u64 (wd (Pt.pY q.1) 1), .int .u64 (wd (Pt.pY q.1) 2), .int .u64 (wd (Pt.pY q.1) 3), .bool (Pt.pFar q.1)] 26) (.cells #[.int .u64 (wd (X) 0), .int .u64 (wd (X) 1), .int .u64 (wd (X) 2), .int .u64 (wd (X) 3), .int .u64 (wd (Y) 0), .int .u64 (wd (Y) 1), .int .u64 (wd (Y) 2), .int .u64 (wd (Y) 3), .bool (f)] 26) (.cells #[.int .u64 0, .int .u64 0, .int .u64 0, .int .u64 0, .int .u64 0, .int .u64 0, .int .u64 0, .int .u64 0, .bool false] 26)
  generalize ((w.alloc (.cells #[.int .u64 (wd (Pt.pX q.1) 0), .int .u64 (wd (Pt.pX q.1) 1), .int .u64 (wd (Pt.pX q.1) 2), .int .u64 (wd (Pt.pX q.1) 3), .int .u64 (wd (Pt.pY q.1) 0), .int .u64 (wd (Pt.pY q.1) 1), .int .u64 (wd (Pt.pY q.1) 2), .int .u64 (wd (Pt.pY q.1) 3), .bool (Pt.pFar q.1)] 26)).alloc (.cells #[.int .u64 (wd (X) 0), .int .u64 (wd (X) 1), .int .u64 (wd (X) 2), .int .u64 (wd (X) 3), .int .u64 (wd (Y) 0), .int .u64 (wd (Y) 1), .int .u64 (wd (Y) 2), .int .u64 (wd (Y) 3), .bool (f)] 26)).alloc (.cells #[.int .u64 0, .int .u64 0, .int .u64 0, .int .u64 0, .int .u64 0, .int .u64 0, .int .u64 0, .int .u64 0, .bool false] 26) = w1 at *
  have b0 : w1.heap[w.heap.size]? = some (.cells (qc (Pt.pX q.1) (Pt.pY q.1) (Pt.pFar q.1)) 26 (0, 0)) := b0
  have b1 : w1.heap[w.heap.size + 1]? = some (.cells (qc X Y f) 26 (0, 0)) := b1
  refine wp_region_lit ?_
  refine wpl_fun (R := fun v W' => ∃ b, v = cv b ∧ Fp W' b ∧ Ext w1 W') rfl rfl rfl (fun W => run_callFunc_in Try.func34 rfl rfl _ W) ((curve_calls w1).mono fun e W' ⟨b, he, hF, hE⟩ => ⟨_, he, b, rfl, hF, hE⟩) ?_
  rintro v w2 ⟨b, rfl, hf, hE⟩
  simp only [Act.put, List.setIfInBounds_toArray, List.set_cons_zero, List.set_cons_succ]
  replace b0 := hE.block b0
  replace b1 := hE.block b1
  replace b2 := hE.block b2
  replace hx := hx.trans hE
  clear hE
  refine wpl_var _ _ rfl rfl rfl rfl rfl rfl (hzK ·) (fun _ => rfl) (fun _ => rfl) (iK _) rfl (cc_one _) ?_
  intro gc w3 hgc bc hE
  replace b0 := hE.block b0
  replace b1 := hE.block b1
  replace b2 := hE.block b2
  replace hf := hf.ext hE
  replace hx := hx.trans hE
  clear hE
  simp only [Act.put, List.setIfInBounds_toArray, List.set_cons_zero, List.set_cons_succ]
  clear hgc
  refine wpList_nil ?_
  go_upto_region 2 with (fail)
  refine' wp_plainG (m := 10) (A := _) ?h1 ?h2
  case h1 =>
    refine mk_step (cv b) rfl (made_load rfl rfl bc rfl Try.underlying60 rfl (iK _)) ?_
    simp only [Act.put, List.setIfInBounds_toArray, List.set_cons_zero, List.set_cons_succ]
    refine mk_step (qv (Pt.pX q.1) (Pt.pY q.1) (Pt.pFar q.1)) rfl (made_load rfl rfl b0 rfl Try.underlying26 rfl (iT _ _ _)) ?_
    simp only [Act.put, List.setIfInBounds_toArray, List.set_cons_zero, List.set_cons_succ]
    refine mk_step (.bool true) rfl (made_fun (args := [cv b, qv (Pt.pX q.1) (Pt.pY q.1) (Pt.pFar q.1)]) rfl rfl (fun W => run_callFunc_in Try.func35 rfl rfl _ W) (fun W hW => on_yes q (hf.ext hW))) ?_
    simp only [Act.put, List.setIfInBounds_toArray, List.set_cons_zero, List.set_cons_succ]
    refine mk_step (.bool false) rfl (made_not' rfl rfl rfl) ?_
    simp only [Act.put, List.setIfInBounds_toArray, List.set_cons_zero, List.set_cons_succ]
    refine mk_step (.bool false) rfl (made_move (.inl rfl) rfl) ?_
    simp only [Act.put, List.setIfInBounds_toArray, List.set_cons_zero, List.set_cons_succ]
    refine mk_want (cv b) rfl (made_load rfl rfl bc rfl Try.underlying60 rfl (iK _)) ?_
    simp only [Act.put, List.setIfInBounds_toArray, List.set_cons_zero, List.set_cons_succ]
    refine mk_want (qv X Y f) rfl (made_load rfl rfl b1 rfl Try.underlying26 rfl (iT _ _ _)) ?_
    simp only [Act.put, List.setIfInBounds_toArray, List.set_cons_zero, List.set_cons_succ]
    refine mk_want (.bool false) rfl (made_fun (args := [cv b, qv X Y f]) rfl rfl (fun W => run_callFunc_in Try.func35 rfl rfl _ W) (fun W hW => on_no kaX.out kaY.out kaB.out (hf.ext hW))) ?_
    simp only [Act.put, List.setIfInBounds_toArray, List.set_cons_zero, List.set_cons_succ]
    refine mk_want (.bool true) rfl (made_not' rfl rfl rfl) ?_
    simp only [Act.put, List.setIfInBounds_toArray, List.set_cons_zero, List.set_cons_succ]
    refine mk_step (.bool true) rfl (made_pick rfl rfl rfl) ?_
    simp only [Act.put, List.setIfInBounds_toArray, List.set_cons_zero, List.set_cons_succ]
    exact mk_end
  case h2 =>
    refine prest_done rfl ?_
    intro w4 hE
    replace b0 := hE.block b0
    replace b1 := hE.block b1
    replace b2 := hE.block b2
    replace bc := hE.block bc
    replace hf := hf.ext hE
    replace hx := hx.trans hE
    clear hE
    go_upto_region 3 with (fail)
    refine' wp_plain (m := 2) (A := _) (by kernel_rfl) ?h1 ?h2
    case h1 =>
      refine mk_step (qv 0 0 false) rfl (made_build rfl rfl (bldT0 ·)) ?_
      simp only [Act.put, List.setIfInBounds_toArray, List.set_cons_zero, List.set_cons_succ]
      refine mk_step (.iface 37 (.int .i64 1)) rfl (made_iface rfl (mkErr1 ·)) ?_
      simp only [Act.put, List.setIfInBounds_toArray, List.set_cons_zero, List.set_cons_succ]
      exact mk_end
    case h2 =>
      refine prest_store' _ rfl rfl rfl rfl rfl rfl b2 (iT _ _ _) rfl (qc_one _ _ _) ?_
      intro w5 hB hb
      go_wp2
      exact bodyPost_ret (results_row_tmp2 rfl _ _ (w.heap.size + 1 + 1) 26 (qc 0 0 false) (0, 0) _ rfl hb Try.underlying26 rfl (iT _ _ _)) rfl ⟨rfl, hx.new hB (by omega)⟩
set_option maxRecDepth 100000 in
set_option maxHeartbeats 8000000 in
theorem add_yes (q r : Pt.Q) (w : World) :
    Calls Try.prog 11 #[qvP q.1, qvP r.1] w fun e w' => e = .returned (.tuple #[qvP (Pt.grp.op q r).1, .nilIface]) ∧ Ext w w' := by
  obtain ⟨x1, y1, z1, h1, k1⟩ := lift_rep q.1
  obtain ⟨x2, y2, z2, h2, k2⟩ := plus_rep q.2 r.2 h1
  have k3 := fun (b : Nat) (w : World) (hF : Fp w b) => flat_rep h2 hF
  obtain ⟨t, ht⟩ : ∃ t : Pt.Q, t = Pt.grp.op q r := ⟨_, rfl⟩
  have ht2 : Pt.E256.add q.1 r.1 = t.1 := by rw [ht]; rfl
  rw [ht2] at k3
  rw [← ht]
  have K1 := veil k1
  have K2 := veil k2
  have K3 := veil k3
  clear k1 k2 k3 h1 h2 ht ht2
  unfold qvP qv qc
  go_enter Try.func11, Try.ntmps11
  go_upto_region 1 with (fail)
  obtain ⟨hx, b0, b1, b2⟩ := blocks3 w (.cells #[.int .u64 (wd (Pt.pX q.1) 0), .int .u64 (wd (Pt.pX q.1) 1), .int .u64 (wd (Pt.pX q.1) 2), .int .u64 (wd (Pt.pX q.1) 3), .int .u64 (wd (Pt.pY q.1) 0), .int .u64 (wd (Pt.pY q.1) 1), .int .u64 (wd (Pt.pY q.1) 2), .int .u64 (wd (Pt.pY q.1) 3), .bool (Pt.pFar q.1)] 26) (.cells #[.int .u64 (wd (Pt.pX r.1) 0), .int .u64 (wd (Pt.pX r.1) 1), .int .u64 (wd (Pt.pX r.1) 2), .int .u64 (wd (Pt.pX r.1) 3), .int .u64 (wd (Pt.pY r.1) 0), .int .u64 (wd (Pt.pY r.1) 1), .int .u64 (wd (Pt.pY r.1) 2), .int .u64 (wd (Pt.pY r.1) 3), .bool (Pt.pFar r.1)] 26) (.cells #[.int .u64 0, .int .u64 0, .int .u64 0, .int .u64 0, .int .u64 0, .int .u64 0, .int .u64 0, .int .u64 0, .bool false] 26)
  generalize ((w.alloc (.cells #[.int .u64 (wd (Pt.pX q.1) 0), .int .u64 (wd (Pt.pX q.1) 1), .int .u64 (wd (Pt.pX q.1) 2), .int .u64 (wd (Pt.pX q.1) 3), .int .u64 (wd (Pt.pY q.1) 0), .int .u64 (wd (Pt.pY q.1) 1), .int .u64 (wd (Pt.pY q.1) 2), .int .u64 (wd (Pt.pY q.1) 3), .bool (Pt.pFar q.1)] 26)).alloc (.cells #[.int .u64 (wd (Pt.pX r.1) 0), .int .u64 (wd (Pt.pX r.1) 1), .int .u64 (wd (Pt.pX r.1) 2), .int .u64 (wd (Pt.pX r.1) 3), .int .u64 (wd (Pt.pY r.1) 0), .int .u64 (wd (Pt.pY r.1) 1), .int .u64 (wd (Pt.pY r.1) 2), .int .u64 (wd (Pt.pY r.1) 3), .bool (Pt.pFar r.1)] 26)).alloc (.cells #[.int .u64 0, .int .u64 0, .int .u64 0, .int .u64 0, .int .u64 0, .int .u64 0, .int .u64 0, .int .u64 0, .bool false] 26) = w1 at *
  have b0 : w1.heap[w.heap.size]? = some (.cells (qc (Pt.pX q.1) (Pt.pY q.1) (Pt.pFar q.1)) 26 (0, 0)) := b0
  have b1 : w1.heap[w.heap.size + 1]? = some (.cells (qc (Pt.pX r.1) (Pt.pY r.1) (Pt.pFar r.1)) 26 (0, 0)) := b1
  refine wp_region_lit ?_
  refine wpl_fun (R := fun v W' => ∃ b, v = cv b ∧ Fp W' b ∧ Ext w1 W') rfl rfl rfl (fun W => run_callFunc_in Try.func34 rfl rfl _ W) ((curve_calls w1).mono fun e W' ⟨b, he, hF, hE⟩ => ⟨_, he, b, rfl, hF, hE⟩) ?_
  rintro v w2 ⟨b, rfl, hf, hE⟩
  simp only [Act.put, List.setIfInBounds_toArray, List.set_cons_zero, List.set_cons_succ]
  replace b0 := hE.block b0
  replace b1 := hE.block b1
  replace b2 := hE.block b2
  replace hx := hx.trans hE
  clear hE
  refine wpl_var _ _ rfl rfl rfl rfl rfl rfl (hzK ·) (fun _ => rfl) (fun _ => rfl) (iK _) rfl (cc_one _) ?_
  intro gc w3 hgc bc hE
  replace b0 := hE.block b0
  replace b1 := hE.block b1
  replace b2 := hE.block b2
  replace hf := hf.ext hE
  replace hx := hx.trans hE
  clear hE
  simp only [Act.put, List.setIfInBounds_toArray, List.set_cons_zero, List.set_cons_succ]
  clear hgc
  refine wpList_nil ?_
  go_upto_region 2 with (fail)
  refine' wp_plainG (m := 10) (A := _) ?h1 ?h2
  case h1 =>
    refine mk_step (cv b) rfl (made_load rfl rfl bc rfl Try.underlying60 rfl (iK _)) ?_
    simp only [Act.put, List.setIfInBounds_toArray, List.set_cons_zero, List.set_cons_succ]
    refine mk_step (qv (Pt.pX q.1) (Pt.pY q.1) (Pt.pFar q.1)) rfl (made_load rfl rfl b0 rfl Try.underlying26 rfl (iT _ _ _)) ?_
    simp only [Act.put, List.setIfInBounds_toArray, List.set_cons_zero, List.set_cons_succ]
    refine mk_step (.bool true) rfl (made_fun (args := [cv b, qv (Pt.pX q.1) (Pt.pY q.1) (Pt.pFar q.1)]) rfl rfl (fun W => run_callFunc_in Try.func35 rfl rfl _ W) (fun W hW => on_yes q (hf.ext hW))) ?_
    simp only [Act.put, List.setIfInBounds_toArray, List.set_cons_zero, List.set_cons_succ]
    refine mk_step (.bool false) rfl (made_not' rfl rfl rfl) ?_
    simp only [Act.put, List.setIfInBounds_toArray, List.set_cons_zero, List.set_cons_succ]
    refine mk_step (.bool false) rfl (made_move (.inl rfl) rfl) ?_
    simp only [Act.put, List.setIfInBounds_toArray, List.set_cons_zero, List.set_cons_succ]
    refine mk_want (cv b) rfl (made_load rfl rfl bc rfl Try.underlying60 rfl (iK _)) ?_
    simp only [Act.put, List.setIfInBounds_toArray, List.set_cons_zero, List.set_cons_succ]
    refine mk_want (qv (Pt.pX r.1) (Pt.pY r.1) (Pt.pFar r.1)) rfl (made_load rfl rfl b1 rfl Try.underlying26 rfl (iT _ _ _)) ?_
    simp only [Act.put, List.setIfInBounds_toArray, List.set_cons_zero, List.set_cons_succ]
    refine mk_want (.bool true) rfl (made_fun (args := [cv b, qv (Pt.pX r.1) (Pt.pY r.1) (Pt.pFar r.1)]) rfl rfl (fun W => run_callFunc_in Try.func35 rfl rfl _ W) (fun W hW => on_yes r (hf.ext hW))) ?_
    simp only [Act.put, List.setIfInBounds_toArray, List.set_cons_zero, List.set_cons_succ]
    refine mk_want (.bool false) rfl (made_not' rfl rfl rfl) ?_
    simp only [Act.put, List.setIfInBounds_toArray, List.set_cons_zero, List.set_cons_succ]
    refine mk_step (.bool false) rfl (made_pick rfl rfl rfl) ?_
    simp only [Act.put, List.setIfInBounds_toArray, List.set_cons_zero, List.set_cons_succ]
    exact mk_end
  case h2 =>
    refine prest_done rfl ?_
    intro w4 hE
    replace b0 := hE.block b0
    replace b1 := hE.block b1
    replace b2 := hE.block b2
    replace bc := hE.block bc
    replace hf := hf.ext hE
    replace hx := hx.trans hE
    clear hE
    go_upto_region 4 with (fail)
    refine' wp_made (m := 7) (A := _) 7 (by kernel_rfl) (by kernel_rfl) (by kernel_rfl) ?h1 ?h2
    case h1 =>
      refine mk_step (cv b) rfl (made_load rfl rfl bc rfl Try.underlying60 rfl (iK _)) ?_
      simp only [Act.put, List.setIfInBounds_toArray, List.set_cons_zero, List.set_cons_succ]
      refine mk_step (cv b) rfl (made_load rfl rfl bc rfl Try.underlying60 rfl (iK _)) ?_
      simp only [Act.put, List.setIfInBounds_toArray, List.set_cons_zero, List.set_cons_succ]
      refine mk_step (qv (Pt.pX q.1) (Pt.pY q.1) (Pt.pFar q.1)) rfl (made_load rfl rfl b0 rfl Try.underlying26 rfl (iT _ _ _)) ?_
      simp only [Act.put, List.setIfInBounds_toArray, List.set_cons_zero, List.set_cons_succ]
      refine mk_step (sv x1.val y1.val z1.val) rfl (made_fun (args := [qv (Pt.pX q.1) (Pt.pY q.1) (Pt.pFar q.1)]) rfl rfl (fun W => run_callFunc_in Try.func38 rfl rfl _ W) (fun W hW => K1.out W)) ?_
      simp only [Act.put, List.setIfInBounds_toArray, List.set_cons_zero, List.set_cons_succ]
      refine mk_step (qv (Pt.pX r.1) (Pt.pY r.1) (Pt.pFar r.1)) rfl (made_load rfl rfl b1 rfl Try.underlying26 rfl (iT _ _ _)) ?_
      simp only [Act.put, List.setIfInBounds_toArray, List.set_cons_zero, List.set_cons_succ]
      refine mk_step (sv x2.val y2.val z2.val) rfl (made_fun (args := [cv b, sv x1.val y1.val z1.val, qv (Pt.pX r.1) (Pt.pY r.1) (Pt.pFar r.1)]) rfl rfl (fun W => run_callFunc_in Try.func37 rfl rfl _ W) (fun W hW => K2.out _ _ (hf.ext hW))) ?_
      simp only [Act.put, List.setIfInBounds_toArray, List.set_cons_zero, List.set_cons_succ]
      refine mk_step (qv (Pt.pX t.1) (Pt.pY t.1) (Pt.pFar t.1)) rfl (made_fun (args := [cv b, sv x2.val y2.val z2.val]) rfl rfl (fun W => run_callFunc_in Try.func36 rfl rfl _ W) (fun W hW => K3.out _ _ (hf.ext hW))) ?_
      simp only [Act.put, List.setIfInBounds_toArray, List.set_cons_zero, List.set_cons_succ]
      exact mk_end
    case h2 =>
      refine rest_store1 _ _ rfl rfl rfl rfl rfl rfl rfl rfl rfl (by kernel_rfl) (by kernel_rfl) (by kernel_rfl) rfl rfl rfl rfl rfl b2 (iT _ _ _) rfl (qc_one _ _ _) ?_
      intro w5 hB hb
      refine NoPanic.normal ?_
      simp only [Act.put, List.setIfInBounds_toArray, List.set_cons_zero, List.set_cons_succ]
      go_wp2
      exact bodyPost_ret (results_row_tmp2 rfl _ _ (w.heap.size + 1 + 1) 26 (qc (Pt.pX t.1) (Pt.pY t.1) (Pt.pFar t.1)) (0, 0) _ rfl hb Try.underlying26 rfl (iT _ _ _)) rfl ⟨rfl, hx.new hB (by omega)⟩
end Go.Proofs.Ytppfcdpokgnpfaa


/-
  point.Mul.
-/
namespace Go.Proofs.Ytppfcdpokgnpfaa
open Go.RowKit

set_option maxRecDepth 100000 in
set_option maxHeartbeats 8000000 in
theorem mul_no (K X Y : Nat) (f : Bool) (haX : X < top) (haY : Y < top) (haB : onB X Y f = false) (w : World) :
    Calls Try.prog 22 #[nv K, qv X Y f] w fun e w' => e = .returned (.tuple #[qv 0 0 false, .iface 37 (.int .i64 1)]) ∧ Ext w w' := by
  have kaX := veil haX
  have kaY := veil haY
  have kaB := veil haB
  clear haX haY haB
  unfold nv nc qv qc
  go_enter Try.func22, Try.ntmps22
  go_upto_region 1 with (fail)
  obtain ⟨hx, b0, b1, b2⟩ := blocks3 w (.cells #[.int .u64 (wd (K) 0), .int .u64 (wd (K) 1), .int .u64 (wd (K) 2), .int .u64 (wd (K) 3)] 24) (.cells #[.int .u64 (wd (X) 0), .int .u64 (wd (X) 1), .int .u64 (wd (X) 2), .int .u64 (wd (X) 3), .int .u64 (wd (Y) 0), .int .u64 (wd (Y) 1), .int .u64 (wd (Y) 2), .int .u64 (wd (Y) 3), .bool (f)] 26) (.cells #[.int .u64 0, .int .u64 0, .int .u64 0, .int .u64 0, .int .u64 0, .int .u64 0, .int .u64 0, .int .u64 0, .bool false] 26)
  generalize ((w.alloc (.cells #[.int .u64 (wd (K) 0), .int .u64 (wd (K) 1), .int .u64 (wd (K) 2), .int .u64 (wd (K) 3)] 24)).alloc (.cells #[.int .u64 (wd (X) 0), .int .u64 (wd (X) 1), .int .u64 (wd (X) 2), .int .u64 (wd (X) 3), .int .u64 (wd (Y) 0), .int .u64 (wd (Y) 1), .int .u64 (wd (Y) 2), .int .u64 (wd (Y) 3), .bool (f)] 26)).alloc (.cells #[.int .u64 0, .int .u64 0, .int .u64 0, .int .u64 0, .int .u64 0, .int .u64 0, .int .u64 0, .int .u64 0, .bool false] 26) = w1 at *
  have b0 : w1.heap[w.heap.size]? = some (.cells (nc K) 24 (0, 0)) := b0
  have b1 : w1.heap[w.heap.size + 1]? = some (.cells (qc X Y f) 26 (0, 0)) := b1
  refine wp_region_lit ?_
  refine wpl_fun (R := fun v W' => ∃ b, v = cv b ∧ Fp W' b ∧ Ext w1 W') rfl rfl rfl (fun W => run_callFunc_in Try.func34 rfl rfl _ W) ((curve_calls w1).mono fun e W' ⟨b, he, hF, hE⟩ => ⟨_, he, b, rfl, hF, hE⟩) ?_
  rintro v w2 ⟨b, rfl, hf, hE⟩
  simp only [Act.put, List.setIfInBounds_toArray, List.set_cons_zero, List.set_cons_succ]
  replace b0 := hE.block b0
  replace b1 := hE.block b1
  replace b2 := hE.block b2
  replace hx := hx.trans hE
  clear hE
  refine wpl_var _ _ rfl rfl rfl rfl rfl rfl (hzK ·) (fun _ => rfl) (fun _ => rfl) (iK _) rfl (cc_one _) ?_
  intro gc w3 hgc bc hE
  replace b0 := hE.block b0
  replace b1 := hE.block b1
  replace b2 := hE.block b2
  replace hf := hf.ext hE
  replace hx := hx.trans hE
  clear hE
  simp only [Act.put, List.setIfInBounds_toArray, List.set_cons_zero, List.set_cons_succ]
  clear hgc
  refine wpList_nil ?_
  go_upto_region 2 with (fail)
  refine' wp_plain (m := 4) (A := _) (by kernel_rfl) ?h1 ?h2
  case h1 =>
    refine mk_step (cv b) rfl (made_load rfl rfl bc rfl Try.underlying60 rfl (iK _)) ?_
    simp only [Act.put, List.setIfInBounds_toArray, List.set_cons_zero, List.set_cons_succ]
    refine mk_step (qv X Y f) rfl (made_load rfl rfl b1 rfl Try.underlying26 rfl (iT _ _ _)) ?_
    simp only [Act.put, List.setIfInBounds_toArray, List.set_cons_zero, List.set_cons_succ]
    refine mk_step (.bool false) rfl (made_fun (args := [cv b, qv X Y f]) rfl rfl (fun W => run_callFunc_in Try.func35 rfl rfl _ W) (fun W hW => on_no kaX.out kaY.out kaB.out (hf.ext hW))) ?_
    simp only [Act.put, List.setIfInBounds_toArray, List.set_cons_zero, List.set_cons_succ]
    refine mk_step (.bool true) rfl (made_not' rfl rfl rfl) ?_
    simp only [Act.put, List.setIfInBounds_toArray, List.set_cons_zero, List.set_cons_succ]
    exact mk_end
  case h2 =>
    refine prest_done rfl ?_
    intro w4 hE
    replace b0 := hE.block b0
    replace b1 := hE.block b1
    replace b2 := hE.block b2
    replace bc := hE.block bc
    replace hf := hf.ext hE
    replace hx := hx.trans hE
    clear hE
    go_upto_region 3 with (fail)
    refine' wp_plain (m := 2) (A := _) (by kernel_rfl) ?h1 ?h2
    case h1 =>
      refine mk_step (qv 0 0 false) rfl (made_build rfl rfl (bldT0 ·)) ?_
      simp only [Act.put, List.setIfInBounds_toArray, List.set_cons_zero, List.set_cons_succ]
      refine mk_step (.iface 37 (.int .i64 1)) rfl (made_iface rfl (mkErr1 ·)) ?_
      simp only [Act.put, List.setIfInBounds_toArray, List.set_cons_zero, List.set_cons_succ]
      exact mk_end
    case h2 =>
      refine prest_store' _ rfl rfl rfl rfl rfl rfl b2 (iT _ _ _) rfl (qc_one _ _ _) ?_
      intro w5 hB hb
      go_wp2
      exact bodyPost_ret (results_row_tmp2 rfl _ _ (w.heap.size + 1 + 1) 26 (qc 0 0 false) (0, 0) _ rfl hb Try.underlying26 rfl (iT _ _ _)) rfl ⟨rfl, hx.new hB (by omega)⟩
set_option maxRecDepth 100000 in
set_option maxHeartbeats 8000000 in
theorem mul_yes (K : Nat) (hK : K < top) (q : Pt.Q) (w : World) :
    Calls Try.prog 22 #[nv K, qvP q.1] w fun e w' => e = .returned (.tuple #[qvP (Pt.grp.mul K q).1, .nilIface]) ∧ Ext w w' := by
  have hL : bitLen K ≤ 256 := bl_le hK
  have hE0 : K / 2 ^ bitLen K = 0 := bl_div K
  have HT := veil hK
  obtain ⟨x0, y0, z0, h0, k0⟩ := lift_rep none
  have K0 := veil k0
  clear hK k0
  unfold nv nc qvP qv qc
  go_enter Try.func22, Try.ntmps22
  go_upto_region 1 with (fail)
  obtain ⟨hx, b0, b1, b2⟩ := blocks3 w (.cells #[.int .u64 (wd (K) 0), .int .u64 (wd (K) 1), .int .u64 (wd (K) 2), .int .u64 (wd (K) 3)] 24) (.cells #[.int .u64 (wd (Pt.pX q.1) 0), .int .u64 (wd (Pt.pX q.1) 1), .int .u64 (wd (Pt.pX q.1) 2), .int .u64 (wd (Pt.pX q.1) 3), .int .u64 (wd (Pt.pY q.1) 0), .int .u64 (wd (Pt.pY q.1) 1), .int .u64 (wd (Pt.pY q.1) 2), .int .u64 (wd (Pt.pY q.1) 3), .bool (Pt.pFar q.1)] 26) (.cells #[.int .u64 0, .int .u64 0, .int .u64 0, .int .u64 0, .int .u64 0, .int .u64 0, .int .u64 0, .int .u64 0, .bool false] 26)
  generalize ((w.alloc (.cells #[.int .u64 (wd (K) 0), .int .u64 (wd (K) 1), .int .u64 (wd (K) 2), .int .u64 (wd (K) 3)] 24)).alloc (.cells #[.int .u64 (wd (Pt.pX q.1) 0), .int .u64 (wd (Pt.pX q.1) 1), .int .u64 (wd (Pt.pX q.1) 2), .int .u64 (wd (Pt.pX q.1) 3), .int .u64 (wd (Pt.pY q.1) 0), .int .u64 (wd (Pt.pY q.1) 1), .int .u64 (wd (Pt.pY q.1) 2), .int .u64 (wd (Pt.pY q.1) 3), .bool (Pt.pFar q.1)] 26)).alloc (.cells #[.int .u64 0, .int .u64 0, .int .u64 0, .int .u64 0, .int .u64 0, .int .u64 0, .int .u64 0, .int .u64 0, .bool false] 26) = w1 at *
  have b0 : w1.heap[w.heap.size]? = some (.cells (nc K) 24 (0, 0)) := b0
  have b1 : w1.heap[w.heap.size + 1]? = some (.cells (qc (Pt.pX q.1) (Pt.pY q.1) (Pt.pFar q.1)) 26 (0, 0)) := b1
  refine wp_region_lit ?_
  refine wpl_fun (R := fun v W' => ∃ b, v = cv b ∧ Fp W' b ∧ Ext w1 W') rfl rfl rfl (fun W => run_callFunc_in Try.func34 rfl rfl _ W) ((curve_calls w1).mono fun e W' ⟨b, he, hF, hE⟩ => ⟨_, he, b, rfl, hF, hE⟩) ?_
  rintro v w2 ⟨b, rfl, hf, hE⟩
  simp only [Act.put, List.setIfInBounds_toArray, List.set_cons_zero, List.set_cons_succ]
  replace b0 := hE.block b0
  replace b1 := hE.block b1
  replace b2 := hE.block b2
  replace hx := hx.trans hE
  clear hE
  refine wpl_var _ _ rfl rfl rfl rfl rfl rfl (hzK ·) (fun _ => rfl) (fun _ => rfl) (iK _) rfl (cc_one _) ?_
  intro gc w3 hgc bc hE
  replace b0 := hE.block b0
  replace b1 := hE.block b1
  replace b2 := hE.block b2
  replace hf := hf.ext hE
  replace hx := hx.trans hE
  clear hE
  simp only [Act.put, List.setIfInBounds_toArray, List.set_cons_zero, List.set_cons_succ]
  clear hgc
  refine wpList_nil ?_
  go_upto_region 2 with (fail)
  refine' wp_plain (m := 4) (A := _) (by kernel_rfl) ?h1 ?h2
  case h1 =>
    refine mk_step (cv b) rfl (made_load rfl rfl bc rfl Try.underlying60 rfl (iK _)) ?_
    simp only [Act.put, List.setIfInBounds_toArray, List.set_cons_zero, List.set_cons_succ]
    refine mk_step (qv (Pt.pX q.1) (Pt.pY q.1) (Pt.pFar q.1)) rfl (made_load rfl rfl b1 rfl Try.underlying26 rfl (iT _ _ _)) ?_
    simp only [Act.put, List.setIfInBounds_toArray, List.set_cons_zero, List.set_cons_succ]
    refine mk_step (.bool true) rfl (made_fun (args := [cv b, qv (Pt.pX q.1) (Pt.pY q.1) (Pt.pFar q.1)]) rfl rfl (fun W => run_callFunc_in Try.func35 rfl rfl _ W) (fun W hW => on_yes q (hf.ext hW))) ?_
    simp only [Act.put, List.setIfInBounds_toArray, List.set_cons_zero, List.set_cons_succ]
    refine mk_step (.bool false) rfl (made_not' rfl rfl rfl) ?_
    simp only [Act.put, List.setIfInBounds_toArray, List.set_cons_zero, List.set_cons_succ]
    exact mk_end
  case h2 =>
    refine prest_done rfl ?_
    intro w4 hE
    replace b0 := hE.block b0
    replace b1 := hE.block b1
    replace b2 := hE.block b2
    replace bc := hE.block bc
    replace hf := hf.ext hE
    replace hx := hx.trans hE
    clear hE
    go_upto_region 4 with (fail)
    refine' wp_plain (m := 2) (A := _) (by kernel_rfl) ?h1 ?h2
    case h1 =>
      refine mk_step (qv 0 0 true) rfl (made_build rfl rfl (bldTF ·)) ?_
      simp only [Act.put, List.setIfInBounds_toArray, List.set_cons_zero, List.set_cons_succ]
      refine mk_step (sv x0.val y0.val z0.val) rfl (made_fun (args := [qv 0 0 true]) rfl rfl (fun W => run_callFunc_in Try.func38 rfl rfl _ W) (fun W hW => K0.out W)) ?_
      simp only [Act.put, List.setIfInBounds_toArray, List.set_cons_zero, List.set_cons_succ]
      exact mk_end
    case h2 =>
      refine prest_var _ _ rfl rfl rfl rfl rfl rfl rfl (hzS ·) (fun _ => rfl) (fun _ => rfl) (iS _ _ _) rfl (sc_one _ _ _) ?_
      intro gs w5 hgs bs hE
      have hls : w.heap.size ≤ gs := Nat.le_trans (Below.size hx) hgs
      replace b0 := hE.block b0
      replace b1 := hE.block b1
      replace b2 := hE.block b2
      replace bc := hE.block bc
      replace hf := hf.ext hE
      replace hx := hx.trans hE
      clear hE
      simp only [Act.put, List.setIfInBounds_toArray, List.set_cons_zero, List.set_cons_succ]
      clear hgs
      go_upto_region 5 with (fail)
      replace h0 : Rep x0 y0 z0 (Pt.grp.mul (K / 2 ^ bitLen K) q).1 := by rw [hE0]; exact h0
      obtain ⟨N, hN⟩ : ∃ N, N = bitLen K := ⟨_, rfl⟩
      have HN := veil hN
      rw [← hN] at h0 hL
      clear hE0 hN
      have hNi : (0 : Int) ≤ (N : Int) := by omega
      refine wp_region_lit ?_
      refine wpl_load rfl rfl rfl b0 rfl uN rfl (iN K) ?_
      simp only [Act.put, List.setIfInBounds_toArray, List.set_cons_zero, List.set_cons_succ]
      refine wpl_fun (R := fun v W' => v = .int .i64 (N : Int) ∧ Ext w5 W') rfl rfl rfl (fun W => run_callFunc_in Try.func40 rfl rfl _ W) ((klen K N (by rw [HN.out]) HT.out w5).mono fun e W' ⟨he, hE⟩ => ⟨_, he, rfl, hE⟩) ?_
      rintro v w6 ⟨rfl, hE⟩
      replace b0 := hE.block b0
      replace b1 := hE.block b1
      replace b2 := hE.block b2
      replace bc := hE.block bc
      replace bs := hE.block bs
      replace hf := hf.ext hE
      replace hx := hx.trans hE
      clear hE
      simp only [Act.put, List.setIfInBounds_toArray, List.set_cons_zero, List.set_cons_succ]
      go_wp2
      clear HN hNi K0
      go_loopw [8] (fun v8 wr => ∃ j : Nat, j ≤ 256 ∧ v8 = .int .i64 ((j : Int) - 1) ∧ (∃ x y z : Fe, Rep x y z (Pt.grp.mul (K / 2 ^ j) q).1 ∧ wr.heap[gs]? = some (.cells (sc x.val y.val z.val) 64 (0, 0))) ∧ wr.heap[w.heap.size]? = some (.cells (nc K) 24 (0, 0)) ∧ wr.heap[w.heap.size + 1]? = some (.cells (qc (Pt.pX q.1) (Pt.pY q.1) (Pt.pFar q.1)) 26 (0, 0)) ∧ (∃ c2, wr.heap[w.heap.size + 1 + 1]? = some (.cells c2 26 (0, 0)) ∧ c2.size = 9) ∧ wr.heap[gc]? = some (.cells (cc b) 60 (0, 0)) ∧ Fp wr b ∧ Ext w wr)
        (fun v8 _ => (intOf v8 + 1).toNat)
      case atStart => exact ⟨N, hL, by go_num, ⟨x0, y0, z0, h0, bs⟩, b0, b1, ⟨_, b2, rfl⟩, bc, hf, hx⟩
      case round =>
        clear b0 b1 b2 bc bs hf hx h0 hL
        obtain ⟨j, hj, hi, ⟨x, y, z, hR, bs⟩, b0, b1, ⟨c2, b2, hc2⟩, bc, hf, hx⟩ := hrel
        cases j with
        | zero =>
          obtain rfl : _ = Value.int .i64 (-1) := hi.trans (by congr 1)
          have e1 : Pt.grp.mul (K / 2 ^ 0) q = Pt.grp.mul K q := by rw [Nat.pow_zero, Nat.div_one]
          rw [e1] at hR
          obtain ⟨t, ht⟩ : ∃ t : Pt.Q, t = Pt.grp.mul K q := ⟨_, rfl⟩
          rw [← ht] at hR
          have HTT := veil ht
          have KF := veil (fun (b : Nat) (w : World) (hF : Fp w b) => flat_rep hR hF)
          clear hi e1 ht
          go_upto_region 11 with (fail)
          refine' wp_plain (m := 3) (A := _) (by kernel_rfl) ?h1 ?h2
          case h1 =>
            refine mk_step (cv b) rfl (made_load rfl rfl bc rfl Try.underlying60 rfl (iK _)) ?_
            simp only [Act.put, List.setIfInBounds_toArray, List.set_cons_zero, List.set_cons_succ]
            refine mk_step (sv x.val y.val z.val) rfl (made_load rfl rfl bs rfl Try.underlying64 rfl (iS _ _ _)) ?_
            simp only [Act.put, List.setIfInBounds_toArray, List.set_cons_zero, List.set_cons_succ]
            refine mk_step (qv (Pt.pX t.1) (Pt.pY t.1) (Pt.pFar t.1)) rfl (made_fun (args := [cv b, sv x.val y.val z.val]) rfl rfl (fun W => run_callFunc_in Try.func36 rfl rfl _ W) (fun W hW => KF.out _ _ (hf.ext hW))) ?_
            simp only [Act.put, List.setIfInBounds_toArray, List.set_cons_zero, List.set_cons_succ]
            exact mk_end
          case h2 =>
            refine prest_store' _ rfl rfl rfl rfl rfl rfl b2 (iT _ _ _) hc2 (qc_one _ _ _) ?_
            intro w7 hB hb
            go_wp2
            rw [← HTT.out]
            exact bodyPost_ret (results_row_tmp2 rfl _ _ (w.heap.size + 1 + 1) 26 (qc (Pt.pX t.1) (Pt.pY t.1) (Pt.pFar t.1)) (0, 0) _ rfl hb Try.underlying26 rfl (iT _ _ _)) rfl ⟨rfl, hx.new hB (by omega)⟩
        | succ m =>
          obtain rfl : _ = Value.int .i64 (m : Int) := hi.trans (by congr 1; omega)
          have hm : m < 256 := by omega
          clear hi
          have hmi : (0 : Int) ≤ (m : Int) := by omega
          obtain ⟨R0, hR0⟩ : ∃ R, R = Pt.grp.mul (K / 2 ^ (m + 1)) q := ⟨_, rfl⟩
          rw [← hR0] at hR
          have HR0 := veil hR0
          clear hR0
          obtain ⟨x1, y1, z1, h1, k1⟩ := twice_rep R0.2 hR
          obtain ⟨R1, hR1⟩ : ∃ R, R = Pt.grp.op R0 R0 := ⟨_, rfl⟩
          have HR1 := veil hR1
          replace h1 : Rep x1 y1 z1 R1.1 := by rw [hR1]; exact h1
          have K1 := veil k1
          clear hR1 k1 hR
          have hgs : gs < wr.heap.size := (Array.getElem?_eq_some_iff.1 bs).1
          have hgs0 : gs ≠ w.heap.size := fun e => (by rw [e, b0] at bs; injection bs with bs; injection bs with _ bs; exact absurd bs (by decide))
          have hgs1 : gs ≠ w.heap.size + 1 := fun e => (by rw [e, b1] at bs; injection bs with bs; injection bs with _ bs; exact absurd bs (by decide))
          have hgs2 : gs ≠ w.heap.size + 1 + 1 := fun e => (by rw [e, b2] at bs; injection bs with bs; injection bs with _ bs; exact absurd bs (by decide))
          have hgsc : gs ≠ gc := fun e => (by rw [e, bc] at bs; injection bs with bs; injection bs with _ bs; exact absurd bs (by decide))
          have hgsb : b ≠ gs := fun e => (by obtain ⟨_, _, _, h2⟩ := hf; have h3 := blkOf h2; rw [e, bs] at h3; injection h3 with h3; injection h3 with _ h3; exact absurd h3 (by decide))
          go_upto_region 8 with (fail)
          refine' wp_plain (m := 3) (A := _) (by kernel_rfl) ?h1 ?h2
          case h1 =>
            refine mk_step (cv b) rfl (made_load rfl rfl bc rfl Try.underlying60 rfl (iK _)) ?_
            simp only [Act.put, List.setIfInBounds_toArray, List.set_cons_zero, List.set_cons_succ]
            refine mk_step (sv x.val y.val z.val) rfl (made_load rfl rfl bs rfl Try.underlying64 rfl (iS _ _ _)) ?_
            simp only [Act.put, List.setIfInBounds_toArray, List.set_cons_zero, List.set_cons_succ]
            refine mk_step (sv x1.val y1.val z1.val) rfl (made_fun (args := [cv b, sv x.val y.val z.val]) rfl rfl (fun W => run_callFunc_in Try.func41 rfl rfl _ W) (fun W hW => K1.out _ _ (hf.ext hW))) ?_
            simp only [Act.put, List.setIfInBounds_toArray, List.set_cons_zero, List.set_cons_succ]
            exact mk_end
          case h2 =>
            refine prest_store _ rfl rfl rfl rfl rfl rfl bs (iS _ _ _) rfl (sc_one _ _ _) ?_
            intro w8 hB hb
            replace b0 := but_keep hB b0 hgs0.symm
            replace b1 := but_keep hB b1 hgs1.symm
            replace b2 := but_keep hB b2 hgs2.symm
            replace bc := but_keep hB bc hgsc.symm
            replace hf := hf.but hB hgsb
            replace hx := hx.new hB hls
            clear hB bs
            have bs := hb
            clear hb
            go_upto_region 9 with (fail)
            by_cases hbit : bit K m = true
            · skip
              have HBIT := veil hbit
              obtain ⟨x2, y2, z2, h2, k2⟩ := plus_rep R1.2 q.2 h1
              obtain ⟨R2, hR2⟩ : ∃ R, R = Pt.grp.op R1 q := ⟨_, rfl⟩
              have HR2 := veil hR2
              replace h2 : Rep x2 y2 z2 R2.1 := by rw [hR2]; exact h2
              have K2 := veil k2
              clear hR2 k2 h1
              clear hbit
              refine' wp_plain (m := 3) (A := _) (by kernel_rfl) ?h1 ?h2
              case h1 =>
                refine mk_step (nv K) rfl (made_load rfl rfl b0 rfl uN rfl (iN _)) ?_
                simp only [Act.put, List.setIfInBounds_toArray, List.set_cons_zero, List.set_cons_succ]
                refine mk_step (.int .i64 (m : Int)) rfl (made_move (.inl rfl) rfl) ?_
                simp only [Act.put, List.setIfInBounds_toArray, List.set_cons_zero, List.set_cons_succ]
                refine mk_step (.bool true) rfl (made_fun (args := [nv K, .int .i64 (m : Int)]) rfl rfl (fun W => run_callFunc_in Try.func42 rfl rfl _ W) (fun W hW => kbit K m true HBIT.out hm W)) ?_
                simp only [Act.put, List.setIfInBounds_toArray, List.set_cons_zero, List.set_cons_succ]
                exact mk_end
              case h2 =>
                refine prest_done rfl ?_
                intro w9 hE
                replace b0 := hE.block b0
                replace b1 := hE.block b1
                replace b2 := hE.block b2
                replace bc := hE.block bc
                replace bs := hE.block bs
                replace hf := hf.ext hE
                replace hx := hx.trans hE
                clear hE
                go_upto_region 10 with (fail)
                refine' wp_plain (m := 4) (A := _) (by kernel_rfl) ?h1 ?h2
                case h1 =>
                  refine mk_step (cv b) rfl (made_load rfl rfl bc rfl Try.underlying60 rfl (iK _)) ?_
                  simp only [Act.put, List.setIfInBounds_toArray, List.set_cons_zero, List.set_cons_succ]
                  refine mk_step (sv x1.val y1.val z1.val) rfl (made_load rfl rfl bs rfl Try.underlying64 rfl (iS _ _ _)) ?_
                  simp only [Act.put, List.setIfInBounds_toArray, List.set_cons_zero, List.set_cons_succ]
                  refine mk_step (qv (Pt.pX q.1) (Pt.pY q.1) (Pt.pFar q.1)) rfl (made_load rfl rfl b1 rfl Try.underlying26 rfl (iT _ _ _)) ?_
                  simp only [Act.put, List.setIfInBounds_toArray, List.set_cons_zero, List.set_cons_succ]
                  refine mk_step (sv x2.val y2.val z2.val) rfl (made_fun (args := [cv b, sv x1.val y1.val z1.val, qv (Pt.pX q.1) (Pt.pY q.1) (Pt.pFar q.1)]) rfl rfl (fun W => run_callFunc_in Try.func37 rfl rfl _ W) (fun W hW => K2.out _ _ (hf.ext hW))) ?_
                  simp only [Act.put, List.setIfInBounds_toArray, List.set_cons_zero, List.set_cons_succ]
                  exact mk_end
                case h2 =>
                  refine prest_store _ rfl rfl rfl rfl rfl rfl bs (iS _ _ _) rfl (sc_one _ _ _) ?_
                  intro w10 hB hb
                  replace b0 := but_keep hB b0 hgs0.symm
                  replace b1 := but_keep hB b1 hgs1.symm
                  replace b2 := but_keep hB b2 hgs2.symm
                  replace bc := but_keep hB bc hgsc.symm
                  replace hf := hf.but hB hgsb
                  replace hx := hx.new hB hls
                  clear hB bs
                  have bs := hb
                  clear hb
                  go_wp2
                  go_roundw
                  case rel => exact ⟨m, by omega, by go_num, ⟨x2, y2, z2, by rw [times_step, if_pos HBIT.out, ← HR0.out, ← HR1.out, ← HR2.out]; exact h2, bs⟩, b0, b1, ⟨c2, b2, hc2⟩, bc, hf, hx⟩
                  case measure => simp [intOf]
            · skip
              have hbit : bit K m = false := by simpa using hbit
              have HBIT := veil hbit
              clear hbit
              refine' wp_plain (m := 3) (A := _) (by kernel_rfl) ?h1 ?h2
              case h1 =>
                refine mk_step (nv K) rfl (made_load rfl rfl b0 rfl uN rfl (iN _)) ?_
                simp only [Act.put, List.setIfInBounds_toArray, List.set_cons_zero, List.set_cons_succ]
                refine mk_step (.int .i64 (m : Int)) rfl (made_move (.inl rfl) rfl) ?_
                simp only [Act.put, List.setIfInBounds_toArray, List.set_cons_zero, List.set_cons_succ]
                refine mk_step (.bool false) rfl (made_fun (args := [nv K, .int .i64 (m : Int)]) rfl rfl (fun W => run_callFunc_in Try.func42 rfl rfl _ W) (fun W hW => kbit K m false HBIT.out hm W)) ?_
                simp only [Act.put, List.setIfInBounds_toArray, List.set_cons_zero, List.set_cons_succ]
                exact mk_end
              case h2 =>
                refine prest_done rfl ?_
                intro w9 hE
                replace b0 := hE.block b0
                replace b1 := hE.block b1
                replace b2 := hE.block b2
                replace bc := hE.block bc
                replace bs := hE.block bs
                replace hf := hf.ext hE
                replace hx := hx.trans hE
                clear hE
                go_wp2
                go_roundw
                case rel => exact ⟨m, by omega, by go_num, ⟨x1, y1, z1, by rw [times_step, HBIT.out, if_neg (by decide), ← HR0.out, ← HR1.out]; exact h1, bs⟩, b0, b1, ⟨c2, b2, hc2⟩, bc, hf, hx⟩
                case measure => simp [intOf]
end Go.Proofs.Ytppfcdpokgnpfaa


/-
  point.On.
-/
namespace Go.Proofs.Ytppfcdpokgnpfaa
open Go.RowKit

set_option maxRecDepth 100000 in
set_option maxHeartbeats 4000000 in
theorem on_is (X Y : Nat) (f : Bool) (hX : X < top) (hY : Y < top) (w : World) :
    Calls Try.prog 13 #[qv X Y f] w fun e w' => e = .returned (.bool (onB X Y f)) ∧ Ext w w' := by
  have KO := veil (fun (b : Nat) (w : World) (hF : Fp w b) => on_calls X Y f hX hY hF)
  obtain ⟨r, hr⟩ : ∃ r, r = onB X Y f := ⟨_, rfl⟩
  rw [← hr] at KO ⊢
  clear hX hY hr
  unfold qv qc
  go_enter Try.func13, Try.ntmps13
  go_upto_region 1 with (fail)
  obtain ⟨hx, b0⟩ := blocks1 w (.cells #[.int .u64 (wd (X) 0), .int .u64 (wd (X) 1), .int .u64 (wd (X) 2), .int .u64 (wd (X) 3), .int .u64 (wd (Y) 0), .int .u64 (wd (Y) 1), .int .u64 (wd (Y) 2), .int .u64 (wd (Y) 3), .bool (f)] 26)
  generalize w.alloc (.cells #[.int .u64 (wd (X) 0), .int .u64 (wd (X) 1), .int .u64 (wd (X) 2), .int .u64 (wd (X) 3), .int .u64 (wd (Y) 0), .int .u64 (wd (Y) 1), .int .u64 (wd (Y) 2), .int .u64 (wd (Y) 3), .bool (f)] 26) = w1 at *
  have b0 : w1.heap[w.heap.size]? = some (.cells (qc X Y f) 26 (0, 0)) := b0
  refine wp_region_noPanic ?_
  refine wp_region_held_drew (S := fun W => Ext w1 W) (by kernel_rfl) (Ext.drew _) (fun hH => ?_)
  refine wpAnyH_take (i := 1) (v := qv X Y f) rfl (by kernel_rfl) (by kernel_rfl) (by decide +kernel) (fun _ _ _ h => h) (yieldsIf_load_mid (by rfl) _ _ rfl _ _ rfl (qc X Y f).toList _ (fun W hW j v hv => by rw [cell_of_row W _ _ (qc X Y f) 26 (0, 0) (hW.block b0), Nat.zero_add]; simpa using hv) Try.underlying26 rfl (iT X Y f)) hH ?_
  refine wpAnyH_ready (rs := [0]) (by decide +kernel) (by simp) ?_
  refine AllReadyH.cons rfl (fun K hK => ?_) AllReadyH.nil
  go_simp
  refine (curve_calls _).mono ?_
  rintro e w2 ⟨b, rfl, hF, hE⟩
  refine hK.out _ _ (hH.trans hE) (fun hH => ?_)
  clear hK K hE
  refine wpAnyH_ready (rs := [2]) (by decide +kernel) (by simp) ?_
  refine AllReadyH.cons rfl (fun K hK => ?_) AllReadyH.nil
  go_simp
  refine (KO.out _ _ hF).mono ?_
  rintro e w3 ⟨rfl, hE⟩
  refine hK.out _ _ (hH.trans hE) (fun hH => ?_)
  clear hK K hE
  refine wpAnyH_take (i := 3) (v := .bool r) rfl (by kernel_rfl) (by kernel_rfl) (by decide +kernel) (fun _ _ _ h => h) (Or.inl ⟨by rfl, fun W hSw => (by dsimp only at hSw; go_simp)⟩) hH ?_
  refine wpAnyH_done (by decide +kernel) ?_ _
  refine NoPanic.normal ?_
  go_wp2
  go_ret
  exact ⟨rfl, hx.trans hH⟩
end Go.Proofs.Ytppfcdpokgnpfaa
