/-
  The landed flash: Read, New.
-/
import Derived.Test.YtoikgkjkcampkaaJpa
namespace Go.Proofs.Ytoikgkjkcampkaa
open Go.RowKit

theorem infoJ1 : (Try.prog.info? 5).map (·.size) = some 1 := by kernel_rfl
theorem infoJ3 : (Try.prog.info? 5).map (fun i => (i.zero, i.size, i.bytes)) = some (some (.int .u8 0), 1, 1) := by kernel_rfl
/-- copy into a row that is known whole. -/
theorem wp_copyJ {P : Program} {w : World} {o : Oper} {a : Act} {K : Act → World → Prop} {Q : Exit → Act → World → Prop} (d s : Operand) (dT sT : TypeId)
    (ho : o.op = .call { callee := .builtin .copy, args := #[d, s], argTypes := #[dT, sT] }) (elem : TypeId) (hu : P.underlying dT = some (.slice elem)) (hsz : (P.info? elem).map (·.size) = some 1)
    (g off dLen dCap : Nat) (ad : Addr) (sLen sCap : Nat) (hd : a.eval d = .slice (some ⟨g, off, none⟩) dLen dCap) (hs : a.eval s = .slice (some ad) sLen sCap)
    (t n : Nat) (f : Nat → Value) (hrow : w.rowIs g t n f) (m : Nat) (hm : m = Nat.min sLen dLen) (v : Nat → Value) (hsrc : ∀ j, j < m → w.cell? (ad.add j) = some (v j)) (hfit : off + m ≤ n)
    (h1 : ∀ j, j < m → (v j).oneCell' = true)
    (h : ∀ w', But g w w' → w'.rowIs g t n (fun j => if off ≤ j ∧ j < off + m then v (j - off) else f j) → K (a.put o.dst (goInt (m : Nat))) w') : o.wp P a w K Q := by
  have hcs : ((List.range m).map v).length = m := by simp
  have hrun := run_copy_row (P := P) w dT sT o.type elem g off dLen dCap ad sLen sCap (arrOf n f) t ((List.range m).map v) hu hsz (blkOf hrow) (by rw [hcs, hm])
    (fun j u hu => by
      have hj : j < m := by have := (List.getElem?_eq_some_iff.1 hu).1; simpa using this
      rw [hsrc j hj, ← hu]; simp [hj]) (by rw [hcs, arrOf_size]; exact hfit) (fun u hu => by
      simp at hu; obtain ⟨j, hj, rfl⟩ := hu; exact h1 j hj)
  rw [hcs, List.append_assoc] at hrun
  unfold Oper.wp execOp
  simp only [ho, resolve, invoke, builtin, Sem.run_bind, Sem.run_pure, Result.andThen_ok, List.map_toArray, List.map_cons, List.map_nil, hd, hs, hrun]
  refine h _ ⟨rfl, rfl, rfl, by simp [World.setRow], fun k _ hne => setRow_far w _ (by simpa using hne)⟩ ?_
  refine row_setRow hrow (by simp [arrOf_size]; omega) fun i hi => ?_
  have hl : (arrOf n f).toList.length = n := by simp [arrOf_size]
  by_cases c1 : i < off
  · rw [if_neg (by omega)]
    simp only [List.getElem?_toArray]
    rw [List.getElem?_append_left (by simp [hl]; omega), List.getElem?_take_of_lt c1]
    simpa using arrOf_get f hi
  · by_cases c2 : i < off + m
    · rw [if_pos ⟨by omega, c2⟩]
      simp only [List.getElem?_toArray]
      rw [List.getElem?_append_right (by simp [hl]; omega), List.getElem?_append_left (by simp [hl]; omega)]
      simp [hl, show min off n = off by omega, show i - off < m by omega]
    · rw [if_neg (by omega)]
      simp only [List.getElem?_toArray]
      rw [List.getElem?_append_right (by simp [hl]; omega), List.getElem?_append_right (by simp [hl]; omega), List.getElem?_drop]
      rw [show off + m + (i - (List.take off (arrOf n f).toList).length - ((List.range m).map v).length) = i by simp [hl]; omega]
      simpa using arrOf_get f hi
theorem wpl_copyJ {P : Program} {w : World} {ops : Array Oper} {rest : List Oper} {o : Oper} {a : Act} {Q : Exit → Act → World → Prop} (hgd : o.guard = none) (d s : Operand) (dT sT : TypeId)
    (ho : o.op = .call { callee := .builtin .copy, args := #[d, s], argTypes := #[dT, sT] }) (elem : TypeId) (hu : P.underlying dT = some (.slice elem)) (hsz : (P.info? elem).map (·.size) = some 1)
    (g off dLen dCap : Nat) (ad : Addr) (sLen sCap : Nat) (hd : a.eval d = .slice (some ⟨g, off, none⟩) dLen dCap) (hs : a.eval s = .slice (some ad) sLen sCap)
    (t n : Nat) (f : Nat → Value) (hrow : w.rowIs g t n f) (m : Nat) (hm : m = Nat.min sLen dLen) (v : Nat → Value) (hsrc : ∀ j, j < m → w.cell? (ad.add j) = some (v j)) (hfit : off + m ≤ n)
    (h1 : ∀ j, j < m → (v j).oneCell' = true)
    (h : ∀ w', But g w w' → w'.rowIs g t n (fun j => if off ≤ j ∧ j < off + m then v (j - off) else f j) → wpList P ops Q rest (a.put o.dst (goInt (m : Nat))) w') : wpList P ops Q (o :: rest) a w :=
  wpList_plain hgd fun _ hK => wp_copyJ d s dT sT ho elem hu hsz g off dLen dCap ad sLen sCap hd hs t n f hrow m hm v hsrc hfit h1 fun w' h1 h2 => hK _ _ (h w' h1 h2)
theorem run_slice_lJ {P : Program} {o : Oper} {a : Act} {t : TypeId} {x z : Operand} {v v' vz : Value} {W : World} (ho : o.op = .slice t x (some z) none none) (hx : a.eval x = v) (hz : a.eval z = vz)
    (h : (Instr.sliceAt t v (some vz) none none).run P W = .ok v' W) : (execOp a.eval o).run P W = .ok (.value v') W := by
  unfold execOp
  simp only [ho, Sem.run_bind, Option.map_some, Option.map_none, hx, hz, h, Result.andThen_ok, Sem.run_pure]
theorem Chg.of_but {w w' : World} {r : Nat} (h : But r w w') : Chg (fun k => k = r) w w' := ⟨h.os, h.tape, h.output, h.size, fun k hk hn => h.block k hk (by simpa using hn)⟩
/-- Memory for bytes. -/
theorem hmk_by (n : Nat) (hn : n ≤ 1048576) (W : World) : (Instr.makeSlice 23 (.int .i64 (n : Int)) (.int .i64 (n : Int))).run Try.prog W = .ok (.slice (some ⟨W.heap.size, 0, none⟩) n n) (W.alloc (.cells (madeCells #[.int .u8 0] n) 5)) :=
  run_make_row' (P := Try.prog) 23 5 (.int .u8 0) 1 Try.underlying23 infoJ3 rfl .i64 .i64 n (by omega) (by omega) W
theorem cutA_some (h a N : Nat) : cutA (some ⟨h, 0, none⟩) a N = some ⟨h, if N = a then 0 else a, none⟩ := by
  unfold cutA
  split
  · rfl
  · simp [Addr.add_mid]
theorem seg_at {B : List Nat} {a n j : Nat} (hj : j < n) : (seg B a n).getD j 0 = B.getD (a + j) 0 := by
  rw [List.getD_eq_getElem?_getD, List.getD_eq_getElem?_getD, seg_get, if_pos hj]
theorem Byt.seg {B : List Nat} (h : Byt B) (a n : Nat) : Byt (seg B a n) := (h.drop a).take n
/-- A row of bytes is those bytes. -/
theorem bs_of_row {w : World} {g n : Nat} {f : Nat → Value} {bs : List Nat} (h : w.rowIs g 5 n f) (hn : n = bs.length) (hb : Byt bs) (hf : ∀ j, j < n → f j = .int .u8 (bs.getD j 0 : Nat)) : Bs w (some ⟨g, 0, none⟩) bs :=
  ⟨hb, .inr ⟨g, 0, rfl, h.lt, fun j hj => by rw [Nat.zero_add, h.cell (i := j) (by omega), hf j (by omega)]⟩⟩

set_option maxRecDepth 100000 in
set_option maxHeartbeats 4000000 in
theorem fread_calls (g h : Nat) (B : List Nat) (a n : Nat) (hin : a + n ≤ B.length) (w : World) (hF : Fla w g h B) :
    Calls Try.prog 25 #[.pointer (some ⟨g, 0, none⟩), .int .i64 (a : Int), .int .i64 (n : Int)] w fun e w' => ∃ k, e = .returned (.tuple #[.slice (some ⟨k, 0, none⟩) n n, .nilIface]) ∧ Ext w w' ∧ w.heap.size ≤ k ∧ Bs w' (some ⟨k, 0, none⟩) (seg B a n) := by
  have KH := veil (fhas_calls g h B a n hin w hF)
  have HF := veil hF
  have hmk := hmk_by n (by have := hF.many; omega)
  clear hF
  obtain ⟨N, hN⟩ : ∃ n, n = B.length := ⟨_, rfl⟩
  have hin2 : a + n ≤ N := by omega
  go_enter Try.func25, Try.ntmps25
  go_upto_region 3 with (go_at_call 26; refine KH.out.mono ?_; rintro e w1 ⟨rfl, hE1⟩)
  have HF1 := veil (And.intro (HF.out.ext hE1) hE1)
  clear hE1 KH
  go_upto_region 4 with (fail)
  have hR := World.rowIs_made w1 (.int .u8 0) n 5
  have hA := Ext.alloc w1 (.cells (madeCells #[.int .u8 0] n) 5)
  have HG := veil (And.intro hR (And.intro (HF1.out.1.ext hA) (HF1.out.2.trans hA)))
  have c0 := HG.out.2.1.c0
  rw [← hN] at c0
  have kc := fun W : World => cut_from (some ⟨h, 0, none⟩) N N a (by omega) W
  rw [cutA_some] at kc
  have hcopy : ∀ j, j < n → (w1.alloc (.cells (madeCells #[.int .u8 0] n) 5)).cell? ((⟨h, if N = a then 0 else a, none⟩ : Addr).add j) = some (u8f B (a + j)) := fun j hj => by
    rw [if_neg (by omega), Addr.add_mid]
    exact HG.out.2.1.row.cell (by omega)
  generalize w1.alloc (.cells (madeCells #[.int .u8 0] n) 5) = w2 at *
  obtain ⟨g2, hg2⟩ : ∃ k, k = w1.heap.size := ⟨_, rfl⟩
  rw [← hg2] at HG ⊢
  have HG2 := veil (show w.heap.size ≤ g2 by rw [hg2]; exact Below.size HF1.out.2)
  have hin3 : (a : Int) ≤ (N : Int) := by omega
  have HN := veil (And.intro hN hin)
  clear hR hA hmk hg2 hN hin
  go_wp2_with (first | ((with_reducible refine at_slot 23 ?_); refine wpl_val _ rfl (run_slice_lJ rfl rfl rfl (kc w2)) ?_) | ((with_reducible refine at_slot 24 ?_); refine wpl_copyJ rfl _ _ 23 23 rfl 5 Try.underlying23 infoJ1 g2 0 n n _ (N - a) (N - a) rfl rfl 5 n _ HG.out.1 n (Nat.min_eq_right (by omega)).symm (fun j => u8f B (a + j)) hcopy (by omega) (fun _ _ => rfl) ?_; intro w3 hb3 hr3))
  all_goals
    go_ret2
    have hE3 : Ext w w3 := (Chg.of_but hb3).new HG.out.2.2 fun z hz e => by have := HG2.out; omega
    exact ⟨g2, rfl, hE3, HG2.out, bs_of_row hr3 (seg_len HN.out.2).symm (HF.out.byt.seg _ n) fun j hj => by
      rw [if_pos ⟨by omega, by omega⟩, seg_at hj]
      rfl⟩

set_option maxRecDepth 100000 in
set_option maxHeartbeats 4000000 in
theorem fnew_calls (n : Nat) (h1 : 1 ≤ n) (h2 : n ≤ 1048576) (w : World) :
    Calls Try.prog 5 #[.int .i64 (n : Int)] w fun e w' => ∃ g h, e = .returned (.tuple #[.pointer (some ⟨g, 0, none⟩), .nilIface]) ∧ Ext w w' ∧ Fla w' g h (List.replicate n 0) ∧ w.heap.size ≤ g ∧ w.heap.size ≤ h := by
  have hmk := hmk_by n h2
  have d1 : decide ((n : Int) < 1) = false := decide_eq_false (by omega)
  have d2 : decide ((1048576 : Int) < (n : Int)) = false := decide_eq_false (by omega)
  go_enter Try.func5, Try.ntmps5
  go_wp2
  go_ret2
  have hl : (List.replicate n 0).length = n := List.length_replicate
  have hs : (w.alloc (.cells (madeCells #[.int .u8 0] n) 5)).heap.size = w.heap.size + 1 := by simp
  refine ⟨_, w.heap.size, rfl, (Ext.alloc w _).trans (Ext.alloc _ _), ⟨by omega, ?_, ?_, fun b hb => by rw [(List.mem_replicate.1 hb).2]; omega, by rw [hl]; exact h1, by rw [hl]; exact h2⟩, by omega, Nat.le_refl _⟩
  · rw [hl]
    refine row_new hs.symm rfl fun i hi => ?_
    obtain rfl : i = 0 := by omega
    rfl
  · rw [hl]
    refine ((World.rowIs_made w (.int .u8 0) n 5).alloc _).congr fun i hi => ?_
    unfold u8f
    rw [List.getD_eq_getElem?_getD, List.getElem?_replicate, if_pos hi]
    rfl
end Go.Proofs.Ytoikgkjkcampkaa
