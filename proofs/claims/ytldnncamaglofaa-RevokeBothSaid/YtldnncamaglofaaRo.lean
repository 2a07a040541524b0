/-
  slices.Chunk of bytes, sixteen each: its iterator's contract.
-/
import Derived.RangeFuncNested
import Derived.RangeFuncBound
import Derived.RangeFuncCalls
import Derived.RangeFuncLeaves
import Derived.RangeFuncBox
import Derived.Shelf.Abstract
import Derived.Shelf.RegionOpen
import Derived.WalkKit
import Derived.OwnWalkIn
import Derived.TacticsInMore
import Derived.LoopNIn
import Derived.LoopIn
import Derived.Sort.QuietTacIn
import Derived.Test.YtldnncamaglofaaRb
namespace Go.Proofs.Ytldnncamaglofaa
open Go.RowKit Go.Shelf

attribute [local go_sem] Oper.semAt_some

/-- Where the k-th sixteen bytes begin. -/
def chA (A : Option Addr) (k : Nat) : Option Addr := A.map (·.add (16 * k))
theorem Bs.chunk {w : World} {A : Option Addr} {b : List Nat} (h : Bs w A b) {k : Nat} (hk : 16 * k + 16 ≤ b.length) : Bs w (chA A k) ((b.drop (16 * k)).take 16) := by
  refine ⟨(h.1.drop _).take _, .inr ?_⟩
  rcases h.2 with h0 | ⟨g, o, rfl, hb, hc⟩
  · omega
  · refine ⟨g, o + 16 * k, by simp [chA, Addr.add_mid], hb, fun j hj => ?_⟩
    rw [List.length_take, List.length_drop] at hj
    rw [Nat.add_assoc, hc (16 * k + j) (by omega)]
    congr 3
    simp only [List.getD_eq_getElem?_getD, List.getElem?_take_of_lt (show j < 16 by omega), List.getElem?_drop]
theorem cut_chunk (A : Option Addr) (m c k : Nat) (hk : 16 * k + 16 ≤ m) (hm : m ≤ c) (w : World) : (Instr.sliceAt 23 (.slice A m c) (some (.int .i64 (16 * (k : Int)))) (some (.int .i64 (16 * (k : Int) + 16))) (some (.int .i64 (16 * (k : Int) + 16)))).run Try.prog w = .ok (.slice (chA A k) 16 16) w := by
  have e2 : ((sizeOf (Try.prog.elem 23)).run Try.prog w) = .ok 1 w := by kernel_rfl
  rw [run_sliceAt_slice w 23 _ _ _ _ (by kernel_rfl), run_slice_lhm w 23 A m c (by kernel_rfl) .i64 .i64 .i64 (16 * (k : Int)) (16 * (k : Int) + 16) (16 * (k : Int) + 16) (by omega) (by omega) (by omega) (by omega), e2]
  have t1 : (16 * (k : Int)).toNat = 16 * k := by omega
  have t2 : (16 * (k : Int) + 16).toNat = 16 * k + 16 := by omega
  rw [t1, t2]
  simp only [Result.andThen, sliced, chA]
  rw [if_neg (by omega)]
  simp

set_option maxRecDepth 100000 in
set_option maxHeartbeats 2000000 in
theorem chunk_calls (A : Option Addr) (m c : Nat) (w : World) : Calls Try.prog 39 #[.slice A m c, .int .i64 16] w fun e w' => e = .returned (.func (.func 47) #[] #[.pointer (some ⟨w.heap.size, 0, none⟩), .pointer (some ⟨w.heap.size + 1, 0, none⟩)]) ∧ w' = (w.alloc (.cells #[.slice A m c] 23)).alloc (.cells #[.int .i64 16] 3) := by
  go_enter Try.func39, Try.ntmps39
  go_wp2
  go_ret
  exact ⟨rfl, rfl⟩

/-- What a round keeps: the iterator's two boxes. -/
def KpC (b1 b2 : Nat) (v1 v2 : Value) (W W' : World) : Prop := (Boxed W b1 23 v1 → Boxed W' b1 23 v1) ∧ (Boxed W b2 3 v2 → Boxed W' b2 3 v2)

set_option maxRecDepth 100000 in
set_option maxHeartbeats 2000000 in
theorem chunk1_in (n : Nat) (l b1 b2 N : Nat) (A : Option Addr) (c : Nat) (hc : 16 * N ≤ c) (hN : N ≤ 10000000) (J Jx : List {k : Nat // k < N} → World → Prop) (B0 : Nat) (hAb : AbidesFrom B0 J)
    (hY : ∀ pre x W, J pre W → pre.length < N → YieldAt Fence.wide (n - 1) Try.prog l #[.slice (chA A x.1) 16 16] W fun e W' =>
      (e = .returned (.bool true) ∧ J (pre ++ [x]) W' ∧ KpC b1 b2 (.slice A (16 * N) c) (.int .i64 16) W W') ∨ (e = .returned (.bool false) ∧ Jx (pre ++ [x]) W'))
    (W : World) (hB1 : Boxed W b1 23 (.slice A (16 * N) c)) (hB2 : Boxed W b2 3 (.int .i64 16)) (h0 : J [] W) :
    CallsIn Fence.wide n Try.prog 47 #[.func (.yield l) #[] #[], .pointer (some ⟨b1, 0, none⟩), .pointer (some ⟨b2, 0, none⟩)] W fun e W' => (∃ v, e = .returned v) ∧
      ((∃ ys : List {k : Nat // k < N}, ys.map (·.1) = List.range N ∧ J ys W') ∨ (∃ pre, Jx pre W')) := by
  refine callsIn_of_wp Try.func47 rfl trivial ?_ rfl
  simp only [Try.ntmps47, List.size_toArray, List.length_cons, List.length_nil, Nat.reduceAdd, Nat.reduceSub, Array.replicate_succ, Array.replicate_zero, List.push_toArray, List.append_toArray, List.nil_append, List.cons_append]
  gi_wp2
  gi_loopw [4, 5] (fun i _ wr => ∃ (k : Nat) (ys : List {k : Nat // k < N}), k ≤ N ∧ i = .int .i64 (16 * (k : Int)) ∧ ys.map (·.1) = List.range k ∧ J ys wr ∧ Boxed wr b1 23 (.slice A (16 * N) c) ∧ Boxed wr b2 3 (.int .i64 16))
    (fun i _ _ => 16 * N - (intOf i).toNat)
  case atStart => exact ⟨0, [], Nat.zero_le _, rfl, rfl, h0, hB1, hB2⟩
  case round =>
    clear h0 hB1 hB2
    obtain ⟨k, ys, hk, rfl, hys, hJ, hB1, hB2⟩ := hrel
    have hc1 := hB1.cell
    have hc2 := hB2.cell
    by_cases hlt : k < N
    · have hd1 : decide (16 * (k : Int) < 16 * (N : Int)) = true := by simp; omega
      have hyl : ys.length < N := by have := congrArg List.length hys; simp at this; omega
      have hs := fun w => cut_chunk A (16 * N) c k (by omega) hc w
      obtain ⟨T, hT⟩ : ∃ T, T = 16 * N - 16 * k := ⟨_, rfl⟩
      have hq : ∀ w, (Instr.sliceAt 23 (.slice A (16 * N) c) (some (.int .i64 (16 * (k : Int)))) none none).run Try.prog w = .ok (.slice (cutA A (16 * k) c) T (c - 16 * k)) w := fun w => by
        have h := cut_from A (16 * N) c (16 * k) (by omega) w
        rw [← hT] at h
        rw [← h]
        congr 5
      have hmin : (16 : Int) ≤ (T : Int) := by omega
      have HH := veil (And.intro hT (And.intro hys hJ))
      clear hT hys hJ
      gi_wp2
      gi_quiet_th (fail)
      rw [if_neg (show ¬ ((T : Int) < 16) by omega)]
      have hg : wr.grownBy (wr.drewN nq) none := ⟨rfl, rfl, rfl, Nat.le_refl _, fun _ _ _ => rfl⟩
      have hB1' := hB1.kept hg (by simp)
      have hB2' := hB2.kept hg (by simp)
      obtain ⟨fn, tmps, assign, body, hy, hR⟩ := hY ys ⟨k, hlt⟩ (wr.drewN nq) (hAb ys wr _ none HH.out.2.2 hg (fun r e => by cases e)) hyl
      generalize wr.drewN nq = wq at *
      clear hB1 hB2 hc1 hc2 hg hq hY hAb
      have hc1 := hB1'.cell
      have hc2 := hB2'.cell
      dsimp only at hy
      gi_wp2
      refine ⟨fun h => (by cases h), hR.mono ?_⟩
      clear hR hy hc1 hc2 hs
      rintro e W3 (⟨rfl, hJ3, hk3⟩ | ⟨rfl, hJx3⟩)
      · have hB1 := hk3.1 hB1'
        have hB2 := hk3.2 hB2'
        have hc1 := hB1.cell
        have hc2 := hB2.cell
        have HJ := veil hJ3
        clear hJ3 hk3 hB1' hB2'
        gi_wp2
        go_roundw
        case rel => exact ⟨k + 1, ys ++ [⟨k, hlt⟩], by omega, by go_num, by rw [List.map_append, HH.out.2.1, List.range_succ]; rfl, HJ.out, hB1, hB2⟩
        case measure => simp [intOf]; omega
      · gi_wp2
        refine bodyPost_ret (results_none rfl _ _ _) rfl ?_
        exact ⟨⟨_, rfl⟩, .inr ⟨_, hJx3⟩⟩
    · obtain rfl : k = N := by omega
      have hd1 : decide (16 * (k : Int) < 16 * (k : Int)) = false := by simp
      have HH := veil (And.intro hys hJ)
      clear hys hJ hY hAb
      gi_wp2
      go_end0
      exact ⟨⟨_, rfl⟩, .inl ⟨ys, HH.out.1, HH.out.2⟩⟩
/-- What slices.Chunk hands back gives all of them, or a round has said 'no more'. -/
theorem chunk_stops (n b1 b2 N : Nat) (A : Option Addr) (c : Nat) (hc : 16 * N ≤ c) (hN : N ≤ 10000000) (w : World) (hB1 : Boxed w b1 23 (.slice A (16 * N) c)) (hB2 : Boxed w b2 3 (.int .i64 16)) :
    SeqStopsK Fence.wide n Try.prog 47 #[.pointer (some ⟨b1, 0, none⟩), .pointer (some ⟨b2, 0, none⟩)] (fun x : {k : Nat // k < N} => #[.slice (chA A x.1) 16 16]) (KpC b1 b2 (.slice A (16 * N) c) (.int .i64 16)) (fun ys => ys.map (·.1) = List.range N) (fun _ => True) N w := fun l J Jx W hW hA _ hY h0 => by
  have e1 : Boxed W b1 23 (.slice A (16 * N) c) := (hW.block b1 hB1.lt).trans hB1
  have e2 : Boxed W b2 3 (.int .i64 16) := (hW.block b2 hB2.lt).trans hB2
  exact (chunk1_in n l b1 b2 N A c hc hN J Jx W.heap.size hA hY W e1 e2 h0).mono fun e W' ⟨he, h⟩ => ⟨he, h.imp id fun ⟨pre, hp⟩ => ⟨pre, trivial, hp⟩⟩
theorem kpc_t {b1 b2 : Nat} {v1 v2 : Value} {A B C : World} (h : KpC b1 b2 v1 v2 A B) (k : KpC b1 b2 v1 v2 B C) : KpC b1 b2 v1 v2 A C := ⟨fun x => k.1 (h.1 x), fun x => k.2 (h.2 x)⟩
theorem kpc_b {b1 b2 n₀ : Nat} {v1 v2 : Value} (h1 : b1 < n₀) (h2 : b2 < n₀) (W : World) (l : Nat) (o' : Obj) (hl : n₀ ≤ l) : KpC b1 b2 v1 v2 W (W.putObj l o') :=
  ⟨fun x => (World.putObj_heap_other (by omega)).trans x, fun x => (World.putObj_heap_other (by omega)).trans x⟩
theorem kpc_ext {b1 b2 : Nat} {v1 v2 : Value} {W W' : World} (h : Ext W W') : KpC b1 b2 v1 v2 W W' := ⟨fun x => h.block x, fun x => h.block x⟩
theorem ext_others {W W' : World} (h : Ext W W') : KeepsOthers W W' := ⟨Below.size h, fun _ _ hk _ => h.block hk⟩
end Go.Proofs.Ytldnncamaglofaa
