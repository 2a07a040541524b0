/-
  What the law of layer 16 asks of the landed packages flash and journal; clapperlaw16.up.
-/
import Derived.Test.YtoikgkjkcampkaaJoa
import Derived.Test.YtoikgkjkcampkaaJob
namespace Go.Proofs.Ytoikgkjkcampkaa
open Go.RowKit

/-- A journal, open: its turn, its records, whether it is spoilt. -/
structure JS where
  turn : Nat
  recs : List (List Nat)
  spoilt : Bool
/-- What is there on the flash is the journal's. -/
def OkJ (B : List Nat) (s : JS) : Prop := s.spoilt = false ∧ GoodJ B s.turn s.recs ∧ s.turn = s.recs.length ∧ s.turn ≤ 1000
def freeJ (B : List Nat) (s : JS) : Nat := if s.spoilt then 0 else min 2000 (B.length - 48 - (encRs s.recs).length - 2)
/-- An error. -/
def isErr (ev : Value) : Prop := ∃ x : Int, ev = .iface 39 (.int .i64 x)
/-- What Append comes to. -/
def AppJ (B : List Nat) (s : JS) (r : List Nat) (ev : Value) (B' : List Nat) (s' : JS) : Prop :=
  (isErr ev ∧ B' = B ∧ s' = s) ∨ (ev = .nilIface ∧ s.spoilt = false ∧ mayR B s.recs r ∧ B' = putS (putR B (encRs s.recs).length r) s.turn ((encRs s.recs).length + 2 + r.length) 24 ∧ s' = ⟨s.turn + 1, s.recs ++ [r], false⟩)
/-- What Tear comes to. -/
def TearJ (B : List Nat) (s : JS) (r : List Nat) (step n : Int) (ev : Value) (B' : List Nat) : Prop :=
  (isErr ev ∧ B' = B) ∨ (ev = .nilIface ∧ s.spoilt = false ∧ mayR B s.recs r ∧ ((step = 1 ∧ 0 ≤ n ∧ n ≤ (r.length : Int) + 2 ∧ B' = putAt B (48 + (encRs s.recs).length) ((encR r).take n.toNat)) ∨ (step = 2 ∧ 0 ≤ n ∧ n ≤ 24 ∧ B' = putS (putR B (encRs s.recs).length r) s.turn ((encRs s.recs).length + 2 + r.length) n.toNat)))
/-- What is asked: FA: a flash of these bytes in blocks F; JA: a journal in blocks G. -/
structure Code16 where
  FA : World → Value → List Nat → (Nat → Prop) → Prop
  JA : World → Value → Value → JS → (Nat → Prop) → Prop
  fa_chg : ∀ w w' f B F H, FA w f B F → Chg H w w' → (∀ k, F k → ¬ H k) → FA w' f B F
  ja_chg : ∀ w w' j f s G H, JA w j f s G → Chg H w w' → (∀ k, G k → ¬ H k) → JA w' j f s G
  fa_lt : ∀ w f B F, FA w f B F → ∀ k, F k → k < w.heap.size
  ja_lt : ∀ w j f s G, JA w j f s G → ∀ k, G k → k < w.heap.size
  new : ∀ (n : Nat) w, 64 ≤ n → n ≤ 4000 → Calls Try.prog 5 #[.int .i64 (n : Int)] w fun e w' => ∃ ad F, e = .returned (.tuple #[.pointer (some ad), .nilIface]) ∧ Ext w w' ∧ FA w' (.pointer (some ad)) (List.replicate n 0) F ∧ ∀ k, F k → w.heap.size ≤ k
  open_nil : ∀ w, Calls Try.prog 6 #[.pointer none] w fun e w' => e = .returned (.tuple #[.pointer none, .iface 39 (.int .i64 1)]) ∧ Ext w w'
  open_ : ∀ ad B F w, FA w (.pointer (some ad)) B F → 64 ≤ B.length → B.length ≤ 4000 → Calls Try.prog 6 #[.pointer (some ad)] w fun e w' => ∃ aj G, e = .returned (.tuple #[.pointer (some aj), .nilIface]) ∧ Ext w w' ∧ JA w' (.pointer (some aj)) (.pointer (some ad)) ⟨(endJ B).1, recsJ B, false⟩ G ∧ ∀ k, G k → w.heap.size ≤ k
  append : ∀ j f B s F G A m c r w, FA w f B F → JA w j f s G → (∀ k, F k → ¬ G k) → OkJ B s → m = r.length → m ≤ c → m ≤ 3000 → Bs w A r → (0 < m → ∀ ad, A = some ad → ¬ F ad.block ∧ ¬ G ad.block) →
    Calls Try.prog 7 #[j, .slice A m c] w fun e w' => ∃ ev B' s' F' G', e = .returned ev ∧ Chg (fun k => F k ∨ G k) w w' ∧ FA w' f B' F' ∧ JA w' j f s' G' ∧ (∀ k, F' k → ¬ G' k) ∧ (∀ k, F' k → F k ∨ w.heap.size ≤ k) ∧ (∀ k, G' k → G k ∨ w.heap.size ≤ k) ∧ AppJ B s r ev B' s'
  tear : ∀ j f B s F G A m c r step n w, FA w f B F → JA w j f s G → (∀ k, F k → ¬ G k) → OkJ B s → m = r.length → m ≤ c → m ≤ 3000 → Bs w A r → (0 < m → ∀ ad, A = some ad → ¬ F ad.block ∧ ¬ G ad.block) → -9223372036854775808 ≤ step → step ≤ 9223372036854775807 → -9223372036854775808 ≤ n → n ≤ 9223372036854775807 →
    Calls Try.prog 8 #[j, .slice A m c, .int .i64 step, .int .i64 n] w fun e w' => ∃ ev B' F', e = .returned ev ∧ Chg (fun k => F k ∨ G k) w w' ∧ FA w' f B' F' ∧ (∀ k, F' k → F k ∨ w.heap.size ≤ k) ∧ TearJ B s r step n ev B'
  records : ∀ j f B s F G w, FA w f B F → JA w j f s G → OkJ B s → Calls Try.prog 10 #[j] w fun e w' => ∃ v l, e = .returned v ∧ Ext w w' ∧ Tx w' v l ∧ txs l = s.recs
  free : ∀ j f B s F G w, FA w f B F → JA w j f s G → OkJ B s → Calls Try.prog 11 #[j] w fun e w' => e = .returned (.int .i64 ((freeJ B s : Nat) : Int)) ∧ Ext w w'

theorem Code16.fa_ext (C : Code16) (w w' : World) (f : Value) (B : List Nat) (F : Nat → Prop) (h : C.FA w f B F) (k : Ext w w') : C.FA w' f B F := C.fa_chg w w' f B F (fun _ => False) h (Chg.of_ext k) fun _ _ h => h
theorem Code16.ja_ext (C : Code16) (w w' : World) (j f : Value) (s : JS) (G : Nat → Prop) (h : C.JA w j f s G) (k : Ext w w') : C.JA w' j f s G := C.ja_chg w w' j f s G (fun _ => False) h (Chg.of_ext k) fun _ _ h => h
theorem eqNil16 (w : World) : (binOp .eql 27 .nilIface .nilIface).run Try.prog w = .ok (.bool true) w := by kernel_rfl
theorem neNil16 (w : World) : (binOp .neq 27 .nilIface .nilIface).run Try.prog w = .ok (.bool false) w := by kernel_rfl
theorem eqErr16 (w : World) : (binOp .eql 27 (.iface 39 (.int .i64 1)) (.iface 39 (.int .i64 1))).run Try.prog w = .ok (.bool true) w := by kernel_rfl
theorem errNil16 (x : Int) (w : World) : (binOp .eql 27 (.iface 39 (.int .i64 x)) .nilIface).run Try.prog w = .ok (.bool false) w := by kernel_rfl

set_option maxRecDepth 100000 in
set_option maxHeartbeats 4000000 in
theorem up16_calls (C : Code16) (w : World) : Calls Try.prog 4 #[] w fun e w' => e = .returned (.bool true) ∧ Ext w w' := by
  have e1 := eqNil16
  have e2 := neNil16
  have e3 := eqErr16
  have KN := veil (C.new 64 w (by decide) (by decide))
  go_enter Try.func4, Try.ntmps4
  go_upto_region 2 with (go_at_call 5; refine KN.out.mono ?_; rintro e w1 ⟨ad, F, rfl, hE1, hF1, hf1⟩)
  have HF1 := veil (And.intro hF1 hE1)
  have KO := veil (C.open_ ad (List.replicate 64 0) F w1 hF1 (by decide) (by decide))
  have hend : endJ (List.replicate 64 0) = (0, 0) := by decide +kernel
  have hrec : recsJ (List.replicate 64 0) = [] := by decide +kernel
  rw [hend, hrec] at KO
  clear hF1 hE1 hf1 KN hend hrec
  go_upto_region 5 with (go_at_call 6; refine KO.out.mono ?_; rintro e w2 ⟨aj, G, rfl, hE2, hJ2, hg2⟩)
  have HJ2 := veil hJ2
  have HE2 := veil (HF1.out.2.trans hE2)
  have HF2 := veil (C.fa_ext _ _ _ _ _ HF1.out.1 hE2)
  clear hJ2 hE2 hg2 KO HF1
  have KZ := veil (C.open_nil w2)
  go_upto_region 6 with (go_at_call 6; refine KZ.out.mono ?_; rintro e w3 ⟨rfl, hE3⟩)
  have HE3 := veil (HE2.out.trans hE3)
  have HJ3 := veil (C.ja_ext _ _ _ _ _ _ HJ2.out hE3)
  have HF3 := veil (C.fa_ext _ _ _ _ _ HF2.out hE3)
  clear hE3 HE2 HJ2 HF2 KZ
  have HOK := veil (show OkJ (List.replicate 64 0) ⟨0, [], false⟩ from ⟨rfl, (clean_new (n := 64) (by decide) (by decide)).1.good, rfl, by decide⟩)
  have KF := veil (C.free _ _ _ _ _ _ w3 HF3.out HJ3.out HOK.out)
  rw [show ((freeJ (List.replicate 64 0) ⟨0, [], false⟩ : Nat) : Int) = 14 by decide +kernel] at KF
  have KR := veil (fun W (h : Ext w3 W) => C.records _ _ _ _ _ _ W (C.fa_ext _ _ _ _ _ HF3.out h) (C.ja_ext _ _ _ _ _ _ HJ3.out h) HOK.out)
  clear HF3 HJ3 C
  go_wp2_with (first
    | (go_at_call 11; refine KF.out.mono ?_; rintro e w4 ⟨rfl, hE4⟩)
    | (go_at_call 10; refine (KR.out _ hE4).mono ?_; rintro e w5 ⟨v, l, rfl, hE5, ⟨⟨A, c, rfl, -, -⟩, -⟩, hl⟩; obtain rfl : l = [] := List.map_eq_nil_iff.1 hl))
  go_ret
  exact ⟨rfl, (HE3.out.trans hE4).trans hE5⟩
end Go.Proofs.Ytoikgkjkcampkaa
