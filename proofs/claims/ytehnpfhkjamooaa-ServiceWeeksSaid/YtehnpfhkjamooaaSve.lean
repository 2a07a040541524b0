/-
  What the laws of layer 12 ask of the landed package; clapperlaw12.up.
-/
import Derived.Test.YtehnpfhkjamooaaSvd
namespace Go.Proofs.Ytehnpfhkjamooaa
open Go.RowKit

theorem wpl_rowG12 {P : Program} {ops : Array Oper} {rest : List Oper} {o : Oper} {a : Act} {w : World} {Q : Exit → Act → World → Prop} (hgd : Region.wanted o (yielded ops a.tmps) = true) (ty : TypeId) (x : Operand) (ho : o.op = .load ty x)
    (g : Nat) (hx : a.eval x = .pointer (some ⟨g, 0, none⟩)) (t : TypeId) (cs : Array Value) (fr : Nat × Nat) (d : TypeDesc) (hg : w.heap[g]? = some (.cells cs t fr))
    (hu : P.underlying ty = some d) (hd : (match d with | .struct _ | .array _ _ => true | _ => false) = true) (hi : (P.info? ty).map (·.size) = some cs.size)
    (h : wpList P ops Q rest (a.put o.dst (.agg cs)) w) : wpList P ops Q (o :: rest) a w :=
  wpList_step fun K hK => by
    rw [if_pos hgd]
    exact wp_load_row ty x ho g hx t cs fr d hg hu hd hi (hK _ _ h)
/-- A struct's load in a quiet row. -/
theorem wpq_load_row12 {P : Program} {ops : Array Oper} {C : World → Prop} {Q : Act → Prop} {a : Act} {o : Oper} {rest : List Oper} (hw : Region.wanted o (yielded ops a.tmps) = true) (ty : TypeId) (x : Operand) (ho : o.op = .load ty x)
    (g : Nat) (hx : a.eval x = .pointer (some ⟨g, 0, none⟩)) (t : TypeId) (cs : Array Value) (fr : Nat × Nat) (d : TypeDesc) (hb : ∀ W, C W → W.heap[g]? = some (.cells cs t fr))
    (hu : P.underlying ty = some d) (hd : d.isRow = true) (hi : (P.info? ty).map (·.size) = some cs.size)
    (h : wpQuiet P ops C Q rest (a.put o.dst (.agg cs))) : wpQuiet P ops C Q (o :: rest) a :=
  BigFrame.wpQuiet_want hw fun _ hK => ⟨_, fun W hW => by
    have hl : (loadVar ty ⟨g, 0, none⟩).run P W = .ok (.agg cs) W := run_loadVar_mid W g 0 ty cs.toList d (fun j v hv => by rw [cell_of_row W g (0 + j) cs t fr (hb W hW), Nat.zero_add]; simpa using hv) hu hd (by simpa using hi)
    have hr : (execOp a.eval o).run P W = .ok (.value (.agg cs)) W := by
      unfold execOp
      simp only [ho, hx, Instr.loadAt, Instr.sureAddr, Sem.run_bind, Sem.run_pure, Result.andThen_ok, hl]
    unfold Oper.quietAt
    rw [hr]
    exact ⟨rfl, rfl⟩, hK _ h⟩
/-- The day of a minute, and which one of it: x, y, e. -/
def OnP (m x y : Int) (ev : Value) : Prop :=
  ((m < 0 ∨ 1073741824 < m) ∧ x = 0 ∧ y = 0 ∧ ev = .iface 32 (.int .i64 1)) ∨ (0 ≤ m ∧ m ≤ 1073741824 ∧ x = m / 1440 ∧ y = m % 1440 ∧ ev = .nilIface)
/-- What the laws ask of the landed package. -/
structure Code12 : Prop where
  may : ∀ v s w, Vs12 w v s → s.ex.length ≤ 300 → s.ec.length ≤ 300 → Calls Try.prog 10 #[v] w fun e w' => e = .returned (.bool (mayV s)) ∧ Ext w w'
  runs : ∀ v s d w, Vs12 w v s → s.ex.length ≤ 300 → s.ec.length ≤ 300 → -9223372036854775808 ≤ d → d ≤ 9223372036854775807 → Calls Try.prog 11 #[v, .int .i64 d] w fun e w' => e = .returned (.bool (mayV s && runsV s d)) ∧ Ext w w'
  on : ∀ m w, -9223372036854775808 ≤ m → m ≤ 9223372036854775807 → Calls Try.prog 9 #[.int .i64 m] w fun e w' => ∃ x y ev, e = .returned (.tuple #[.int .i64 x, .int .i64 y, ev]) ∧ Ext w w' ∧ OnP m x y ev
  next : ∀ v s d w, Vs12 w v s → s.ex.length ≤ 300 → s.ec.length ≤ 300 → -9223372036854775808 ≤ d → d ≤ 9223372036854775807 → Calls Try.prog 12 #[v, .int .i64 d] w fun e w' => ∃ r is, e = .returned (.tuple #[.int .i64 r, .bool is]) ∧ Ext w w' ∧ NextP s d r is

def upS : Sv := ⟨2, 0, 14, [], []⟩
theorem sv_one {s : Sv} {A A' : Option Addr} {n n' c c' : Nat} : (svC s (.slice A n c) (.slice A' n' c')).all (·.oneCell') = true := by simp [svC, Value.oneCell']
theorem sv_nil (w : World) (wk fr tu : Int) : Vs12 w (.agg (svC ⟨wk, fr, tu, [], []⟩ (.slice none 0 0) (.slice none 0 0))) ⟨wk, fr, tu, [], []⟩ := ⟨_, _, rfl, Ls.nil _ _ _, Ls.nil _ _ _⟩

set_option maxRecDepth 100000 in
set_option maxHeartbeats 4000000 in
theorem up12_calls (C : Code12) (w : World) : Calls Try.prog 6 #[] w fun e w' => e = .returned (.bool true) ∧ Ext w w' := by
  have KN := veil (fun W => C.next _ upS 2 W (sv_nil W 2 0 14) (by decide) (by decide) (by decide) (by decide))
  have KR := veil (fun d W (h : -9223372036854775808 ≤ d) (h' : d ≤ 9223372036854775807) => C.runs _ upS d W (sv_nil W 2 0 14) (by decide) (by decide) h h')
  have K1 := veil (fun W => KR.out 1 W (by decide) (by decide))
  have K8 := veil (fun W => KR.out 8 W (by decide) (by decide))
  have KF := veil (fun W => KR.out 15 W (by decide) (by decide))
  rw [show (mayV upS && runsV upS 1) = true by decide] at K1
  rw [show (mayV upS && runsV upS 8) = true by decide] at K8
  rw [show (mayV upS && runsV upS 15) = false by decide] at KF
  have HE0 := veil (Ext.alloc w (.cells (svC upS (.slice none 0 0) (.slice none 0 0)) 24))
  have HS0 : Hid (SvAt (w.alloc (.cells (svC upS (.slice none 0 0) (.slice none 0 0)) 24)) w.heap.size upS (.slice none 0 0) (.slice none 0 0)) := veil (SvAt.new w upS _ _)
  clear KR
  go_enter Try.func6, Try.ntmps6
  go_upto_region 2 with ((with_reducible refine at_none ?_); refine wpList_store_row rfl 24 _ _ rfl w.heap.size (svC upS (.slice none 0 0) (.slice none 0 0)) rfl rfl 24 _ (heap_new w _) (iSv _ _ _) rfl sv_one ?_; rw [World.setRow_alloc_new])
  obtain ⟨g, hg⟩ : ∃ g, g = w.heap.size := ⟨_, rfl⟩
  rw [← hg] at HS0 ⊢
  generalize w.alloc (.cells (svC upS (.slice none 0 0) (.slice none 0 0)) 24) = w0 at *
  clear hg
  go_upto_region 3 with (first
    | ((with_reducible refine at_slot 6 ?_); refine wpList_load_row rfl 24 _ rfl g rfl 24 (svC upS (.slice none 0 0) (.slice none 0 0)) (0, 0) _ HS0.out Try.underlying24 rfl (iSv _ _ _) ?_)
    | (go_at_call 12; refine (KN.out _).mono ?_; rintro e w1 ⟨r, is, rfl, hE1, hP⟩))
  obtain ⟨rfl, rfl⟩ := up_next hP
  have HE1 := veil (HE0.out.trans hE1)
  have HS1 : Hid (SvAt w1 g upS (.slice none 0 0) (.slice none 0 0)) := veil (HS0.out.ext hE1)
  clear hE1 HE0 HS0 KN hP
  go_upto_region 4 with (first
    | ((with_reducible refine at_slot 10 ?_); refine wpList_load_row rfl 24 _ rfl g rfl 24 (svC upS (.slice none 0 0) (.slice none 0 0)) (0, 0) _ HS1.out Try.underlying24 rfl (iSv _ _ _) ?_)
    | (go_at_call 11; refine (K1.out _).mono ?_; clear K1; rintro e w2 ⟨rfl, hE2⟩; have HE2 := veil (HE1.out.trans hE2); have HS2 : Hid (SvAt w2 g upS (.slice none 0 0) (.slice none 0 0)) := veil (HS1.out.ext hE2); clear hE2)
    | ((with_reducible refine at_slot 13 ?_); refine wpl_rowG12 rfl 24 _ rfl g rfl 24 (svC upS (.slice none 0 0) (.slice none 0 0)) (0, 0) _ HS2.out Try.underlying24 rfl (iSv _ _ _) ?_)
    | (go_at_call 11; refine (K8.out _).mono ?_; clear K8; rintro e w3 ⟨rfl, hE3⟩; have HE3 := veil (HE2.out.trans hE3); have HS3 : Hid (SvAt w3 g upS (.slice none 0 0) (.slice none 0 0)) := veil (HS2.out.ext hE3); clear hE3)
    | ((with_reducible refine at_slot 17 ?_); refine wpl_rowG12 rfl 24 _ rfl g rfl 24 (svC upS (.slice none 0 0) (.slice none 0 0)) (0, 0) _ HS3.out Try.underlying24 rfl (iSv _ _ _) ?_)
    | (go_at_call 11; refine (KF.out _).mono ?_; rintro e w4 ⟨rfl, hE4⟩))
  go_wp2
  go_ret
  exact ⟨rfl, HE3.out.trans hE4⟩
end Go.Proofs.Ytehnpfhkjamooaa
