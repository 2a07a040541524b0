/-
  What the laws of layer 12 ask of the landed package; clapperlaw12.up.
-/
import Derived.Test.YtebcdhfmhnhalaaSvd
namespace Go.Proofs.Ytebcdhfmhnhalaa
open Go.RowKit

theorem wpl_rowG12 {P : Program} {ops : Array Oper} {rest : List Oper} {o : Oper} {a : Act} {w : World} {Q : Exit → Act → World → Prop} (hgd : Region.wanted o (yielded ops a.tmps) = true) (ty : TypeId) (x : Operand) (ho : o.op = .load ty x)
    (g : Nat) (hx : a.eval x = .pointer (some ⟨g, 0, none⟩)) (t : TypeId) (cs : Array Value) (fr : Nat × Nat) (d : TypeDesc) (hg : w.heap[g]? = some (.cells cs t fr))
    (hu : P.underlying ty = some d) (hd : (match d with | .struct _ | .array _ _ => true | _ => false) = true) (hi : (P.info? ty).map (·.size) = some cs.size)
    (h : wpList P ops Q rest (a.put o.dst (.agg cs)) w) : wpList P ops Q (o :: rest) a w :=
  wpList_step fun K hK => by
    rw [if_pos hgd]
    exact wp_load_row ty x ho g hx t cs fr d hg hu hd hi (hK _ _ h)
/-- A struct's load in a quiet row. -/
theorem wpq_load_row12 {P : Program} {ops : Array Oper} {C : World → Prop} {Q : Act → Prop} {a : Act} {o : Oper} {rest : List Oper} (hw : Region.wanted o (yielded ops a.tmps) = true) (ty : TypeId) (x : Operand) (ho : o.op = .load ty x)
    (g : Nat) (hx : a.eval x = .pointer (some ⟨g, 0, none⟩)) (t : TypeId) (cs : Array Value) (fr : Nat × Nat) (d : TypeDesc) (hb : ∀ W, C W → W.heap[g]? = some (.cells cs t fr))
    (hu : P.underlying ty = some d) (hd : d.isRow = true) (hi : (P.info? ty).map (·.size) = some cs.size)
    (h : wpQuiet P ops C Q rest (a.put o.dst (.agg cs))) : wpQuiet P ops C Q (o :: rest) a :=
  BigFrame.wpQuiet_want hw fun _ hK => ⟨_, fun W hW => by
    have hl : (loadVar ty ⟨g, 0, none⟩).run P W = .ok (.agg cs) W := run_loadVar_mid W g 0 ty cs.toList d (fun j v hv => by rw [cell_of_row W g (0 + j) cs t fr (hb W hW), Nat.zero_add]; simpa using hv) hu hd (by simpa using hi)
    have hr : (execOp a.eval o).run P W = .ok (.value (.agg cs)) W := by
      unfold execOp
      simp only [ho, hx, Instr.loadAt, Instr.sureAddr, Sem.run_bind, Sem.run_pure, Result.andThen_ok, hl]
    unfold Oper.quietAt
    rw [hr]
    exact ⟨rfl, rfl⟩, hK _ h⟩
/-- The day of a minute, and which one of it: x, y, e. -/
def OnP (m x y : Int) (ev : Value) : Prop :=
  ((m < 0 ∨ 1073741824 < m) ∧ x = 0 ∧ y = 0 ∧ ev = .iface 33 (.int .i64 1)) ∨ (0 ≤ m ∧ m ≤ 1073741824 ∧ x = m / 1440 ∧ y = m % 1440 ∧ ev = .nilIface)
/-- What the laws ask of the landed package. -/
structure Code12 : Prop where
  may : ∀ v s w, Vs12 w v s → s.ex.length ≤ 300 → s.ec.length ≤ 300 → Calls Try.prog 30 #[v] w fun e w' => e = .returned (.bool (mayV s)) ∧ Ext w w'
  runs : ∀ v s d w, Vs12 w v s → s.ex.length ≤ 300 → s.ec.length ≤ 300 → -9223372036854775808 ≤ d → d ≤ 9223372036854775807 → Calls Try.prog 32 #[v, .int .i64 d] w fun e w' => e = .returned (.bool (mayV s && runsV s d)) ∧ Ext w w'
  on : ∀ m w, -9223372036854775808 ≤ m → m ≤ 9223372036854775807 → Calls Try.prog 15 #[.int .i64 m] w fun e w' => ∃ x y ev, e = .returned (.tuple #[.int .i64 x, .int .i64 y, ev]) ∧ Ext w w' ∧ OnP m x y ev

def upS : Sv := ⟨2, 0, 14, [], []⟩
theorem sv_one {s : Sv} {A A' : Option Addr} {n n' c c' : Nat} : (svC s (.slice A n c) (.slice A' n' c')).all (·.oneCell') = true := by simp [svC, Value.oneCell']
theorem sv_nil (w : World) (wk fr tu : Int) : Vs12 w (.agg (svC ⟨wk, fr, tu, [], []⟩ (.slice none 0 0) (.slice none 0 0))) ⟨wk, fr, tu, [], []⟩ := ⟨_, _, rfl, Ls.nil _ _ _, Ls.nil _ _ _⟩

end Go.Proofs.Ytebcdhfmhnhalaa
