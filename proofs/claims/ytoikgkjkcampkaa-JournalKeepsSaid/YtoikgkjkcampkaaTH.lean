/-
  tlv.Get: the landed package's own.
-/
import Derived.Test.YtoikgkjkcampkaaTG
namespace Go.Proofs.Ytoikgkjkcampkaa
open Go.RowKit

theorem szB_long {D : List Nat} (h0 : 0 < D.length) (h : D.length < szB D) : parse D = none := by
  unfold szB at h
  by_cases h3 : D.length < 3
  · exact parse_two h3 h0
  · rw [if_neg h3] at h
    have := parse_long (bs := D) (a := 0) (n := 256 * D.getD 1 0 + D.getD 2 0) (by omega) rfl (by omega)
    rwa [List.drop_zero] at this
theorem szB_3 {D : List Nat} (h : szB D ≤ D.length) : 3 ≤ D.length := by
  unfold szB at h
  by_cases h3 : D.length < 3
  · rw [if_pos h3] at h; omega
  · omega
theorem szB_ge (D : List Nat) : 3 ≤ szB D := by unfold szB; split <;> omega
theorem szB_step {D : List Nat} {N : Nat} (hN : szB D = 3 + N) (h3 : 3 ≤ D.length) (h : 3 + N ≤ D.length) :
    parse D = (parse (D.drop (3 + N))).map ((((D.getD 0 0 : Nat) : Int), (D.drop 3).take N) :: ·) := by
  unfold szB at hN
  rw [if_neg (by omega)] at hN
  have := parse_more (bs := D) (a := 0) (n := N) (by omega) (by show N = 256 * D.getD 1 0 + D.getD 2 0; omega) (by omega)
  rwa [List.drop_zero, Nat.zero_add] at this
theorem get_of_false {bs D : List Nat} {fs : List Fd} (h : parse bs = (parse D).map (fs ++ ·)) (hl : 64 < fs.length) : getFs bs = none := by
  rw [getFs_parse, h]
  cases parse D with
  | none => rfl
  | some x =>
    have hm : mayFs (fs ++ x) = false := decide_eq_false fun hh => by have := hh.1; rw [List.length_append] at this; omega
    simp [hm]
def lenV : Value → Nat
  | .slice _ n _ => n
  | _ => 0
theorem run_slice_lowv {P : Program} {o : Oper} {a : Act} {t : TypeId} {x z : Operand} {v v' vz : Value} {W : World} (ho : o.op = .slice t x (some z) none none) (hx : a.eval x = v) (hz : a.eval z = vz)
    (h : (Instr.sliceAt t v (some vz) none none).run P W = .ok v' W) : (execOp a.eval o).run P W = .ok (.value v') W := by
  unfold execOp
  simp only [ho, hx, hz, Option.map_some, Option.map_none, Sem.run_bind, h, Result.andThen_ok, Sem.run_pure]
theorem cut_from8 (A : Option Addr) (r c m : Nat) (hm : m ≤ r) (w : World) {y : Int} (hy : y = (m : Int)) : (Instr.sliceAt 23 (.slice A r c) (some (.int .i64 y)) none none).run Try.prog w = .ok (.slice (cutA A m c) (r - m) (c - m)) w := by
  subst hy
  exact cut_from A r c m hm w
theorem bs_drop {w : World} {A : Option Addr} {D : List Nat} {c : Nat} (h : Bs w A D) (m : Nat) (hm : m ≤ D.length) (hc : D.length ≤ c) : Bs w (cutA A m c) (D.drop m) := by
  have := h.cut m (n := D.length - m) (by omega) hc
  rwa [List.take_of_length_le (by rw [List.length_drop]; omega)] at this
/-- A call whose answer hangs on the world. -/
theorem sched_fun {P : Program} {Q : Exit → Act → World → Prop} {l : List Oper} {n k i d : Nat} {r : Sched} {a : Act} {w : World} {xs : List Operand} {ts : Array TypeId} {args : List Value} {R : Value → World → Prop} (o : Oper) (ho : l[i]? = some o) (hg : o.guard = none) (hd : o.dst = some d)
    (hop : o.op = .call { callee := .value (.func k), args := xs.toArray, argTypes := ts }) (hx : xs.map a.eval = args)
    (he : ∀ W, (callFunc k args.toArray).run P W = .ok (.enter k args.toArray) W) (hc : ∀ W, Ext w W → Calls P k args.toArray W fun e W' => ∃ v, e = .returned v ∧ Ext W W' ∧ R v W')
    (h : ∀ v W, Ext w W → R v W → wpSched P l Q n r (a.put (some d) v) W) : wpSched P l Q n ((false, [i]) :: r) a w := by
  refine sched_one o ho hg fun W hW => ?_
  have h1 : execOp a.eval o = callFunc k (#[] ++ xs.toArray.map a.eval ++ #[]) := by
    cases o
    subst hop
    rfl
  have h2 : (execOp a.eval o).run P W = .ok (.enter k args.toArray) W := by
    rw [h1, List.map_toArray, hx]
    simpa using he W
  unfold Oper.wp
  rw [h2, Oper.upon_enter]
  refine (hc W hW).mono ?_
  rintro e W' ⟨v, rfl, hE, hR⟩
  show (i < n → Ext W W') ∧ _
  rw [hd]
  exact ⟨fun _ => hE, h v W' (hW.trans hE) hR⟩
theorem enter_in {P : Program} {f : FuncId} {fn : Func} {c : Code} (hf : P.funcs[f]? = some fn) (hname : (fn.name == "runtime.NumGoroutine") = false) (hb : fn.body = some c) (args : Array Value) (w : World) :
    (callFunc f args).run P w = .ok (.enter f args) w := by
  have hn : ¬ fn.name = "runtime.NumGoroutine" := by simpa using hname
  simp [callFunc, go_sem, hf, hb, hn]

end Go.Proofs.Ytoikgkjkcampkaa
