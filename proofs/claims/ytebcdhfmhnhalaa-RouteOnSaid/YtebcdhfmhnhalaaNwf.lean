/-
  What the laws of layer 13 ask of the landed package; clapperlaw13.up.
-/
import Derived.Test.YtebcdhfmhnhalaaNwc
namespace Go.Proofs.Ytebcdhfmhnhalaa
open Go.RowKit

/-- Few enough, one ride more or not. -/
def Few1 (n : Nw) : Prop := n.ss.length ≤ 40 ∧ n.cs.length ≤ 201 ∧ ∀ i, i < n.ss.length → (n.ss.getD i noSv).ex.length ≤ 300 ∧ (n.ss.getD i noSv).ec.length ≤ 300
theorem few1_of {n : Nw} (h : fewN n = true) : Few1 n := by
  obtain ⟨h1, h2, h3⟩ := fewN_is h
  exact ⟨h1, by omega, h3⟩
theorem few1_more {n : Nw} (h : fewN n = true) (c : Cn) : Few1 ⟨n.ss, n.cs ++ [c]⟩ := by
  obtain ⟨h1, h2, h3⟩ := fewN_is h
  exact ⟨h1, by rw [List.length_append, List.length_singleton]; omega, h3⟩
def In64 (x : Int) : Prop := -9223372036854775808 ≤ x ∧ x ≤ 9223372036854775807
def errArg : Value := .iface 33 (.int .i64 1)
/-- What Earliest tells. -/
def EarlA (n : Nw) (fr at_ tu till t : Int) (is : Bool) (ev : Value) : Prop :=
  (fairN n fr at_ tu till = false ∧ t = 0 ∧ is = false ∧ ev = errArg) ∨ (fairN n fr at_ tu till = true ∧ EarlP n fr at_ tu till t is ∧ ev = .nilIface)
/-- What Feasible tells. -/
def FeasA (n : Nw) (fr at_ tu till : Int) (is : Bool) (ev : Value) : Prop :=
  (fairN n fr at_ tu till = false ∧ is = false ∧ ev = errArg) ∨ (fairN n fr at_ tu till = true ∧ (∃ t, EarlP n fr at_ tu till t is) ∧ ev = .nilIface)
/-- What the laws ask of the landed package. -/
structure Code13 : Prop where
  may : ∀ v n w, Nv13 w v n → Few1 n → Calls Try.prog 12 #[v] w fun e w' => e = .returned (.bool (mayN n)) ∧ Ext w w'
  earl : ∀ v n fr at_ tu till w, Nv13 w v n → Few1 n → In64 fr → In64 at_ → In64 tu → In64 till → Calls Try.prog 9 #[v, .int .i64 fr, .int .i64 at_, .int .i64 tu, .int .i64 till] w fun e w' => ∃ t is ev, e = .returned (.tuple #[.int .i64 t, .bool is, ev]) ∧ Ext w w' ∧ EarlA n fr at_ tu till t is ev
  feas : ∀ v n fr at_ tu till w, Nv13 w v n → Few1 n → In64 fr → In64 at_ → In64 tu → In64 till → Calls Try.prog 14 #[v, .int .i64 fr, .int .i64 at_, .int .i64 tu, .int .i64 till] w fun e w' => ∃ is ev, e = .returned (.tuple #[.bool is, ev]) ∧ Ext w w' ∧ FeasA n fr at_ tu till is ev

theorem wpl_rowG13 {P : Program} {ops : Array Oper} {rest : List Oper} {o : Oper} {a : Act} {w : World} {Q : Exit → Act → World → Prop} (hgd : Region.wanted o (yielded ops a.tmps) = true) (ty : TypeId) (x : Operand) (ho : o.op = .load ty x)
    (g : Nat) (hx : a.eval x = .pointer (some ⟨g, 0, none⟩)) (t : TypeId) (cs : Array Value) (fr : Nat × Nat) (d : TypeDesc) (hg : w.heap[g]? = some (.cells cs t fr))
    (hu : P.underlying ty = some d) (hd : (match d with | .struct _ | .array _ _ => true | _ => false) = true) (hi : (P.info? ty).map (·.size) = some cs.size)
    (h : wpList P ops Q rest (a.put o.dst (.agg cs)) w) : wpList P ops Q (o :: rest) a w :=
  wpList_step fun K hK => by
    rw [if_pos hgd]
    exact wp_load_row ty x ho g hx t cs fr d hg hu hd hi (hK _ _ h)
theorem eqNil13 (w : World) : (binOp .eql 29 .nilIface .nilIface).run Try.prog w = .ok (.bool true) w := by kernel_rfl
theorem neNil13 (w : World) : (binOp .neq 29 .nilIface .nilIface).run Try.prog w = .ok (.bool false) w := by kernel_rfl
theorem neErr13 (w : World) : (binOp .neq 29 (.iface 33 (.int .i64 1)) .nilIface).run Try.prog w = .ok (.bool true) w := by kernel_rfl
theorem eqErrNil13 (w : World) : (binOp .eql 29 (.iface 33 (.int .i64 1)) .nilIface).run Try.prog w = .ok (.bool false) w := by kernel_rfl
theorem eqErr13a (w : World) : (binOp .eql 29 (.iface 33 (.int .i64 1)) (.iface 33 (.int .i64 1))).run Try.prog w = .ok (.bool true) w := by kernel_rfl

def upB1 : Obj := .cells #[.int .i64 127, .int .i64 0, .int .i64 9, .slice none 0 0, .slice none 0 0] 43
def upB2 : Obj := .cells #[.int .i64 0, .int .i64 0, .int .i64 10, .int .i64 1, .int .i64 20, .int .i64 0, .int .i64 1, .int .i64 20, .int .i64 2, .int .i64 30] 39
theorem up_nv (w : World) : Nv13 ((w.alloc upB1).alloc upB2) (.agg #[.slice (some ⟨w.heap.size, 0, none⟩) 1 1, .slice (some ⟨w.heap.size + 1, 0, none⟩) 2 2]) upN := by
  have h1 : ((w.alloc upB1).alloc upB2).heap[w.heap.size]? = some upB1 := (Ext.alloc (w.alloc upB1) upB2).block (heap_new w upB1)
  have h2 : ((w.alloc upB1).alloc upB2).heap[w.heap.size + 1]? = some upB2 := by
    have := heap_new (w.alloc upB1) upB2
    rwa [World.size_alloc] at this
  refine ⟨_, _, [(⟨127, 0, 9, [], []⟩, .slice none 0 0, .slice none 0 0)], rfl, ⟨ls_one h1, fun x hx => ?_⟩, rfl, ?_⟩
  · rw [List.mem_singleton.1 hx]
    exact ⟨Ls.nil _ _ _, Ls.nil _ _ _⟩
  · refine ⟨_, 2, rfl, Nat.le_refl _, .inr ⟨w.heap.size + 1, 0, rfl, (Array.getElem?_eq_some_iff.1 h2).1, fun i x hi j u hu => ?_⟩⟩
    rw [cell_of_row _ _ _ _ _ _ h2]
    match i, hi with
    | 0, hi =>
      obtain rfl : (⟨0, 0, 10, 1, 20⟩ : Cn) = x := by simpa [upN] using hi
      match j, hu with
      | 0, hu => exact hu
      | 1, hu => exact hu
      | 2, hu => exact hu
      | 3, hu => exact hu
      | 4, hu => exact hu
      | j + 5, hu => simp [cnC] at hu
    | 1, hi =>
      obtain rfl : (⟨0, 1, 20, 2, 30⟩ : Cn) = x := by simpa [upN] using hi
      match j, hu with
      | 0, hu => exact hu
      | 1, hu => exact hu
      | 2, hu => exact hu
      | 3, hu => exact hu
      | 4, hu => exact hu
      | j + 5, hu => simp [cnC] at hu
    | i + 2, hi => simp [upN] at hi
theorem earl_up2 {t : Int} {is : Bool} {ev : Value} (h : EarlA upN 0 0 2 100 t is ev) : t = 30 ∧ is = true ∧ ev = .nilIface := by
  rcases h with ⟨h, _⟩ | ⟨_, h1, h2⟩
  · rw [upN_fair (by decide)] at h; cases h
  · exact ⟨(upN_30 h1).2, (upN_30 h1).1, h2⟩
theorem earl_up3 {t : Int} {is : Bool} {ev : Value} (h : EarlA upN 0 0 3 100 t is ev) : t = 0 ∧ is = false ∧ ev = .nilIface := by
  rcases h with ⟨h, _⟩ | ⟨_, h1, h2⟩
  · rw [upN_fair (by decide)] at h; cases h
  · exact ⟨(upN_no h1).2, (upN_no h1).1, h2⟩
theorem nwA_one {A A' : Option Addr} {n n' c c' : Nat} : (#[.slice A n c, .slice A' n' c'] : Array Value).all (·.oneCell') = true := by simp [Value.oneCell']

set_option maxRecDepth 100000 in
set_option maxHeartbeats 4000000 in
theorem up13_calls (C : Code13) (w : World) : Calls Try.prog 7 #[] w fun e w' => e = .returned (.bool true) ∧ Ext w w' := by
  have hF : Few1 upN := few1_of (by decide)
  have i0 : ∀ x : Int, 0 ≤ x → x ≤ 100 → In64 x := fun x h h' => ⟨by omega, by omega⟩
  obtain ⟨vS, hvS⟩ : ∃ v : Value, v = .slice (some ⟨w.heap.size, 0, none⟩) 1 1 := ⟨_, rfl⟩
  obtain ⟨vC, hvC⟩ : ∃ v : Value, v = .slice (some ⟨w.heap.size + 1, 0, none⟩) 2 2 := ⟨_, rfl⟩
  have hN := up_nv w
  have hE := (Ext.alloc w upB1).trans (Ext.alloc (w.alloc upB1) upB2)
  have hS0 := NwAt.new ((w.alloc upB1).alloc upB2) vS vC
  have hE0 := Ext.alloc ((w.alloc upB1).alloc upB2) (.cells #[vS, vC] 25)
  have KE := veil (fun tu W (h : Ext ((w.alloc upB1).alloc upB2) W) h0 h1 => C.earl _ upN 0 0 tu 100 W (hN.ext h) hF (i0 0 (by decide) (by decide)) (i0 0 (by decide) (by decide)) (i0 tu h0 h1) (i0 100 (by decide) (by decide)))
  have hrow : (((w.alloc upB1).alloc upB2).alloc (.cells #[.slice none 0 0, .slice none 0 0] 25)).setRow (w.heap.size + 1 + 1) #[vS, vC] = ((w.alloc upB1).alloc upB2).alloc (.cells #[vS, vC] 25) := by
    have e : w.heap.size + 1 + 1 = ((w.alloc upB1).alloc upB2).heap.size := by rw [World.size_alloc, World.size_alloc]
    rw [e, World.setRow_alloc_new]
  have hsz : ((w.alloc upB1).alloc upB2).heap.size = w.heap.size + 1 + 1 := by rw [World.size_alloc, World.size_alloc]
  rw [hsz] at hS0
  unfold upB1 upB2 at hE hS0 hE0 KE hrow
  rw [← hvS, ← hvC] at KE
  clear hN hF i0 C
  go_enter Try.func7, Try.ntmps7
  go_upto_region 2 with ((with_reducible refine at_none ?_); refine wpList_store_row rfl 25 _ _ rfl (w.heap.size + 1 + 1) #[vS, vC] rfl (by rw [hvS, hvC]; rfl) 25 _ (by have := heap_new ((w.alloc upB1).alloc upB2) (.cells #[.slice none 0 0, .slice none 0 0] 25); rwa [World.size_alloc, World.size_alloc] at this) iNw rfl (by rw [hvS, hvC]; exact nwA_one) ?_; rw [hrow])
  rw [← hvS, ← hvC]
  clear hrow hvS hvC hsz
  have HE0 := veil (hE.trans hE0)
  have HX0 := veil hE0
  have HS0 := veil hS0
  clear hE hE0 hS0
  generalize w.heap.size + 1 + 1 = g at *
  have K2 := veil (fun W h => KE.out 2 W h (by decide) (by decide))
  have K3 := veil (fun W h => KE.out 3 W h (by decide) (by decide))
  clear KE
  generalize (w.alloc (.cells #[.int .i64 127, .int .i64 0, .int .i64 9, .slice none 0 0, .slice none 0 0] 43)).alloc (.cells #[.int .i64 0, .int .i64 0, .int .i64 10, .int .i64 1, .int .i64 20, .int .i64 0, .int .i64 1, .int .i64 20, .int .i64 2, .int .i64 30] 39) = wa at *
  generalize wa.alloc (.cells #[vS, vC] 25) = wb at *
  go_upto_region 3 with (first
    | ((with_reducible refine at_slot 15 ?_); refine wpList_load_row rfl 25 _ rfl g rfl 25 #[vS, vC] (0, 0) _ HS0.out Try.underlying25 rfl iNw ?_)
    | (go_at_call 9; refine (K2.out _ HX0.out).mono ?_; rintro e w1 ⟨t, is, ev, rfl, hE1, hP⟩))
  obtain ⟨rfl, rfl, rfl⟩ := earl_up2 hP
  have HE1 := veil (HE0.out.trans hE1)
  have HX1 := veil (HX0.out.trans hE1)
  have HS1 := veil (HS0.out.ext hE1)
  clear hE1 HE0 HX0 HS0 K2 hP
  go_upto_region 4 with (first
    | ((with_reducible refine at_slot 21 ?_); refine wpList_load_row rfl 25 _ rfl g rfl 25 #[vS, vC] (0, 0) _ HS1.out Try.underlying25 rfl iNw ?_)
    | (go_at_call 9; refine (K3.out _ HX1.out).mono ?_; rintro e w2 ⟨t, is, ev, rfl, hE2, hP⟩))
  obtain ⟨rfl, rfl, rfl⟩ := earl_up3 hP
  have HE2 := veil (HE1.out.trans hE2)
  have e1 := eqNil13
  clear hE2 HE1 HX1 HS1 K3 hP
  go_wp2
  go_ret
  exact ⟨rfl, HE2.out⟩
end Go.Proofs.Ytebcdhfmhnhalaa
