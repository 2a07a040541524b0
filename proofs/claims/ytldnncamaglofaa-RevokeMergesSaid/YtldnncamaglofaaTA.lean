/-
  What the laws of layer 8 ask of the code; the document's example.
-/
import Derived.Test.YtldnncamaglofaaT7
import Derived.Test.YtldnncamaglofaaT8
import Derived.Test.YtldnncamaglofaaT9
import Derived.Lib.SmallJoins
namespace Go.Proofs.Ytldnncamaglofaa
open Go.RowKit

def PutA (w' : World) (fs : List Fd) (x ev : Value) : Prop :=
  (mayFs fs = false ∧ (∃ A c, x = .slice A 0 c) ∧ ev = .iface 32 (.int .i64 1)) ∨
  (mayFs fs = true ∧ ev = .nilIface ∧ ∃ A c, x = .slice A (encF fs).length c ∧ (encF fs).length ≤ c ∧ Bs w' A (encF fs))
def GetA (w' : World) (bs : List Nat) (x ev : Value) : Prop :=
  (getFs bs = none ∧ (∃ A c, x = .slice A 0 c) ∧ ev = .iface 32 (.int .i64 2)) ∨ (∃ fs, getFs bs = some fs ∧ ev = .nilIface ∧ Fl w' x fs)
def OfA (bs : List Nat) (x ev : Value) : Prop := (ofB bs < 0 ∧ x = .int .i64 0 ∧ ev = .iface 32 (.int .i64 2)) ∨ (0 ≤ ofB bs ∧ x = .int .i64 (ofB bs) ∧ ev = .nilIface)
/-- What the document's Get answers. -/
def RGetA (w' : World) (bs : List Nat) (x y : Value) : Prop := (getFs bs = none ∧ x = .slice none 0 0 ∧ y = .bool false) ∨ (∃ fs, getFs bs = some fs ∧ Fl w' x fs ∧ y = .bool true)
theorem rget8_any (A : Option Addr) (m c : Nat) (bs : List Nat) (hm : m = bs.length) (hmc : m ≤ c) (hle : m ≤ 100000000) (w : World) (hS : Bs w A bs) :
    Calls Try.prog 27 #[.slice A m c] w fun e w' => ∃ x y, e = .returned (.tuple #[x, y]) ∧ Ext w w' ∧ RGetA w' bs x y :=
  (rget8_calls A m c bs hm hmc hle w hS).mono fun e w' ⟨hE, h⟩ => by
    rcases h with ⟨h, rfl⟩ | ⟨fs, v, h, hF, rfl⟩
    · exact ⟨_, _, rfl, hE, .inl ⟨h, rfl, rfl⟩⟩
    · exact ⟨_, _, rfl, hE, .inr ⟨fs, h, hF, rfl⟩⟩
/-- What the laws ask of the code. -/
structure Code8 : Prop where
  may : ∀ (v : Value) (fs : List Fd) (w : World), Fl w v fs → fs.length ≤ 1000000000 → Calls Try.prog 34 #[v] w fun e w' => e = .returned (.bool (mayFs fs)) ∧ Ext w w'
  put : ∀ (v : Value) (fs : List Fd) (w : World), Fl w v fs → fs.length ≤ 1000000000 → Calls Try.prog 20 #[v] w fun e w' => ∃ x ev, e = .returned (.tuple #[x, ev]) ∧ Ext w w' ∧ PutA w' fs x ev
  get : ∀ (A : Option Addr) (m c : Nat) (bs : List Nat) (w : World), m = bs.length → m ≤ c → m ≤ 100000000 → Bs w A bs → Calls Try.prog 25 #[.slice A m c] w fun e w' => ∃ x ev, e = .returned (.tuple #[x, ev]) ∧ Ext w w' ∧ GetA w' bs x ev
  number : ∀ (n : Int) (w : World), -9223372036854775808 ≤ n → n ≤ 9223372036854775807 → Calls Try.prog 19 #[.int .i64 n] w fun e w' => ∃ A c, e = .returned (.slice A 8 c) ∧ 8 ≤ c ∧ Bs w' A (numB n) ∧ Ext w w'
  of : ∀ (A : Option Addr) (m c : Nat) (bs : List Nat) (w : World), m = bs.length → m ≤ c → Bs w A bs → Calls Try.prog 40 #[.slice A m c] w fun e w' => ∃ x ev, e = .returned (.tuple #[x, ev]) ∧ Ext w w' ∧ OfA bs x ev

theorem eqErr2 (w : World) : (binOp .eql 28 (.iface 32 (.int .i64 2)) (.iface 32 (.int .i64 2))).run Try.prog w = .ok (.bool true) w := by kernel_rfl
theorem neErr2 (w : World) : (binOp .neq 28 (.iface 32 (.int .i64 2)) (.iface 32 (.int .i64 2))).run Try.prog w = .ok (.bool false) w := by kernel_rfl
theorem neErr1 (w : World) : (binOp .neq 28 (.iface 32 (.int .i64 1)) (.iface 32 (.int .i64 1))).run Try.prog w = .ok (.bool false) w := by kernel_rfl
theorem fl_one {w : World} {g : Nat} {T : Int} {A : Option Addr} {D : List Nat} {c c1 : Nat} {fr : Nat × Nat} (hg : w.heap[g]? = some (.cells #[.int .i64 T, .slice A D.length c] 48 fr)) (hc : D.length ≤ c) (hB : Bs w A D) (h1 : 1 ≤ c1 := by decide) : Fl w (.slice (some ⟨g, 0, none⟩) 1 c1) [(T, D)] := by
  refine ⟨fun f hf => ?_, _, _, rfl, h1, .inr ⟨g, 0, rfl, (Array.getElem?_eq_some_iff.1 hg).1, fun i hi => ?_⟩⟩
  · rw [List.mem_singleton.1 hf]; exact hB.1
  · obtain rfl : i = 0 := by simpa using hi
    exact ⟨by rw [cell_of_row w g _ _ _ _ hg]; rfl, A, c, by rw [cell_of_row w g _ _ _ _ hg]; rfl, hc, hB⟩
theorem bs_one {w : World} {g x : Nat} {fr : Nat × Nat} (hg : w.heap[g]? = some (.cells #[.int .u8 (x : Int)] 5 fr)) (hx : x < 256) : Bs w (some ⟨g, 0, none⟩) [x] := by
  refine ⟨fun y hy => by rw [List.mem_singleton.1 hy]; exact hx, .inr ⟨g, 0, rfl, (Array.getElem?_eq_some_iff.1 hg).1, fun j hj => ?_⟩⟩
  obtain rfl : j = 0 := by simpa using hj
  rw [cell_of_row w g _ _ _ _ hg]
  rfl

end Go.Proofs.Ytldnncamaglofaa
