/-
  What the laws of layer 8 ask of the code; the document's example.
-/
import Derived.Test.YtiopilhpeohaoaaT7
import Derived.Test.YtiopilhpeohaoaaT8
import Derived.Test.YtiopilhpeohaoaaT9
import Derived.Lib.SmallJoins
namespace Go.Proofs.Ytiopilhpeohaoaa
open Go.RowKit

def PutA (w' : World) (fs : List Fd) (x ev : Value) : Prop :=
  (mayFs fs = false ∧ (∃ A c, x = .slice A 0 c) ∧ ev = .iface 31 (.int .i64 1)) ∨
  (mayFs fs = true ∧ ev = .nilIface ∧ ∃ A c, x = .slice A (encF fs).length c ∧ (encF fs).length ≤ c ∧ Bs w' A (encF fs))
def GetA (w' : World) (bs : List Nat) (x ev : Value) : Prop :=
  (getFs bs = none ∧ (∃ A c, x = .slice A 0 c) ∧ ev = .iface 31 (.int .i64 2)) ∨ (∃ fs, getFs bs = some fs ∧ ev = .nilIface ∧ Fl w' x fs)
def OfA (bs : List Nat) (x ev : Value) : Prop := (ofB bs < 0 ∧ x = .int .i64 0 ∧ ev = .iface 31 (.int .i64 2)) ∨ (0 ≤ ofB bs ∧ x = .int .i64 (ofB bs) ∧ ev = .nilIface)
/-- What the document's Get answers. -/
def RGetA (w' : World) (bs : List Nat) (x y : Value) : Prop := (getFs bs = none ∧ x = .slice none 0 0 ∧ y = .bool false) ∨ (∃ fs, getFs bs = some fs ∧ Fl w' x fs ∧ y = .bool true)
theorem rget8_any (A : Option Addr) (m c : Nat) (bs : List Nat) (hm : m = bs.length) (hmc : m ≤ c) (hle : m ≤ 100000000) (w : World) (hS : Bs w A bs) :
    Calls Try.prog 13 #[.slice A m c] w fun e w' => ∃ x y, e = .returned (.tuple #[x, y]) ∧ Ext w w' ∧ RGetA w' bs x y :=
  (rget8_calls A m c bs hm hmc hle w hS).mono fun e w' ⟨hE, h⟩ => by
    rcases h with ⟨h, rfl⟩ | ⟨fs, v, h, hF, rfl⟩
    · exact ⟨_, _, rfl, hE, .inl ⟨h, rfl, rfl⟩⟩
    · exact ⟨_, _, rfl, hE, .inr ⟨fs, h, hF, rfl⟩⟩
/-- What the laws ask of the code. -/
structure Code8 : Prop where
  may : ∀ (v : Value) (fs : List Fd) (w : World), Fl w v fs → fs.length ≤ 1000000000 → Calls Try.prog 10 #[v] w fun e w' => e = .returned (.bool (mayFs fs)) ∧ Ext w w'
  put : ∀ (v : Value) (fs : List Fd) (w : World), Fl w v fs → fs.length ≤ 1000000000 → Calls Try.prog 8 #[v] w fun e w' => ∃ x ev, e = .returned (.tuple #[x, ev]) ∧ Ext w w' ∧ PutA w' fs x ev
  get : ∀ (A : Option Addr) (m c : Nat) (bs : List Nat) (w : World), m = bs.length → m ≤ c → m ≤ 100000000 → Bs w A bs → Calls Try.prog 12 #[.slice A m c] w fun e w' => ∃ x ev, e = .returned (.tuple #[x, ev]) ∧ Ext w w' ∧ GetA w' bs x ev
  number : ∀ (n : Int) (w : World), -9223372036854775808 ≤ n → n ≤ 9223372036854775807 → Calls Try.prog 17 #[.int .i64 n] w fun e w' => ∃ A c, e = .returned (.slice A 8 c) ∧ 8 ≤ c ∧ Bs w' A (numB n) ∧ Ext w w'
  of : ∀ (A : Option Addr) (m c : Nat) (bs : List Nat) (w : World), m = bs.length → m ≤ c → Bs w A bs → Calls Try.prog 15 #[.slice A m c] w fun e w' => ∃ x ev, e = .returned (.tuple #[x, ev]) ∧ Ext w w' ∧ OfA bs x ev

theorem eqErr2 (w : World) : (binOp .eql 26 (.iface 31 (.int .i64 2)) (.iface 31 (.int .i64 2))).run Try.prog w = .ok (.bool true) w := by kernel_rfl
theorem neErr2 (w : World) : (binOp .neq 26 (.iface 31 (.int .i64 2)) (.iface 31 (.int .i64 2))).run Try.prog w = .ok (.bool false) w := by kernel_rfl
theorem neErr1 (w : World) : (binOp .neq 26 (.iface 31 (.int .i64 1)) (.iface 31 (.int .i64 1))).run Try.prog w = .ok (.bool false) w := by kernel_rfl
theorem fl_one {w : World} {g : Nat} {T : Int} {A : Option Addr} {D : List Nat} {c c1 : Nat} {fr : Nat × Nat} (hg : w.heap[g]? = some (.cells #[.int .i64 T, .slice A D.length c] 47 fr)) (hc : D.length ≤ c) (hB : Bs w A D) (h1 : 1 ≤ c1 := by decide) : Fl w (.slice (some ⟨g, 0, none⟩) 1 c1) [(T, D)] := by
  refine ⟨fun f hf => ?_, _, _, rfl, h1, .inr ⟨g, 0, rfl, (Array.getElem?_eq_some_iff.1 hg).1, fun i hi => ?_⟩⟩
  · rw [List.mem_singleton.1 hf]; exact hB.1
  · obtain rfl : i = 0 := by simpa using hi
    exact ⟨by rw [cell_of_row w g _ _ _ _ hg]; rfl, A, c, by rw [cell_of_row w g _ _ _ _ hg]; rfl, hc, hB⟩
theorem bs_one {w : World} {g x : Nat} {fr : Nat × Nat} (hg : w.heap[g]? = some (.cells #[.int .u8 (x : Int)] 5 fr)) (hx : x < 256) : Bs w (some ⟨g, 0, none⟩) [x] := by
  refine ⟨fun y hy => by rw [List.mem_singleton.1 hy]; exact hx, .inr ⟨g, 0, rfl, (Array.getElem?_eq_some_iff.1 hg).1, fun j hj => ?_⟩⟩
  obtain rfl : j = 0 := by simpa using hj
  rw [cell_of_row w g _ _ _ _ hg]
  rfl

set_option maxRecDepth 100000 in
set_option maxHeartbeats 4000000 in
theorem up8_calls (C : Code8) (w : World) : Calls Try.prog 7 #[] w fun e w' => e = .returned (.bool true) ∧ Ext w w' := by
  have hsz : (#[.int .u8 97] : Array Value).size = 1 := rfl
  have kc := Joins.run_convert_bytes_const_at (P := Try.prog) w 23 5 #[.int .u8 97] 1 1 w.heap.size rfl Try.underlying23 Try.underlying5
  rw [hsz] at kc
  clear hsz
  go_enter Try.func7, Try.ntmps7
  have hE1 : Ext w ((w.alloc (.cells #[.int .u8 97] 5 (1, 2))).alloc (.cells #[.int .i64 1, .slice (some ⟨w.heap.size, 0, none⟩) 1 1] 47)) := (Ext.alloc w _).trans (Ext.alloc _ _)
  have hF1 : Fl ((w.alloc (.cells #[.int .u8 97] 5 (1, 2))).alloc (.cells #[.int .i64 1, .slice (some ⟨w.heap.size, 0, none⟩) 1 1] 47)) (.slice (some ⟨w.heap.size + 1, 0, none⟩) 1 1) [(1, [97])] := by
    have e : w.heap.size + 1 = (w.alloc (.cells #[.int .u8 97] 5 (1, 2))).heap.size := by simp
    rw [e]
    refine fl_one (D := [97]) (c := 1) (heap_new _ _) (Nat.le_refl _) ((show Bs (w.alloc (.cells #[.int .u8 97] 5 (1, 2))) (some ⟨w.heap.size, 0, none⟩) [97] from ?_).ext (Ext.alloc _ _))
    exact bs_one (heap_new _ _) (by decide)
  have KP := veil (And.intro (C.put _ _ _ hF1 (by decide)) hE1)
  clear hE1 hF1
  go_upto_region 2 with (go_at_call 8; refine KP.out.1.mono ?_; rintro e w1 ⟨x, ev, rfl, hE2, hA⟩)
  rcases hA with ⟨h, _⟩ | ⟨_, rfl, A, c, rfl, hc, hB⟩
  · exact absurd h (by decide)
  rw [show (encF [(1, [97])]).length = 4 from rfl]
  have hEw := KP.out.2.trans hE2
  have hB0 : Bs (w1.alloc (.cells #[.int .u8 0] 5)) (some ⟨w1.heap.size, 0, none⟩) [0] := bs_one (heap_new _ _) (by decide)
  have KG := veil (And.intro (C.get _ 1 1 _ _ rfl (Nat.le_refl _) (by decide) hB0) (And.intro (hEw.trans (Ext.alloc w1 (.cells #[.int .u8 0] 5))) (hB.ext (Ext.alloc w1 (.cells #[.int .u8 0] 5)))))
  clear hE2 hEw hB0 hB KP kc hc
  go_upto_region 3 with (go_at_call 12; refine KG.out.1.mono ?_; rintro e w2 ⟨x, ev, rfl, hE3, hA⟩)
  rcases hA with ⟨_, ⟨A2, c2, rfl⟩, rfl⟩ | ⟨fs, h, _⟩
  · have k1 : (convert 23 9 (.slice A 4 c)).run Try.prog w2 = .ok (.string { data := #[1, 0, 1, 97] }) w2 := str_of (KG.out.2.2.ext hE3) rfl
    have hE := KG.out.2.1.trans hE3
    clear KG hE3
    have k2 := fun W => eqErr2 W
    go_wp2
    go_ret
    exact ⟨rfl, hE⟩
  · exact absurd h (by rw [show getFs [0] = none from rfl]; simp)
end Go.Proofs.Ytiopilhpeohaoaa
