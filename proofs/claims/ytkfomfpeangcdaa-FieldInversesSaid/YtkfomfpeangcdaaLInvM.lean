/-
  What FieldInverses stands on.
-/
import Derived.Test.YtkfomfpeangcdaaFUp
import Derived.Test.YtkfomfpeangcdaaFLaw
import Derived.Test.YtkfomfpeangcdaaFPow
import Derived.Test.YtkfomfpeangcdaaG9
import Derived.Test.YtkfomfpeangcdaaEql
namespace Go.Proofs.Ytkfomfpeangcdaa
open Go.RowKit

/-- The rows of FieldInverses: the modulus, the number, and what Inv told. -/
structure Lo (w wr : World) (M X g Y : Nat) : Prop where
  ar : wr.rowIs w.heap.size 24 4 (fun j => .int .u64 (wd M j))
  xr : wr.rowIs (w.heap.size + 1) 24 4 (fun j => .int .u64 (wd X j))
  ur : wr.rowIs g 24 4 (fun j => .int .u64 (wd Y j))
  be : Below w.heap.size w wr
  hg : w.heap.size + 1 < g
section
variable {w wr w' : World} {M X g Y : Nat} {o : Obj}
theorem Lo.alloc (h : Lo w wr M X g Y) (o : Obj) : Lo w (wr.alloc o) M X g Y := ⟨h.ar.alloc _, h.xr.alloc _, h.ur.alloc _, h.be.alloc h.be.size _, h.hg⟩
theorem Lo.drew (h : Lo w wr M X g Y) : Lo w wr.drew M X g Y := ⟨h.ar.drew, h.xr.drew, h.ur.drew, h.be.drew, h.hg⟩
theorem Lo.call (h : Lo w wr M X g Y) (hb : Below wr.heap.size wr w') : Lo w w' M X g Y :=
  ⟨row_below h.ar hb h.ar.lt, row_below h.xr hb h.xr.lt, row_below h.ur hb h.ur.lt, h.be.trans (hb.mono h.be.size), h.hg⟩
theorem Lo.call_d (h : Lo w wr M X g Y) (hb : Below wr.drew.heap.size wr.drew w') : Lo w w' M X g Y := h.drew.call hb
theorem Lo.call_a (h : Lo w wr M X g Y) (hb : Below (wr.alloc o).heap.size (wr.alloc o) w') : Lo w w' M X g Y := (h.alloc o).call hb
theorem Lo.call_ad (h : Lo w wr M X g Y) (hb : Below (wr.alloc o).drew.heap.size (wr.alloc o).drew w') : Lo w w' M X g Y := (h.alloc o).drew.call hb
theorem Lo.call_da (h : Lo w wr M X g Y) (hb : Below (wr.drew.alloc o).heap.size (wr.drew.alloc o) w') : Lo w w' M X g Y := (h.drew.alloc o).call hb
/-- .. and what the document's answer told. -/
structure Ls (w wr : World) (g Y s V : Nat) : Prop where
  ur : wr.rowIs g 24 4 (fun j => .int .u64 (wd Y j))
  sr : wr.rowIs s 24 4 (fun j => .int .u64 (wd V j))
  be : Below w.heap.size w wr
theorem ls_new (h : Lo w wr M X g Y) (V : Nat) : Ls w (wr.alloc (.cells #[.int .u64 (wd (V) 0), .int .u64 (wd (V) 1), .int .u64 (wd (V) 2), .int .u64 (wd (V) 3)] 24)) g Y wr.heap.size V :=
  ⟨h.ur.alloc _, row_new (n := 4) rfl rfl (arr4 fun j => .int .u64 (wd V j)), h.be.alloc h.be.size _⟩
theorem ls_put {s : Nat} {f : Nat → Value} (h : Lo w wr M X g Y) (ht : wr.rowIs s 24 4 f) (hs : g < s) (V : Nat) :
    Ls w ((((wr.setCell ⟨s, 0, none⟩ (.int .u64 (wd V 0))).setCell ⟨s, 1, none⟩ (.int .u64 (wd V 1))).setCell ⟨s, 2, none⟩ (.int .u64 (wd V 2))).setCell ⟨s, 3, none⟩ (.int .u64 (wd V 3))) g Y s V :=
  ⟨row_far4 h.ur (by omega) _ _ _ _, put4 ht fun j => .int .u64 (wd V j), below_put4 h.be (by have := h.hg; omega) _ _ _ _⟩
end
theorem inv_unique {a M y z : Nat} (hy : y < M) (hz : z < M) (h1 : a * y % M = 1) (h2 : a * z % M = 1) : y = z := by
  have e1 : z * (a * y) % M = z % M := by rw [← Nat.mul_mod_mod, h1, Nat.mul_one]
  have e2 : y * (a * z) % M = y % M := by rw [← Nat.mul_mod_mod, h2, Nat.mul_one]
  have e3 : z * (a * y) = y * (a * z) := by rw [Nat.mul_left_comm, Nat.mul_comm z y, Nat.mul_left_comm]
  rw [e3, e2, Nat.mod_eq_of_lt hy, Nat.mod_eq_of_lt hz] at e1
  exact e1
theorem gcd_cut (X M : Nat) : Nat.gcd (X % M) M = Nat.gcd X M := by
  rw [Nat.gcd_comm, Nat.gcd_comm X M, Nat.gcd_rec M X, Nat.gcd_comm M (X % M)]
theorem rinv_yes (X M y : Nat) (hg : Nat.gcd X M = 1) (hy : y < M) (h1 : X * y % M = 1) (hM1 : 1 < M) (hodd : M % 2 = 1) (hM : M < top) (w : World) :
    Calls Try.prog 26 #[.agg #[.int .u64 (wd ((X % M)) 0), .int .u64 (wd ((X % M)) 1), .int .u64 (wd ((X % M)) 2), .int .u64 (wd ((X % M)) 3)], .agg #[.int .u64 (wd (M) 0), .int .u64 (wd (M) 1), .int .u64 (wd (M) 2), .int .u64 (wd (M) 3)]] w fun e w' => e = .returned (.tuple #[.agg #[.int .u64 (wd (y) 0), .int .u64 (wd (y) 1), .int .u64 (wd (y) 2), .int .u64 (wd (y) 3)], .bool true]) ∧ Below w.heap.size w w' := by
  refine (ginv_calls (X % M) M (Nat.mod_lt _ (by omega)) hM1 hodd hM w).mono ?_
  rintro e w' ⟨V, hV, h2, rfl, hb⟩
  have hg2 : Nat.gcd (X % M) M = 1 := by rw [gcd_cut]; exact hg
  have h3 := h2 hg2
  rw [Nat.mod_mul_mod] at h3
  obtain rfl := inv_unique hV hy h3 h1
  rw [hg2]
  exact ⟨rfl, hb⟩
theorem rinv_no (X M : Nat) (hg : ¬ Nat.gcd X M = 1) (hM1 : 1 < M) (hodd : M % 2 = 1) (hM : M < top) (w : World) :
    Calls Try.prog 26 #[.agg #[.int .u64 (wd ((X % M)) 0), .int .u64 (wd ((X % M)) 1), .int .u64 (wd ((X % M)) 2), .int .u64 (wd ((X % M)) 3)], .agg #[.int .u64 (wd (M) 0), .int .u64 (wd (M) 1), .int .u64 (wd (M) 2), .int .u64 (wd (M) 3)]] w fun e w' => ∃ V : Nat, e = .returned (.tuple #[.agg #[.int .u64 (wd (V) 0), .int .u64 (wd (V) 1), .int .u64 (wd (V) 2), .int .u64 (wd (V) 3)], .bool false]) ∧ Below w.heap.size w w' := by
  refine (ginv_calls (X % M) M (Nat.mod_lt _ (by omega)) hM1 hodd hM w).mono ?_
  rintro e w' ⟨V, hV, h2, rfl, hb⟩
  refine ⟨V, ?_, hb⟩
  have hg2 : (Nat.gcd (X % M) M == 1) = false := by rw [gcd_cut]; simpa using hg
  rw [hg2]

theorem eql_zero0 (w : World) : (binOp .eql 24 (.agg #[.int .u64 (wd (0) 0), .int .u64 (wd (0) 1), .int .u64 (wd (0) 2), .int .u64 (wd (0) 3)]) (.agg #[.int .u64 0, .int .u64 0, .int .u64 0, .int .u64 0])).run Try.prog w = .ok (.bool true) w := by
  have h := eql_num_same 0 w
  rw [lit_num 0 (by decide)] at h ⊢
  exact h
end Go.Proofs.Ytkfomfpeangcdaa
