/-
  The landed flash: its bytes in memory; Size, has, Read, Tear, Write, New.
-/
import Derived.Test.YtoikgkjkcampkaaJoc
import Derived.Test.YtoikgkjkcampkaaUA
import Derived.Test.YtoikgkjkcampkaaTF
import Derived.Laws.CopyOwn
namespace Go.Proofs.Ytoikgkjkcampkaa
open Go.RowKit

/-- Byte j of B, as a value. -/
def u8f (B : List Nat) (j : Nat) : Value := .int .u8 (B.getD j 0 : Nat)
/-- A flash: its struct in block g, its bytes in block h. -/
structure Fla (w : World) (g h : Nat) (B : List Nat) : Prop where
  ne : g ≠ h
  cel : w.rowIs g 42 1 (fun _ => .slice (some ⟨h, 0, none⟩) B.length B.length)
  row : w.rowIs h 5 B.length (u8f B)
  byt : Byt B
  one : 1 ≤ B.length
  many : B.length ≤ 1048576
theorem row_chg {w w' : World} {F : Nat → Prop} {b t n : Nat} {f : Nat → Value} (h : w.rowIs b t n f) (k : Chg F w w') (hn : ¬ F b) : w'.rowIs b t n f := h.of_block (k.block b h.lt hn)
theorem Fla.chg {w w' : World} {H : Nat → Prop} {g h : Nat} {B : List Nat} (f : Fla w g h B) (k : Chg H w w') (h1 : ¬ H g) (h2 : ¬ H h) : Fla w' g h B := ⟨f.ne, row_chg f.cel k h1, row_chg f.row k h2, f.byt, f.one, f.many⟩
theorem Fla.ext {w w' : World} {g h : Nat} {B : List Nat} (f : Fla w g h B) (k : Ext w w') : Fla w' g h B := f.chg (Chg.of_ext (F := fun _ => False) k) id id
theorem Fla.c0 {w : World} {g h : Nat} {B : List Nat} (f : Fla w g h B) : w.cell? ⟨g, 0, none⟩ = some (.slice (some ⟨h, 0, none⟩) B.length B.length) := f.cel.cell (i := 0) (by omega)
theorem Fla.of_row {w : World} {h : Nat} {B : List Nat} (f : w.rowIs h 5 B.length (u8f B)) (hb : Byt B) : Bs w (some ⟨h, 0, none⟩) B :=
  ⟨hb, .inr ⟨h, 0, rfl, f.lt, fun j hj => by rw [Nat.zero_add]; exact f.cell hj⟩⟩

set_option maxRecDepth 100000 in
set_option maxHeartbeats 4000000 in
theorem fsize_calls (g h : Nat) (B : List Nat) (w : World) (hF : Fla w g h B) :
    Calls Try.prog 12 #[.pointer (some ⟨g, 0, none⟩)] w fun e w' => e = .returned (.int .i64 (B.length : Nat)) ∧ Ext w w' := by
  have c0 := hF.c0
  have k0 := hF.many
  clear hF
  obtain ⟨n, hn⟩ : ∃ n, n = B.length := ⟨_, rfl⟩
  rw [← hn] at c0 k0 ⊢
  clear hn
  go_enter Try.func12, Try.ntmps12
  go_wp2
  go_ret
  exact ⟨rfl, Ext.refl _⟩

set_option maxRecDepth 100000 in
set_option maxHeartbeats 4000000 in
theorem fhas_calls (g h : Nat) (B : List Nat) (a n : Nat) (hin : a + n ≤ B.length) (w : World) (hF : Fla w g h B) :
    Calls Try.prog 26 #[.pointer (some ⟨g, 0, none⟩), .int .i64 (a : Int), .int .i64 (n : Int)] w fun e w' => e = .returned (.bool true) ∧ Ext w w' := by
  have c0 := hF.c0
  have k0 := hF.many
  clear hF
  obtain ⟨N, hn⟩ : ∃ n, n = B.length := ⟨_, rfl⟩
  rw [← hn] at c0 k0 hin
  clear hn
  have d0 : decide ((0 : Int) ≤ (a : Int)) = true := decide_eq_true (by omega)
  have d1 : decide ((0 : Int) ≤ (n : Int)) = true := decide_eq_true (by omega)
  have d2 : decide ((n : Int) ≤ (N : Int) - (a : Int)) = true := decide_eq_true (by omega)
  go_enter Try.func26, Try.ntmps26
  go_wp2
  go_ret
  exact ⟨rfl, Ext.refl _⟩
end Go.Proofs.Ytoikgkjkcampkaa
