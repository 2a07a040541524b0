/-
  clapperref03.Sum: the text, padded.
-/
import Derived.Test.YtmgogcoafhompaaDoorSOwn
import Derived.Test.YtmgogcoafhompaaDoorSConst
import Derived.WalkKit
import Derived.WalkSpells
import Derived.WalkLawsBesides
import Derived.Deep.LoopGhost
import Derived.Deep.Cut
import Derived.Deep.CutRange
import Derived.Deep.RegionHeld3
import Derived.BigQuiet
import Derived.IntWalk
import Derived.Deep.QuietTactic
import Derived.StillTailTactics
namespace Go.Proofs.YtmgogcoafhompaaDoor
open Go.RowKit

theorem src_from {w : World} {A : Option Addr} {n g : Nat} {y : Nat → Nat} (h : Src w A n y g) : From w A n (fun j => .int .u8 (y j : Nat)) := by
  rcases h with h | ⟨b, o, rfl, _, _, hc⟩
  · exact .inl h
  · exact .inr ⟨_, rfl, fun j hj => by rw [Addr.add_mid]; exact hc j hj⟩

/-- Cell j of the text, padded. -/
def txv (y : Nat → Nat) (n : Nat) (j : Nat) : Value := .int .u8 (padded y n j : Nat)
theorem txv_lo {y : Nat → Nat} {n j : Nat} (h : j < n) : txv y n j = .int .u8 (y j : Nat) := by unfold txv padded; rw [if_pos h]
theorem txv_at {y : Nat → Nat} {n : Nat} : txv y n n = .int .u8 128 := by unfold txv padded; rw [if_neg (by omega), if_pos rfl]; rfl
theorem txv_mid {y : Nat → Nat} {n j : Nat} (h1 : n < j) (h2 : j < 64 * nBlocks n - 8) : txv y n j = .int .u8 0 := by unfold txv padded; rw [if_neg (by omega), if_neg (by omega), if_pos h2]; rfl
theorem txv_hi {y : Nat → Nat} {n j : Nat} (h1 : 64 * nBlocks n - 8 ≤ j) (h2 : n < j) : txv y n j = .int .u8 ((8 * n / 256 ^ (64 * nBlocks n - 1 - j) % 256 : Nat) : Int) := by unfold txv padded; rw [if_neg (by omega), if_neg (by omega), if_neg (by omega)]
theorem own_one (w : World) (e : Nat) (x : Value) : Own (w.alloc (.cells #[x] e)) w.heap.size e (.slice (some ⟨w.heap.size, 0, none⟩) 1 1) 1 (fun _ => x) :=
  Own.made w (cs := #[x]) (Nat.le_refl _) (show 1 ≤ maxLen by decide) fun j hj => by
    have : j = 0 := by simpa using hj
    subst this
    rfl
/-- What the outer loop keeps: the text, the state, the round words, the result's block. -/
structure RF (w wr : World) (gR gT gH gK N : Nat) (tx : Nat → Value) (st : Nat → Value) : Prop where
  text : Pre wr gT 5 N tx
  h : wr.rowIs gH 42 8 st
  k : wr.rowIs gK 42 64 (fun j => .int .u32 (kc j : Nat))
  r : wr.rowIs gR 26 32 (fun _ => .int .u8 0)
  b : Below gR w wr
  o1 : gR < gT
  o2 : gT < gH
  o3 : gH < gK
section
variable {w wr w' : World} {gR gT gH gK N : Nat} {tx : Nat → Value} {st st' : Nat → Value}
theorem RF.lt (f : RF w wr gR gT gH gK N tx st) : gK < wr.heap.size := f.k.lt
theorem RF.of (f : RF w wr gR gT gH gK N tx st) (hk : ∀ b, b ≤ gK → w'.heap[b]? = wr.heap[b]?) (hb : Below gR wr w') : RF w w' gR gT gH gK N tx st := by
  have := f.o1; have := f.o2; have := f.o3
  exact ⟨f.text.of_block (hk gT (by omega)), f.h.of_block (hk gH (by omega)), f.k.of_block (hk gK (by omega)), f.r.of_block (hk gR (by omega)), f.b.trans hb, f.o1, f.o2, f.o3⟩
theorem RF.drewN (f : RF w wr gR gT gH gK N tx st) (k : Nat) : RF w (wr.drewN k) gR gT gH gK N tx st := ⟨f.text, f.h, f.k, f.r, below_drewN f.b k, f.o1, f.o2, f.o3⟩
theorem RF.drew (f : RF w wr gR gT gH gK N tx st) : RF w wr.drew gR gT gH gK N tx st := ⟨f.text, f.h, f.k, f.r, f.b.drew, f.o1, f.o2, f.o3⟩
theorem RF.alloc (f : RF w wr gR gT gH gK N tx st) (o : Obj) : RF w (wr.alloc o) gR gT gH gK N tx st := by
  have := f.o1; have := f.o2; have := f.o3; have := f.lt
  exact f.of (fun b hb => Below.heap_alloc _ _ _ (by omega)) ((Below.refl _ _).alloc (by omega) o)
theorem RF.grown (f : RF w wr gR gT gH gK N tx st) {row : Option Nat} (hg : wr.grownBy w' row) (hr : ∀ k, row = some k → gK < k) : RF w w' gR gT gH gK N tx st := by
  have := f.o1; have := f.o2; have := f.o3; have := f.lt
  exact f.of (fun b hb => hg.block b (by omega) (fun e => by have := hr b e.symm; omega)) ((Below.refl _ _).grown hg (by omega) (fun k e => by have := hr k e; omega))
theorem RF.far (f : RF w wr gR gT gH gK N tx st) {b i : Nat} (hb : gK < b) (v : Value) : RF w (wr.setCell ⟨b, i, none⟩ v) gR gT gH gK N tx st := by
  have := f.o1; have := f.o2; have := f.o3
  exact f.of (fun c hc => Below.heap_setCell _ _ _ _ (by show c ≠ b; omega)) ((Below.refl _ _).setCell (p := ⟨b, i, none⟩) (by show gR ≤ b; omega) v)
end
theorem RF.setH {w wr : World} {gR gT gH gK N : Nat} {tx st : Nat → Value} (f : RF w wr gR gT gH gK N tx st) (i : Nat) (v : Value) : RF w (wr.setCell ⟨gH, i, none⟩ v) gR gT gH gK N tx (fun j => if j = i then v else st j) := by
  have := f.o1; have := f.o2; have := f.o3
  exact ⟨f.text.far (by omega) v, f.h.set i v, row_far f.k (by omega) v, row_far f.r (by omega) v, below_set f.b (by omega) v, f.o1, f.o2, f.o3⟩
theorem RF.congrH {w wr : World} {gR gT gH gK N : Nat} {tx st st' : Nat → Value} (f : RF w wr gR gT gH gK N tx st) (h : ∀ j, j < 8 → st j = st' j) : RF w wr gR gT gH gK N tx st' :=
  ⟨f.text, f.h.congr h, f.k, f.r, f.b, f.o1, f.o2, f.o3⟩
/-- The state's words, as cells. -/
def hst (s : St) : Nat → Value := fun j => .int .u32 (s.at j : Nat)
/-- What is kept behind a new block and an append to a slice of the call's own. -/
theorem keep_step {w W W' : World} {gR : Nat} {o : Obj} {row : Option Nat} (hR : W.rowIs gR 26 32 (fun _ => .int .u8 0)) (hB : Below gR w W) (hg : (W.alloc o).grownBy W' row) (hr : ∀ k, row = some k → gR + 1 ≤ k) :
    W'.rowIs gR 26 32 (fun _ => .int .u8 0) ∧ Below gR w W' ∧ gR < W'.heap.size := by
  have hz := hR.lt
  have h1 := row_grown (hR.alloc o) hg (fun e => by have := hr gR e.symm; omega)
  exact ⟨h1, (hB.alloc (by omega) o).grown hg (by simp; omega) (fun k e => by have := hr k e; omega), h1.lt⟩
end Go.Proofs.YtmgogcoafhompaaDoor
