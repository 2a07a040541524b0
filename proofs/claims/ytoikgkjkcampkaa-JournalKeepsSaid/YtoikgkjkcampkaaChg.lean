/-
  Worlds in which some blocks may have changed: what lies elsewhere stays.
-/
import Derived.Test.YtoikgkjkcampkaaLs
namespace Go.Proofs.Ytoikgkjkcampkaa
open Go.RowKit

/-- Blocks of F may have changed; all others that were there are as they were. -/
structure Chg (F : Nat → Prop) (w w' : World) : Prop where
  os : w'.os = w.os
  tape : w'.tape = w.tape
  output : w'.output = w.output
  size : w.heap.size ≤ w'.heap.size
  block : ∀ k, k < w.heap.size → ¬ F k → w'.heap[k]? = w.heap[k]?
section
variable {F G : Nat → Prop} {a b c w w' : World}
theorem Chg.refl (F : Nat → Prop) (w : World) : Chg F w w := ⟨rfl, rfl, rfl, Nat.le_refl _, fun _ _ _ => rfl⟩
theorem Chg.trans (h : Chg F a b) (k : Chg G b c) (hg : ∀ z, z < a.heap.size → G z → F z) : Chg F a c :=
  ⟨k.os.trans h.os, k.tape.trans h.tape, k.output.trans h.output, Nat.le_trans h.size k.size, fun z hz hn => (k.block z (Nat.lt_of_lt_of_le hz h.size) fun hG => hn (hg z hz hG)).trans (h.block z hz hn)⟩
theorem Chg.of_ext (h : Ext w w') : Chg F w w' := ⟨Below.os h, Below.tape h, Below.output h, Below.size h, fun k hk _ => Below.block h k hk⟩
theorem Chg.ext (h : Chg F a b) (k : Ext b c) : Chg F a c := h.trans (Chg.of_ext (F := F) k) fun _ _ h => h
theorem Chg.mono (h : Chg F w w') (k : ∀ z, z < w.heap.size → F z → G z) : Chg G w w' := ⟨h.os, h.tape, h.output, h.size, fun z hz hn => h.block z hz fun hf => hn (k z hz hf)⟩
/-- What changed is all new. -/
theorem Chg.new (h : Chg F b c) (k : Ext a b) (hf : ∀ z, z < a.heap.size → ¬ F z) : Ext a c :=
  ⟨h.os.trans (Below.os k), h.tape.trans (Below.tape k), h.output.trans (Below.output k), Nat.le_trans (Below.size k) h.size, fun z hz => (h.block z (Nat.lt_of_lt_of_le hz (Below.size k)) (hf z hz)).trans (Below.block k z hz)⟩
theorem Chg.at (h : Chg F w w') {z : Nat} {o : Obj} (hz : w.heap[z]? = some o) (hf : ¬ F z) : w'.heap[z]? = some o := by rw [h.block z (Array.getElem?_eq_some_iff.1 hz).1 hf]; exact hz
theorem Chg.cell (h : Chg F w w') {p : Addr} (hz : p.block < w.heap.size) (hf : ¬ F p.block) : w'.cell? p = w.cell? p := World.cell?_of_block (w := w) (h.block p.block hz hf)
theorem Chg.setCell (h : Chg F w w') {p : Addr} (hp : F p.block ∨ w.heap.size ≤ p.block) (u : Value) : Chg F w (w'.setCell p u) :=
  ⟨h.os, h.tape, h.output, by simpa [World.setCell] using h.size, fun k hk hn => (Below.heap_setCell _ _ _ _ fun e => by
    subst e
    rcases hp with hp | hp
    · exact hn hp
    · omega).trans (h.block k hk hn)⟩
theorem Chg.drew (h : Chg F w w') : Chg F w w'.drew := ⟨h.os, h.tape, h.output, h.size, h.block⟩
end
section
variable {α : Type} {sz : Nat} {cs : α → List Value} {v : Value} {l : List α} {w w' : World} {F : Nat → Prop} {base ty : Nat}
theorem OwnL.chg (o : OwnL sz cs w base ty v l) (h : Chg F w w') (hf : ∀ k, v.ownBlock = some k → ¬ F k) : OwnL sz cs w' base ty v l :=
  ⟨o.1, o.2.imp id fun ⟨g, cap, cur, e, hg, hh, r⟩ => ⟨g, cap, cur, e, hg, h.at hh (hf g (by rw [e]; rfl)), r⟩⟩
end
end Go.Proofs.Ytoikgkjkcampkaa
