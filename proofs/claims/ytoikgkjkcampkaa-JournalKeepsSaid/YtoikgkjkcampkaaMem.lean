/-
  Small facts on worlds: a block known whole, behind new blocks, stores elsewhere, draws, and what leaves everything old alone.
-/
import Derived.WalkKit
import Derived.Deep.OwnRows
import Derived.Deep.Draws
import Derived.Laws.Rows
import Derived.Test.YtoikgkjkcampkaaMath
import Derived.Deep.QuietTactic
namespace Go.Proofs.Ytoikgkjkcampkaa
open Go.RowKit

/-- Kept from the walk. -/
theorem veil {p : Prop} (h : p) : Hid p := h

section
variable {w w' : World} {b b' t n i B : Nat} {f g : Nat → Value} {cs : Array Value}

theorem row_new (hb : b = w.heap.size) (hn : cs.size = n) (h : ∀ i, i < n → cs[i]? = some (f i)) : (w.alloc (.cells cs t)).rowIs b t n f := by
  subst hb; subst hn
  exact World.rowIs_alloc w cs t f h
theorem row_far (h : w.rowIs b t n f) (hne : b ≠ b') (v : Value) : (w.setCell ⟨b', i, none⟩ v).rowIs b t n f := h.setOther hne v
theorem row_below (h : w.rowIs b t n f) (hb : Below B w w') (hlt : b < B) : w'.rowIs b t n f := h.of_block (hb.block b hlt)
theorem row_drewN (h : w.rowIs b t n f) (k : Nat) : (w.drewN k).rowIs b t n f := h
theorem below_set {a : World} (h : Below B a w) (hb : B ≤ b) (v : Value) : Below B a (w.setCell ⟨b, i, none⟩ v) := h.setCell hb v
theorem below_drewN {a : World} (h : Below B a w) (k : Nat) : Below B a (w.drewN k) := ⟨h.os, h.tape, h.output, h.size, h.block⟩

theorem arr4 (f : Nat → Value) : ∀ i, i < 4 → (#[f 0, f 1, f 2, f 3] : Array Value)[i]? = some (f i)
  | 0, _ => rfl
  | 1, _ => rfl
  | 2, _ => rfl
  | 3, _ => rfl
  | n + 4, h => by omega
theorem arr8 (f : Nat → Value) : ∀ i, i < 8 → (#[f 0, f 1, f 2, f 3, f 4, f 5, f 6, f 7] : Array Value)[i]? = some (f i)
  | 0, _ => rfl
  | 1, _ => rfl
  | 2, _ => rfl
  | 3, _ => rfl
  | 4, _ => rfl
  | 5, _ => rfl
  | 6, _ => rfl
  | 7, _ => rfl
  | n + 8, h => by omega

theorem row_c4 (h : w.rowIs b t 4 f) : w.cell? ⟨b, 0, none⟩ = some (f 0) ∧ w.cell? ⟨b, 1, none⟩ = some (f 1) ∧ w.cell? ⟨b, 2, none⟩ = some (f 2) ∧ w.cell? ⟨b, 3, none⟩ = some (f 3) :=
  ⟨h.cell (by omega), h.cell (by omega), h.cell (by omega), h.cell (by omega)⟩
theorem row_c8 (h : w.rowIs b t 8 f) : w.cell? ⟨b, 0, none⟩ = some (f 0) ∧ w.cell? ⟨b, 1, none⟩ = some (f 1) ∧ w.cell? ⟨b, 2, none⟩ = some (f 2) ∧ w.cell? ⟨b, 3, none⟩ = some (f 3) ∧
    w.cell? ⟨b, 4, none⟩ = some (f 4) ∧ w.cell? ⟨b, 5, none⟩ = some (f 5) ∧ w.cell? ⟨b, 6, none⟩ = some (f 6) ∧ w.cell? ⟨b, 7, none⟩ = some (f 7) :=
  ⟨h.cell (by omega), h.cell (by omega), h.cell (by omega), h.cell (by omega), h.cell (by omega), h.cell (by omega), h.cell (by omega), h.cell (by omega)⟩
theorem row_f4 (h : w.rowIs b t n f) : w.frozen? ⟨b, 0, none⟩ = false ∧ w.frozen? ⟨b, 1, none⟩ = false ∧ w.frozen? ⟨b, 2, none⟩ = false ∧ w.frozen? ⟨b, 3, none⟩ = false :=
  ⟨h.frozen _, h.frozen _, h.frozen _, h.frozen _⟩
theorem row_f8 (h : w.rowIs b t n f) : w.frozen? ⟨b, 0, none⟩ = false ∧ w.frozen? ⟨b, 1, none⟩ = false ∧ w.frozen? ⟨b, 2, none⟩ = false ∧ w.frozen? ⟨b, 3, none⟩ = false ∧
    w.frozen? ⟨b, 4, none⟩ = false ∧ w.frozen? ⟨b, 5, none⟩ = false ∧ w.frozen? ⟨b, 6, none⟩ = false ∧ w.frozen? ⟨b, 7, none⟩ = false :=
  ⟨h.frozen _, h.frozen _, h.frozen _, h.frozen _, h.frozen _, h.frozen _, h.frozen _, h.frozen _⟩
theorem arr_eq {c : Array Value} : ∀ {l : List Value}, c.size = l.length → (∀ i, i < l.length → c[i]? = l[i]?) → c = l.toArray := by
  intro l hs h
  apply Array.ext_getElem?
  intro i
  by_cases hi : i < l.length
  · rw [h i hi]; simp
  · rw [Array.getElem?_eq_none (by omega), Array.getElem?_eq_none (by simp; omega)]

theorem blk4 (h : w.rowIs b t 4 f) : w.heap[b]? = some (.cells #[f 0, f 1, f 2, f 3] t (0, 0)) := by
  obtain ⟨c, hb, hn, hc⟩ := h
  rw [hb, arr_eq (c := c) (l := [f 0, f 1, f 2, f 3]) (by simpa using hn) (fun i hi => by
    have hi4 : i < 4 := by simpa using hi
    rw [hc i hi4]
    exact (by simpa using arr4 f i hi4 : [f 0, f 1, f 2, f 3][i]? = some (f i)).symm)]
theorem blk8 (h : w.rowIs b t 8 f) : w.heap[b]? = some (.cells #[f 0, f 1, f 2, f 3, f 4, f 5, f 6, f 7] t (0, 0)) := by
  obtain ⟨c, hb, hn, hc⟩ := h
  rw [hb, arr_eq (c := c) (l := [f 0, f 1, f 2, f 3, f 4, f 5, f 6, f 7]) (by simpa using hn) (fun i hi => by
    have hi8 : i < 8 := by simpa using hi
    rw [hc i hi8]
    exact (by simpa using arr8 f i hi8 : [f 0, f 1, f 2, f 3, f 4, f 5, f 6, f 7][i]? = some (f i)).symm)]

/-- Four stores fill a block of four. -/
theorem put4 (h : w.rowIs b t 4 f) (g : Nat → Value) : ((((w.setCell ⟨b, 0, none⟩ (g 0)).setCell ⟨b, 1, none⟩ (g 1)).setCell ⟨b, 2, none⟩ (g 2)).setCell ⟨b, 3, none⟩ (g 3)).rowIs b t 4 g :=
  ((((h.set 0 (g 0)).set 1 (g 1)).set 2 (g 2)).set 3 (g 3)).congr fun i hi => by
    have : i = 0 ∨ i = 1 ∨ i = 2 ∨ i = 3 := by omega
    rcases this with rfl | rfl | rfl | rfl <;> rfl
/-- Eight stores fill a block of eight. -/
theorem put8 (h : w.rowIs b t 8 f) (g : Nat → Value) : ((((((((w.setCell ⟨b, 0, none⟩ (g 0)).setCell ⟨b, 1, none⟩ (g 1)).setCell ⟨b, 2, none⟩ (g 2)).setCell ⟨b, 3, none⟩ (g 3)).setCell ⟨b, 4, none⟩ (g 4)).setCell ⟨b, 5, none⟩ (g 5)).setCell ⟨b, 6, none⟩ (g 6)).setCell ⟨b, 7, none⟩ (g 7)).rowIs b t 8 g :=
  ((((((((h.set 0 (g 0)).set 1 (g 1)).set 2 (g 2)).set 3 (g 3)).set 4 (g 4)).set 5 (g 5)).set 6 (g 6)).set 7 (g 7)).congr fun i hi => by
    have : i = 0 ∨ i = 1 ∨ i = 2 ∨ i = 3 ∨ i = 4 ∨ i = 5 ∨ i = 6 ∨ i = 7 := by omega
    rcases this with rfl | rfl | rfl | rfl | rfl | rfl | rfl | rfl <;> rfl
theorem row_far4 (h : w.rowIs b t n f) (hne : b ≠ b') (v0 v1 v2 v3 : Value) : ((((w.setCell ⟨b', 0, none⟩ v0).setCell ⟨b', 1, none⟩ v1).setCell ⟨b', 2, none⟩ v2).setCell ⟨b', 3, none⟩ v3).rowIs b t n f :=
  row_far (row_far (row_far (row_far h hne _) hne _) hne _) hne _
theorem below_put4 {a : World} (h : Below B a w) (hb : B ≤ b) (v0 v1 v2 v3 : Value) : Below B a ((((w.setCell ⟨b, 0, none⟩ v0).setCell ⟨b, 1, none⟩ v1).setCell ⟨b, 2, none⟩ v2).setCell ⟨b, 3, none⟩ v3) :=
  below_set (below_set (below_set (below_set h hb _) hb _) hb _) hb _
theorem below_put8 {a : World} (h : Below B a w) (hb : B ≤ b) (v0 v1 v2 v3 v4 v5 v6 v7 : Value) :
    Below B a ((((((((w.setCell ⟨b, 0, none⟩ v0).setCell ⟨b, 1, none⟩ v1).setCell ⟨b, 2, none⟩ v2).setCell ⟨b, 3, none⟩ v3).setCell ⟨b, 4, none⟩ v4).setCell ⟨b, 5, none⟩ v5).setCell ⟨b, 6, none⟩ v6).setCell ⟨b, 7, none⟩ v7) :=
  below_set (below_set (below_set (below_set (below_set (below_set (below_set (below_set h hb _) hb _) hb _) hb _) hb _) hb _) hb _) hb _
end

theorem row_step {X : Nat} {k : Nat} (hk : k < 4) : ∀ i, i < 4 → (if i = k then Value.int .u64 (wd X k) else Value.int .u64 (if i < k then wd X i else 0)) = Value.int .u64 (if i < k + 1 then wd X i else 0) := by
  intro i _
  by_cases h : i = k
  · subst h; simp
  · rw [if_neg h]; by_cases h2 : i < k
    · rw [if_pos h2, if_pos (by omega)]
    · rw [if_neg h2, if_neg (by omega)]

/-- Block g begins with n cells of type t, cell i holding 'f i'; none of it frozen. -/
def Pre (w : World) (g t n : Nat) (f : Nat → Value) : Prop := ∃ c : Array Value, w.heap[g]? = some (.cells c t (0, 0)) ∧ ∀ i, i < n → c[i]? = some (f i)
section
variable {w w' : World} {g t n B : Nat} {f h : Nat → Value}
theorem Pre.cell (p : Pre w g t n f) {i : Nat} (hi : i < n) : w.cell? ⟨g, i, none⟩ = some (f i) := by
  obtain ⟨c, hb, hc⟩ := p
  simp [World.cell?, hb, hc i hi]
theorem Pre.frozen (p : Pre w g t n f) (i : Nat) : w.frozen? ⟨g, i, none⟩ = false := by
  obtain ⟨c, hb, _⟩ := p
  simp [World.frozen?, hb]
theorem Pre.lt (p : Pre w g t n f) : g < w.heap.size := by
  obtain ⟨c, hb, _⟩ := p
  obtain ⟨hlt, _⟩ := Array.getElem?_eq_some_iff.1 hb
  exact hlt
theorem Pre.congr (p : Pre w g t n f) (e : ∀ i, i < n → f i = h i) : Pre w g t n h := by
  obtain ⟨c, hb, hc⟩ := p
  exact ⟨c, hb, fun i hi => by rw [hc i hi, e i hi]⟩
theorem Pre.of_block (p : Pre w g t n f) (e : w'.heap[g]? = w.heap[g]?) : Pre w' g t n f := by
  obtain ⟨c, hb, hc⟩ := p
  exact ⟨c, e.trans hb, hc⟩
theorem Pre.set (p : Pre w g t n f) (i : Nat) (v : Value) : Pre (w.setCell ⟨g, i, none⟩ v) g t n (fun j => if j = i then v else f j) := by
  obtain ⟨c, hb, hc⟩ := p
  refine ⟨c.setIfInBounds i v, ?_, fun j hj => ?_⟩
  · simp [World.setCell, Array.getElem?_modify, hb]
  · rw [Array.getElem?_setIfInBounds]
    have hlt : j < c.size := (Array.getElem?_eq_some_iff.1 (hc j hj)).1
    by_cases e : j = i
    · subst e; simp [hlt]
    · rw [if_neg (fun h => e h.symm)]
      show c[j]? = some (if j = i then v else f j)
      rw [if_neg e, hc j hj]
theorem Pre.far {b i : Nat} (p : Pre w g t n f) (hne : g ≠ b) (v : Value) : Pre (w.setCell ⟨b, i, none⟩ v) g t n f := p.of_block (Below.heap_setCell _ _ _ _ hne)
theorem Pre.alloc (p : Pre w g t n f) (o : Obj) : Pre (w.alloc o) g t n f := p.of_block (Below.heap_alloc _ _ _ p.lt)
theorem Pre.drew (p : Pre w g t n f) : Pre w.drew g t n f := p
theorem Pre.drewN (p : Pre w g t n f) (k : Nat) : Pre (w.drewN k) g t n f := p
theorem Pre.below (p : Pre w g t n f) (hb : Below B w w') (hlt : g < B) : Pre w' g t n f := p.of_block (hb.block g hlt)
theorem Pre.less (p : Pre w g t n f) {m : Nat} (hm : m ≤ n) : Pre w g t m f := by
  obtain ⟨c, hb, hc⟩ := p
  exact ⟨c, hb, fun i hi => hc i (by omega)⟩
theorem Pre.of_row (r : w.rowIs g t n f) : Pre w g t n f := by
  obtain ⟨c, hb, _, hc⟩ := r
  exact ⟨c, hb, hc⟩
/-- What a slice of the call's own owns. -/
theorem Pre.of_own {base m : Nat} {v : Value} (hown : w.ownsRow base t 1 v m ((List.range m).map f)) (hm : 0 < m) :
    ∃ g cap, v = .slice (some ⟨g, 0, none⟩) m cap ∧ m ≤ cap ∧ base ≤ g ∧ Pre w g t m f := by
  obtain ⟨_, ⟨_, h0⟩ | ⟨g, cap, cur, rfl, hbg, hh, hnc, _, _, ht⟩⟩ := hown
  · omega
  · refine ⟨g, cap, rfl, hnc, hbg, cur, hh, fun i hi => ?_⟩
    have e : cur.toList[i]? = (cur.toList.take (m * 1))[i]? := by rw [List.getElem?_take_of_lt (by omega)]
    have : cur[i]? = cur.toList[i]? := by simp
    rw [this, e, ht]
    simp [hi]
theorem row_grown {b : Nat} {row : Option Nat} (r : w.rowIs b t n f) (hg : w.grownBy w' row) (hne : some b ≠ row) : w'.rowIs b t n f := r.of_block (hg.block b r.lt hne)
end

/-- A call that leaves its world alone, in a region that only reads and stands behind such a one. -/
theorem quiet_more {P : Program} {fid : FuncId} {args : Array Value} {w : World} {a n : Nat} {v : Value} (h : Calls P fid args (w.drewN (a + n)) fun e w' => e = .returned v ∧ w' = w.drewN (a + n)) :
    Calls P fid args (w.drewN (a + n)) fun e w' => e = .returned v ∧ ∃ m, w' = w.drewN (a + m) :=
  h.mono fun _ _ ⟨he, hm⟩ => ⟨he, n, hm⟩

/-- All that was there at wz reads as it did: kept by a call that leaves what is old alone. -/
theorem keep_old {wz W w' : World} (hb : Below W.heap.size W w') (h : (∀ b o, b < wz.heap.size → W.cell? ⟨b, o, none⟩ = wz.cell? ⟨b, o, none⟩) ∧ Below wz.heap.size wz W) :
    (∀ b o, b < wz.heap.size → w'.cell? ⟨b, o, none⟩ = wz.cell? ⟨b, o, none⟩) ∧ Below wz.heap.size wz w' :=
  ⟨fun b o hlt => (hb.cell (p := ⟨b, o, none⟩) (Nat.lt_of_lt_of_le hlt h.2.size)).trans (h.1 b o hlt), h.2.trans (hb.mono h.2.size)⟩
theorem keep_drew (wz : World) : (∀ b o, b < wz.heap.size → wz.drew.cell? ⟨b, o, none⟩ = wz.cell? ⟨b, o, none⟩) ∧ Below wz.heap.size wz wz.drew :=
  ⟨fun _ _ _ => rfl, (Below.refl _ _).drew⟩

/-- Two results, the first an array that lies in a block. -/
theorem results_cell_tmp2 {P : Program} {fn : Func} {p s : Tmp} {ty : TypeId} (h : fn.results = #[.cell p ty, .tmp s]) (tmps : Array Value) (w : World) (g : Nat) (t : TypeId) (cs : Array Value) (fr : Nat × Nat) (n : Nat) (e : TypeId)
    (hp : tmps.getD p undef = .pointer (some ⟨g, 0, none⟩)) (hg : w.heap[g]? = some (.cells cs t fr)) (hu : P.underlying ty = some (.array n e)) (hi : (P.info? ty).map (·.size) = some cs.size) :
    (results fn tmps).run P w = .ok (.tuple #[.agg cs, tmps.getD s undef]) w := by
  have hp' : tmps[p]?.getD undef = .pointer (some ⟨g, 0, none⟩) := by simpa using hp
  simp [results, h, hp', asAddr, run_loadVar_row w g t ty cs fr _ hg hu rfl hi]
end Go.Proofs.Ytoikgkjkcampkaa
