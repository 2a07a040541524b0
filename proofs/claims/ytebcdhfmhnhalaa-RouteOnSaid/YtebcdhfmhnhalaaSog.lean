/-
  slices.SortFunc's world over a slice of the walk's own, for structs of any make: what it leaves. Any program.
-/
import Derived.Test.YtebcdhfmhnhalaaLs
import Derived.Shelf.SlSortCmp.NoneTotal
namespace Go.Proofs.Ytebcdhfmhnhalaa
open Go.RowKit Go.Shelf Go.Lib Go.Sort

/-- Draws and new blocks alone. -/
def GrnS (w w' : World) : Prop := ∃ q os', w' = grow (w.drewN q) os'
theorem GrnS.refl (w : World) : GrnS w w := ⟨0, #[], by rw [grow_empty]; rfl⟩
theorem GrnS.drew {w w' : World} (h : GrnS w w') : GrnS w w'.drew := by
  obtain ⟨q, os, rfl⟩ := h
  exact ⟨q + 1, os, rfl⟩
theorem GrnS.alloc {w w' : World} (h : GrnS w w') (o : Obj) : GrnS w (w'.alloc o) := by
  obtain ⟨q, os, rfl⟩ := h
  exact ⟨q, os ++ #[o], by rw [alloc_eq_grow, grow_grow]⟩
def ciS (a b : Int) : Int := if a < b then -1 else if b < a then 1 else 0
theorem ciS_lt (a b : Int) : ciS a b < 0 ↔ a < b := by
  unfold ciS
  by_cases h1 : a < b
  · rw [if_pos h1]; omega
  · rw [if_neg h1]
    by_cases h2 : b < a
    · rw [if_pos h2]; omega
    · rw [if_neg h2]; omega
section
variable {α : Type} [Inhabited α] {sz : Nat} {cs : α → List Value}
theorem flat_arr (h0 : 0 < sz) (hcs : ∀ x, (cs x).length = sz) (d : Array α) : (flatK cs sz d).toList = d.toList.flatMap cs := by
  apply List.ext_getElem?
  intro t
  by_cases h : t < d.size * sz
  · have hq : t / sz < d.size := (Nat.div_lt_iff_lt_mul h0).2 h
    have hy : d.toList[t / sz]? = some (d[t / sz]!) := by rw [Array.getElem?_toList, Array.getElem?_eq_getElem hq, getElem!_pos d (t / sz) hq]
    generalize d[t / sz]! = y at hy ⊢
    have h2 := get_flatK cs sz d t h
    have ey : d[t / sz]! = y := by
      rw [Array.getElem?_toList, Array.getElem?_eq_getElem hq] at hy
      rw [getElem!_pos d (t / sz) hq]
      exact Option.some.inj hy
    rw [ey] at h2
    have hj : t % sz < (cs y).length := by rw [hcs]; exact Nat.mod_lt _ h0
    have h1 := flat_at (sz := sz) (cs := cs) (l := d.toList) hcs hy (List.getElem?_eq_getElem hj)
    rw [show t / sz * sz + t % sz = t by rw [Nat.mul_comm]; exact Nat.div_add_mod t sz] at h1
    rw [h1]
    have h3 : t < (flatK cs sz d).size := by rw [size_flatK]; exact h
    rw [getElem!_pos _ t h3] at h2
    rw [Array.getElem?_toList, Array.getElem?_eq_getElem h3, h2, getElem!_pos _ (t % sz) hj]
  · rw [List.getElem?_eq_none (by rw [Array.length_toList, size_flatK]; omega), List.getElem?_eq_none (by rw [flat_len hcs, Array.length_toList]; omega)]
theorem putS_take (F cur : Array Value) (h : F.size ≤ cur.size) : (putCells id 0 F cur).toList.take F.size = F.toList := by
  apply List.ext_getElem?
  intro t
  by_cases ht : t < F.size
  · rw [List.getElem?_take_of_lt ht, Array.getElem?_toList, Array.getElem?_toList]
    unfold putCells
    rw [Array.getElem?_mapIdx, Array.getElem?_eq_getElem (show t < cur.size by omega), Array.getElem?_eq_getElem ht, Option.map_some, if_pos ⟨by omega, by omega⟩]
    simp only [id, Nat.sub_zero]
    rw [getElem!_pos F t ht]
  · rw [List.getElem?_eq_none (by rw [List.length_take]; omega), List.getElem?_eq_none (by rw [Array.length_toList]; omega)]
theorem permS_list {d d' : Array α} (h : PermIn 0 d.size d d') : d'.toList.Perm d.toList := by
  obtain ⟨hs, _, hp⟩ := h
  have e1 : d.extract 0 d.size = d := by simp
  have e2 : d'.extract 0 d.size = d' := by rw [← hs]; simp
  rwa [e1, e2] at hp
theorem srtS_list {cf : α → α → Int} {d : Array α} (h : SortedIn (ltOf cf) 0 d.size d) : d.toList.Pairwise fun x y => ¬ cf y x < 0 := by
  rw [List.pairwise_iff_getElem]
  intro i j hi hj hij
  have h1 := h i j (Nat.zero_le _) hij (by simpa using hj)
  unfold ltOf at h1
  rw [decide_eq_false_iff_not, getElem!_pos d j (by simpa using hj), getElem!_pos d i (by simpa using hi)] at h1
  simpa using h1
theorem sortS_own (h0 : 0 < sz) (hcs : ∀ x, (cs x).length = sz) {w : World} {base ty g cap n m : Nat} {cur : Array Value} {d : Array α} {os : Array Obj} (hb : base ≤ g) (hh : w.heap[g]? = some (.cells cur ty (0, 0))) (hn : n ≤ cap) (hm : cap ≤ maxLen) (hs : cur.size = cap * sz) (hd : d.size = n) :
    OwnL sz cs (sortWorldK cs sz w g 0 m d os) base ty (.slice (some ⟨g, 0, none⟩) n cap) d.toList ∧ w.grownBy (sortWorldK cs sz w g 0 m d os) (some g) := by
  have hg : g < w.heap.size := (Array.getElem?_eq_some_iff.1 hh).1
  have hsz : (putRowK cs sz (Sort.ahead w m) g 0 d).heap.size = w.heap.size := by rw [size_putRowK]; rfl
  have hold : ∀ k, k < w.heap.size → (sortWorldK cs sz w g 0 m d os).heap[k]? = (putRowK cs sz (Sort.ahead w m) g 0 d).heap[k]? := fun k hk => by
    show ((putRowK cs sz (Sort.ahead w m) g 0 d).heap ++ os)[k]? = _
    rw [Array.getElem?_append_left (by rw [hsz]; exact hk)]
  have hput : ∀ k, (putRowK cs sz (Sort.ahead w m) g 0 d).heap[k]? = if g = k then (w.heap[k]?).map (onCells (putCells id 0 (flatK cs sz d))) else w.heap[k]? := fun k => by
    show ((Sort.ahead w m).heap.modify g _)[k]? = _
    rw [Array.getElem?_modify]
    rfl
  have hl : d.toList.length = n := by rw [Array.length_toList]; exact hd
  refine ⟨⟨?_, .inr ⟨g, cap, putCells id 0 (flatK cs sz d) cur, by rw [hl], hb, ?_, by rw [hl]; exact hn, hm, ?_, ?_⟩⟩, rfl, rfl, rfl, ?_, ?_⟩
  · rw [flat_len hcs]
  · rw [hold g hg, hput, if_pos rfl, hh]
    rfl
  · rw [← hs]; simp [putCells]
  · have h2 := putS_take (flatK cs sz d) cur (by rw [size_flatK, hs, hd]; exact Nat.mul_le_mul_right _ hn)
    rw [size_flatK, hd, flat_arr h0 hcs] at h2
    rw [hl]
    exact h2
  · exact size_sortWorldK_c cs sz w g 0 m d os
  · intro k hk hne
    rw [hold k hk, hput, if_neg fun e => hne (by rw [e])]
theorem holdsS (h0 : 0 < sz) (hcs : ∀ x, (cs x).length = sz) {w : World} {ty g cap : Nat} {cur : Array Value} {l : List α} (hh : w.heap[g]? = some (.cells cur ty (0, 0))) (hs : cur.size = cap * sz) (hn : l.length ≤ cap) (ht : cur.toList.take (l.length * sz) = l.flatMap cs) : HoldsK cs sz w g 0 l.toArray := by
  intro j hj
  rw [size_flatK, List.size_toArray] at hj
  have hf := flat_arr h0 hcs l.toArray
  have e : (flatK cs sz l.toArray)[j]? = cur[j]? := by
    rw [← Array.getElem?_toList, hf, ← Array.getElem?_toList]
    show (l.flatMap cs)[j]? = _
    rw [← ht, List.getElem?_take_of_lt hj]
  have h3 : j < (flatK cs sz l.toArray).size := by rw [size_flatK, List.size_toArray]; exact hj
  have := hs
  have := hn
  refine ⟨?_, ?_⟩
  · rw [Nat.zero_add, cell_of_row w g j _ _ _ hh, ← e, Array.getElem?_eq_getElem h3, getElem!_pos _ j h3]
    rfl
  · simp [World.frozen?, hh]
end
end Go.Proofs.Ytebcdhfmhnhalaa
