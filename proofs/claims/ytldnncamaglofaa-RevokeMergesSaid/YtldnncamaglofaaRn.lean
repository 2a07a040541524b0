/-
  slices.SortFunc of revoked serials: the same ones, sorted.
-/
import Derived.Test.YtldnncamaglofaaRm
namespace Go.Proofs.Ytldnncamaglofaa
open Go.RowKit Go.Shelf Go.Lib Go.Sort

theorem swoR : SWO (ltOf cfR) where
  irrefl x := by unfold ltOf; rw [decide_eq_false]; rw [cfR_lt]; unfold ltR; omega
  trans x y z h1 h2 := by
    unfold ltOf at *
    rw [decide_eq_true_iff, cfR_lt] at *
    unfold ltR at *
    omega
  ntrans x y z h1 h2 := by
    unfold ltOf at *
    rw [decide_eq_false_iff_not, cfR_lt] at *
    unfold ltR at *
    omega
theorem flat_rv (d : Array Rv) : (flatK rvC 2 d).toList = d.toList.flatMap rvC := by
  apply List.ext_getElem?
  intro t
  by_cases h : t < d.size * 2
  · have hq : t / 2 < d.toList.length := by rw [Array.length_toList]; omega
    have hj : t % 2 < (rvC d.toList[t / 2]).length := by rw [rvC_length]; omega
    have h1 := flat_at (sz := 2) (cs := rvC) (l := d.toList) (fun x => rvC_length x) (List.getElem?_eq_getElem hq) (List.getElem?_eq_getElem hj)
    rw [show t / 2 * 2 + t % 2 = t by omega] at h1
    rw [h1]
    have h2 := get_flatK rvC 2 d t h
    have h3 : t < (flatK rvC 2 d).size := by rw [size_flatK]; exact h
    rw [getElem!_pos _ t h3] at h2
    rw [Array.getElem?_toList, Array.getElem?_eq_getElem h3, h2]
    have hq' : t / 2 < d.size := by omega
    rw [getElem!_pos d (t / 2) hq']
    have e : d.toList[t / 2] = d[t / 2] := by simp
    rw [e] at hj ⊢
    rw [getElem!_pos _ (t % 2) hj]
  · rw [List.getElem?_eq_none (by rw [Array.length_toList, size_flatK]; omega), List.getElem?_eq_none (by rw [flat_len (fun x => rvC_length x), Array.length_toList]; omega)]
theorem putCells_take (F cur : Array Value) (h : F.size ≤ cur.size) : (putCells id 0 F cur).toList.take F.size = F.toList := by
  apply List.ext_getElem?
  intro t
  by_cases ht : t < F.size
  · rw [List.getElem?_take_of_lt ht, Array.getElem?_toList, Array.getElem?_toList]
    unfold putCells
    rw [Array.getElem?_mapIdx, Array.getElem?_eq_getElem (show t < cur.size by omega), Array.getElem?_eq_getElem ht, Option.map_some, if_pos ⟨by omega, by omega⟩]
    simp only [id, Nat.sub_zero]
    rw [getElem!_pos F t ht]
  · rw [List.getElem?_eq_none (by rw [List.length_take]; omega), List.getElem?_eq_none (by rw [Array.length_toList]; omega)]
theorem perm_list {d d' : Array Rv} (h : PermIn 0 d.size d d') : d'.toList.Perm d.toList := by
  obtain ⟨hs, _, hp⟩ := h
  have e1 : d.extract 0 d.size = d := by simp
  have e2 : d'.extract 0 d.size = d' := by rw [← hs]; simp
  rwa [e1, e2] at hp
theorem srt_list {d : Array Rv} (h : SortedIn (ltOf cfR) 0 d.size d) : Srt d.toList := by
  unfold Srt
  rw [List.pairwise_iff_getElem]
  intro i j hi hj hij
  have h1 := h i j (Nat.zero_le _) hij (by simpa using hj)
  unfold ltOf at h1
  rw [decide_eq_false_iff_not, cfR_lt, getElem!_pos d j (by simpa using hj), getElem!_pos d i (by simpa using hi)] at h1
  simpa using h1
theorem sortWorld_own {w : World} {base g cap n m : Nat} {cur : Array Value} {d : Array Rv} {os : Array Obj} (hb : base ≤ g) (hh : w.heap[g]? = some (.cells cur 43 (0, 0))) (hn : n ≤ cap) (hm : cap ≤ maxLen) (hs : cur.size = cap * 2) (hd : d.size = n) :
    OwnL 2 rvC (sortWorldK rvC 2 w g 0 m d os) base 43 (.slice (some ⟨g, 0, none⟩) n cap) d.toList ∧ w.grownBy (sortWorldK rvC 2 w g 0 m d os) (some g) := by
  have hg : g < w.heap.size := (Array.getElem?_eq_some_iff.1 hh).1
  have hsz : (putRowK rvC 2 (Sort.ahead w m) g 0 d).heap.size = w.heap.size := by rw [size_putRowK]; rfl
  have hold : ∀ k, k < w.heap.size → (sortWorldK rvC 2 w g 0 m d os).heap[k]? = (putRowK rvC 2 (Sort.ahead w m) g 0 d).heap[k]? := fun k hk => by
    show ((putRowK rvC 2 (Sort.ahead w m) g 0 d).heap ++ os)[k]? = _
    rw [Array.getElem?_append_left (by rw [hsz]; exact hk)]
  have hput : ∀ k, (putRowK rvC 2 (Sort.ahead w m) g 0 d).heap[k]? = if g = k then (w.heap[k]?).map (onCells (putCells id 0 (flatK rvC 2 d))) else w.heap[k]? := fun k => by
    show ((Sort.ahead w m).heap.modify g _)[k]? = _
    rw [Array.getElem?_modify]
    rfl
  have hl : d.toList.length = n := by rw [Array.length_toList]; exact hd
  refine ⟨⟨?_, .inr ⟨g, cap, putCells id 0 (flatK rvC 2 d) cur, by rw [hl], hb, ?_, by rw [hl]; exact hn, hm, ?_, ?_⟩⟩, rfl, rfl, rfl, ?_, ?_⟩
  · rw [flat_len (fun x => rvC_length x)]
  · rw [hold g hg, hput, if_pos rfl, hh]
    rfl
  · rw [← hs]; simp [putCells]
  · have h2 := putCells_take (flatK rvC 2 d) cur (by rw [size_flatK, hs, hd]; omega)
    rw [size_flatK, hd, flat_rv] at h2
    rw [hl]
    exact h2
  · exact size_sortWorldK_c rvC 2 w g 0 m d os
  · intro k hk hne
    rw [hold k hk, hput, if_neg fun e => hne (by rw [e])]

section
variable (p : Option Addr) (cap : Nat) (fv : Value) (w : World)
set_option maxRecDepth 100000 in
set_option maxHeartbeats 2000000 in
theorem ins_none : Calls Try.prog 48 #[.slice p 0 cap, .int .i64 0, .int .i64 0, fv] w fun e w' => e = .returned (.tuple #[]) ∧ w' = w := by
  go_enter Try.func48, Try.ntmps48
  go_wp2
  refine wp_loop_rounds 1 ?_
  rw [rounds_succ]
  go_wp2
  go_end0
  exact ⟨rfl, rfl⟩
set_option maxRecDepth 100000 in
set_option maxHeartbeats 2000000 in
theorem pdq_none (lim : Int) : Calls Try.prog 43 #[.slice p 0 cap, .int .i64 0, .int .i64 0, .int .i64 lim, fv] w fun e w' => e = .returned (.tuple #[]) ∧ w' = w := by
  have K := fun W => ins_none p cap fv W
  go_enter Try.func43, Try.ntmps43
  go_wp2
  refine wp_loop_rounds 1 ?_
  rw [rounds_succ]
  go_wp2_with (go_at_call 48; refine (K _).mono ?_; rintro e w' ⟨rfl, rfl⟩)
  (try simp only [Exit.inBlock, Exit.then]); refine bodyPost_ret (results_none rfl _ _ _) rfl ?_
  exact ⟨rfl, rfl⟩
set_option maxRecDepth 100000 in
set_option maxHeartbeats 2000000 in
theorem sort_none : Calls Try.prog 30 #[.slice p 0 cap, fv] w fun e w' => e = .returned (.tuple #[]) ∧ w' = w := by
  have K := fun lim W => pdq_none p cap fv W lim
  have KL : ∀ W, Calls Try.prog 44 #[.int .u64 0] W fun e w' => e = .returned (.int .i64 (Lib.bitLen 0 : Nat)) ∧ w' = W := fun W =>
    Any.bits_Len (SlLaysF0.n15.bits (P := Try.prog) (ρ := sortR_ren) { sortR with }) 0 W (by omega) (by omega)
  go_enter Try.func30, Try.ntmps30
  go_wp2_with (first
    | (go_at_call 44; refine (KL _).mono ?_; rintro e w' ⟨rfl, rfl⟩)
    | (go_at_call 43; refine (K _ _).mono ?_; rintro e w' ⟨rfl, rfl⟩))
  go_end0
  exact ⟨rfl, rfl⟩
end

theorem sortRv_calls (v : Value) (l : List Rv) (base : Nat) (w : World) (hO : OwnL 2 rvC w base 43 v l) (hl : l.length ≤ 1000000) :
    Calls Try.prog 30 #[v, .func (.func 31) #[] #[]] w fun e w' => e = .returned (.tuple #[]) ∧ ∃ d : List Rv, Srt d ∧ d.Perm l ∧ OwnL 2 rvC w' base 43 v d ∧ w.grownBy w' v.ownBlock := by
  obtain ⟨hlen, hO⟩ := hO
  rcases hO with ⟨rfl, h0⟩ | ⟨g, cap, cur, rfl, hb, hh, hn, hm, hs, ht⟩
  · obtain rfl : l = [] := List.length_eq_zero_iff.1 h0
    refine (sort_none none 0 _ w).mono ?_
    rintro e w' ⟨rfl, rfl⟩
    exact ⟨rfl, [], List.Pairwise.nil, List.Perm.refl _, OwnL.nil _ _ _, World.grownBy.refl _ _⟩
  · have eg : ∀ args w, (callFunc 31 args).run Try.prog w = .ok (.enter 31 args) w := enters_of Try.func31 (by kernel_rfl) rfl
    have hH : HoldsK rvC 2 w g 0 l.toArray := by
      intro j hj
      rw [size_flatK, List.size_toArray] at hj
      have hf := flat_rv l.toArray
      have e : (flatK rvC 2 l.toArray)[j]? = cur[j]? := by
        rw [← Array.getElem?_toList, hf, ← Array.getElem?_toList]
        show (l.flatMap rvC)[j]? = _
        rw [← ht, List.getElem?_take_of_lt hj]
      have h3 : j < (flatK rvC 2 l.toArray).size := by rw [size_flatK, List.size_toArray]; exact hj
      refine ⟨?_, ?_⟩
      · rw [Nat.zero_add, cell_of_row w g j _ _ _ hh, ← e, Array.getElem?_eq_getElem h3, getElem!_pos _ j h3]
        rfl
      · simp [World.frozen?, hh]
    have hcon := AnyQ.slices_SortFunc (P := Try.prog) (ρ := sortR_ren) sortR 2 Try.isAgg43 Try.sizeOf43 rvC rvC_length rvC_one cfR swoR 31 #[] g 0 cap l.toArray w eg (fun _ _ _ _ x y => inOrder_calls x y _) hH (Array.getElem?_eq_some_iff.1 hh).1 (by rw [List.size_toArray]; omega)
    rw [List.size_toArray] at hcon
    refine Calls.mono hcon ?_
    rintro e w' ⟨rfl, d', n, os, hp, hsd, rfl⟩
    have hds : d'.size = l.length := by rw [hp.1, List.size_toArray]
    obtain ⟨h1, h2⟩ := sortWorld_own (m := n) (os := os) hb hh hn hm hs hds
    exact ⟨rfl, d'.toList, srt_list (by rw [hds]; exact hsd), by simpa using perm_list (d := l.toArray) (by rw [List.size_toArray]; exact hp), h1, h2⟩
end Go.Proofs.Ytldnncamaglofaa
