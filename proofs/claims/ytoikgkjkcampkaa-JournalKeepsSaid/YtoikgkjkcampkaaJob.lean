/-
  Slices of texts, slices of strings; clapperlaw16.same.
-/
import Derived.Test.YtoikgkjkcampkaaChg
namespace Go.Proofs.Ytoikgkjkcampkaa
open Go.RowKit

/-- A text as it lies in memory: its slice, its bytes. -/
abbrev Tv := Value × List Nat
def tvC (x : Tv) : List Value := [x.1]
/-- x's slice holds its bytes. -/
def TvAt (w : World) (x : Tv) : Prop := ∃ A c, x.1 = .slice A x.2.length c ∧ x.2.length ≤ c ∧ Bs w A x.2
theorem TvAt.ext {w w' : World} {x : Tv} (h : TvAt w x) (k : Ext w w') : TvAt w' x := by
  obtain ⟨A, c, e, hc, hb⟩ := h
  exact ⟨A, c, e, hc, hb.ext k⟩
/-- v is a slice of the texts l. -/
def Tx (w : World) (v : Value) (l : List Tv) : Prop := Ls 1 tvC w v l ∧ ∀ x ∈ l, TvAt w x
theorem Tx.ext {w w' : World} {v : Value} {l : List Tv} (h : Tx w v l) (k : Ext w w') : Tx w' v l := ⟨h.1.ext k, fun x hx => (h.2 x hx).ext k⟩
/-- The texts alone. -/
def txs (l : List Tv) : List (List Nat) := l.map (·.2)
theorem txs_len (l : List Tv) : (txs l).length = l.length := List.length_map ..
def noTv : Tv := (.slice none 0 0, [])
theorem tv_get {l : List Tv} {i : Nat} (h : i < l.length) : l[i]? = some (l.getD i noTv) := by rw [List.getD_eq_getElem?_getD, List.getElem?_eq_getElem h]; rfl
theorem tv_mem {l : List Tv} {i : Nat} (h : i < l.length) : l.getD i noTv ∈ l := List.mem_of_getElem? (tv_get h)
theorem txs_at (l : List Tv) (i : Nat) : (txs l).getD i [] = (l.getD i noTv).2 := by
  unfold txs
  rw [List.getD_eq_getElem?_getD, List.getD_eq_getElem?_getD, List.getElem?_map]
  cases l[i]? <;> rfl
/-- A string's cell. -/
def sC (s : List Nat) : List Value := [.string (strL s)]
/-- v is a slice of the strings l. -/
abbrev Ss (w : World) (v : Value) (l : List (List Nat)) : Prop := Ls 1 sC w v l
theorem t_get {l : List (List Nat)} {i : Nat} (h : i < l.length) : l[i]? = some (l.getD i []) := by rw [List.getD_eq_getElem?_getD, List.getElem?_eq_getElem h]; rfl
theorem t_mem {l : List (List Nat)} {i : Nat} (h : i < l.length) : l.getD i [] ∈ l := List.mem_of_getElem? (t_get h)
theorem txt_cell {w w' : World} {b o i : Nat} {l : List Tv} (hE : Ext w w') (hb : b < w.heap.size) (h : ∀ i x, l[i]? = some x → w.rangeAt b (o + i * 1) (tvC x)) (hi : i < l.length) : w'.cell? ⟨b, o + i, none⟩ = some (l.getD i noTv).1 := by
  have := range_ext hE hb (h i _ (tv_get hi)) 0 _ rfl
  simpa using this
theorem s_cell {w w' : World} {b o i : Nat} {l : List (List Nat)} (hE : Ext w w') (hb : b < w.heap.size) (h : ∀ i x, l[i]? = some x → w.rangeAt b (o + i * 1) (sC x)) (hi : i < l.length) : w'.cell? ⟨b, o + i, none⟩ = some (.string (strL (l.getD i []))) := by
  have := range_ext hE hb (h i _ (t_get hi)) 0 _ rfl
  simpa using this
theorem strL_tl {a b : List Nat} (h : (strL a).toList = (strL b).toList) : strL a = strL b := by
  rw [strL_toList, strL_toList] at h
  unfold strL
  rw [h]
theorem eq_lists {a b : List (List Nat)} (hl : a.length = b.length) (h : ∀ j, j < a.length → a.getD j [] = b.getD j []) : a = b := by
  apply List.ext_getElem?
  intro i
  by_cases hi : i < a.length
  · rw [t_get hi, t_get (by omega), h i hi]
  · rw [List.getElem?_eq_none (by omega), List.getElem?_eq_none (by omega)]

set_option maxRecDepth 100000 in
set_option maxHeartbeats 8000000 in
theorem same16_calls (F : FuncId) (hF0 : F = 9) (v u : Value) (l : List Tv) (s : List (List Nat)) (w : World) (hF : Tx w v l) (hU : Ss w u s) (hB : ∀ x ∈ s, Byt x) (hL : l.length ≤ 1000000000) :
    Calls Try.prog F #[v, u] w fun e w' => e = .returned (.bool (decide (txs l = s))) ∧ Ext w w' := by
  subst hF0
  obtain ⟨⟨AL, c, rfl, hc, hx⟩, hT⟩ := hF
  obtain ⟨AU, cu, rfl, hcu, hxu⟩ := hU
  obtain ⟨R, hR⟩ : ∃ R, R = decide (txs l = s) := ⟨_, rfl⟩
  rw [← hR]
  obtain ⟨n, hn⟩ : ∃ n, n = l.length := ⟨_, rfl⟩
  obtain ⟨m, hm⟩ : ∃ n, n = s.length := ⟨_, rfl⟩
  rw [← hn] at hx hc ⊢
  rw [← hm] at hxu hcu ⊢
  have HX := veil (And.intro hx (And.intro hT hxu))
  have HR := veil (And.intro hR (And.intro hn (And.intro hm (And.intro hB (hn.trans (txs_len l).symm)))))
  have hnL : n ≤ 1000000000 := by omega
  clear hR hx hxu hn hm hT hB hL
  go_enter Try.func9, Try.ntmps9
  by_cases g0 : n = m
  rotate_left
  · have f0 : ((n : Int) != (m : Int)) = true := by simp; omega
    obtain rfl : R = false := HR.out.1.trans (decide_eq_false fun h => g0 (by rw [HR.out.2.2.2.2, h, ← HR.out.2.2.1]))
    go_wp2
    go_ret
    exact ⟨rfl, Ext.refl _⟩
  subst g0
  have f0 : ((n : Int) != (n : Int)) = false := by simp
  go_wp2
  clear f0
  go_loopw [5] (fun v wr => ∃ i : Nat, i ≤ n ∧ v = .int .i64 (i : Int) ∧ (∀ j, j < i → (txs l).getD j [] = s.getD j []) ∧ Ext w wr)
    (fun v _ => n - (intOf v).toNat)
  case atStart => exact ⟨0, by omega, rfl, fun j hj => by omega, Ext.refl _⟩
  case round =>
    obtain ⟨i, hi, rfl, hall, hE⟩ := hrel
    by_cases hlt : i < n
    · have hd1 : decide ((i : Int) < (n : Int)) = true := by simp; omega
      have hii : (i : Int) < (n : Int) := by omega
      obtain ⟨b, o, hAL, hb, hcl⟩ := HX.out.1.resolve_left (by omega)
      obtain ⟨b2, o2, hAU, hb2, hcl2⟩ := HX.out.2.2.resolve_left (by omega)
      have hil : i < l.length := by have := HR.out.2.1; omega
      have his : i < s.length := by have := HR.out.2.2.1; omega
      have c0 := txt_cell hE hb hcl hil
      have c1 := s_cell hE hb2 hcl2 his
      obtain ⟨A, q, hxA, hq, hbs⟩ := HX.out.2.1 _ (tv_mem hil)
      have hti := txs_at l i
      obtain ⟨x, hxx⟩ : ∃ x, x = (l.getD i noTv).2 := ⟨_, rfl⟩
      obtain ⟨y, hyy⟩ : ∃ y, y = s.getD i [] := ⟨_, rfl⟩
      rw [hxA] at c0
      rw [← hxx] at c0 hbs hq hti
      rw [← hyy] at c1
      obtain ⟨k, hk⟩ : ∃ k, k = x.length := ⟨_, rfl⟩
      rw [← hk] at c0 hq
      obtain ⟨s0, hs0⟩ : ∃ t, t = strL x := ⟨_, rfl⟩
      obtain ⟨s1, hs1⟩ : ∃ t, t = strL y := ⟨_, rfl⟩
      rw [← hs1] at c1
      have HK := veil (And.intro hbs hk)
      have HS := veil (And.intro hs0 hs1)
      have HV := veil (And.intro hall (And.intro hti (And.intro hyy (And.intro (HR.out.2.2.2.1 _ (t_mem his)) his))))
      have HE := veil hE
      have HC := veil (And.intro c0 c1)
      subst hAL hAU
      clear hall hti hyy hxx hxA hbs hk hE hb hb2 hcl hcl2 hil his hs0 hs1 c0 c1
      go_upto_region 6 with (fail)
      by_cases g1 : x = y
      · have f1 : (s0.toList == s1.toList) = true := by rw [HS.out.1, HS.out.2, g1]; simp
        have f1' : s0.toList = s1.toList := by rw [HS.out.1, HS.out.2, g1]
        have G := veil g1
        clear g1
        refine wp_sched 10 [(true, List.range 10)] (by kernel_rfl) (by kernel_rfl) fun Q' hQ' => ?_
        refine' sched_row (A := _) _ rfl (by kernel_rfl) ?_ ?_
        rotate_left
        · intro D hD hN
          have e0 := hD.cell HC.out.1
          have e1 := hD.cell HC.out.2
          have k1 : ∀ v : Gw D, (convert 23 9 (.slice A k q)).run Try.prog v.val = .ok (.string s0) v.val := fun v => by rw [HS.out.1]; exact str_of (HK.out.1.ext (HE.out.trans (hD.grown _ v.property))) HK.out.2
          simp only [List.range, List.range.loop, pickI, consO, List.getElem?_cons_zero, List.getElem?_cons_succ]
          repeat (go_big_quiet_step (fail))
          exact wpq_end
        refine sched_end hQ' fun W3 hE3 => ?_
        have HE3 := veil (HE.out.trans hE3)
        clear hE3
        go_wp2
        go_roundw
        case rel =>
          refine ⟨i + 1, by omega, by go_num, fun j hj => ?_, HE3.out⟩
          by_cases e : j = i
          · subst e
            rw [HV.out.2.1, ← HV.out.2.2.1]
            exact G.out
          · exact HV.out.1 j (by omega)
        case measure => simp [intOf]; omega
      · have f1' : ¬ s0.toList = s1.toList := by
          rw [HS.out.1, HS.out.2]
          intro h
          exact g1 (strL_inj HK.out.1.1 (by rw [HV.out.2.2.1]; exact HV.out.2.2.2.1) (strL_tl h))
        have f1 : (s0.toList == s1.toList) = false := by simpa using f1'
        obtain rfl : R = false := HR.out.1.trans (decide_eq_false fun h => g1 (by rw [← HV.out.2.1, h, HV.out.2.2.1]))
        refine wp_sched 10 [(true, List.range 10)] (by kernel_rfl) (by kernel_rfl) fun Q' hQ' => ?_
        refine' sched_row (A := _) _ rfl (by kernel_rfl) ?_ ?_
        rotate_left
        · intro D hD hN
          have e0 := hD.cell HC.out.1
          have e1 := hD.cell HC.out.2
          have k1 : ∀ v : Gw D, (convert 23 9 (.slice A k q)).run Try.prog v.val = .ok (.string s0) v.val := fun v => by rw [HS.out.1]; exact str_of (HK.out.1.ext (HE.out.trans (hD.grown _ v.property))) HK.out.2
          simp only [List.range, List.range.loop, pickI, consO, List.getElem?_cons_zero, List.getElem?_cons_succ]
          repeat (go_big_quiet_step (fail))
          exact wpq_end
        refine sched_end hQ' fun W3 hE3 => ?_
        have HE3 := veil (HE.out.trans hE3)
        clear hE3
        go_wp2
        go_ret
        exact ⟨rfl, HE3.out⟩
    · obtain rfl : i = n := by omega
      have hd1 : decide ((i : Int) < (i : Int)) = false := by simp
      obtain rfl : R = true := HR.out.1.trans (decide_eq_true (eq_lists (by rw [← HR.out.2.2.2.2, ← HR.out.2.2.1]) (by rw [← HR.out.2.2.2.2]; exact hall)))
      clear hall
      go_wp2
      go_ret
      exact ⟨rfl, hE⟩
end Go.Proofs.Ytoikgkjkcampkaa
