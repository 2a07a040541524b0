/-
  clapperref11.Merge: the document's own.
-/
import Derived.Test.YtldnncamaglofaaRg
namespace Go.Proofs.Ytldnncamaglofaa
open Go.RowKit

theorem infoRv16g : (Try.prog.info? 43).map (fun i => (i.zero, i.size, i.bytes)) = some (some (.agg #[.int .i64 0, .int .i64 0]), 2, 16) := by kernel_rfl
theorem insR_at {x : Rv} : ∀ {l : List Rv} {p : Nat}, p ≤ l.length → (∀ j, j < p → rvS l j < x.1) → (p < l.length → ¬ rvS l p < x.1) →
    insR x l = l.take p ++ (if p < l.length ∧ rvS l p = x.1 then (x.1, if x.2 < rvF l p then x.2 else rvF l p) :: l.drop (p + 1) else x :: l.drop p)
  | [], p, hp, _, _ => by
    obtain rfl : p = 0 := by simpa using hp
    rfl
  | y :: r, 0, _, _, h2 => by
    have h3 : ¬ y.1 < x.1 := h2 (by simp)
    unfold insR
    rw [if_neg h3]
    by_cases e : y.1 = x.1
    · rw [if_pos e, if_pos (show 0 < (y :: r).length ∧ rvS (y :: r) 0 = x.1 from ⟨by simp, e⟩), e]
      rfl
    · rw [if_neg e, if_neg (show ¬ (0 < (y :: r).length ∧ rvS (y :: r) 0 = x.1) from fun h => e h.2)]
      rfl
  | y :: r, p + 1, hp, h1, h2 => by
    have h3 : y.1 < x.1 := h1 0 (by omega)
    unfold insR
    rw [if_pos h3, insR_at (l := r) (p := p) (by simpa using hp) (fun j hj => h1 (j + 1) (by omega)) (fun h => h2 (by simpa using h))]
    show y :: (r.take p ++ _) = y :: (r.take p ++ _)
    congr 2
    have e1 : (p + 1 < (y :: r).length ∧ rvS (y :: r) (p + 1) = x.1) ↔ (p < r.length ∧ rvS r p = x.1) := by
      simp only [List.length_cons]
      exact and_congr_left' (by omega)
    by_cases c : p < r.length ∧ rvS r p = x.1
    · rw [if_pos c, if_pos (e1.2 c)]
      rfl
    · rw [if_neg c, if_neg fun h => c (e1.1 h)]
      rfl
theorem insR_set {x : Rv} {l : List Rv} {p : Nat} (hp : p < l.length) (h1 : ∀ j, j < p → rvS l j < x.1) (h2 : rvS l p = x.1) : insR x l = l.set p (rvS l p, if x.2 < rvF l p then x.2 else rvF l p) := by
  rw [insR_at (by omega) h1 (fun _ => by omega), if_pos ⟨hp, h2⟩, List.set_eq_take_append_cons_drop, if_pos hp, h2]
theorem insR_new {x : Rv} {l : List Rv} {p : Nat} (hp : p ≤ l.length) (h1 : ∀ j, j < p → rvS l j < x.1) (h2 : p < l.length → ¬ rvS l p < x.1) (h3 : ¬ (p < l.length ∧ rvS l p = x.1)) : insR x l = l.take p ++ [x] ++ l.drop p := by
  rw [insR_at hp h1 h2, if_neg h3, List.append_assoc]
  rfl
theorem set_self {l : List Rv} {p : Nat} (hp : p < l.length) : l.set p (rvS l p, rvF l p) = l := by
  have e : (rvS l p, rvF l p) = l[p] := by
    unfold rvS rvF
    rw [List.getD_eq_getElem?_getD, List.getElem?_eq_getElem hp]
    rfl
  rw [e]
  exact List.set_getElem_self hp

theorem cutR_to (A : Option Addr) (n c k : Nat) (hk : k ≤ c) (w : World) : (Instr.sliceAt 22 (.slice A n c) none (some (.int .i64 (k : Int))) none).run Try.prog w = .ok (.slice (if c = 0 then A else A.map (·.add (0 * 2))) k c) w := by
  have e2 : ((sizeOf (Try.prog.elem 22)).run Try.prog w) = .ok 2 w := by kernel_rfl
  rw [run_sliceAt_slice w 22 _ _ _ _ (by kernel_rfl), run_slice_h w 22 A n c (by kernel_rfl) .i64 (k : Int) (by omega) (by omega), e2]
  simp only [Result.andThen, sliced, Int.toNat_natCast, Nat.sub_zero]
theorem cutR_from (A : Option Addr) (n c k : Nat) (hk : k ≤ n) (w : World) : (Instr.sliceAt 22 (.slice A n c) (some (.int .i64 (k : Int))) none none).run Try.prog w = .ok (.slice (if c = k then A else A.map (·.add (k * 2))) (n - k) (c - k)) w := by
  have e2 : ((sizeOf (Try.prog.elem 22)).run Try.prog w) = .ok 2 w := by kernel_rfl
  rw [run_sliceAt_slice w 22 _ _ _ _ (by kernel_rfl), run_slice_l w 22 A n c (by kernel_rfl) .i64 (k : Int) (by omega) (by omega), e2]
  simp only [Result.andThen, sliced, Int.toNat_natCast]
theorem rs_take {w : World} {A : Option Addr} {n c k : Nat} {l : List Rv} (h : Rs w (.slice A n c) l) (hn : n = l.length) (hk : k ≤ n) : Rs w (.slice (if c = 0 then A else A.map (·.add (0 * 2))) k c) (l.take k) := by
  subst hn
  obtain ⟨A', c', e, hc, hx⟩ := h
  injection e with e1 _ e3
  subst e1 e3
  have hl : (l.take k).length = k := by rw [List.length_take]; omega
  refine ⟨_, c, by rw [hl], by rw [hl]; omega, ?_⟩
  rw [hl]
  by_cases h0 : k = 0
  · exact .inl h0
  · rcases hx with h | ⟨b, o, rfl, hb, hr⟩
    · omega
    · refine .inr ⟨b, o, by rw [if_neg (by omega)]; simp [Addr.add_mid], hb, fun i x hi => ?_⟩
      have hik : i < k := by have := (List.getElem?_eq_some_iff.1 hi).1; omega
      rw [List.getElem?_take_of_lt hik] at hi
      exact hr i x hi
theorem rs_drop {w : World} {A : Option Addr} {n c k : Nat} {l : List Rv} (h : Rs w (.slice A n c) l) (hn : n = l.length) (hk : k ≤ n) : Rs w (.slice (if c = k then A else A.map (·.add (k * 2))) (n - k) (c - k)) (l.drop k) := by
  subst hn
  obtain ⟨A', c', e, hc, hx⟩ := h
  injection e with e1 _ e3
  subst e1 e3
  have hl : (l.drop k).length = l.length - k := List.length_drop
  refine ⟨_, c - k, by rw [hl], by rw [hl]; omega, ?_⟩
  rw [hl]
  by_cases h0 : l.length - k = 0
  · exact .inl h0
  · rcases hx with h | ⟨b, o, rfl, hb, hr⟩
    · omega
    · refine .inr ⟨b, o + k * 2, by rw [if_neg (by omega)]; simp [Addr.add_mid], hb, fun i x hi => ?_⟩
      rw [List.getElem?_drop] at hi
      have := hr _ x hi
      rwa [Nat.add_mul, ← Nat.add_assoc] at this
theorem flat_set : ∀ {l : List Rv} {p : Nat} {f : Int}, p < l.length → (l.set p (rvS l p, f)).flatMap rvC = (l.flatMap rvC).set (p * 2 + 1) (.int .i64 f)
  | [], _, _, h => by simp at h
  | y :: r, 0, f, _ => rfl
  | y :: r, p + 1, f, h => by
    have ih := flat_set (l := r) (p := p) (f := f) (by simpa using h)
    show rvC y ++ (r.set p (rvS r p, f)).flatMap rvC = (Value.int .i64 y.1 :: Value.int .i64 y.2 :: r.flatMap rvC).set ((p + 1) * 2 + 1) _
    rw [ih, show (p + 1) * 2 + 1 = (p * 2 + 1) + 1 + 1 by omega, List.set_cons_succ, List.set_cons_succ]
    rfl
theorem OwnL.setF {w : World} {base g n cap : Nat} {l : List Rv} (h : OwnL 2 rvC w base 43 (.slice (some ⟨g, 0, none⟩) n cap) l) {p : Nat} (hp : p < l.length) (f : Int) :
    OwnL 2 rvC (w.setCell ⟨g, p * 2 + 1, none⟩ (.int .i64 f)) base 43 (.slice (some ⟨g, 0, none⟩) n cap) (l.set p (rvS l p, f)) := by
  rcases h.2 with ⟨e, _⟩ | ⟨g', cap', cur, e, hb, hh, hn, hm, hs, ht⟩
  · cases e
  · injection e with e1 e2 e3
    injection e1 with e1
    injection e1 with e1 _ _
    subst e1 e2 e3
    refine ⟨by rw [flat_len rvC_length], .inr ⟨g, cap, cur.setIfInBounds (p * 2 + 1) (.int .i64 f), by rw [List.length_set], hb, ?_, by rw [List.length_set]; exact hn, hm, by rw [Array.size_setIfInBounds]; exact hs, ?_⟩⟩
    · obtain ⟨hlt, hk⟩ := Array.getElem?_eq_some_iff.1 hh
      show (w.heap.modify g _)[g]? = _
      rw [Array.getElem?_eq_getElem (by rw [Array.size_modify]; exact hlt), Array.getElem_modify_self, hk]
      rfl
    · rw [List.length_set, Array.toList_setIfInBounds, List.take_set, ht, flat_set hp]

theorem OwnL.base {w : World} {base b2 : Nat} {v : Value} {l : List Rv} (h : OwnL 2 rvC w base 43 v l) (hb : b2 ≤ base) : OwnL 2 rvC w b2 43 v l :=
  ⟨h.1, h.2.imp id fun ⟨g, cap, cur, e, hg, r⟩ => ⟨g, cap, cur, e, Nat.le_trans hb hg, r⟩⟩
theorem below_setCell_at {w W : World} (h : Ext w W) {g o : Nat} {v : Value} (hg : w.heap.size ≤ g) : Ext w (W.setCell ⟨g, o, none⟩ v) :=
  Below.setCell (p := ⟨g, o, none⟩) h hg v

set_option maxRecDepth 100000 in
set_option maxHeartbeats 8000000 in
theorem rmerge11_calls (va vb : Value) (a b : List Rv) (w : World) (hA : Rs w va a) (hB : Rs w vb b) (hla : a.length ≤ 1000) (hlb : b.length ≤ 1000) :
    Calls Try.prog 17 #[va, vb] w fun e w' => ∃ v, e = .returned v ∧ Rs w' v (mergeR a b) ∧ Ext w w' := by
  obtain ⟨i16, hi, hz, hsz, hby⟩ := info_parts2 infoRv16g
  have HI := veil (And.intro hi (And.intro hz (And.intro hsz hby)))
  clear hi hz hsz hby
  have hA' := hA
  obtain ⟨Aa, ca, hva, _, _⟩ := hA'
  obtain ⟨Ab, cb, hvb, hcb, hxb⟩ := hB
  obtain ⟨ma, hma0⟩ : ∃ m, m = a.length := ⟨_, rfl⟩
  obtain ⟨n, hn⟩ : ∃ m, m = b.length := ⟨_, rfl⟩
  rw [← hma0] at hva
  rw [← hn] at hvb hcb hxb
  subst hva hvb
  have HA := veil (And.intro hA (And.intro hma0 (And.intro hla (And.intro hlb hn))))
  have HX := veil hxb
  have hnb : n ≤ 1000 := by omega
  clear hA hma0 hla hlb hn hxb
  go_enter Try.func17, Try.ntmps17
  have ho0 : OwnL 2 rvC (w.alloc (.cells #[] 43)) w.heap.size 43 (.slice (some ⟨w.heap.size, 0, none⟩) 0 0) ([] : List Rv) := ⟨by simp, .inr ⟨w.heap.size, 0, #[], rfl, Nat.le_refl _, heap_new w _, Nat.le_refl _, by unfold maxLen; omega, rfl, rfl⟩⟩
  have HO0 := veil (And.intro ho0 (Ext.alloc w (.cells #[] 43)))
  clear ho0
  go_upto_region 2 with ((with_reducible refine at_slot 11 ?_); refine wpl_append_ls (sz := 2) (cs := rvC) (l := []) (ys := a) Try.underlying22 HI.out.1 HI.out.2.1 HI.out.2.2.1 HI.out.2.2.2 rfl (by decide) rvC_length rvC_one rfl rfl rfl rfl HO0.out.1 HA.out.2.1 (HA.out.1.ext HO0.out.2) (by have := HA.out.2; unfold maxLen; simp; omega) (by have := HA.out.2; simp; omega) (by simp) ?_; intro v1 w1 hO1 hG1)
  have hE1 : Ext w w1 := HO0.out.2.grown hG1 (Below.size HO0.out.2) fun k hk => (HO0.out.1.lt hk).1
  rw [List.nil_append] at hO1
  have HO1 := veil (And.intro hO1 hE1)
  clear hO1 hE1 hG1 HO0
  go_wp2
  go_loopw [5, 6] (fun v u wr => ∃ i : Nat, i ≤ n ∧ u = .int .i64 (i : Int) ∧ OwnL 2 rvC wr w.heap.size 43 v (mergeR a (b.take i)) ∧ Ext w wr)
    (fun _ u _ => n - (intOf u).toNat)
  case atStart => exact ⟨0, by omega, rfl, HO1.out.1, HO1.out.2⟩
  case round =>
    obtain ⟨i, hi, rfl, hO, hE⟩ := hrel
    by_cases hlt : i < n
    · have hd1 : decide ((i : Int) < (n : Int)) = true := by simp; omega
      have hii : (i : Int) < (n : Int) := by omega
      obtain ⟨bb, ob, hAL, hbb, hclb⟩ := HX.out.resolve_left (by omega)
      have hil : i < b.length := by have := HA.out.2.2.2.2; omega
      have hrgb := hclb i _ (rv_get hil)
      have hmr : mergeR a (b.take (i + 1)) = insR (b.getD i (0, 0)) (mergeR a (b.take i)) := by
        rw [← mergeR_snoc, List.take_add_one, rv_get hil]
        rfl
      have hml : (mergeR a (b.take i)).length ≤ 2000 := by
        have h1 := mergeR_len (b.take i) a
        have h2 := HA.out.2
        rw [List.length_take] at h1
        omega
      generalize b.getD i (0, 0) = x at *
      generalize mergeR a (b.take i) = M at *
      obtain ⟨x1, x2⟩ := x
      have HX2 := veil (And.intro hmr (And.intro hrgb (And.intro hbb hml)))
      have hR := hO.ls rvC_length
      obtain ⟨L, hL⟩ : ∃ L, L = M.length := ⟨_, rfl⟩
      obtain ⟨Am, cm, hve, hcm, hxm⟩ := hR
      rw [← hL] at hve hcm hxm
      subst hve
      have HO := veil (And.intro hO (And.intro hE (And.intro hxm hL)))
      have hLb : L ≤ 2000 := by omega
      subst hAL
      clear hO hE hmr hrgb hbb hclb hml hil hxm hL
      go_wp2
      generalize wr = wo at *
      go_loopw [7] (fun v wq => ∃ p : Nat, p ≤ L ∧ v = .int .i64 (p : Int) ∧ (∀ j, j < p → rvS M j < x1) ∧ Ext wo wq)
        (fun v _ => L - (intOf v).toNat)
      case atStart => exact ⟨0, by omega, rfl, fun j hj => by omega, Ext.refl _⟩
      case round =>
        obtain ⟨p, hp, rfl, hlow, hEq⟩ := hrel
        have hrx := range_ext (HO.out.2.1.trans hEq) HX2.out.2.2.1 HX2.out.2.1
        have b0 : wr.cell? ⟨bb, ob + i * 2, none⟩ = some (.int .i64 x1) := rv_s hrx
        have b1 : wr.cell? ⟨bb, ob + i * 2 + 1, none⟩ = some (.int .i64 x2) := rv_f hrx
        have k1 := fun W => cutR_to Am L cm p (by omega) W
        have k2 := fun W => cutR_from Am L cm p hp W
        have q1 := rs_take (w := wo) (HO.out.1.ls rvC_length) HO.out.2.2.2 hp
        have q2 := rs_drop (w := wo) (HO.out.1.ls rvC_length) HO.out.2.2.2 hp
        generalize (if cm = 0 then Am else Am.map (·.add (0 * 2))) = S1 at k1 q1
        generalize (if cm = p then Am else Am.map (·.add (p * 2))) = S2 at k2 q2
        have HRS := veil (And.intro q1 q2)
        clear q1 q2
        by_cases hpl : p < L
        · have hd2 : decide ((p : Int) < (L : Int)) = true := by simp; omega
          have hpi : (p : Int) < (L : Int) := by omega
          obtain ⟨gm, om, hAm, hgm, hrm⟩ := HO.out.2.2.1.resolve_left (by omega)
          have hom : om = 0 ∧ ∃ cur, wo.heap[gm]? = some (.cells cur 43 (0, 0)) := by
            rcases HO.out.1.2 with ⟨e, _⟩ | ⟨g', cap', cur, e, _, hh, _⟩
            · rw [hAm] at e; cases e
            · rw [hAm] at e
              injection e with e1 _ _
              injection e1 with e1
              injection e1 with e1 e2 _
              subst e1
              exact ⟨e2, cur, hh⟩
          obtain ⟨rfl, cur, hcur⟩ := hom
          have hpm : p < M.length := by have := HO.out.2.2.2; omega
          have hrp := range_ext hEq hgm (hrm p _ (rv_get hpm))
          rw [Nat.zero_add] at hrp
          have m0 : wr.cell? ⟨gm, p * 2, none⟩ = some (.int .i64 (rvS M p)) := rv_s hrp
          have m1 : wr.cell? ⟨gm, p * 2 + 1, none⟩ = some (.int .i64 (rvF M p)) := rv_f hrp
          obtain ⟨s, hs⟩ : ∃ s, s = rvS M p := ⟨_, rfl⟩
          obtain ⟨f, hf⟩ : ∃ f, f = rvF M p := ⟨_, rfl⟩
          rw [← hs] at m0
          rw [← hf] at m1
          have HP := veil (And.intro hlow (And.intro hEq (And.intro hs (And.intro hf (And.intro hcur hpm)))))
          subst hAm
          clear hlow hEq hrp hrx hrm hgm hpm hs hf hcur
          by_cases hsx : s < x1
          · have hd3 : decide (s < x1) = true := decide_eq_true hsx
            have HS := veil hsx
            clear hsx
            go_upto_region 6 with (fail)
            go_quiet (fail)
            go_wp2
            go_roundw
            case rel =>
              refine ⟨p + 1, by omega, by go_num, fun j hj => ?_, HP.out.2.1.trans (Ext.drewK _ _)⟩
              by_cases e : j = p
              · subst e; rw [← HP.out.2.2.1]; exact HS.out
              · exact HP.out.1 j (by omega)
            case measure => simp [intOf]; omega
          · have hd3 : decide (s < x1) = false := decide_eq_false hsx
            by_cases hse : s = x1
            · have f3 : (s == x1) = true := by simp [hse]
              have HS := veil hse
              clear hsx hse k1 k2
              go_upto_region 6 with (fail)
              go_quiet (fail)
              have HE2n := veil (HP.out.2.1.trans (Ext.drewK wr nq))
              have b0n : (wr.drewN nq).cell? ⟨bb, ob + i * 2, none⟩ = some (.int .i64 x1) := b0
              have b1n : (wr.drewN nq).cell? ⟨bb, ob + i * 2 + 1, none⟩ = some (.int .i64 x2) := b1
              have m0n : (wr.drewN nq).cell? ⟨gm, p * 2, none⟩ = some (.int .i64 s) := m0
              have m1n : (wr.drewN nq).cell? ⟨gm, p * 2 + 1, none⟩ = some (.int .i64 f) := m1
              generalize wr.drewN nq = W2 at *
              clear b0 b1 m0 m1
              have b0 := b0n
              clear b0n
              have b1 := b1n
              clear b1n
              have m0 := m0n
              clear m0n
              have m1 := m1n
              clear m1n
              have HE2 := veil HE2n.out
              clear HE2n
              go_upto_region 8 with (fail)
              go_quiet (fail)
              have HE2n := veil (HE2.out.trans (Ext.drewK W2 nq))
              have b0n : (W2.drewN nq).cell? ⟨bb, ob + i * 2, none⟩ = some (.int .i64 x1) := b0
              have b1n : (W2.drewN nq).cell? ⟨bb, ob + i * 2 + 1, none⟩ = some (.int .i64 x2) := b1
              have m0n : (W2.drewN nq).cell? ⟨gm, p * 2, none⟩ = some (.int .i64 s) := m0
              have m1n : (W2.drewN nq).cell? ⟨gm, p * 2 + 1, none⟩ = some (.int .i64 f) := m1
              generalize W2.drewN nq = W3 at *
              clear b0 b1 m0 m1 HE2
              have b0 := b0n
              clear b0n
              have b1 := b1n
              clear b1n
              have m0 := m0n
              clear m0n
              have m1 := m1n
              clear m1n
              have HE2 := veil HE2n.out
              clear HE2n
              have HNW := veil (insR_set (x := (x1, x2)) HP.out.2.2.2.2.2 HP.out.1 (by rw [← HP.out.2.2.1]; exact HS.out))
              by_cases hfx : x2 < f
              · have hd5 : decide (x2 < f) = true := decide_eq_true hfx
                have HF := veil hfx
                clear hfx
                go_upto_region 9 with (fail)
                go_quiet (fail)
                have HE2n := veil (HE2.out.trans (Ext.drewK W3 nq))
                have b0n : (W3.drewN nq).cell? ⟨bb, ob + i * 2, none⟩ = some (.int .i64 x1) := b0
                have b1n : (W3.drewN nq).cell? ⟨bb, ob + i * 2 + 1, none⟩ = some (.int .i64 x2) := b1
                have m0n : (W3.drewN nq).cell? ⟨gm, p * 2, none⟩ = some (.int .i64 s) := m0
                have m1n : (W3.drewN nq).cell? ⟨gm, p * 2 + 1, none⟩ = some (.int .i64 f) := m1
                generalize W3.drewN nq = W4 at *
                clear b0 b1 m0 m1 HE2
                have b0 := b0n
                clear b0n
                have b1 := b1n
                clear b1n
                have m0 := m0n
                clear m0n
                have m1 := m1n
                clear m1n
                have HE2 := veil HE2n.out
                clear HE2n
                have hfz : W4.frozen? ⟨gm, p * 2 + 1, none⟩ = false := by simp [World.frozen?, HE2.out.block HP.out.2.2.2.2.1]
                have HQ := veil (And.intro (HO.out.1.keep HE2.out) (HO.out.2.1.trans HE2.out))
                go_wp2
                go_roundw
                case rel =>
                  refine ⟨i + 1, by omega, by go_num, ?_, below_setCell_at HQ.out.2 (HO.out.1.lt rfl).1⟩
                  rw [HX2.out.1, HNW.out, if_pos (by rw [← HP.out.2.2.2.1]; exact HF.out)]
                  exact HQ.out.1.setF HP.out.2.2.2.2.2 x2
                case measure => simp [intOf]; omega
              · have hd5 : decide (x2 < f) = false := decide_eq_false hfx
                have HF := veil hfx
                clear hfx
                go_upto_region 9 with (fail)
                go_quiet (fail)
                have HE2n := veil (HE2.out.trans (Ext.drewK W3 nq))
                have b0n : (W3.drewN nq).cell? ⟨bb, ob + i * 2, none⟩ = some (.int .i64 x1) := b0
                have b1n : (W3.drewN nq).cell? ⟨bb, ob + i * 2 + 1, none⟩ = some (.int .i64 x2) := b1
                have m0n : (W3.drewN nq).cell? ⟨gm, p * 2, none⟩ = some (.int .i64 s) := m0
                have m1n : (W3.drewN nq).cell? ⟨gm, p * 2 + 1, none⟩ = some (.int .i64 f) := m1
                generalize W3.drewN nq = W4 at *
                clear b0 b1 m0 m1 HE2
                have b0 := b0n
                clear b0n
                have b1 := b1n
                clear b1n
                have m0 := m0n
                clear m0n
                have m1 := m1n
                clear m1n
                have HE2 := veil HE2n.out
                clear HE2n
                have HQ := veil (And.intro (HO.out.1.keep HE2.out) (HO.out.2.1.trans HE2.out))
                go_wp2
                go_roundw
                case rel =>
                  refine ⟨i + 1, by omega, by go_num, ?_, HQ.out.2⟩
                  rw [HX2.out.1, HNW.out, if_neg (by rw [← HP.out.2.2.2.1]; exact HF.out), set_self HP.out.2.2.2.2.2]
                  exact HQ.out.1
                case measure => simp [intOf]; omega
            · have f3 : (s == x1) = false := by simp [hse]
              have HS := veil (And.intro hsx hse)
              clear hsx hse
              go_upto_region 6 with (fail)
              go_quiet (fail)
              have HE2n := veil (HP.out.2.1.trans (Ext.drewK wr nq))
              have b0n : (wr.drewN nq).cell? ⟨bb, ob + i * 2, none⟩ = some (.int .i64 x1) := b0
              have b1n : (wr.drewN nq).cell? ⟨bb, ob + i * 2 + 1, none⟩ = some (.int .i64 x2) := b1
              have m0n : (wr.drewN nq).cell? ⟨gm, p * 2, none⟩ = some (.int .i64 s) := m0
              have m1n : (wr.drewN nq).cell? ⟨gm, p * 2 + 1, none⟩ = some (.int .i64 f) := m1
              generalize wr.drewN nq = W2 at *
              clear b0 b1 m0 m1
              have b0 := b0n
              clear b0n
              have b1 := b1n
              clear b1n
              have m0 := m0n
              clear m0n
              have m1 := m1n
              clear m1n
              have HE2 := veil HE2n.out
              clear HE2n
              go_upto_region 8 with (fail)
              go_quiet (fail)
              have HE2n := veil (HE2.out.trans (Ext.drewK W2 nq))
              have b0n : (W2.drewN nq).cell? ⟨bb, ob + i * 2, none⟩ = some (.int .i64 x1) := b0
              have b1n : (W2.drewN nq).cell? ⟨bb, ob + i * 2 + 1, none⟩ = some (.int .i64 x2) := b1
              have m0n : (W2.drewN nq).cell? ⟨gm, p * 2, none⟩ = some (.int .i64 s) := m0
              have m1n : (W2.drewN nq).cell? ⟨gm, p * 2 + 1, none⟩ = some (.int .i64 f) := m1
              generalize W2.drewN nq = W3 at *
              clear b0 b1 m0 m1 HE2
              have b0 := b0n
              clear b0n
              have b1 := b1n
              clear b1n
              have m0 := m0n
              clear m0n
              have m1 := m1n
              clear m1n
              have HE2 := veil HE2n.out
              clear HE2n
              clear m0 m1 b0 b1
              have HNW := veil (insR_new (x := (x1, x2)) (l := M) (p := p) (by have := HO.out.2.2.2; omega) HP.out.1 (fun _ => by rw [← HP.out.2.2.1]; exact HS.out.1) (fun h => HS.out.2 (by rw [HP.out.2.2.1]; exact h.2)))
              have hO0 : OwnL 2 rvC (W3.alloc (.cells #[] 43)) W3.heap.size 43 (.slice (some ⟨W3.heap.size, 0, none⟩) 0 0) ([] : List Rv) := ⟨by simp, .inr ⟨W3.heap.size, 0, #[], rfl, Nat.le_refl _, heap_new W3 _, Nat.le_refl _, by unfold maxLen; omega, rfl, rfl⟩⟩
              have HQ0 := veil (And.intro hO0 (HE2.out.trans (Ext.alloc W3 (.cells #[] 43))))
              have hpm2 : p ≤ 2000 := by omega
              clear hO0
              go_upto_region 12 with ((with_reducible refine at_slot 78 ?_); refine wpl_append_ls (sz := 2) (cs := rvC) (l := []) (ys := M.take p) Try.underlying22 HI.out.1 HI.out.2.1 HI.out.2.2.1 HI.out.2.2.2 rfl (by decide) rvC_length rvC_one rfl rfl rfl rfl HQ0.out.1 (by rw [List.length_take]; have := HO.out.2.2.2; omega) (HRS.out.1.ext HQ0.out.2) (by unfold maxLen; simp; omega) (by simp; omega) (by simp) ?_; intro v5 w5 hO5 hG5)
              have hE5 : Ext wo w5 := HQ0.out.2.grown hG5 (Below.size HQ0.out.2) fun k hk => Nat.le_trans (Below.size HE2.out) (HQ0.out.1.lt hk).1
              rw [List.nil_append] at hO5
              have hb5 : W3.heap.size ≤ w5.heap.size := Nat.le_trans (by simp) hG5.size
              have HQ5 := veil (And.intro hO5 (And.intro hE5 (And.intro (range_ext (HO.out.2.1.trans hE5) HX2.out.2.2.1 HX2.out.2.1) hb5)))
              clear hO5 hE5 hG5 hb5
              go_upto_region 13 with (first
                | ((with_reducible refine at_slot 83 ?_); refine wpList_load_mid rfl 43 _ rfl bb _ rfl [.int .i64 x1, .int .i64 x2] _ HQ5.out.2.2.1 Try.underlying43 rfl (iRv (x1, x2)) ?_)
                | ((with_reducible refine at_slot 85 ?_); refine wpl_append_ls (sz := 2) (cs := rvC) (l := M.take p) (ys := [(x1, x2)]) Try.underlying22 HI.out.1 HI.out.2.1 HI.out.2.2.1 HI.out.2.2.2 rfl (by decide) rvC_length rvC_one rfl rfl rfl rfl (HQ5.out.1.keep (Ext.alloc w5 _)) rfl (ls_one (x := ((x1, x2) : Rv)) (heap_new w5 _)) (by rw [List.length_take]; unfold maxLen; omega) (by rw [List.length_take]; omega) (Nat.le_trans HQ5.out.2.2.2 (Below.size (Ext.alloc w5 _))) ?_; intro v6 w6 hO6 hG6))
              have hE6 : Ext wo w6 := (HQ5.out.2.1.trans (Ext.alloc w5 _)).grown hG6 (Below.size (HQ5.out.2.1.trans (Ext.alloc w5 _))) fun k hk => Nat.le_trans (Below.size HE2.out) (HQ5.out.1.lt hk).1
              have hb6 : W3.heap.size ≤ w6.heap.size := Nat.le_trans (Nat.le_trans HQ5.out.2.2.2 (Below.size (Ext.alloc w5 _))) hG6.size
              have HQ6 := veil (And.intro hO6 (And.intro hE6 hb6))
              clear hO6 hE6 hG6 hb6
              go_wp2_with ((with_reducible refine at_slot 90 ?_); refine wpl_append_ls (sz := 2) (cs := rvC) (l := M.take p ++ [(x1, x2)]) (ys := M.drop p) Try.underlying22 HI.out.1 HI.out.2.1 HI.out.2.2.1 HI.out.2.2.2 rfl (by decide) rvC_length rvC_one rfl rfl rfl rfl HQ6.out.1 (by rw [List.length_drop, ← HO.out.2.2.2]) (HRS.out.2.ext HQ6.out.2.1) (by rw [List.length_append, List.length_take, List.length_singleton]; unfold maxLen; omega) (by rw [List.length_append, List.length_take, List.length_singleton]; omega) HQ6.out.2.2 ?_; intro v7 w7 hO7 hG7)
              have hE7 : Ext wo w7 := HQ6.out.2.1.grown hG7 (Below.size HQ6.out.2.1) fun k hk => Nat.le_trans (Below.size HE2.out) (HQ6.out.1.lt hk).1
              have HQ7 := veil (And.intro (hO7.base (Nat.le_trans (Below.size HO.out.2.1) (Below.size HE2.out))) (HO.out.2.1.trans hE7))
              clear hO7 hE7 hG7
              go_roundw
              case rel => exact ⟨i + 1, by omega, by go_num, by rw [HX2.out.1, HNW.out]; exact HQ7.out.1, HQ7.out.2⟩
              case measure => simp [intOf]; omega
        · obtain rfl : p = L := by omega
          have hd2 : decide ((p : Int) < (p : Int)) = false := by simp
          have HP := veil (And.intro hlow (And.intro hEq trivial))
          clear hlow hEq hrx
          go_upto_region 6 with (fail)
          go_quiet (fail)
          have HE2n := veil (HP.out.2.1.trans (Ext.drewK wr nq))
          have b0n : (wr.drewN nq).cell? ⟨bb, ob + i * 2, none⟩ = some (.int .i64 x1) := b0
          have b1n : (wr.drewN nq).cell? ⟨bb, ob + i * 2 + 1, none⟩ = some (.int .i64 x2) := b1
          generalize wr.drewN nq = W2 at *
          clear b0 b1
          have b0 := b0n
          clear b0n
          have b1 := b1n
          clear b1n
          have HE2 := veil HE2n.out
          clear HE2n
          go_upto_region 8 with (fail)
          go_quiet (fail)
          have HE2n := veil (HE2.out.trans (Ext.drewK W2 nq))
          have b0n : (W2.drewN nq).cell? ⟨bb, ob + i * 2, none⟩ = some (.int .i64 x1) := b0
          have b1n : (W2.drewN nq).cell? ⟨bb, ob + i * 2 + 1, none⟩ = some (.int .i64 x2) := b1
          generalize W2.drewN nq = W3 at *
          clear b0 b1 HE2
          have b0 := b0n
          clear b0n
          have b1 := b1n
          clear b1n
          have HE2 := veil HE2n.out
          clear HE2n
          clear b0 b1
          have HR2 := veil (show Rs wo (.slice S2 0 (cm - p)) (M.drop p) by have := HRS.out.2; rwa [Nat.sub_self] at this)
          have HNW := veil (insR_new (x := (x1, x2)) (l := M) (p := p) (by have := HO.out.2.2.2; omega) HP.out.1 (fun h => by have := HO.out.2.2.2; omega) (fun h => by have := HO.out.2.2.2; omega))
          have hO0 : OwnL 2 rvC (W3.alloc (.cells #[] 43)) W3.heap.size 43 (.slice (some ⟨W3.heap.size, 0, none⟩) 0 0) ([] : List Rv) := ⟨by simp, .inr ⟨W3.heap.size, 0, #[], rfl, Nat.le_refl _, heap_new W3 _, Nat.le_refl _, by unfold maxLen; omega, rfl, rfl⟩⟩
          have HQ0 := veil (And.intro hO0 (HE2.out.trans (Ext.alloc W3 (.cells #[] 43))))
          have hpm2 : p ≤ 2000 := by omega
          clear hO0
          go_upto_region 12 with ((with_reducible refine at_slot 78 ?_); refine wpl_append_ls (sz := 2) (cs := rvC) (l := []) (ys := M.take p) Try.underlying22 HI.out.1 HI.out.2.1 HI.out.2.2.1 HI.out.2.2.2 rfl (by decide) rvC_length rvC_one rfl rfl rfl rfl HQ0.out.1 (by rw [List.length_take]; have := HO.out.2.2.2; omega) (HRS.out.1.ext HQ0.out.2) (by unfold maxLen; simp; omega) (by simp; omega) (by simp) ?_; intro v5 w5 hO5 hG5)
          have hE5 : Ext wo w5 := HQ0.out.2.grown hG5 (Below.size HQ0.out.2) fun k hk => Nat.le_trans (Below.size HE2.out) (HQ0.out.1.lt hk).1
          rw [List.nil_append] at hO5
          have hb5 : W3.heap.size ≤ w5.heap.size := Nat.le_trans (by simp) hG5.size
          have HQ5 := veil (And.intro hO5 (And.intro hE5 (And.intro (range_ext (HO.out.2.1.trans hE5) HX2.out.2.2.1 HX2.out.2.1) hb5)))
          clear hO5 hE5 hG5 hb5
          go_upto_region 13 with (first
            | ((with_reducible refine at_slot 83 ?_); refine wpList_load_mid rfl 43 _ rfl bb _ rfl [.int .i64 x1, .int .i64 x2] _ HQ5.out.2.2.1 Try.underlying43 rfl (iRv (x1, x2)) ?_)
            | ((with_reducible refine at_slot 85 ?_); refine wpl_append_ls (sz := 2) (cs := rvC) (l := M.take p) (ys := [(x1, x2)]) Try.underlying22 HI.out.1 HI.out.2.1 HI.out.2.2.1 HI.out.2.2.2 rfl (by decide) rvC_length rvC_one rfl rfl rfl rfl (HQ5.out.1.keep (Ext.alloc w5 _)) rfl (ls_one (x := ((x1, x2) : Rv)) (heap_new w5 _)) (by rw [List.length_take]; unfold maxLen; omega) (by rw [List.length_take]; omega) (Nat.le_trans HQ5.out.2.2.2 (Below.size (Ext.alloc w5 _))) ?_; intro v6 w6 hO6 hG6))
          have hE6 : Ext wo w6 := (HQ5.out.2.1.trans (Ext.alloc w5 _)).grown hG6 (Below.size (HQ5.out.2.1.trans (Ext.alloc w5 _))) fun k hk => Nat.le_trans (Below.size HE2.out) (HQ5.out.1.lt hk).1
          have hb6 : W3.heap.size ≤ w6.heap.size := Nat.le_trans (Nat.le_trans HQ5.out.2.2.2 (Below.size (Ext.alloc w5 _))) hG6.size
          have HQ6 := veil (And.intro hO6 (And.intro hE6 hb6))
          clear hO6 hE6 hG6 hb6
          go_wp2_with ((with_reducible refine at_slot 90 ?_); refine wpl_append_ls (sz := 2) (cs := rvC) (l := M.take p ++ [(x1, x2)]) (ys := M.drop p) Try.underlying22 HI.out.1 HI.out.2.1 HI.out.2.2.1 HI.out.2.2.2 rfl (by decide) rvC_length rvC_one rfl rfl rfl rfl HQ6.out.1 (by rw [List.length_drop, ← HO.out.2.2.2, Nat.sub_self]) (HR2.out.ext HQ6.out.2.1) (by rw [List.length_append, List.length_take, List.length_singleton]; unfold maxLen; omega) (by rw [List.length_append, List.length_take, List.length_singleton]; omega) HQ6.out.2.2 ?_; intro v7 w7 hO7 hG7)
          have hE7 : Ext wo w7 := HQ6.out.2.1.grown hG7 (Below.size HQ6.out.2.1) fun k hk => Nat.le_trans (Below.size HE2.out) (HQ6.out.1.lt hk).1
          have HQ7 := veil (And.intro (hO7.base (Nat.le_trans (Below.size HO.out.2.1) (Below.size HE2.out))) (HO.out.2.1.trans hE7))
          clear hO7 hE7 hG7
          go_roundw
          case rel => exact ⟨i + 1, by omega, by go_num, by rw [HX2.out.1, HNW.out]; exact HQ7.out.1, HQ7.out.2⟩
          case measure => simp [intOf]; omega
    · obtain rfl : i = n := by omega
      have hd1 : decide ((i : Int) < (i : Int)) = false := by simp
      have e : b.take i = b := by rw [HA.out.2.2.2.2, List.take_length]
      rw [e] at hO
      have HO := veil (And.intro (hO.ls rvC_length) hE)
      clear hO hE e
      go_wp2
      go_ret
      exact ⟨_, rfl, HO.out.1, HO.out.2⟩
end Go.Proofs.Ytldnncamaglofaa
