/-
  clapperref08.Same: are two rows of fields the same?
-/
import Derived.Test.YtiopilhpeohaoaaT6
namespace Go.Proofs.Ytiopilhpeohaoaa
open Go.RowKit

theorem fd_eq {fs gs : List Fd} (hl : fs.length = gs.length) (h : ∀ i, i < fs.length → tgF fs i = tgF gs i ∧ bsF fs i = bsF gs i) : fs = gs := by
  apply List.ext_getElem hl
  intro i h1 h2
  have h3 := h i h1
  unfold tgF bsF at h3
  simp only [List.getD_eq_getElem?_getD, List.getElem?_eq_getElem h1, List.getElem?_eq_getElem h2, Option.getD_some] at h3
  exact Prod.ext h3.1 h3.2

set_option maxRecDepth 100000 in
set_option maxHeartbeats 4000000 in
theorem same8_calls (v u : Value) (fs gs : List Fd) (w : World) (hF : Fl w v fs) (hG : Fl w u gs) (hL : fs.length ≤ 1000000000) :
    Calls Try.prog 14 #[v, u] w fun e w' => e = .returned (.bool (decide (fs = gs))) ∧ Ext w w' := by
  obtain ⟨hB, AL, c, rfl, hc, hx⟩ := hF
  obtain ⟨hB', AL', c', rfl, hc', hx'⟩ := hG
  by_cases hlen : fs.length = gs.length
  · obtain ⟨R, hR⟩ : ∃ R, R = decide (fs = gs) := ⟨_, rfl⟩
    rw [← hR]
    rw [← hlen] at hx' ⊢
    obtain ⟨n, hn⟩ : ∃ n, n = fs.length := ⟨_, rfl⟩
    rw [← hn] at hx hx' hc ⊢
    have HR := veil (And.intro hR (And.intro hn (And.intro hlen (And.intro hB hB'))))
    have HX := veil (And.intro hx hx')
    have hnL : n ≤ 1000000000 := by omega
    clear hR hx hx' hB hB' hn hL hlen hc hc'
    go_enter Try.func14, Try.ntmps14
    go_wp2
    go_loopw [5] (fun v wr => ∃ i : Nat, i ≤ n ∧ v = .int .i64 (i : Int) ∧ (∀ j, j < i → tgF fs j = tgF gs j ∧ bsF fs j = bsF gs j) ∧ Ext w wr)
      (fun v _ => n - (intOf v).toNat)
    case atStart => exact ⟨0, by omega, rfl, fun j hj => by omega, Ext.refl _⟩
    case round =>
      obtain ⟨i, hi, rfl, hall, hE⟩ := hrel
      by_cases hlt : i < n
      · have hd1 : decide ((i : Int) < (n : Int)) = true := by simp; omega
        have hii : (i : Int) < (n : Int) := by omega
        obtain ⟨b, o, hAL, hb, hcl⟩ := HX.out.1.resolve_left (by omega)
        obtain ⟨b', o', hAL', hb', hcl'⟩ := HX.out.2.resolve_left (by omega)
        obtain ⟨h1, A, k, h2, h3, h4⟩ := hcl i hlt
        obtain ⟨h1', A', k', h2', h3', h4'⟩ := hcl' i hlt
        have c0 := (hE.cell hb).trans h1
        have c1 := (hE.cell hb).trans h2
        have d0 := (hE.cell hb').trans h1'
        have d1 := (hE.cell hb').trans h2'
        obtain ⟨T, hT⟩ : ∃ T, T = tgF fs i := ⟨_, rfl⟩
        obtain ⟨S, hS⟩ : ∃ S, S = tgF gs i := ⟨_, rfl⟩
        rw [← hT] at c0
        rw [← hS] at d0
        have HT := veil (And.intro hT (And.intro hS (And.intro (h4.ext hE) (h4'.ext hE))))
        have HALL := veil hall
        subst hAL hAL'
        clear h1 h2 h1' h2' hT hS hall hcl hcl' h4 h4'
        generalize hDe : bsF fs i = D at *
        generalize hGe : bsF gs i = G at *
        have HDG := veil (And.intro hDe hGe)
        obtain ⟨l1, hl1⟩ : ∃ l1, l1 = D.length := ⟨_, rfl⟩
        obtain ⟨l2, hl2⟩ : ∃ l2, l2 = G.length := ⟨_, rfl⟩
        rw [← hl1] at c1 h3
        rw [← hl2] at d1 h3'
        have HL := veil (And.intro hl1 hl2)
        clear hDe hGe hl1 hl2
        have hno : (tgF fs i ≠ tgF gs i ∨ bsF fs i ≠ bsF gs i) → R = false := fun h => by
          rw [HR.out.1, decide_eq_false]
          intro e
          rw [e] at h
          exact h.elim (fun h => h rfl) fun h => h rfl
        have HN := veil hno
        clear hno
        by_cases g1 : T = S
        · have f1 : (T == S) = true := by simp [g1]
          subst g1
          have k1 : ∀ nn, (convert 23 9 (.slice A l1 k)).run Try.prog (wr.drewN nn) = .ok (.string (strL D)) (wr.drewN nn) := fun nn => str_of (HT.out.2.2.1.ext (Ext.drewK _ nn)) HL.out.1
          have k2 : ∀ nn, (convert 23 9 (.slice A' l2 k')).run Try.prog (wr.drewN nn) = .ok (.string (strL G)) (wr.drewN nn) := fun nn => str_of (HT.out.2.2.2.ext (Ext.drewK _ nn)) HL.out.2
          by_cases g2 : D = G
          · subst g2
            go_wp2_with fail
            go_quiet (fail)
            go_wp2
            go_roundw
            case rel =>
              refine ⟨i + 1, by omega, by go_num, fun j hj => ?_, hE.trans (Ext.drewK _ _)⟩
              by_cases e : j = i
              · subst e
                exact ⟨HT.out.1.symm.trans HT.out.2.1, HDG.out.1.trans HDG.out.2.symm⟩
              · exact HALL.out j (by omega)
            case measure => simp [intOf]; omega
          · have hR : R = false := HN.out (.inr (by rw [HDG.out.1, HDG.out.2]; exact g2))
            subst hR
            have f2 : ¬ (strL D = strL G) := fun h => g2 (strL_inj HT.out.2.2.1.1 HT.out.2.2.2.1 h)
            have f3 : ((strL D).toList == (strL G).toList) = false := by
              rw [beq_eq_false_iff_ne]
              intro h
              rw [ByteArray.toList_eq, ByteArray.toList_eq] at h
              exact f2 (WideShapes.bytes_inj h)
            have f4 : ¬ ((strL D).toList = (strL G).toList) := by simpa using f3
            go_wp2_with fail
            go_quiet (fail)
            go_wp2
            go_ret
            exact ⟨rfl, hE.trans (Ext.drewK _ _)⟩
        · have hR : R = false := HN.out (.inl (by rw [← HT.out.1, ← HT.out.2.1]; exact g1))
          subst hR
          have f1 : (T == S) = false := by simp [g1]
          go_wp2_with fail
          go_quiet (fail)
          go_wp2
          go_ret
          exact ⟨rfl, hE.trans (Ext.drewK _ _)⟩
      · obtain rfl : i = n := by omega
        have e : R = true := by
          rw [HR.out.1, decide_eq_true]
          exact fd_eq HR.out.2.2.1 fun j hj => hall j (by rw [HR.out.2.1]; exact hj)
        subst e
        clear hall
        go_wp2
        go_ret
        exact ⟨rfl, hE⟩
  · have hne : decide (fs = gs) = false := decide_eq_false fun h => hlen (by rw [h])
    rw [hne]
    have hl2 : ¬ ((fs.length : Int) = (gs.length : Int)) := by omega
    clear hx hx' hB hB' hL
    go_enter Try.func14, Try.ntmps14
    go_wp2
    go_ret
    exact ⟨rfl, Ext.refl _⟩
end Go.Proofs.Ytiopilhpeohaoaa
