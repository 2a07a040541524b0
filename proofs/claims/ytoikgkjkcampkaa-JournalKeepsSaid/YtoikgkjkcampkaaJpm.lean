/-
  The landed packages flash and journal are what JournalKeeps asks for.
-/
import Derived.Test.YtoikgkjkcampkaaJpl
namespace Go.Proofs.Ytoikgkjkcampkaa
open Go.RowKit

def FA16 (w : World) (f : Value) (B : List Nat) (F : Nat → Prop) : Prop := ∃ g h, f = .pointer (some ⟨g, 0, none⟩) ∧ Fla w g h B ∧ ∀ k, F k ↔ k = g ∨ k = h
def JA16 (w : World) (j f : Value) (s : JS) (G : Nat → Prop) : Prop := ∃ q g, j = .pointer (some ⟨q, 0, none⟩) ∧ f = .pointer (some ⟨g, 0, none⟩) ∧ Jou w q g s.turn (encRs s.recs).length ∧ ∀ k, G k ↔ k = q
theorem ok_end {B : List Nat} {s : JS} (h : OkJ B s) : (endJ B).1 ≤ s.turn := by
  rw [good_end h.2.1 fun h0 => List.length_eq_zero_iff.1 (by rw [← h.2.2.1]; exact h0)]
  exact Nat.le_refl _
theorem ok_recs {B : List Nat} {s : JS} (h : OkJ B s) : recsA (seg B 48 (encRs s.recs).length) = s.recs := by
  rw [h.2.1.area]
  exact recsF_enc h.2.1.ok (Nat.le_refl _)
theorem ptr_inj {a b : Nat} (h : Value.pointer (some ⟨a, 0, none⟩) = .pointer (some ⟨b, 0, none⟩)) : a = b := by
  injection h with h
  injection h with h
  injection h
theorem putS_all (B : List Nat) (T e : Nat) : putS B T e 24 = putAt B (24 * ((T + 1) % 2)) (slotB (T + 1) e) := by
  unfold putS
  rw [List.take_of_length_le (by rw [slotB_len]; exact Nat.le_refl _)]

def code16 : Code16 where
  FA := FA16
  JA := JA16
  fa_chg := fun w w' f B F H ⟨g, h, e, hF, hk⟩ hC hn => ⟨g, h, e, hF.chg hC (hn g ((hk g).2 (.inl rfl))) (hn h ((hk h).2 (.inr rfl))), hk⟩
  ja_chg := fun w w' j f s G H ⟨q, g, e, e2, hJ, hk⟩ hC hn => ⟨q, g, e, e2, hJ.chg hC (hn q ((hk q).2 rfl)), hk⟩
  fa_lt := fun w f B F ⟨g, h, _, hF, hk⟩ k hF2 => by
    rcases (hk k).1 hF2 with rfl | rfl
    · exact hF.cel.lt
    · exact hF.row.lt
  ja_lt := fun w j f s G ⟨q, g, _, _, hJ, hk⟩ k hG => by
    obtain rfl := (hk k).1 hG
    exact World.rowIs.lt hJ
  new := fun n w h1 h2 => (fnew_calls n (by omega) (by omega) w).mono fun e w' ⟨g, h, he, hE, hF, hg, hh⟩ => ⟨⟨g, 0, none⟩, fun k => k = g ∨ k = h, he, hE, ⟨g, h, rfl, hF, fun _ => Iff.rfl⟩, fun k hk => by
    rcases hk with rfl | rfl
    · exact hg
    · exact hh⟩
  open_nil := jopen_nil
  open_ := fun ad B F w ⟨g, h, e, hF, _⟩ h1 _ => by
    rw [e]
    exact (jopen_calls g h B h1 w hF).mono fun e w' ⟨q, he, hE, hJ, hq⟩ => ⟨⟨q, 0, none⟩, fun k => k = q, he, hE, ⟨q, g, rfl, rfl, hJ, fun _ => Iff.rfl⟩, fun k hk => by rw [hk]; exact hq⟩
  append := fun j f B s F G A m c r w ⟨g, h, ef, hF, hFk⟩ ⟨q, g', ej, ef', hJ, hGk⟩ hd hok hm hmc _ hB _ => by
    obtain rfl := ptr_inj (ef.symm.trans ef')
    subst ej ef
    have hfit := hok.2.1.fits
    have h64 := hok.2.1.size.1
    refine (jappend_calls q g h s.turn (encRs s.recs).length B h64 (ok_end hok) (by have := hok.2.2.2; omega) hfit (jou_neh hJ hF) w hF hJ A m c r hm hmc hB).mono fun e w' ⟨x, he, hx⟩ => ?_
    rcases hx with ⟨_, hy, hE⟩ | ⟨⟨m1, m2, m3⟩, rfl, hC, hF', hJ'⟩
    · exact ⟨x, B, s, F, G, he, Chg.of_ext hE, ⟨g, h, rfl, hF.ext hE, hFk⟩, ⟨q, g, rfl, rfl, hJ.ext hE, hGk⟩, hd, fun _ k => .inl k, fun _ k => .inl k, .inl ⟨hy, rfl, rfl⟩⟩
    · refine ⟨_, stepsJ B (encRs s.recs).length (s.turn + 1) ((encRs s.recs).length + 2 + m) r 2, ⟨s.turn + 1, s.recs ++ [r], false⟩, F, G, he, hC.mono fun z _ e => ?_, ⟨g, h, rfl, hF', hFk⟩, ⟨q, g, rfl, rfl, ?_, hGk⟩, hd, fun _ k => .inl k, fun _ k => .inl k, .inr ⟨rfl, hok.1, ⟨by omega, by omega, by omega⟩, ?_, rfl⟩⟩
      · rcases e with rfl | rfl
        · exact .inl ((hFk _).2 (.inr rfl))
        · exact .inr ((hGk _).2 rfl)
      · show Jou w' q g (s.turn + 1) (encRs (s.recs ++ [r])).length
        rw [encRs_add, List.length_append, encR_len, show (encRs s.recs).length + (r.length + 2) = (encRs s.recs).length + 2 + m by omega]
        exact hJ'
      · rw [putS_all, hm]
        rfl
  tear := fun j f B s F G A m c r st n w ⟨g, h, ef, hF, hFk⟩ ⟨q, g', ej, ef', hJ, hGk⟩ _ hok hm hmc _ hB _ _ _ _ _ => by
    obtain rfl := ptr_inj (ef.symm.trans ef')
    subst ej ef
    have hfit := hok.2.1.fits
    have h64 := hok.2.1.size.1
    refine (jtear_calls q g h s.turn (encRs s.recs).length B h64 (ok_end hok) (by have := hok.2.2.2; omega) hfit w hF hJ A m c r hm hmc hB st n).mono fun e w' ⟨x, he, hx⟩ => ?_
    rcases hx with ⟨hy, hE⟩ | ⟨⟨m1, m2, m3⟩, rfl, hC, hT⟩
    · exact ⟨x, B, F, he, Chg.of_ext hE, ⟨g, h, rfl, hF.ext hE, hFk⟩, fun _ k => .inl k, .inl ⟨hy, rfl⟩⟩
    · have hC' : Chg (fun k => F k ∨ G k) w w' := hC.mono fun z _ e => by
        rcases e with rfl | rfl
        · exact .inl ((hFk _).2 (.inr rfl))
        · exact .inr ((hGk _).2 rfl)
      have hmr : mayR B s.recs r := ⟨by omega, by omega, by omega⟩
      rcases hT with ⟨h1, h2, h3, h4⟩ | ⟨h1, h2, h3, h4⟩
      · exact ⟨_, _, F, he, hC', ⟨g, h, rfl, h4, hFk⟩, fun _ k => .inl k, .inr ⟨rfl, hok.1, hmr, .inl ⟨h1, h2, by rw [encR_len] at h3; omega, rfl⟩⟩⟩
      · exact ⟨_, _, F, he, hC', ⟨g, h, rfl, h4, hFk⟩, fun _ k => .inl k, .inr ⟨rfl, hok.1, hmr, .inr ⟨h1, h2, h3, by rw [hm]; rfl⟩⟩⟩
  records := fun j f B s F G w ⟨g, h, ef, hF, _⟩ ⟨q, g', ej, ef', hJ, _⟩ hok => by
    obtain rfl := ptr_inj (ef.symm.trans ef')
    subst ej
    exact (records_calls q g h s.turn (encRs s.recs).length B hok.2.1.size.1 (ok_end hok) hok.2.1.fits w hF hJ).mono fun e w' ⟨v, l, he, hE, hT, hl⟩ => ⟨v, l, he, hE, hT, hl.trans (ok_recs hok)⟩
  free := fun j f B s F G w ⟨g, h, ef, hF, _⟩ ⟨q, g', ej, ef', hJ, _⟩ hok => by
    obtain rfl := ptr_inj (ef.symm.trans ef')
    subst ej
    have hfr : freeJ B s = min 2000 (B.length - 48 - (encRs s.recs).length - 2) := by
      unfold freeJ
      rw [hok.1]
      rfl
    rw [hfr]
    exact free_calls q g h s.turn (encRs s.recs).length B hok.2.1.size.1 (ok_end hok) hok.2.1.fits w hF hJ
end Go.Proofs.Ytoikgkjkcampkaa
