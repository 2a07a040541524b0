/-
  Layer 9's mathematics: tickets, signed ones, and what bytes open as. No program.
-/
import Derived.Test.YtoikgkjkcampkaaK0
namespace Go.Proofs.Ytoikgkjkcampkaa

structure Tk where
  s : Int
  p : Int
  z : Int
  f : Int
  k : Int
def Tk.list (t : Tk) : List Int := [t.s, t.p, t.z, t.f, t.k]
def tkOf (l : List Int) : Tk := ⟨l.getD 0 0, l.getD 1 0, l.getD 2 0, l.getD 3 0, l.getD 4 0⟩
theorem tkOf_list (t : Tk) : tkOf t.list = t := rfl
theorem list_tkOf {l : List Int} (h : l.length = 5) : (tkOf l).list = l := by
  match l, h with
  | [a, b, c, d, e], _ => rfl
def mayT (t : Tk) : Bool := decide (1 ≤ t.s ∧ t.s ≤ 2147483647 ∧ 1 ≤ t.p ∧ t.p ≤ 16 ∧ 1 ≤ t.z ∧ t.z ≤ 255 ∧ 0 ≤ t.f ∧ t.f ≤ 1073741824 ∧ 1 ≤ t.k ∧ t.k ≤ 2147483647)
def tkB (t : Tk) : List Nat := bodyB t.list
theorem mayT_each {t : Tk} (h : mayT t = true) : ∀ n ∈ t.list, 0 ≤ n ∧ n ≤ 9223372036854775807 := by
  have h := of_decide_eq_true h
  intro n hn
  simp only [Tk.list, List.mem_cons, List.not_mem_nil, or_false] at hn
  rcases hn with rfl | rfl | rfl | rfl | rfl <;> omega
theorem tkB_length (t : Tk) : (tkB t).length = 55 := by
  unfold tkB bodyB Tk.list numFs numFs numFs numFs numFs numFs encF encF encF encF encF encF
  simp only [List.length_append, enc1_length, numB_length, List.length_nil]
theorem tkB_byt (t : Tk) : Byt (tkB t) := encF_byt (numFs_byt _ _)

def signedB (body : List Nat) (r s : Nat) : List Nat := encF [(1, body), (2, sigB r s)]
def twoOk (fs : List Fd) : Prop := fs.length = 2 ∧ tgF fs 0 = 1 ∧ tgF fs 1 = 2 ∧ (bsF fs 1).length = 64
instance (fs : List Fd) : Decidable (twoOk fs) := by unfold twoOk; exact inferInstance
def partsB (bs : List Nat) : Option (List Nat × Nat × Nat) := match getFs bs with
  | some fs => if twoOk fs then some (bsF fs 0, sigR (bsF fs 1), sigS (bsF fs 1)) else none
  | none => none
theorem two_may {body : List Nat} {r s : Nat} (h : body.length ≤ 65535) : mayFs [(1, body), (2, sigB r s)] = true := by
  refine decide_eq_true ⟨(by decide : (2 : Nat) ≤ 64), fun i hi => ?_⟩
  match i, hi with
  | 0, _ => exact ⟨(by decide : (1 : Int) ≤ 1), (by decide : (1 : Int) ≤ 255), h, fun h => absurd h (by decide)⟩
  | 1, _ => exact ⟨(by decide : (1 : Int) ≤ 2), (by decide : (2 : Int) ≤ 255), (sigB_length r s).symm ▸ (by decide : (64 : Nat) ≤ 65535), fun _ => (by decide : (1 : Int) < 2)⟩
theorem parts_signed {body : List Nat} {r s : Nat} (h : body.length ≤ 65535) (hr : r < 256 ^ 32) (hs : s < 256 ^ 32) : partsB (signedB body r s) = some (body, r, s) := by
  unfold partsB signedB
  rw [get_enc (two_may h)]
  have hok : twoOk [(1, body), (2, sigB r s)] := ⟨rfl, rfl, rfl, sigB_length r s⟩
  simp only [if_pos hok]
  obtain ⟨e1, e2⟩ := sig_back hr hs
  show some (body, sigR (sigB r s), sigS (sigB r s)) = _
  rw [e1, e2]
theorem signed_parts {bs body : List Nat} {r s : Nat} (hb : Byt bs) (h : partsB bs = some (body, r, s)) : signedB body r s = bs ∧ Byt body ∧ body.length ≤ 65535 ∧ r < 256 ^ 32 ∧ s < 256 ^ 32 := by
  unfold partsB at h
  cases hg : getFs bs with
  | none => rw [hg] at h; cases h
  | some fs =>
    rw [hg] at h
    simp only at h
    split at h
    · rename_i hok
      injection h with h
      injection h with h1 h
      injection h with h2 h3
      obtain ⟨hl, t0, t1, h64⟩ := hok
      have hB := get_byt hb hg
      match fs, hl with
      | [(a, x), (c, y)], _ =>
        have hx : Byt x := hB (a, x) (by simp)
        have hy : Byt y := hB (c, y) (by simp)
        have e0 : a = 1 := t0
        have e1 : c = 2 := t1
        have e2 : y.length = 64 := h64
        have m0 := mayFs_each (get_some hg).2 (a, x) (by simp)
        subst e0 e1
        have g1 : x = body := h1
        have g2 : sigR y = r := h2
        have g3 : sigS y = s := h3
        subst g1 g2 g3
        refine ⟨?_, hx, m0.2.2, ?_, ?_⟩
        · unfold signedB
          rw [sig_fore hy e2]
          exact enc_get hb hg
        · have := valB_lt_len (hy.take 32)
          rw [List.length_take, e2] at this
          exact this
        · have := valB_lt_len (hy.drop 32)
          rw [List.length_drop, e2] at this
          exact this
    · cases h

def openB (bs : List Nat) : Option (Tk × Nat × Nat) := match partsB bs with
  | some (body, r, s) => match numbersB body 5 with
    | some l => if mayT (tkOf l) = true then some (tkOf l, r, s) else none
    | none => none
  | none => none
theorem open_signed {t : Tk} {r s : Nat} (h : mayT t = true) (hr : r < 256 ^ 32) (hs : s < 256 ^ 32) : openB (signedB (tkB t) r s) = some (t, r, s) := by
  unfold openB
  rw [parts_signed (by rw [tkB_length]; decide) hr hs]
  have e : numbersB (tkB t) 5 = some t.list := numbers_body (l := t.list) (show (5 : Nat) ≤ 64 by decide) (mayT_each h)
  simp only [e]
  show (if mayT t = true then some (t, r, s) else none) = _
  rw [if_pos h]
theorem signed_open {bs : List Nat} {t : Tk} {r s : Nat} (hb : Byt bs) (h : openB bs = some (t, r, s)) : signedB (tkB t) r s = bs ∧ mayT t = true ∧ partsB bs = some (tkB t, r, s) ∧ r < 256 ^ 32 ∧ s < 256 ^ 32 := by
  unfold openB at h
  cases hp : partsB bs with
  | none => rw [hp] at h; cases h
  | some x =>
    obtain ⟨body, r', s'⟩ := x
    rw [hp] at h
    simp only at h
    obtain ⟨g1, g2, g3, g4, g5⟩ := signed_parts hb hp
    cases hn : numbersB body 5 with
    | none => rw [hn] at h; cases h
    | some l =>
      rw [hn] at h
      simp only at h
      split at h
      · rename_i hm
        injection h with h
        injection h with h1 h
        injection h with h2 h3
        subst h1 h2 h3
        obtain ⟨k1, k2⟩ := body_numbers g2 hn
        have e : tkB (tkOf l) = body := by unfold tkB; rw [list_tkOf k1]; exact k2
        rw [e]
        exact ⟨g1, hm, rfl, g4, g5⟩
      · cases h
end Go.Proofs.Ytoikgkjkcampkaa
