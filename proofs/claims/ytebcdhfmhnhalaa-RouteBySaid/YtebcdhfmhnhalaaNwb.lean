/-
  The document's own way to the least minute: minute by stop, again and again, till nothing is sooner.
-/
import Derived.Test.YtebcdhfmhnhalaaNwa
namespace Go.Proofs.Ytebcdhfmhnhalaa

def upd (b : Nat → Int) (i : Nat) (x : Int) : Nat → Int := fun j => if j = i then x else b j
/-- What is left to be gained. -/
def sumTo (f : Nat → Nat) : Nat → Nat
  | 0 => 0
  | n + 1 => sumTo f n + f n
theorem sumTo_le {f g : Nat → Nat} : ∀ {n : Nat}, (∀ j, j < n → g j ≤ f j) → sumTo g n ≤ sumTo f n
  | 0, _ => Nat.le_refl _
  | n + 1, h => by
    have h1 := sumTo_le (n := n) fun j hj => h j (by omega)
    have h2 := h n (by omega)
    show sumTo g n + g n ≤ sumTo f n + f n
    omega
theorem sumTo_lt {f g : Nat → Nat} {i : Nat} (hi : g i < f i) : ∀ {n : Nat}, i < n → (∀ j, j < n → g j ≤ f j) → sumTo g n < sumTo f n
  | 0, h, _ => by omega
  | n + 1, h, hl => by
    show sumTo g n + g n < sumTo f n + f n
    have h2 := hl n (by omega)
    by_cases c : i = n
    · subst c
      have h1 := sumTo_le (n := i) fun j hj => hl j (by omega)
      omega
    · have h1 := sumTo_lt hi (n := n) (by omega) fun j hj => hl j (by omega)
      omega
def left1 (till x : Int) : Nat := (if x < 0 then till + 1 else x).toNat
def mu (till : Int) (b : Nat → Int) : Nat := sumTo (fun j => left1 till (b j)) 32
theorem mu_upd {till : Int} {b : Nat → Int} {i : Nat} {x : Int} (hi : i < 32) (h0 : 0 ≤ x) (hx : x ≤ till) (h : b i < 0 ∨ x < b i) : mu till (upd b i x) < mu till b := by
  have hlt : left1 till (upd b i x i) < left1 till (b i) := by
    unfold upd left1
    rw [if_pos rfl, if_neg (by omega)]
    split <;> omega
  refine sumTo_lt hlt hi fun j _ => ?_
  by_cases c : j = i
  · subst c; exact Nat.le_of_lt hlt
  · unfold upd
    rw [if_neg c]
    exact Nat.le_refl _
section
variable (ss : List Sv) (cs : List Cn) (fr at_ till : Int)
/-- What is told of a stop is so; and the first one is told. -/
def InvB (b : Nat → Int) : Prop := (∀ j : Nat, j < 32 → b j = -1 ∨ (0 ≤ b j ∧ b j ≤ 1100000000 ∧ Can ss cs fr at_ till (j : Int) (b j))) ∧ 0 ≤ b fr.toNat ∧ b fr.toNat ≤ at_
/-- A ride on a day brings nothing. -/
def idle (b : Nat → Int) (D : Int) (c : Cn) : Prop :=
  runsV (svN ss c) D = true → 0 ≤ b c.fr.toNat → b c.fr.toNat ≤ 1440 * D + c.dp → 1440 * D + c.ar ≤ till → 0 ≤ b c.tu.toNat ∧ b c.tu.toNat ≤ 1440 * D + c.ar
/-- Within a pass: those ahead of ride i of day D are gone through. -/
def PassB (b0 : Nat → Int) (again : Bool) (b : Nat → Int) (D : Int) (i : Nat) : Prop :=
  InvB ss cs fr at_ till b ∧ ((again = true ∧ mu till b < mu till b0) ∨ (again = false ∧ mu till b = mu till b0 ∧
    (∀ E : Int, at_ / 1440 ≤ E → E < D → ∀ j, j < cs.length → idle ss till b E (cs.getD j noCn)) ∧ ∀ j, j < i → idle ss till b D (cs.getD j noCn)))
/-- Ahead of a pass. -/
def AheadB (again : Bool) (b : Nat → Int) : Prop :=
  InvB ss cs fr at_ till b ∧ (again = true ∨ ∀ E : Int, at_ / 1440 ≤ E → E ≤ till / 1440 → ∀ j, j < cs.length → idle ss till b E (cs.getD j noCn))
end
section
variable {ss : List Sv} {cs : List Cn} {fr at_ till : Int} {b b0 : Nat → Int} {again : Bool} {D : Int} {i : Nat}
theorem pass_start (h : AheadB ss cs fr at_ till again b) : PassB ss cs fr at_ till b false b (at_ / 1440) 0 :=
  ⟨h.1, .inr ⟨rfl, rfl, fun E h1 h2 => by omega, fun j hj => by omega⟩⟩
theorem pass_day (h : PassB ss cs fr at_ till b0 again b D i) (hi : cs.length ≤ i) : PassB ss cs fr at_ till b0 again b (D + 1) 0 :=
  ⟨h.1, h.2.imp id fun ⟨h1, h2, h3, h4⟩ => ⟨h1, h2, fun E e1 e2 j hj => by
    by_cases c : E < D
    · exact h3 E e1 c j hj
    · obtain rfl : E = D := by omega
      exact h4 j (by omega), fun j hj => by omega⟩⟩
theorem pass_skip (h : PassB ss cs fr at_ till b0 again b D i) (hd : idle ss till b D (cs.getD i noCn)) : PassB ss cs fr at_ till b0 again b D (i + 1) :=
  ⟨h.1, h.2.imp id fun ⟨h1, h2, h3, h4⟩ => ⟨h1, h2, h3, fun j hj => by
    by_cases c : j < i
    · exact h4 j c
    · obtain rfl : j = i := by omega
      exact hd⟩⟩
theorem pass_le (h : PassB ss cs fr at_ till b0 again b D i) : mu till b ≤ mu till b0 := by
  rcases h.2 with ⟨_, h⟩ | ⟨_, h, _⟩ <;> omega
theorem pass_go {c : Cn} (h : PassB ss cs fr at_ till b0 again b D i) (hc : c ∈ cs) (h0 : stopB c.fr = true) (h1 : stopB c.tu = true) (hs : stopB fr = true) (hr : runsV (svN ss c) D = true) (hb : 0 ≤ b c.fr.toNat) (hd : b c.fr.toNat ≤ 1440 * D + c.dp) (ht : 1440 * D + c.ar ≤ till)
    (ha : c.dp < c.ar) (hT : till ≤ 1100000000) (hn : b c.tu.toNat < 0 ∨ 1440 * D + c.ar < b c.tu.toNat) : PassB ss cs fr at_ till b0 true (upd b c.tu.toNat (1440 * D + c.ar)) D (i + 1) := by
  have hle := pass_le h
  obtain ⟨s0, s1⟩ := stopB_is h0
  obtain ⟨t0, t1⟩ := stopB_is h1
  obtain ⟨f0, f1⟩ := stopB_is hs
  have hcan : Can ss cs fr at_ till c.fr (b c.fr.toNat) := by
    rcases h.1.1 c.fr.toNat (by omega) with e | ⟨_, _, h3⟩
    · omega
    · rwa [show ((c.fr.toNat : Nat) : Int) = c.fr by omega] at h3
  have hcan2 := Can.ride hc hr hcan hd ht
  refine ⟨⟨fun j hj => ?_, ?_, ?_⟩, .inl ⟨rfl, Nat.lt_of_lt_of_le (mu_upd (by omega) (by omega) ht hn) hle⟩⟩
  · by_cases e : j = c.tu.toNat
    · refine .inr ?_
      unfold upd
      rw [if_pos e, show (j : Int) = c.tu by omega]
      exact ⟨by omega, by omega, hcan2⟩
    · unfold upd
      rw [if_neg e]
      exact h.1.1 j hj
  · unfold upd
    split
    · omega
    · exact h.1.2.1
  · unfold upd
    split
    · rename_i e
      have := h.1.2.1
      have := h.1.2.2
      rw [e] at *
      omega
    · exact h.1.2.2
theorem ahead_end (h : PassB ss cs fr at_ till b0 again b D 0) (hD : till / 1440 < D) : AheadB ss cs fr at_ till again b ∧ 2 * mu till b + (if again = true then 1 else 0) < 2 * mu till b0 + 1 := by
  rcases h.2 with ⟨rfl, h2⟩ | ⟨rfl, h2, h3, _⟩
  · exact ⟨⟨h.1, .inl rfl⟩, by simp; omega⟩
  · exact ⟨⟨h.1, .inr fun E e1 e2 j hj => h3 E e1 (by omega) j hj⟩, by simp; omega⟩
/-- Nothing is sooner: so the least minutes are told. -/
theorem done_least (h : AheadB ss cs fr at_ till false b) (hF : ∀ c ∈ cs, 0 ≤ c.dp ∧ c.dp ≤ 1439 ∧ c.dp < c.ar) (hf : Fine cs) {s m : Int} (hc : Can ss cs fr at_ till s m) : 0 ≤ b s.toNat ∧ b s.toNat ≤ m := by
  have hcl := h.2.resolve_left (by decide)
  induction hc with
  | here => exact h.1.2
  | @ride c D m hm hr hk hd hl ih =>
    obtain ⟨j, hj, e⟩ := c_idx hm
    have hg := can_ge hf hk
    have hF := hF c hm
    have := hcl D (by omega) (by omega) j hj
    rw [e] at this
    exact this hr ih.1 (by omega) hl
theorem done_ref {n : Nw} {tu : Int} (h : AheadB n.ss n.cs fr at_ till false b) (hfair : fairN n fr at_ tu till = true) : EarlR n fr at_ tu till (b tu.toNat) := by
  obtain ⟨hM, hs, ht, h0, _, hle, _⟩ := fairN_is hfair
  obtain ⟨t0, t1⟩ := stopB_is ht
  have hF : ∀ c ∈ n.cs, 0 ≤ c.dp ∧ c.dp ≤ 1439 ∧ c.dp < c.ar := fun c hc => by
    obtain ⟨j, hj, rfl⟩ := c_idx hc
    have := (mayN_is hM).2.2.2 j hj
    exact ⟨this.2.2.2.2.1, this.2.2.2.2.2.1, this.2.2.2.2.2.2.1⟩
  have hl := fun {m : Int} (hc : Can n.ss n.cs fr at_ till tu m) => done_least h hF (fine_may hM) hc
  rcases h.1.1 tu.toNat (by omega) with e | ⟨h1, _, h2⟩
  · exact .inr ⟨by omega, fun m hm => by have := (hl hm).1; omega⟩
  · refine .inl ⟨h1, ?_, fun m hm => (hl hm).2⟩
    rwa [show ((tu.toNat : Nat) : Int) = tu by omega] at h2
theorem inv_start (hs : stopB fr = true) (h0 : 0 ≤ at_) (h1 : at_ ≤ 1073741824) : AheadB ss cs fr at_ till true (upd (fun _ => -1) fr.toNat at_) := by
  obtain ⟨f0, f1⟩ := stopB_is hs
  refine ⟨⟨fun j hj => ?_, ?_, ?_⟩, .inl rfl⟩
  · unfold upd
    by_cases c : j = fr.toNat
    · rw [if_pos c, show (j : Int) = fr by omega]
      exact .inr ⟨h0, by omega, .here⟩
    · rw [if_neg c]
      exact .inl rfl
  · unfold upd
    rw [if_pos rfl]
    exact h0
  · unfold upd
    rw [if_pos rfl]
    exact Int.le_refl _
end
end Go.Proofs.Ytebcdhfmhnhalaa
