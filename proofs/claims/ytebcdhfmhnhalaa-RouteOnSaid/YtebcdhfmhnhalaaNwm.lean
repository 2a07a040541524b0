/-
  Layer 13's mathematics, the landed package's way: rides by their beginnings, gone through once.
-/
import Derived.Test.YtebcdhfmhnhalaaNwb
namespace Go.Proofs.Ytebcdhfmhnhalaa

/-- A ride of one day. -/
structure Rd where
  fr : Int
  bg : Int
  tu : Int
  en : Int
def rdOf (D : Int) (c : Cn) : Rd := ⟨c.fr, 1440 * D + c.dp, c.tu, 1440 * D + c.ar⟩
/-- The rides of a day. -/
def dayR (ss : List Sv) (cs : List Cn) (D : Int) : List Rd := (cs.filter fun c => runsV (svN ss c) D).map (rdOf D)
/-- Those of some days that end in time. -/
def tillR (ss : List Sv) (cs : List Cn) (till D : Int) : Nat → List Rd
  | 0 => []
  | k + 1 => tillR ss cs till D k ++ (dayR ss cs (D + (k : Int))).filter fun r => decide (r.en ≤ till)
def never : Int := 9223372036854775807
def relax (b : Nat → Int) (r : Rd) : Nat → Int := if b r.fr.toNat ≤ r.bg then upd b r.tu.toNat (min (b r.tu.toNat) r.en) else b
def begB (fr at_ : Int) : Nat → Int := upd (fun _ => never) fr.toNat at_
def soonB (l : List Rd) (fr at_ : Int) : Nat → Int := l.foldl relax (begB fr at_)

theorem dayR_len (ss : List Sv) (cs : List Cn) (D : Int) : (dayR ss cs D).length ≤ cs.length := by
  unfold dayR
  rw [List.length_map]
  exact List.length_filter_le _ _
theorem tillR_len (ss : List Sv) (cs : List Cn) (till D : Int) : ∀ k, (tillR ss cs till D k).length ≤ k * cs.length
  | 0 => Nat.zero_le _
  | k + 1 => by
    show (tillR ss cs till D k ++ _).length ≤ _
    rw [List.length_append, Nat.add_mul]
    have h1 := tillR_len ss cs till D k
    have h2 := Nat.le_trans (List.length_filter_le (fun r : Rd => decide (r.en ≤ till)) (dayR ss cs (D + (k : Int)))) (dayR_len ss cs (D + (k : Int)))
    omega
theorem dayR_mem {ss : List Sv} {cs : List Cn} {D : Int} {r : Rd} : r ∈ dayR ss cs D ↔ ∃ c ∈ cs, runsV (svN ss c) D = true ∧ rdOf D c = r := by
  unfold dayR
  rw [List.mem_map]
  constructor
  · rintro ⟨c, h, e⟩
    rw [List.mem_filter] at h
    exact ⟨c, h.1, h.2, e⟩
  · rintro ⟨c, h1, h2, e⟩
    exact ⟨c, List.mem_filter.2 ⟨h1, h2⟩, e⟩
theorem tillR_mem {ss : List Sv} {cs : List Cn} {till D : Int} {r : Rd} : ∀ {k : Nat}, r ∈ tillR ss cs till D k ↔ ∃ j : Nat, j < k ∧ r ∈ dayR ss cs (D + (j : Int)) ∧ r.en ≤ till
  | 0 => by
    show r ∈ [] ↔ _
    constructor
    · intro h; cases h
    · rintro ⟨j, h, _⟩; omega
  | k + 1 => by
    show r ∈ tillR ss cs till D k ++ _ ↔ _
    rw [List.mem_append, tillR_mem (k := k), List.mem_filter, decide_eq_true_iff]
    constructor
    · rintro (⟨j, h1, h2⟩ | h)
      · exact ⟨j, by omega, h2⟩
      · exact ⟨k, by omega, h⟩
    · rintro ⟨j, h1, h2⟩
      by_cases c : j = k
      · subst c; exact .inr h2
      · exact .inl ⟨j, by omega, h2⟩

/-- A ride as it should be. -/
def Okr (r : Rd) : Prop := 0 ≤ r.fr ∧ r.fr < 32 ∧ 0 ≤ r.tu ∧ r.tu < 32 ∧ r.bg < r.en ∧ r.en ≤ 1100000000
/-- Where one can be, by the rides of a list. -/
inductive CanL (l : List Rd) (fr at_ : Int) : Int → Int → Prop
  | here : CanL l fr at_ fr at_
  | ride {r : Rd} {m : Int} : r ∈ l → CanL l fr at_ r.fr m → m ≤ r.bg → CanL l fr at_ r.tu r.en
section
variable {l : List Rd} {fr at_ : Int}
theorem relax_le (b : Nat → Int) (r : Rd) (j : Nat) : relax b r j ≤ b j := by
  unfold relax upd
  split
  · show (if j = r.tu.toNat then _ else _) ≤ _
    split
    · subst j; omega
    · exact Int.le_refl _
  · exact Int.le_refl _
theorem fold_le : ∀ (l : List Rd) (b : Nat → Int) (j : Nat), l.foldl relax b j ≤ b j
  | [], _, _ => Int.le_refl _
  | r :: l, b, j => Int.le_trans (fold_le l (relax b r) j) (relax_le b r j)
theorem fold_late {B : Int} : ∀ (l : List Rd) (b : Nat → Int) (j : Nat), (∀ r ∈ l, B ≤ r.bg ∧ r.bg < r.en) → l.foldl relax b j = b j ∨ B < l.foldl relax b j
  | [], _, _, _ => .inl rfl
  | r :: l, b, j, h => by
    rcases fold_late l (relax b r) j (fun x hx => h x (.tail _ hx)) with e | e
    · by_cases c : relax b r j = b j
      · exact .inl (e.trans c)
      · refine .inr ?_
        show B < l.foldl relax (relax b r) j
        rw [e]
        have h1 := h r (.head _)
        unfold relax upd at c ⊢
        split at c
        · rename_i h2
          rw [if_pos h2]
          show B < (if j = r.tu.toNat then _ else _)
          have c2 : ¬ (if j = r.tu.toNat then min (b r.tu.toNat) r.en else b j) = b j := c
          split at c2
          · rename_i h3
            rw [if_pos h3]
            subst h3
            omega
          · exact absurd rfl c2
        · exact absurd rfl c
    · exact .inr e
def SoundB (l : List Rd) (fr at_ : Int) (b : Nat → Int) : Prop := ∀ j : Nat, j < 32 → b j = never ∨ (b j ≤ 1100000000 ∧ CanL l fr at_ (j : Int) (b j))
theorem sound_relax {b : Nat → Int} {r : Rd} (hr : r ∈ l) (ho : Okr r) (h : SoundB l fr at_ b) : SoundB l fr at_ (relax b r) := by
  intro j hj
  obtain ⟨o1, o2, o3, o4, o5, o6⟩ := ho
  unfold relax upd
  split
  · rename_i hle
    show (if j = r.tu.toNat then _ else _) = never ∨ ((if j = r.tu.toNat then _ else _) ≤ _ ∧ CanL l fr at_ (j : Int) (if j = r.tu.toNat then _ else _))
    by_cases c : j = r.tu.toNat
    · rw [if_pos c]
      refine .inr ?_
      have hc : CanL l fr at_ r.tu r.en := by
        rcases h r.fr.toNat (by omega) with e | ⟨_, e⟩
        · unfold never at e; omega
        · rw [show ((r.fr.toNat : Nat) : Int) = r.fr by omega] at e
          exact .ride hr e hle
      have hj2 : (j : Int) = r.tu := by omega
      rw [hj2]
      by_cases c2 : r.en ≤ b r.tu.toNat
      · rw [Int.min_eq_right c2]
        exact ⟨o6, hc⟩
      · rw [Int.min_eq_left (by omega)]
        rcases h r.tu.toNat (by omega) with e | ⟨e1, e⟩
        · unfold never at e; omega
        · rw [show ((r.tu.toNat : Nat) : Int) = r.tu by omega] at e
          exact ⟨e1, e⟩
    · rw [if_neg c]
      exact h j hj
  · exact h j hj
theorem sound_fold : ∀ {q : List Rd} {b : Nat → Int}, (∀ r ∈ q, r ∈ l ∧ Okr r) → SoundB l fr at_ b → SoundB l fr at_ (q.foldl relax b)
  | [], _, _, h => h
  | r :: q, _, hq, h => sound_fold (q := q) (fun x hx => hq x (.tail _ hx)) (sound_relax (hq r (.head _)).1 (hq r (.head _)).2 h)
theorem soon_sound (hl : ∀ r ∈ l, Okr r) (h0 : 0 ≤ fr) (ha : at_ ≤ 1100000000) : SoundB l fr at_ (soonB l fr at_) := by
  refine sound_fold (fun r hr => ⟨hr, hl r hr⟩) fun j hj => ?_
  show (if j = fr.toNat then at_ else never) = never ∨ ((if j = fr.toNat then at_ else never) ≤ _ ∧ CanL l fr at_ (j : Int) (if j = fr.toNat then at_ else never))
  by_cases c : j = fr.toNat
  · rw [if_pos c, show (j : Int) = fr by omega]
    exact .inr ⟨ha, .here⟩
  · rw [if_neg c]
    exact .inl rfl
theorem soon_least (hl : ∀ r ∈ l, Okr r) (hs : l.Pairwise fun a b => a.bg ≤ b.bg) {s m : Int} (h : CanL l fr at_ s m) : soonB l fr at_ s.toNat ≤ m := by
  induction h with
  | here =>
    refine Int.le_trans (fold_le l _ _) ?_
    show (if fr.toNat = fr.toNat then at_ else never) ≤ at_
    rw [if_pos rfl]
    exact Int.le_refl _
  | @ride r m hr _ hm ih =>
    obtain ⟨p, q, rfl⟩ := List.append_of_mem hr
    have hq : ∀ x ∈ q, r.bg ≤ x.bg ∧ x.bg < x.en := fun x hx => by
      have h1 := (List.pairwise_append.1 hs).2.1
      exact ⟨(List.pairwise_cons.1 h1).1 x hx, (hl x (by simp [hx])).2.2.2.2.1⟩
    unfold soonB at ih ⊢
    rw [List.foldl_append, List.foldl_cons] at ih ⊢
    generalize List.foldl relax (begB fr at_) p = bp at *
    have hle : bp r.fr.toNat ≤ r.bg := by
      by_cases c : bp r.fr.toNat ≤ r.bg
      · exact c
      · have e : relax bp r = bp := by unfold relax; rw [if_neg c]
        rw [e] at ih
        rcases fold_late q bp r.fr.toNat hq with h | h
        · omega
        · omega
    refine Int.le_trans (fold_le q _ _) ?_
    unfold relax upd
    rw [if_pos hle]
    show (if r.tu.toNat = r.tu.toNat then _ else _) ≤ _
    rw [if_pos rfl]
    omega
end

/-! ### both ways are one -/
theorem okr_of {n : Nw} {D : Int} {till : Int} {r : Rd} {k : Nat} (hM : mayN n = true) (ht : till ≤ 1100000000) (h : r ∈ tillR n.ss n.cs till D k) : Okr r := by
  obtain ⟨j, _, h1, h2⟩ := tillR_mem.1 h
  obtain ⟨c, hc, _, rfl⟩ := dayR_mem.1 h1
  obtain ⟨i, hi, rfl⟩ := c_idx hc
  obtain ⟨_, _, o1, o2, _, _, o3, _⟩ := (mayN_is hM).2.2.2 i hi
  have := stopB_is o1
  have := stopB_is o2
  refine ⟨?_, ?_, ?_, ?_, ?_, ?_⟩ <;> unfold rdOf at * <;> simp only at * <;> omega
theorem can_list {n : Nw} {fr at_ till D : Int} {k : Nat} {l : List Rd} (hM : mayN n = true) (hD : D = at_ / 1440) (hk : till ≤ 1440 * (D + (k : Int))) (hl : ∀ r, r ∈ l ↔ r ∈ tillR n.ss n.cs till D k) {s m : Int} (h : Can n.ss n.cs fr at_ till s m) : CanL l fr at_ s m := by
  induction h with
  | here => exact .here
  | @ride c E m hc hr hcan hm he ih =>
    have hg := can_ge (fine_may hM) hcan
    obtain ⟨i, hi, e⟩ := c_idx hc
    obtain ⟨_, _, _, _, o4, o5, o6, _⟩ := (mayN_is hM).2.2.2 i hi
    rw [e] at o4 o5 o6
    refine CanL.ride (r := rdOf E c) ((hl _).2 (tillR_mem.2 ⟨(E - D).toNat, by omega, ?_, he⟩)) ih hm
    rw [show D + (((E - D).toNat : Nat) : Int) = E by omega]
    exact dayR_mem.2 ⟨c, hc, hr, rfl⟩
theorem can_unlist {n : Nw} {fr at_ till D : Int} {k : Nat} {l : List Rd} (hl : ∀ r, r ∈ l ↔ r ∈ tillR n.ss n.cs till D k) {s m : Int} (h : CanL l fr at_ s m) : Can n.ss n.cs fr at_ till s m := by
  induction h with
  | here => exact .here
  | @ride r m hr _ hm ih =>
    obtain ⟨j, _, h1, h2⟩ := tillR_mem.1 ((hl r).1 hr)
    obtain ⟨c, hc, hrun, rfl⟩ := dayR_mem.1 h1
    exact .ride hc hrun ih hm h2
/-- What is told is the least minute. -/
theorem soon_earl {n : Nw} {fr at_ tu till D x : Int} {k : Nat} {l : List Rd} (hf : fairN n fr at_ tu till = true) (hD : D = at_ / 1440) (hk : till ≤ 1440 * (D + (k : Int)))
    (hp : l.Perm (tillR n.ss n.cs till D k)) (hs : l.Pairwise fun a b => a.bg ≤ b.bg) (hx : x = soonB l fr at_ tu.toNat) :
    (x = never ∧ EarlP n fr at_ tu till 0 false) ∨ (x ≠ never ∧ EarlP n fr at_ tu till x true) := by
  obtain ⟨hM, hsf, hst, _, hb1, hb2, hb3⟩ := fairN_is hf
  have hl : ∀ r, r ∈ l ↔ r ∈ tillR n.ss n.cs till D k := fun r => hp.mem_iff
  have ho : ∀ r ∈ l, Okr r := fun r hr => okr_of hM (by omega) ((hl r).1 hr)
  have h1 := soon_sound (l := l) (fr := fr) (at_ := at_) ho (stopB_is hsf).1 (by omega)
  have h2 : ∀ m, Can n.ss n.cs fr at_ till tu m → x ≤ m := fun m hm => by
    rw [hx]
    exact soon_least ho hs (can_list hM hD hk hl hm)
  have hu := stopB_is hst
  have e : ((tu.toNat : Nat) : Int) = tu := by omega
  rcases h1 tu.toNat (by omega) with h | ⟨h3, h⟩
  · rw [← hx] at h
    refine .inl ⟨h, .inr ⟨rfl, rfl, fun m hm => ?_⟩⟩
    have := h2 m hm
    have := can_le hb2 hm
    unfold never at h
    omega
  · rw [← hx, e] at h
    rw [← hx] at h3
    exact .inr ⟨by unfold never; omega, .inl ⟨rfl, can_unlist hl h, h2⟩⟩
end Go.Proofs.Ytebcdhfmhnhalaa
