/-
  Layer 13's mathematics: networks; where one can be, and when; the least minute.
-/
import Derived.Test.YtebcdhfmhnhalaaSva
namespace Go.Proofs.Ytebcdhfmhnhalaa

/-- A ride: its service, from, its beginning, to, its end. -/
structure Cn where
  sv : Int
  fr : Int
  dp : Int
  tu : Int
  ar : Int
structure Nw where
  ss : List Sv
  cs : List Cn
def noSv : Sv := ⟨0, 0, 0, [], []⟩
def noCn : Cn := ⟨0, 0, 0, 0, 0⟩
def stopB (x : Int) : Bool := decide (0 ≤ x) && decide (x < 32)
theorem stopB_is {x : Int} (h : stopB x = true) : 0 ≤ x ∧ x < 32 := by
  unfold stopB at h
  simp only [Bool.and_eq_true, decide_eq_true_eq] at h
  exact h
theorem stopB_of {x : Int} (h : 0 ≤ x ∧ x < 32) : stopB x = true := by unfold stopB; rw [decide_eq_true h.1, decide_eq_true h.2]; rfl
/-- A ride in a network of k services. -/
def okC (k : Nat) (c : Cn) : Prop := 0 ≤ c.sv ∧ c.sv < (k : Int) ∧ stopB c.fr = true ∧ stopB c.tu = true ∧ 0 ≤ c.dp ∧ c.dp ≤ 1439 ∧ c.dp < c.ar ∧ c.ar ≤ 2879
instance (k : Nat) (c : Cn) : Decidable (okC k c) := by unfold okC; infer_instance
def mayN (n : Nw) : Bool := decide (n.ss.length ≤ 16 ∧ n.cs.length ≤ 100 ∧ (∀ i, i < n.ss.length → mayV (n.ss.getD i noSv) = true) ∧ ∀ i, i < n.cs.length → okC n.ss.length (n.cs.getD i noCn))
theorem mayN_is {n : Nw} (h : mayN n = true) : n.ss.length ≤ 16 ∧ n.cs.length ≤ 100 ∧ (∀ i, i < n.ss.length → mayV (n.ss.getD i noSv) = true) ∧ ∀ i, i < n.cs.length → okC n.ss.length (n.cs.getD i noCn) := of_decide_eq_true h
theorem mayN_no {n : Nw} (h : ¬ (n.ss.length ≤ 16 ∧ n.cs.length ≤ 100 ∧ (∀ i, i < n.ss.length → mayV (n.ss.getD i noSv) = true) ∧ ∀ i, i < n.cs.length → okC n.ss.length (n.cs.getD i noCn))) : mayN n = false := decide_eq_false h
/-- It may be asked. -/
def fairN (n : Nw) (fr at_ tu till : Int) : Bool := mayN n && stopB fr && stopB tu && decide (0 ≤ at_ ∧ at_ ≤ 1073741824 ∧ at_ ≤ till ∧ till - at_ ≤ 4320)
theorem fairN_is {n : Nw} {fr at_ tu till : Int} (h : fairN n fr at_ tu till = true) : mayN n = true ∧ stopB fr = true ∧ stopB tu = true ∧ 0 ≤ at_ ∧ at_ ≤ 1073741824 ∧ at_ ≤ till ∧ till - at_ ≤ 4320 := by
  unfold fairN at h
  simp only [Bool.and_eq_true] at h
  exact ⟨h.1.1.1, h.1.1.2, h.1.2, of_decide_eq_true h.2⟩
/-- A ride's service. -/
def svN (ss : List Sv) (c : Cn) : Sv := ss.getD c.sv.toNat noSv
/-- One can be at a stop at a minute, who is at fr at minute at_, by till. -/
inductive Can (ss : List Sv) (cs : List Cn) (fr at_ till : Int) : Int → Int → Prop
  | here : Can ss cs fr at_ till fr at_
  | ride {c : Cn} {D m : Int} : c ∈ cs → runsV (svN ss c) D = true → Can ss cs fr at_ till c.fr m → m ≤ 1440 * D + c.dp → 1440 * D + c.ar ≤ till → Can ss cs fr at_ till c.tu (1440 * D + c.ar)
theorem c_mem {l : List Cn} {i : Nat} (h : i < l.length) : l.getD i noCn ∈ l := by
  rw [List.getD_eq_getElem?_getD, List.getElem?_eq_getElem h]
  exact List.getElem_mem h
theorem c_idx {l : List Cn} {c : Cn} (h : c ∈ l) : ∃ i, i < l.length ∧ l.getD i noCn = c := by
  obtain ⟨i, hi, rfl⟩ := List.mem_iff_getElem.1 h
  exact ⟨i, hi, by rw [List.getD_eq_getElem?_getD, List.getElem?_eq_getElem hi]; rfl⟩
/-- Every ride takes a while, and ends at a stop. -/
def Fine (cs : List Cn) : Prop := ∀ c ∈ cs, c.dp < c.ar ∧ stopB c.tu = true
theorem fine_may {n : Nw} (h : mayN n = true) : Fine n.cs := fun c hc => by
  obtain ⟨i, hi, rfl⟩ := c_idx hc
  have := (mayN_is h).2.2.2 i hi
  exact ⟨this.2.2.2.2.2.2.1, this.2.2.2.1⟩
section
variable {ss : List Sv} {cs : List Cn} {fr at_ till s m : Int}
theorem can_ge (hF : Fine cs) (h : Can ss cs fr at_ till s m) : at_ ≤ m := by
  induction h with
  | here => exact Int.le_refl _
  | ride hc _ _ hm _ ih => have := (hF _ hc).1; omega
theorem can_le (hle : at_ ≤ till) (h : Can ss cs fr at_ till s m) : m ≤ till := by
  cases h with
  | here => exact hle
  | ride _ _ _ _ h => exact h
theorem can_stop (hF : Fine cs) (hs : stopB fr = true) (h : Can ss cs fr at_ till s m) : stopB s = true := by
  cases h with
  | here => exact hs
  | ride hc _ _ _ _ => exact (hF _ hc).2
/-- Who is there sooner can be wherever who comes later can be. -/
theorem can_wait {w : Int} (hw : 0 ≤ w) (h : Can ss cs fr (at_ + w) till s m) : ∃ m', m' ≤ m ∧ Can ss cs fr at_ till s m' := by
  induction h with
  | here => exact ⟨at_, by omega, .here⟩
  | ride hc hr _ hm hl ih =>
    obtain ⟨m', h1, h2⟩ := ih
    exact ⟨_, Int.le_refl _, .ride hc hr h2 (by omega) hl⟩
theorem can_more {c : Cn} (h : Can ss cs fr at_ till s m) : Can ss (cs ++ [c]) fr at_ till s m := by
  induction h with
  | here => exact .here
  | ride hc hr _ hm hl ih => exact .ride (List.mem_append_left _ hc) hr ih hm hl
theorem can_till {u : Int} (hu : till ≤ u) (h : Can ss cs fr at_ till s m) : Can ss cs fr at_ u s m := by
  induction h with
  | here => exact .here
  | ride hc hr _ hm hl ih => exact .ride hc hr ih hm (by omega)
theorem can_by {u : Int} (hF : Fine cs) (h : Can ss cs fr at_ u s m) (hm : m ≤ till) : Can ss cs fr at_ till s m := by
  induction h with
  | here => exact .here
  | ride hc hr _ hd _ ih =>
    have := (hF _ hc).1
    exact .ride hc hr (ih (by omega)) hd hm
theorem can_on {b t : Int} (h : Can ss cs fr at_ till b t) (k : Can ss cs b t till s m) : Can ss cs fr at_ till s m := by
  induction k with
  | here => exact h
  | ride hc hr _ hm hl ih => exact .ride hc hr ih hm hl
end
/-- The least minute: t, if is; else none. -/
def EarlP (n : Nw) (fr at_ tu till t : Int) (is : Bool) : Prop :=
  (is = true ∧ Can n.ss n.cs fr at_ till tu t ∧ ∀ m, Can n.ss n.cs fr at_ till tu m → t ≤ m) ∨ (is = false ∧ t = 0 ∧ ∀ m, ¬ Can n.ss n.cs fr at_ till tu m)
/-- What the document's own tells: below 0: none. -/
def EarlR (n : Nw) (fr at_ tu till t : Int) : Prop :=
  (0 ≤ t ∧ Can n.ss n.cs fr at_ till tu t ∧ ∀ m, Can n.ss n.cs fr at_ till tu m → t ≤ m) ∨ (t < 0 ∧ ∀ m, ¬ Can n.ss n.cs fr at_ till tu m)
section
variable {n : Nw} {fr at_ tu till t u : Int} {is is' : Bool}
theorem earl_same (h : EarlP n fr at_ tu till t is) (k : EarlP n fr at_ tu till u is') : is = is' ∧ t = u := by
  rcases h with ⟨rfl, h1, h2⟩ | ⟨rfl, rfl, h2⟩
  · rcases k with ⟨rfl, k1, k2⟩ | ⟨_, _, k2⟩
    · exact ⟨rfl, by have := h2 _ k1; have := k2 _ h1; omega⟩
    · exact absurd h1 (k2 _)
  · rcases k with ⟨rfl, k1, _⟩ | ⟨rfl, rfl, _⟩
    · exact absurd k1 (h2 _)
    · exact ⟨rfl, rfl⟩
theorem earl_ref (h : EarlP n fr at_ tu till t is) (k : EarlR n fr at_ tu till u) : (is = true ∧ 0 ≤ u ∧ t = u) ∨ (is = false ∧ u < 0 ∧ t = 0) := by
  rcases k with ⟨k0, k1, k2⟩ | ⟨k0, k2⟩
  · obtain ⟨e1, e2⟩ := earl_same h (.inl ⟨rfl, k1, k2⟩)
    exact .inl ⟨e1, k0, e2⟩
  · obtain ⟨e1, e2⟩ := earl_same h (.inr ⟨rfl, rfl, k2⟩)
    exact .inr ⟨e1, k0, e2⟩
/-- With more time the least minute is the same. -/
theorem earl_more {more : Int} (hF : Fine n.cs) (hm : 0 ≤ more) (hle : at_ ≤ till) (h : EarlP n fr at_ tu till t true) (k : EarlP n fr at_ tu (till + more) u is) : is = true ∧ u = t := by
  rcases h with ⟨_, h1, h2⟩ | ⟨h, _⟩
  · have e := earl_same k (.inl ⟨rfl, can_till (by omega) h1, fun m hm => by
      by_cases c : m ≤ till
      · exact h2 m (can_by hF hm c)
      · have := can_le hle h1
        omega⟩)
    exact e
  · cases h
theorem earl_in (hF : Fine n.cs) (hle : at_ ≤ till) (h : EarlP n fr at_ tu till t true) : at_ ≤ t ∧ t ≤ till := by
  rcases h with ⟨_, h1, _⟩ | ⟨h, _⟩
  · exact ⟨can_ge hF h1, can_le hle h1⟩
  · cases h
/-- Who leaves later isn't there earlier. -/
theorem earl_wait {w : Int} (hw : 0 ≤ w) (h : EarlP n fr at_ tu till t is) (k : EarlP n fr (at_ + w) tu till u true) : is = true ∧ t ≤ u := by
  rcases k with ⟨_, k1, _⟩ | ⟨k, _⟩
  · obtain ⟨m, hm, hc⟩ := can_wait hw k1
    rcases h with ⟨rfl, _, h2⟩ | ⟨_, _, h2⟩
    · exact ⟨rfl, by have := h2 _ hc; omega⟩
    · exact absurd hc (h2 _)
  · cases k
/-- With a ride more one isn't there later. -/
theorem earl_ride {c : Cn} (h : EarlP n fr at_ tu till t true) (k : EarlP ⟨n.ss, n.cs ++ [c]⟩ fr at_ tu till u is) : is = true ∧ u ≤ t := by
  rcases h with ⟨_, h1, _⟩ | ⟨h, _⟩
  · have h2 : Can n.ss (n.cs ++ [c]) fr at_ till tu t := can_more h1
    rcases k with ⟨rfl, _, k2⟩ | ⟨_, _, k2⟩
    · exact ⟨rfl, k2 _ h2⟩
    · exact absurd h2 (k2 _)
  · cases h
theorem earl_on {b v : Int} (h : EarlP n fr at_ b till t true) (k : EarlP n b t tu till u true) (l : EarlP n fr at_ tu till v is) : is = true ∧ v ≤ u := by
  rcases h with ⟨_, h1, _⟩ | ⟨h, _⟩
  · rcases k with ⟨_, k1, _⟩ | ⟨k, _⟩
    · have h2 := can_on h1 k1
      rcases l with ⟨rfl, _, l2⟩ | ⟨_, _, l2⟩
      · exact ⟨rfl, l2 _ h2⟩
      · exact absurd h2 (l2 _)
    · cases k
  · cases h
end

/-! ### the document's example -/
def upN : Nw := ⟨[⟨127, 0, 9, [], []⟩], [⟨0, 0, 10, 1, 20⟩, ⟨0, 1, 20, 2, 30⟩]⟩
theorem upN_may : mayN upN = true := by decide
theorem up_runs {D : Int} (h : runsV ⟨127, 0, 9, [], []⟩ D = true) : 0 ≤ D := (runsV_bound (s := ⟨127, 0, 9, [], []⟩) (by decide) h).1
theorem upN_30 {t : Int} {is : Bool} (h : EarlP upN 0 0 2 100 t is) : is = true ∧ t = 30 := by
  refine earl_same h (.inl ⟨rfl, ?_, ?_⟩)
  · have h0 : Can upN.ss upN.cs 0 0 100 1 (1440 * 0 + 20) := .ride (c := ⟨0, 0, 10, 1, 20⟩) (D := 0) (.head _) (by decide) .here (by decide) (by decide)
    exact .ride (c := ⟨0, 1, 20, 2, 30⟩) (D := 0) (.tail _ (.head _)) (by decide) h0 (by decide) (by decide)
  · intro m hm
    generalize hs : (2 : Int) = s at hm
    cases hm with
    | here => cases hs
    | @ride c D m hc hr hm hd hl =>
      have hc2 : c = ⟨0, 0, 10, 1, 20⟩ ∨ c = ⟨0, 1, 20, 2, 30⟩ := by simpa [upN] using hc
      rcases hc2 with rfl | rfl
      · cases hs
      · have h0 := up_runs hr
        show 30 ≤ 1440 * D + 30
        omega
theorem upN_no {t : Int} {is : Bool} (h : EarlP upN 0 0 3 100 t is) : is = false ∧ t = 0 := by
  refine earl_same h (.inr ⟨rfl, rfl, ?_⟩)
  intro m hm
  generalize hs : (3 : Int) = s at hm
  cases hm with
  | here => cases hs
  | @ride c D m hc hr hm hd hl =>
    have hc2 : c = ⟨0, 0, 10, 1, 20⟩ ∨ c = ⟨0, 1, 20, 2, 30⟩ := by simpa [upN] using hc
    rcases hc2 with rfl | rfl <;> cases hs
theorem upN_fair {t : Int} (h : stopB t = true) : fairN upN 0 0 t 100 = true := by
  unfold fairN
  rw [upN_may, h]
  decide
end Go.Proofs.Ytebcdhfmhnhalaa
