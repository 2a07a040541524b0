/-
  Slices of texts; ticket.put: the bytes of fields from Tag 1 on, of those texts.
-/
import Derived.Test.YtoikgkjkcampkaaK1
import Derived.Test.YtoikgkjkcampkaaTI
namespace Go.Proofs.Ytoikgkjkcampkaa
open Go.RowKit

/-- Fields from Tag t on, of these texts. -/
def tagFs : Int → List (List Nat) → List Fd
  | _, [] => []
  | t, x :: r => (t, x) :: tagFs (t + 1) r
theorem tagFs_length : ∀ (t : Int) (l : List (List Nat)), (tagFs t l).length = l.length
  | _, [] => rfl
  | t, _ :: r => by
    show (tagFs (t + 1) r).length + 1 = r.length + 1
    rw [tagFs_length (t + 1) r]
theorem tagFs_get : ∀ (t : Int) (l : List (List Nat)) (i : Nat), i < l.length → tgF (tagFs t l) i = t + i ∧ bsF (tagFs t l) i = l.getD i []
  | _, [], _, h => by simp at h
  | t, n :: r, 0, _ => ⟨by show t = t + ((0 : Nat) : Int); omega, rfl⟩
  | t, n :: r, i + 1, h => by
    obtain ⟨h1, h2⟩ := tagFs_get (t + 1) r i (by simpa using h)
    refine ⟨?_, h2⟩
    show tgF (tagFs (t + 1) r) i = _
    rw [h1]
    omega
theorem tagFs_num : ∀ (t : Int) (l : List Int), tagFs t (l.map numB) = numFs t l
  | _, [] => rfl
  | t, n :: r => by
    show (t, numB n) :: tagFs (t + 1) (r.map numB) = (t, numB n) :: numFs (t + 1) r
    rw [tagFs_num (t + 1) r]
theorem tagFs_byt : ∀ {t : Int} {l : List (List Nat)}, (∀ x ∈ l, Byt x) → BytF (tagFs t l)
  | _, [], _ => fun f hf => by cases hf
  | t, x :: r, h => fun f hf => by
    rcases List.mem_cons.1 hf with rfl | hf
    · exact h _ List.mem_cons_self
    · exact tagFs_byt (t := t + 1) (fun y hy => h y (List.mem_cons_of_mem _ hy)) f hf
/-- v is a slice of these texts. -/
def Vs (w : World) (v : Value) (l : List (List Nat)) : Prop := (∀ x ∈ l, Byt x) ∧ ∃ AL c, v = .slice AL l.length c ∧ l.length ≤ c ∧ (l.length = 0 ∨ ∃ b o, AL = some ⟨b, o, none⟩ ∧ b < w.heap.size ∧
  ∀ i, i < l.length → ∃ A c', w.cell? ⟨b, o + i, none⟩ = some (.slice A (l.getD i []).length c') ∧ (l.getD i []).length ≤ c' ∧ Bs w A (l.getD i []))
theorem Vs.ext {w w' : World} {v : Value} {l : List (List Nat)} (h : Vs w v l) (k : Ext w w') : Vs w' v l := by
  obtain ⟨hB, AL, c, e, hc, h⟩ := h
  refine ⟨hB, AL, c, e, hc, h.imp id ?_⟩
  rintro ⟨b, o, e, hb, hx⟩
  refine ⟨b, o, e, Nat.lt_of_lt_of_le hb k.size, fun i hi => ?_⟩
  obtain ⟨A, c', h2, h3, h4⟩ := hx i hi
  exact ⟨A, c', (k.cell hb).trans h2, h3, h4.ext k⟩

theorem pre_new (w : World) (C : Array Value) (t m : Nat) (hm : m = C.size) : Pre (w.alloc (.cells C t)) w.heap.size t m (fun j => C.getD j undef) :=
  ⟨C, heap_new w _, fun i hi => by
    have : i < C.size := by omega
    simp [Array.getD, this]⟩
theorem Pre.there {w : World} {g t n : Nat} {f : Nat → Value} (p : Pre w g t n f) {i : Nat} (hi : i + 2 ≤ n) : w.there g i 2 := fun j hj => ⟨by rw [p.cell (show i + j < n by omega)]; rfl, p.frozen _⟩
theorem Pre.two {w : World} {g t n : Nat} {f : Nat → Value} (p : Pre w g t n f) (i : Nat) (x y : Value) : Pre (w.setCells g i [x, y]) g t n (fun j => if j = i + 1 then y else if j = i then x else f j) := (p.set i x).set (i + 1) y
/-- The fields that were laid so far. -/
def Laid (w : World) (l : List (List Nat)) (f : Nat → Value) (i : Nat) : Prop := ∀ j, j < i → f (j * 2) = .int .i64 ((j : Int) + 1) ∧ ∃ A c, f (j * 2 + 1) = .slice A (l.getD j []).length c ∧ (l.getD j []).length ≤ c ∧ Bs w A (l.getD j [])
theorem Laid.step {w : World} {l : List (List Nat)} {f : Nat → Value} {i c : Nat} {A : Option Addr} (h : Laid w l f i) (hc : (l.getD i []).length ≤ c) (hB : Bs w A (l.getD i [])) :
    Laid w l (fun j => if j = i * 2 + 1 then .slice A (l.getD i []).length c else if j = i * 2 then .int .i64 ((i : Int) + 1) else f j) (i + 1) := fun j hj => by
  by_cases e : j = i
  · subst e
    exact ⟨by simp only; rw [if_neg (by omega), if_pos trivial], A, c, by simp only; rw [if_pos trivial], hc, hB⟩
  · obtain ⟨h1, h2⟩ := h j (by omega)
    refine ⟨?_, ?_⟩
    · simp only
      rw [if_neg (by omega), if_neg (by omega)]
      exact h1
    · simp only
      rw [if_neg (by omega), if_neg (by omega)]
      exact h2
end Go.Proofs.Ytoikgkjkcampkaa
