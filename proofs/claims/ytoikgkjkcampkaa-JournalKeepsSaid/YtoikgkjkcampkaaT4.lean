/-
  A slice of fields that the call owns; clapperref08.Get: the fields of bytes.
-/
import Derived.Test.YtoikgkjkcampkaaT3
import Derived.Deep.MidRow
import Derived.Laws.OwnMore
import Derived.Maps.AppendAt
namespace Go.Proofs.Ytoikgkjkcampkaa
open Go.RowKit

/-- The cells of fields, one behind the other; each one's bytes lie at an entry of al. -/
def cellsFs : List Fd → List (Option Addr × Nat) → List Value
  | f :: fs, a :: al => [.int .i64 f.1, .slice a.1 f.2.length a.2] ++ cellsFs fs al
  | _, _ => []
theorem cellsFs_length : ∀ {fs : List Fd} {al : List (Option Addr × Nat)}, al.length = fs.length → (cellsFs fs al).length = fs.length * 2
  | [], [], _ => rfl
  | [], _ :: _, h => by simp at h
  | _ :: _, [], h => by simp at h
  | f :: fs, a :: al, h => by
    have := cellsFs_length (fs := fs) (al := al) (by simpa using h)
    show ([_, _] ++ cellsFs fs al).length = _
    rw [List.length_append, this, List.length_cons]
    simp
    omega
theorem cellsFs_append : ∀ {fs : List Fd} {al : List (Option Addr × Nat)} (f : Fd) (a : Option Addr × Nat), al.length = fs.length → cellsFs (fs ++ [f]) (al ++ [a]) = cellsFs fs al ++ [.int .i64 f.1, .slice a.1 f.2.length a.2]
  | [], [], _, _, _ => rfl
  | [], _ :: _, _, _, h => by simp at h
  | _ :: _, [], _, _, h => by simp at h
  | g :: fs, b :: al, f, a, h => by
    show [_, _] ++ cellsFs (fs ++ [f]) (al ++ [a]) = ([_, _] ++ cellsFs fs al) ++ _
    rw [cellsFs_append f a (by simpa using h), List.append_assoc]
theorem cellsFs_at : ∀ {fs : List Fd} {al : List (Option Addr × Nat)} {i : Nat}, al.length = fs.length → i < fs.length →
    (cellsFs fs al)[i * 2]? = some (.int .i64 (tgF fs i)) ∧ (cellsFs fs al)[i * 2 + 1]? = some (.slice (al.getD i (none, 0)).1 (bsF fs i).length (al.getD i (none, 0)).2)
  | [], _, _, _, h => by simp at h
  | _ :: _, [], _, h, _ => by simp at h
  | f :: fs, a :: al, 0, _, _ => ⟨rfl, rfl⟩
  | f :: fs, a :: al, i + 1, h, hi => by
    have ih := cellsFs_at (fs := fs) (al := al) (i := i) (by simpa using h) (by simpa using hi)
    have e : (i + 1) * 2 = i * 2 + 1 + 1 := by omega
    rw [e]
    exact ih
/-- No byte of them lies in that block. -/
def Off (A : Option Addr) (bs : List Nat) (row : Option Nat) : Prop := bs.length = 0 ∨ ∀ b o, A = some ⟨b, o, none⟩ → row ≠ some b
theorem Bs.but {w w' : World} {A : Option Addr} {bs : List Nat} {row : Option Nat} (h : Bs w A bs) (k : w.grownBy w' row) (hne : Off A bs row) : Bs w' A bs := by
  rcases hne with h0 | hne
  · exact ⟨h.1, .inl h0⟩
  · exact ⟨h.1, h.2.imp id fun ⟨b, o, e, hb, hc⟩ => ⟨b, o, e, Nat.lt_of_lt_of_le hb k.size, fun j hj => (World.cell?_of_block (a := ⟨b, o + j, none⟩) (k.block b hb (fun e2 => hne b o e e2.symm))).trans (hc j hj)⟩⟩
theorem info_parts2 {i : Option TypeInfo} {z : Value} {n b : Nat} (h : i.map (fun i => (i.zero, i.size, i.bytes)) = some (some z, n, b)) : ∃ j, i = some j ∧ j.zero = some z ∧ j.size = n ∧ j.bytes = b := by
  cases i with
  | none => simp at h
  | some j =>
    simp only [Option.map_some, Option.some.injEq, Prod.mk.injEq] at h
    exact ⟨j, rfl, h.1, h.2.1, h.2.2⟩
theorem tgF_lt {fs : List Fd} {f : Fd} {i : Nat} (h : i < fs.length) : tgF (fs ++ [f]) i = tgF fs i ∧ bsF (fs ++ [f]) i = bsF fs i := by
  unfold tgF bsF
  simp only [List.getD_eq_getElem?_getD, List.getElem?_append_left h, and_self]
theorem tgF_last (fs : List Fd) (f : Fd) : tgF (fs ++ [f]) fs.length = f.1 ∧ bsF (fs ++ [f]) fs.length = f.2 := by
  unfold tgF bsF
  simp
end Go.Proofs.Ytoikgkjkcampkaa
