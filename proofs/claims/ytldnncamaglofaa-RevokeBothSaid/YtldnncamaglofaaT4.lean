/-
  A slice of fields that the call owns; clapperref08.Get: the fields of bytes.
-/
import Derived.Test.YtldnncamaglofaaT3
import Derived.Deep.MidRow
import Derived.Laws.OwnMore
import Derived.Maps.AppendAt
namespace Go.Proofs.Ytldnncamaglofaa
open Go.RowKit

/-- The cells of fields, one behind the other; each one's bytes lie at an entry of al. -/
def cellsFs : List Fd → List (Option Addr × Nat) → List Value
  | f :: fs, a :: al => [.int .i64 f.1, .slice a.1 f.2.length a.2] ++ cellsFs fs al
  | _, _ => []
theorem cellsFs_length : ∀ {fs : List Fd} {al : List (Option Addr × Nat)}, al.length = fs.length → (cellsFs fs al).length = fs.length * 2
  | [], [], _ => rfl
  | [], _ :: _, h => by simp at h
  | _ :: _, [], h => by simp at h
  | f :: fs, a :: al, h => by
    have := cellsFs_length (fs := fs) (al := al) (by simpa using h)
    show ([_, _] ++ cellsFs fs al).length = _
    rw [List.length_append, this, List.length_cons]
    simp
    omega
theorem cellsFs_append : ∀ {fs : List Fd} {al : List (Option Addr × Nat)} (f : Fd) (a : Option Addr × Nat), al.length = fs.length → cellsFs (fs ++ [f]) (al ++ [a]) = cellsFs fs al ++ [.int .i64 f.1, .slice a.1 f.2.length a.2]
  | [], [], _, _, _ => rfl
  | [], _ :: _, _, _, h => by simp at h
  | _ :: _, [], _, _, h => by simp at h
  | g :: fs, b :: al, f, a, h => by
    show [_, _] ++ cellsFs (fs ++ [f]) (al ++ [a]) = ([_, _] ++ cellsFs fs al) ++ _
    rw [cellsFs_append f a (by simpa using h), List.append_assoc]
theorem cellsFs_at : ∀ {fs : List Fd} {al : List (Option Addr × Nat)} {i : Nat}, al.length = fs.length → i < fs.length →
    (cellsFs fs al)[i * 2]? = some (.int .i64 (tgF fs i)) ∧ (cellsFs fs al)[i * 2 + 1]? = some (.slice (al.getD i (none, 0)).1 (bsF fs i).length (al.getD i (none, 0)).2)
  | [], _, _, _, h => by simp at h
  | _ :: _, [], _, h, _ => by simp at h
  | f :: fs, a :: al, 0, _, _ => ⟨rfl, rfl⟩
  | f :: fs, a :: al, i + 1, h, hi => by
    have ih := cellsFs_at (fs := fs) (al := al) (i := i) (by simpa using h) (by simpa using hi)
    have e : (i + 1) * 2 = i * 2 + 1 + 1 := by omega
    rw [e]
    exact ih
/-- No byte of them lies in that block. -/
def Off (A : Option Addr) (bs : List Nat) (row : Option Nat) : Prop := bs.length = 0 ∨ ∀ b o, A = some ⟨b, o, none⟩ → row ≠ some b
/-- v is the call's own slice of these fields, each one's bytes in another block. -/
def OwnFs (w : World) (base : Nat) (v : Value) (fs : List Fd) : Prop := BytF fs ∧ ∃ al : List (Option Addr × Nat), al.length = fs.length ∧ w.ownsRow base 48 2 v fs.length (cellsFs fs al) ∧
  ∀ i, i < fs.length → (bsF fs i).length ≤ (al.getD i (none, 0)).2 ∧ Bs w (al.getD i (none, 0)).1 (bsF fs i) ∧ Off (al.getD i (none, 0)).1 (bsF fs i) v.ownBlock
theorem Bs.but {w w' : World} {A : Option Addr} {bs : List Nat} {row : Option Nat} (h : Bs w A bs) (k : w.grownBy w' row) (hne : Off A bs row) : Bs w' A bs := by
  rcases hne with h0 | hne
  · exact ⟨h.1, .inl h0⟩
  · exact ⟨h.1, h.2.imp id fun ⟨b, o, e, hb, hc⟩ => ⟨b, o, e, Nat.lt_of_lt_of_le hb k.size, fun j hj => (World.cell?_of_block (a := ⟨b, o + j, none⟩) (k.block b hb (fun e2 => hne b o e e2.symm))).trans (hc j hj)⟩⟩
theorem OwnFs.nil (w : World) (base : Nat) : OwnFs w base (.slice none 0 0) [] := ⟨fun _ h => (by cases h), [], rfl, World.ownsRow_nil _ _ _ _, fun i hi => by simp at hi⟩
theorem OwnFs.keep {w w' : World} {base : Nat} {v : Value} {fs : List Fd} (o : OwnFs w base v fs) (h : Ext w w') : OwnFs w' base v fs := by
  obtain ⟨hB, al, hl, hr, hx⟩ := o
  refine ⟨hB, al, hl, ⟨hr.1, ?_⟩, fun i hi => ⟨(hx i hi).1, (hx i hi).2.1.ext h, (hx i hi).2.2⟩⟩
  rcases hr.2 with hn | ⟨g, cap, cur, rfl, hbg, hh, rest⟩
  · exact .inl hn
  · exact .inr ⟨g, cap, cur, rfl, hbg, h.block hh, rest⟩
theorem OwnFs.lt {w : World} {base : Nat} {v : Value} {fs : List Fd} (o : OwnFs w base v fs) {k : Nat} (hk : v.ownBlock = some k) : base ≤ k ∧ k < w.heap.size := by
  obtain ⟨_, al, _, hr, _⟩ := o
  exact World.ownsRow.lt hr k hk
theorem OwnFs.fl {w : World} {base : Nat} {v : Value} {fs : List Fd} (o : OwnFs w base v fs) : Fl w v fs := by
  obtain ⟨hB, al, hl, hr, hx⟩ := o
  rcases hr.2 with ⟨rfl, h0⟩ | ⟨g, cap, cur, rfl, hbg, hh, hn, hm, hs, ht⟩
  · exact ⟨hB, none, 0, by rw [h0], by omega, .inl h0⟩
  · refine ⟨hB, _, cap, rfl, hn, ?_⟩
    by_cases h0 : fs.length = 0
    · exact .inl h0
    · refine .inr ⟨g, 0, rfl, (Array.getElem?_eq_some_iff.1 hh).1, fun i hi => ?_⟩
      have hcell : ∀ k, k < fs.length * 2 → w.cell? ⟨g, k, none⟩ = (cellsFs fs al)[k]? := fun k hk => by
        rw [cell_of_row w g k cur _ _ hh, ← ht, List.getElem?_take_of_lt hk]
        simp
      obtain ⟨c0, c1⟩ := cellsFs_at hl hi
      refine ⟨by rw [Nat.zero_add, hcell _ (by omega)]; exact c0, _, _, by rw [Nat.zero_add, hcell _ (by omega)]; exact c1, (hx i hi).1, (hx i hi).2.1⟩
theorem infoF16 : (Try.prog.info? 48).map (fun i => (i.zero, i.size, i.bytes)) = some (some (.agg #[.int .i64 0, .slice none 0 0]), 2, 32) := by kernel_rfl
theorem info_parts2 {i : Option TypeInfo} {z : Value} {n b : Nat} (h : i.map (fun i => (i.zero, i.size, i.bytes)) = some (some z, n, b)) : ∃ j, i = some j ∧ j.zero = some z ∧ j.size = n ∧ j.bytes = b := by
  cases i with
  | none => simp at h
  | some j =>
    simp only [Option.map_some, Option.some.injEq, Prod.mk.injEq] at h
    exact ⟨j, rfl, h.1, h.2.1, h.2.2⟩
theorem tgF_lt {fs : List Fd} {f : Fd} {i : Nat} (h : i < fs.length) : tgF (fs ++ [f]) i = tgF fs i ∧ bsF (fs ++ [f]) i = bsF fs i := by
  unfold tgF bsF
  simp only [List.getD_eq_getElem?_getD, List.getElem?_append_left h, and_self]
theorem tgF_last (fs : List Fd) (f : Fd) : tgF (fs ++ [f]) fs.length = f.1 ∧ bsF (fs ++ [f]) fs.length = f.2 := by
  unfold tgF bsF
  simp
/-- One field, appended. -/
theorem run_append_fd {w : World} {base : Nat} {v : Value} {fs : List Fd} (ty : TypeId) (hown : OwnFs w base v fs) (g : Nat) (f : Fd) (a : Option Addr × Nat) (c1 : Nat)
    (hg : w.heap[g]? = some (.cells #[.int .i64 f.1, .slice a.1 f.2.length a.2] 48 (0, 0))) (hc : f.2.length ≤ a.2) (hb : Bs w a.1 f.2) (hne : Off a.1 f.2 v.ownBlock)
    (hn : fs.length ≤ 1000000000) (hbase : base ≤ w.heap.size) :
    ∃ v' w', (Builtin.append_ #[49, 49] ty #[v, .slice (some ⟨g, 0, none⟩) 1 c1]).run Try.prog w = .ok v' w' ∧ OwnFs w' base v' (fs ++ [f]) ∧ w.grownBy w' v.ownBlock := by
  obtain ⟨i, hi, hz, hsz, hby⟩ := info_parts2 infoF16
  obtain ⟨hB, al, hl, hr, hx⟩ := hown
  obtain ⟨v', w', hrun, h2, h3, _, h5⟩ := run_append_own_at (P := Try.prog) w base 49 ty 48 i _ 2 32 Try.underlying49 hi hz hsz hby rfl (by decide) v fs.length (cellsFs fs al) hr ⟨g, 0, none⟩ 1 c1 [.int .i64 f.1, .slice a.1 f.2.length a.2] rfl
    (fun j u hu => by
      rw [Addr.add_mid, Nat.zero_add, cell_of_row w g j _ _ _ hg]
      simpa using hu)
    (fun u hu => by
      simp only [List.mem_cons, List.not_mem_nil, or_false] at hu
      rcases hu with rfl | rfl <;> rfl) (by unfold maxLen; omega) (by omega) hbase
  refine ⟨v', w', hrun, ⟨?_, al ++ [a], by simp [hl], ?_, fun k hk => ?_⟩, h3⟩
  · intro x hx'
    rcases List.mem_append.1 hx' with h | h
    · exact hB x h
    · rw [List.mem_singleton.1 h]; exact hb.1
  · rw [cellsFs_append f a hl, List.length_append]
    exact h2
  · have hout : ∀ (A : Option Addr) (bs : List Nat), Bs w A bs → Off A bs v.ownBlock → Off A bs v'.ownBlock := by
      intro A bs hA hn1
      rcases hn1 with h0 | hn1
      · exact .inl h0
      · rcases hA.2 with h | ⟨b', o', e', hb', _⟩
        · exact .inl h
        · refine .inr fun b o e e2 => ?_
          rw [e] at e'
          injection e' with e'
          injection e' with e4
          rcases h5 with h5 | h5
          · rw [h5] at e2; exact hn1 b o e e2
          · rw [h5] at e2
            have e3 : w.heap.size = b := by injection e2
            omega
    rw [List.length_append, List.length_singleton] at hk
    by_cases hlt : k < fs.length
    · obtain ⟨e1, e2⟩ := tgF_lt (f := f) hlt
      have e3 : (al ++ [a]).getD k (none, 0) = al.getD k (none, 0) := by
        simp only [List.getD_eq_getElem?_getD, List.getElem?_append_left (show k < al.length by omega)]
      obtain ⟨x1, x2, x3⟩ := hx k hlt
      rw [e2, e3]
      exact ⟨x1, x2.but h3 x3, hout _ _ x2 x3⟩
    · obtain rfl : k = fs.length := by omega
      obtain ⟨e1, e2⟩ := tgF_last fs f
      have e3 : (al ++ [a]).getD fs.length (none, 0) = a := by
        rw [← hl]
        simp
      rw [e2, e3]
      exact ⟨hc, hb.but h3 hne, hout _ _ hb hne⟩
end Go.Proofs.Ytldnncamaglofaa
