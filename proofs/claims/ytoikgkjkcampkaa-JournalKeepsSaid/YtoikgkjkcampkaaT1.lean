/-
  Bytes in memory as lists; fields in memory; texts out of bytes; arguments opened.
-/
import Derived.Test.YtoikgkjkcampkaaT0
import Derived.Test.YtoikgkjkcampkaaMade
import Derived.Test.YtoikgkjkcampkaaOwn
import Derived.Test.YtoikgkjkcampkaaCut
import Derived.BigQuiet
import Derived.BigRegion
import Derived.Laws.BytesString
import Derived.Deep.SlicePairs
import Derived.Deep.LoopGhost
import Derived.Deep.Cut
import Derived.Deep.CutRange
namespace Go.Proofs.Ytoikgkjkcampkaa
open Go.RowKit

theorem Ext.drewK (w : World) (k : Nat) : Ext w (w.drewN k) := ⟨rfl, rfl, rfl, Nat.le_refl _, fun _ _ => rfl⟩
theorem Ext.cell {w w' : World} (h : Ext w w') {b o : Nat} (hb : b < w.heap.size) : w'.cell? ⟨b, o, none⟩ = w.cell? ⟨b, o, none⟩ := Below.cell h (p := ⟨b, o, none⟩) hb

/-! ### bytes -/
/-- The bytes from A on are bs. -/
def Bs (w : World) (A : Option Addr) (bs : List Nat) : Prop := Byt bs ∧ (bs.length = 0 ∨ ∃ b o, A = some ⟨b, o, none⟩ ∧ b < w.heap.size ∧ ∀ j, j < bs.length → w.cell? ⟨b, o + j, none⟩ = some (.int .u8 (bs.getD j 0 : Nat)))
theorem Bs.ext {w w' : World} {A : Option Addr} {bs : List Nat} (h : Bs w A bs) (k : Ext w w') : Bs w' A bs :=
  ⟨h.1, h.2.imp id fun ⟨b, o, e, hb, hc⟩ => ⟨b, o, e, Nat.lt_of_lt_of_le hb k.size, fun j hj => (k.cell hb).trans (hc j hj)⟩⟩
theorem Bs.cell {w : World} {A : Option Addr} {bs : List Nat} (h : Bs w A bs) {j : Nat} (hj : j < bs.length) : ∃ b o, A = some ⟨b, o, none⟩ ∧ b < w.heap.size ∧ w.cell? ⟨b, o + j, none⟩ = some (.int .u8 (bs.getD j 0 : Nat)) := by
  rcases h.2 with h | ⟨b, o, e, hb, hc⟩
  · omega
  · exact ⟨b, o, e, hb, hc j hj⟩
theorem Bs.from {w : World} {A : Option Addr} {bs : List Nat} (h : Bs w A bs) : From w A bs.length (fun j => .int .u8 (bs.getD j 0 : Nat)) :=
  h.2.imp id fun ⟨b, o, e, _, hc⟩ => ⟨_, e, fun j hj => by rw [Addr.add_mid]; exact hc j hj⟩
theorem Bs.nil (w : World) (A : Option Addr) : Bs w A [] := ⟨(fun _ h => by cases h), .inl rfl⟩
/-- Bytes cut out. -/
theorem Bs.cut {w : World} {A : Option Addr} {bs : List Nat} {c : Nat} (h : Bs w A bs) (m : Nat) {n : Nat} (hm : m + n ≤ bs.length) (hc : bs.length ≤ c) : Bs w (cutA A m c) ((bs.drop m).take n) := by
  refine ⟨(h.1.drop m).take n, ?_⟩
  have hl : ((bs.drop m).take n).length = n := by rw [List.length_take, List.length_drop]; omega
  by_cases h0 : n = 0
  · exact .inl (by rw [hl]; exact h0)
  · right
    rcases h.2 with h | ⟨b, o, rfl, hb, hcl⟩
    · omega
    · refine ⟨b, o + m, by unfold cutA; rw [if_neg (by omega)]; simp [Addr.add_mid], hb, fun j hj => ?_⟩
      rw [Nat.add_assoc, hcl (m + j) (by omega)]
      congr 3
      simp only [List.getD_eq_getElem?_getD, List.getElem?_take_of_lt (show j < n by omega), List.getElem?_drop]
/-- What the call owns, its cells the bytes bs. -/
def OwnB (w : World) (base : Nat) (v : Value) (bs : List Nat) : Prop := Byt bs ∧ Own w base 5 v bs.length (fun j => .int .u8 (bs.getD j 0 : Nat))
theorem OwnB.bs {w : World} {base : Nat} {v : Value} {bs : List Nat} (o : OwnB w base v bs) : ∃ A c, v = .slice A bs.length c ∧ bs.length ≤ c ∧ Bs w A bs := by
  obtain ⟨hB, o⟩ := o
  by_cases h : bs.length = 0
  · rcases o.2 with ⟨rfl, h0⟩ | ⟨b, cap, cur, rfl, _, _, hnc, _⟩
    · exact ⟨none, 0, by rw [h], by omega, hB, .inl h⟩
    · exact ⟨_, cap, rfl, hnc, hB, .inl h⟩
  · obtain ⟨b, cap, rfl, hnc, _, hp⟩ := o.pre (by omega)
    exact ⟨_, cap, rfl, hnc, hB, .inr ⟨b, 0, rfl, hp.lt, fun j hj => by rw [Nat.zero_add]; exact hp.cell hj⟩⟩
theorem OwnB.nil (w : World) (base : Nat) : OwnB w base (.slice none 0 0) [] := ⟨(fun _ h => by cases h), Own.nil _ _ _ _⟩
theorem OwnB.ext {w w' : World} {base : Nat} {v : Value} {bs : List Nat} (o : OwnB w base v bs) (h : Ext w w') : OwnB w' base v bs := ⟨o.1, o.2.below h (Nat.le_refl _)⟩
theorem OwnB.of {w : World} {base n : Nat} {v : Value} {f : Nat → Value} {bs : List Nat} (o : Own w base 5 v n f) (hb : Byt bs) (hn : n = bs.length) (h : ∀ j, j < bs.length → f j = .int .u8 (bs.getD j 0 : Nat)) : OwnB w base v bs := by
  subst hn
  exact ⟨hb, o.congr h⟩
theorem OwnB.append {w : World} {base n m : Nat} {v : Value} {bs cs : List Nat} (o : Own w base 5 v (n + m) (fun j => if j < n then .int .u8 (bs.getD j 0 : Nat) else .int .u8 (cs.getD (j - n) 0 : Nat))) (hb : Byt bs) (hc : Byt cs) (hn : n = bs.length) (hm : m = cs.length) : OwnB w base v (bs ++ cs) := by
  subst hn hm
  refine OwnB.of o (hb.append hc) (by simp) fun j hj => ?_
  simp only [List.getD_eq_getElem?_getD]
  by_cases h : j < bs.length
  · rw [if_pos h, List.getElem?_append_left h]
  · rw [if_neg h, List.getElem?_append_right (by omega)]

/-! ### texts -/
/-- The text of bytes. -/
def strL (bs : List Nat) : ByteArray := ⟨(bs.map fun b => UInt8.ofNat b).toArray⟩
theorem strL_toList (bs : List Nat) : (strL bs).toList = bs.map fun b => UInt8.ofNat b := by
  rw [ByteArray.toList_eq]
  rfl
theorem strL_append (a b : List Nat) : strL (a ++ b) = strL a ++ strL b := by
  unfold strL
  apply ByteArray.ext
  simp
theorem strL_inj {a b : List Nat} (ha : Byt a) (hb : Byt b) (h : strL a = strL b) : a = b := by
  have h1 : a.map (fun x => UInt8.ofNat x) = b.map fun x => UInt8.ofNat x := by
    unfold strL at h
    injection h with h
    simpa using h
  have hn : a.length = b.length := by simpa using congrArg List.length h1
  apply List.ext_getElem hn
  intro i h2 h3
  have h4 : (a.map fun x => UInt8.ofNat x)[i]? = (b.map fun x => UInt8.ofNat x)[i]? := by rw [h1]
  simp only [List.getElem?_map, List.getElem?_eq_getElem h2, List.getElem?_eq_getElem h3, Option.map_some, Option.some.injEq] at h4
  have h5 := congrArg UInt8.toNat h4
  simp only [UInt8.toNat_ofNat'] at h5
  have e1 := ha _ (List.getElem_mem h2)
  have e2 := hb _ (List.getElem_mem h3)
  omega
theorem fold_push : ∀ (l : List Int) (r : ByteArray), (l.foldl (fun r n => r.push (UInt8.ofNat n.toNat)) r).data.toList = r.data.toList ++ l.map fun n => UInt8.ofNat n.toNat
  | [], r => by simp
  | x :: l, r => by rw [List.foldl_cons, fold_push l]; simp [ByteArray.push]
theorem str_of {w : World} {A : Option Addr} {bs : List Nat} {c n : Nat} (hs : Bs w A bs) (hn : n = bs.length) : (convert 23 9 (.slice A n c)).run Try.prog w = .ok (.string (strL bs)) w := by
  subst hn
  rw [run_convert_bytes_string (P := Try.prog) w 23 9 5 _ _ _ Try.underlying23 Try.underlying5 Try.underlying9]
  have hl : ∀ l : List Int, l = (List.range bs.length).map (fun j => ((bs.getD j 0 : Nat) : Int)) → l.foldl (fun r n => r.push (UInt8.ofNat n.toNat)) ByteArray.empty = strL bs := by
    rintro l rfl
    apply ByteArray.ext
    apply Array.toList_inj.1
    rw [fold_push]
    unfold strL
    simp only [List.map_map]
    show [] ++ _ = _
    rw [List.nil_append]
    apply List.ext_getElem?
    intro i
    by_cases hi : i < bs.length
    · simp [hi]
    · simp [hi]
  rcases A with _ | ad
  · rcases hs.2 with h | ⟨b, o, ha, _⟩
    · have : bs = [] := List.length_eq_zero_iff.1 h
      subst this; rfl
    · cases ha
  · rw [← hl _ rfl]
    refine run_bytesToString (P := Try.prog) w ad bs.length c ((List.range bs.length).map fun j => ((bs.getD j 0 : Nat) : Int)) ?_
    have h := run_loadCells_list (P := Try.prog) w ad ((List.range bs.length).map fun j => Value.int .u8 (bs.getD j 0 : Nat)) (fun j v hv => by
      have hj : j < bs.length := by have := (List.getElem?_eq_some_iff.1 hv).1; simpa using this
      rcases hs.2 with h | ⟨b, o, ha, _, hc⟩
      · omega
      · cases ha
        rw [Addr.add_mid, hc j hj, ← hv]; simp [hj])
    simp only [List.length_map, List.length_range] at h
    rw [h, List.map_map]
    rfl

/-! ### fields in memory -/
/-- v is a slice of the fields fs. -/
def Fl (w : World) (v : Value) (fs : List Fd) : Prop := BytF fs ∧ ∃ AL c, v = .slice AL fs.length c ∧ fs.length ≤ c ∧ (fs.length = 0 ∨ ∃ b o, AL = some ⟨b, o, none⟩ ∧ b < w.heap.size ∧
  ∀ i, i < fs.length → w.cell? ⟨b, o + i * 2, none⟩ = some (.int .i64 (tgF fs i)) ∧ ∃ A c', w.cell? ⟨b, o + i * 2 + 1, none⟩ = some (.slice A (bsF fs i).length c') ∧ (bsF fs i).length ≤ c' ∧ Bs w A (bsF fs i))
theorem Fl.ext {w w' : World} {v : Value} {fs : List Fd} (h : Fl w v fs) (k : Ext w w') : Fl w' v fs := by
  obtain ⟨hB, AL, c, rfl, hc, h⟩ := h
  refine ⟨hB, AL, c, rfl, hc, h.imp id ?_⟩
  rintro ⟨b, o, e, hb, hx⟩
  refine ⟨b, o, e, Nat.lt_of_lt_of_le hb k.size, fun i hi => ?_⟩
  obtain ⟨h1, A, c', h2, h3, h4⟩ := hx i hi
  exact ⟨(k.cell hb).trans h1, A, c', (k.cell hb).trans h2, h3, h4.ext k⟩
theorem Fl.nil (w : World) : Fl w (.slice none 0 0) [] := ⟨fun _ h => (by cases h), none, 0, rfl, Nat.le_refl _, .inl rfl⟩
end Go.Proofs.Ytoikgkjkcampkaa
