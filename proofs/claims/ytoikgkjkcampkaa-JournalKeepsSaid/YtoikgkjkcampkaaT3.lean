/-
  clapperref08.Put: the bytes of fields.
-/
import Derived.Test.YtoikgkjkcampkaaT2
import Derived.Test.YtoikgkjkcampkaaSch
import Derived.Laws.Concat
namespace Go.Proofs.Ytoikgkjkcampkaa
open Go.RowKit

theorem strL_size (bs : List Nat) : (strL bs).size = bs.length := by simp [strL, ByteArray.size]
theorem mayFs_ok {fs : List Fd} (h : mayFs fs = true) {i : Nat} (hi : i < fs.length) : okF fs i := (of_decide_eq_true h).2 i hi
theorem mayFs_64 {fs : List Fd} (h : mayFs fs = true) : fs.length ≤ 64 := (of_decide_eq_true h).1
theorem encF_take_le {fs : List Fd} (h : mayFs fs = true) (i : Nat) : (encF (fs.take i)).length ≤ 4194432 := by
  have h1 := encF_length_le (fs.take i) 65535 fun f hf => (mayFs_each h f (List.mem_of_mem_take hf)).2.2
  have h2 := mayFs_64 h
  have h3 : (fs.take i).length ≤ 64 := by rw [List.length_take]; omega
  omega
theorem bsF_byt {fs : List Fd} (h : BytF fs) (i : Nat) : Byt (bsF fs i) := by
  unfold bsF
  rw [List.getD_eq_getElem?_getD]
  by_cases hi : i < fs.length
  · rw [List.getElem?_eq_getElem hi]; exact h _ (List.getElem_mem hi)
  · rw [List.getElem?_eq_none (by omega)]; intro x hx; cases hx

/-- The three bytes ahead of a field's, laid. -/
theorem hdr3 {w : World} {g : Nat} {T : Int} {D0 : List Nat} {L : Nat} (h : w.heap[g]? = some (.cells #[.int .u8 T, .int .u8 ((L : Int) / 256), .int .u8 ((L : Int) % 256)] 5 (0, 0))) (h1 : 1 ≤ T) (h2 : T ≤ 255) (h3 : L ≤ 65535) (hL : L = D0.length) : Bs w (some ⟨g, 0, none⟩) (hdr (T, D0)) := by
  refine ⟨hdr_byt _, .inr ⟨g, 0, rfl, (Array.getElem?_eq_some_iff.1 h).1, fun j hj => ?_⟩⟩
  rw [Nat.zero_add, cell_of_row w g j _ _ _ h]
  subst hL
  have e0 : (((T % 256).toNat : Nat) : Int) = T := by omega
  have e1 : (((D0.length / 256 % 256 : Nat) : Nat) : Int) = (D0.length : Int) / 256 := by omega
  have e2 : (((D0.length % 256 : Nat) : Nat) : Int) = (D0.length : Int) % 256 := by omega
  match j, hj with
  | 0, _ => show some (Value.int .u8 T) = some (.int .u8 (((T % 256).toNat : Nat) : Int)); rw [e0]
  | 1, _ => show some (Value.int .u8 _) = some (.int .u8 ((D0.length / 256 % 256 : Nat) : Int)); rw [e1]
  | 2, _ => show some (Value.int .u8 _) = some (.int .u8 ((D0.length % 256 : Nat) : Int)); rw [e2]

end Go.Proofs.Ytoikgkjkcampkaa
