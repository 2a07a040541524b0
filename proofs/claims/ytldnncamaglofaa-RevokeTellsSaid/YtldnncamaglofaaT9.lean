/-
  clapperref08.Number: a number's bytes, from 0 on.
-/
import Derived.Test.YtldnncamaglofaaT1
import Derived.Great.BuildSlice
namespace Go.Proofs.Ytldnncamaglofaa
open Go.RowKit

/-- Its lowest i bytes, the highest of them first. -/
def lowB (n i : Nat) : List Nat := (List.range i).map fun j => n / 256 ^ (i - 1 - j) % 256
theorem lowB_length (n i : Nat) : (lowB n i).length = i := by simp [lowB]
theorem lowB_byt (n i : Nat) : Byt (lowB n i) := fun x hx => by
  simp only [lowB, List.mem_map] at hx
  obtain ⟨j, _, rfl⟩ := hx
  exact Nat.mod_lt _ (by decide)
theorem lowB_succ (n i : Nat) : lowB n (i + 1) = [n / 256 ^ i % 256] ++ lowB n i := by
  apply List.ext_getElem?
  intro j
  by_cases h0 : j = 0
  · subst h0; simp [lowB]
  · obtain ⟨k, rfl⟩ : ∃ k, j = k + 1 := ⟨j - 1, by omega⟩
    rw [List.singleton_append, List.getElem?_cons_succ]
    by_cases hk : k < i
    · simp [lowB, hk]
      congr 3
      omega
    · rw [List.getElem?_eq_none (by rw [lowB_length]; omega), List.getElem?_eq_none (by rw [lowB_length]; omega)]
theorem lowB_num {n : Nat} (h : n ≤ 9223372036854775807) : lowB n 8 = numB n := by
  unfold lowB numB
  rw [show ((n : Nat) : Int) % 18446744073709551616 = (n : Int) by omega]
  simp

theorem infoT9 : (Try.prog.info? 5).map (fun i => (i.zero, i.size, i.bytes)) = some (some (.int .u8 0), 1, 1) := by kernel_rfl

set_option maxRecDepth 100000 in
set_option maxHeartbeats 4000000 in
theorem rnum8_calls (n : Nat) (hn : n ≤ 9223372036854775807) (w : World) :
    Calls Try.prog 23 #[.int .i64 (n : Int)] w fun e w' => e = .returned (.string (strL (numB n))) ∧ Ext w w' := by
  have HN := veil hn
  go_enter Try.func23, Try.ntmps23
  go_wp2_with fail
  go_loopw [0, 3, 4] (fun x v u wr => ∃ i : Nat, i ≤ 8 ∧ u = .int .i64 (i : Int) ∧ x = .int .i64 ((n / 256 ^ i : Nat) : Int) ∧ OwnB wr w.heap.size v (lowB n i) ∧ Ext w wr)
    (fun _ _ v _ => 8 - (intOf v).toNat)
  case atStart => exact ⟨0, by omega, rfl, by simp, OwnB.nil _ _, Ext.refl _⟩
  case round =>
    obtain ⟨i, hi, rfl, rfl, hO, hE⟩ := hrel
    by_cases hlt : i < 8
    · have hii : (i : Int) < 8 := by omega
      have hq : n / 256 ^ i ≤ 9223372036854775807 := Nat.le_trans (Nat.div_le_self _ _) hn
      have hs : n / 256 ^ (i + 1) = n / 256 ^ i / 256 := by rw [Nat.pow_succ, ← Nat.div_div_eq_div_mul]
      have hl := lowB_succ n i
      have hlen := lowB_length n i
      generalize n / 256 ^ i = q at *
      have HH := veil (And.intro hs (And.intro hl hO))
      obtain ⟨L, hL⟩ : ∃ L, L = lowB n i := ⟨_, rfl⟩
      obtain ⟨A, c, hv, hc, hB⟩ := hO.bs
      rw [← hL] at hv hc hB hlen
      have HL := veil (And.intro hL (And.intro hB hlen))
      have kq : (q : Int) ≤ 9223372036854775807 := by omega
      subst hv
      obtain ⟨i8, hi8, hz0, hz1, hz2⟩ := info_parts infoT9
      have HI := veil (And.intro hi8 (And.intro hz0 (And.intro hz1 hz2)))
      have eq1 : (((q % 256 : Nat) : Nat) : Int) = (q : Int) % 256 := by omega
      have hmade : Own (wr.alloc (.cells #[.int .u8 ((q : Int) % 256)] 5)) w.heap.size 5 (.slice (some ⟨wr.heap.size, 0, none⟩) 1 1) 1 (fun j => .int .u8 ([q % 256].getD j 0 : Nat)) :=
        (Own.made (f := fun j => .int .u8 ([q % 256].getD j 0 : Nat)) wr (cs := #[.int .u8 ((q : Int) % 256)]) (Nat.le_refl _) (by show 1 ≤ _; unfold maxLen; decide) fun j hj => by
          have h0 : j = 0 := by simp at hj; omega
          subst h0
          show some (Value.int .u8 ((q : Int) % 256)) = some (.int .u8 ((q % 256 : Nat) : Int))
          rw [eq1]).base_le (Below.size hE)
      have hfrom := (HL.out.2.1.ext (Ext.alloc wr (.cells #[.int .u8 ((q : Int) % 256)] 5))).from
      have hEa := hE.trans (Ext.alloc wr (.cells #[.int .u8 ((q : Int) % 256)] 5))
      have hbz : w.heap.size ≤ wr.heap.size + 1 := by have := Below.size hE; omega
      have HM := veil (And.intro hmade (And.intro hfrom hEa))
      have hLl : L.length ≤ 8 := by omega
      clear hi8 hz0 hz1 hz2 eq1 hmade hfrom hEa
      go_wp2_with ((with_reducible refine at_slot 14 ?_); refine wpList_append_from _ rfl _ _ 23 rfl w.heap.size 5 i8 (.int .u8 0) 1 Try.underlying23 HI.out.1 HI.out.2.1 HI.out.2.2.1 HI.out.2.2.2 rfl _ 1 _ rfl HM.out.1 A L.length c rfl _ HM.out.2.1 (fun _ => rfl) (by unfold maxLen; omega) (by omega) (by simpa using hbz) ?_; intro v6 w6 hO6 hg6 hat6; clear hat6)
      go_roundw
      case rel =>
        refine ⟨i + 1, by omega, by go_num, ?_, ?_, ?_⟩
        · rw [HH.out.1]; simp
        · rw [HH.out.2.1, ← HL.out.1]
          exact OwnB.append hO6 (fun x hx => by rw [List.mem_singleton.1 hx]; exact Nat.mod_lt _ (by decide)) HL.out.2.1.1 rfl rfl
        · exact HM.out.2.2.grown hg6 (by simpa using hbz) fun k hk => (HM.out.1.lt hk).1
      case measure => simp [intOf]; omega
    · obtain rfl : i = 8 := by omega
      obtain ⟨A, c, rfl, hc, hB⟩ := hO.bs
      have k1 : (convert 23 9 (.slice A (lowB n 8).length c)).run Try.prog wr = .ok (.string (strL (lowB n 8))) wr := str_of hB rfl
      rw [lowB_num hn] at *
      clear hO hB
      go_wp2_with fail
      go_ret
      exact ⟨rfl, hE⟩
end Go.Proofs.Ytldnncamaglofaa
